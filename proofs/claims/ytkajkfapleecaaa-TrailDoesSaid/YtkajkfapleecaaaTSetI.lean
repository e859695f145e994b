/-
  What Set does to a trail, and Save: cells of type Int.
-/
import Derived.Test.YtkajkfapleecaaaTHoldI
import Derived.Maps.AppendAt
import Derived.Great.BuildSlice
import Derived.Lib.OwnBridge
import Derived.OwnWalk
namespace Go.Proofs.Ytkajkfapleecaaa
open Go.RowKit

/-- a trail is at σ, in blocks that it was in, or new ones; e is what comes back -/
def Doesint (M : Nat) (w : World) (F : List Nat) (a : Nat) (σ : Tr Int) (r e : Ending) (w' : World) : Prop :=
  e = r ∧ ∃ F', Atint M w' F' a σ ∧ Moves F w F' w'

theorem set_no_int {M : Nat} {w : World} {F : List Nat} {a : Nat} {σ : Tr Int} (h : Atint M w F a σ) {i : Int} (hi : ¬ (0 ≤ i ∧ i < σ.n)) (x : Int) :
    Calls Try.prog 29 #[.pointer (some ⟨a, 0, none⟩), .int .i64 i, .int .i64 x] w fun e w' => e = .returned (.int .i64 1) ∧ w = w' := by
  obtain ⟨bc, bh, cap, ms, gs, hP, rfl⟩ := h
  have c0 := hP.c0
  obtain ⟨n, hn⟩ : ∃ n, n = σ.n := ⟨_, rfl⟩
  rw [← hn] at c0 hi
  have H := Lib.hid hi
  have HP := Lib.hid hP
  clear hP hi hn
  go_enter Try.func29, Try.ntmps29
  go_wp2_with (go_at_call 33; refine (is_no_int _ _ _ _ _ _ c0 H.out).mono ?_; rintro e w' ⟨rfl, rfl⟩)
  go_ret
  exact ⟨rfl, rfl⟩

set_option maxRecDepth 100000 in
set_option maxHeartbeats 800000 in
theorem set_yes_int {M : Nat} {w : World} {F : List Nat} {a : Nat} {σ : Tr Int} (h : Atint M w F a σ) {i : Nat} (hi : i < σ.n) (hst : ∀ j, 0 ≤ σ.st j ∧ σ.st j ≤ 1000000) (x : Int) :
    Calls Try.prog 29 #[.pointer (some ⟨a, 0, none⟩), .int .i64 (i : Int), .int .i64 x] w (Doesint M w F a (σ.set i x) (.returned (.int .i64 0))) := by
  obtain ⟨bc, bh, cap, ms, gs, hP, rfl⟩ := h
  have c0 := hP.c0
  have hlt := hP.lts
  have HP := Lib.hid hP
  have HL := Lib.hid hlt
  have HS := Lib.hid hst
  clear hP hlt hst
  go_enter Try.func29, Try.ntmps29
  go_wp2_with (go_at_call 33; refine (is_yes_int _ _ _ _ _ _ c0 hi).mono ?_; rintro e w' ⟨rfl, rfl⟩)
  go_at_call 39
  refine (hold_int HP.out hi).mono ?_
  rintro e w1 ⟨rfl, ms1, gs1, hP1, hg1, hT1, hb1⟩
  have HP1 := Lib.hid hP1
  have HG1 := Lib.hid hg1
  have HT1 := Lib.hid hT1
  have HB1 := Lib.hid hb1
  clear hP1 hg1 hT1 hb1 c0
  go_wp2_with fail
  go_at_call 34
  refine (put_int HP1.out.c0 HP1.out.cells HP1.out.ne1.1 hi (HS.out i) x).mono ?_
  rintro e w2 ⟨rfl, hc2, hT2⟩
  have hP2 := HP1.out.set HG1.out hc2 hT2
  have HP2 := Lib.hid hP2
  have HT2 := Lib.hid hT2
  clear hc2 hT2 hP2
  go_wp2_with fail
  go_ret
  refine ⟨rfl, _, ⟨bc, bh, cap, ms1, gs1, HP2.out, rfl⟩, HT1.out.trans HT2.out (fun y hy => .inl (by rw [List.mem_singleton.1 hy]; simp)), fun b hb => ?_⟩
  simp only [List.mem_cons] at hb ⊢
  rcases hb with h1 | h1 | h1 | h1
  · exact .inl (.inl h1)
  · exact .inl (.inr (.inl h1))
  · exact .inl (.inr (.inr (.inl h1)))
  · rcases HB1.out b h1 with h2 | h2
    · exact .inl (.inr (.inr (.inr h2)))
    · exact .inr h2
end Go.Proofs.Ytkajkfapleecaaa
