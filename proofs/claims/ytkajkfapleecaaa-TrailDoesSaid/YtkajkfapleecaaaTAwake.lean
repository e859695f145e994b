/-
  What awake of layer 5 answers: true; and nothing that was there turns.
-/
import Derived.Test.YtkajkfapleecaaaTDo
import Derived.Great.BuildSlice
namespace Go.Proofs.Ytkajkfapleecaaa
open Go.RowKit

/-- a trail in blocks that are new since W, and nothing that was there has turned -/
structure Live (M : Nat) (W w : World) (F : List Nat) (a : Nat) (σ : Tr Int) : Prop where
  at_ : Atint M w F a σ
  below : Below W.heap.size W w
  low : ∀ b, b ∈ F → W.heap.size ≤ b
theorem Live.moves {M M' : Nat} {W w w' : World} {F F' : List Nat} {a : Nat} {σ σ' : Tr Int} (h : Live M W w F a σ) (hA : Atint M' w' F' a σ') (hM : Moves F w F' w') : Live M' W w' F' a σ' :=
  ⟨hA, hM.turn.below h.below h.below.size h.low, hM.low h.low h.below.size⟩
theorem Live.step {M : Nat} {W w w' : World} {F : List Nat} {a : Nat} {σ : Tr Int} (h : Live M W w F a σ) (hB : Below w.heap.size w w') : Live M W w' F a σ :=
  ⟨h.at_.below hB, h.below.trans (hB.mono h.below.size), h.low⟩
theorem Live.new {W w' : World} {F : List Nat} {a n : Nat} (hA : Atint 1 w' F a (Tr.new n 0)) (hB : Below W.heap.size W w') (hl : ∀ b, b ∈ F → W.heap.size ≤ b) : Live 1 W w' F a (Tr.new n 0) := ⟨hA, hB, hl⟩

def q0 : Tr Int := Tr.new 2 0
def q1 : Tr Int := q0.set 0 5
def q2 : Tr Int := q1.save
def q3 : Tr Int := q2.set 0 6
def q4 : Tr Int := q3.set 0 7
def q5 : Tr Int := q4.undo
theorem qup {σ : Tr Int} {c : Int} (h : σ.Up c) (hc : c ≤ 1000) : ∀ j, 0 ≤ σ.st j ∧ σ.st j ≤ 1000000 := h.mono (by omega)
theorem u0 : q0.Up 0 := Tr.up_new 2 0
theorem u1 : q1.Up 1 := u0.act 0 0 5
theorem u2 : q2.Up 2 := u1.act 1 0 0
theorem u3 : q3.Up 3 := u2.act 0 0 6
theorem u4 : q4.Up 4 := u3.act 0 0 7
theorem q4c : q4.changed = [0] := by decide
theorem q5g : q5.cur 0 = 5 := by decide
theorem q5s : q5.st 0 = 4 := by decide
theorem q5t : q5.st 1 = 0 := by decide

set_option maxRecDepth 100000 in
set_option maxHeartbeats 2000000 in
theorem awake_any (W : World) : Calls Try.prog 6 #[] W fun e w' => e = .returned (.bool true) ∧ Below W.heap.size W w' := by
  go_enter Try.func6, Try.ntmps6
  go_wp2_with fail
  go_at_call 7
  refine (new_int 2 W (by omega)).mono ?_
  rintro e w0 ⟨F0, a, rfl, hA0, hB0, hl0⟩
  have L0 := Lib.hid (Live.new hA0 hB0 hl0)
  clear hA0 hB0 hl0
  go_wp2_with fail
  go_at_call 7
  refine (new_no_int 1001 w0 (.inr (by omega))).mono ?_
  rintro e w' ⟨rfl, rfl⟩
  go_wp2_with fail
  go_at_call 29
  refine (set_yes_int (σ := q0) (i := 0) L0.out.at_ (by decide) (qup u0 (by omega)) 5).mono ?_
  rintro e w1 ⟨rfl, F1, hA1, hM1⟩
  have L1 := Lib.hid (L0.out.moves (σ' := q1) hA1 hM1)
  clear hA1 hM1 L0
  go_wp2_with fail
  go_at_call 20
  refine (save_int (σ := q1) L1.out.at_ (by omega)).mono ?_
  rintro e w2 ⟨rfl, F2, hA2, hM2⟩
  have L2 := Lib.hid (L1.out.moves (σ' := q2) hA2 hM2)
  clear hA2 hM2 L1
  have e1 : ((q1.top + 1 : Nat) : Int) = 1 := rfl
  simp only [e1]
  clear e1
  go_wp2_with fail
  go_at_call 29
  refine (set_yes_int (σ := q2) (i := 0) L2.out.at_ (by decide) (qup u2 (by omega)) 6).mono ?_
  rintro e w3 ⟨rfl, F3, hA3, hM3⟩
  have L3 := Lib.hid (L2.out.moves (σ' := q3) hA3 hM3)
  clear hA3 hM3 L2
  go_wp2_with fail
  go_at_call 29
  refine (set_yes_int (σ := q3) (i := 0) L3.out.at_ (by decide) (qup u3 (by omega)) 7).mono ?_
  rintro e w4 ⟨rfl, F4, hA4, hM4⟩
  have L4 := Lib.hid (L3.out.moves (σ' := q4) hA4 hM4)
  clear hA4 hM4 L3
  go_wp2_with fail
  go_at_call 16
  refine (changed_int (σ := q4) L4.out.at_).mono ?_
  rintro e w5 ⟨v, rfl, hV, hB5⟩
  rw [q4c] at hV
  have L5 := Lib.hid (L4.out.step hB5)
  have HV := Lib.hid (reads_of_owns hV)
  have HV0 := Lib.hid hV
  have hlt5 := L4.out.at_.lts
  have HLT := Lib.hid hlt5
  clear hV hB5 L4 hlt5
  go_wp2_with fail
  go_at_call 21
  refine (undo_int (σ := q4) L5.out.at_ (by decide) (by omega) (qup u4 (by omega))).mono ?_
  rintro e w6 ⟨rfl, F6, hA6, hM6⟩
  have L6 := Lib.hid (L5.out.moves (σ' := q5) hA6 hM6)
  have HV6 := Lib.hid (reads_of_owns (ownsI_turn HV0.out hM6.turn HLT.out))
  clear hA6 hM6 L5 HV0 HV HLT
  go_wp2_with fail
  go_at_call 21
  refine (undo_none_int (σ := q5) L6.out.at_ (by decide)).mono ?_
  rintro e w' ⟨rfl, rfl⟩
  obtain ⟨bc, bh, cap, ms, gs, hP, hF⟩ := L6.out.at_
  have HP := Lib.hid hP
  have h0 : w6.cell? ⟨a, 0, none⟩ = some (.slice (some ⟨bc, 0, none⟩) 2 2) := hP.c0
  have h2 : w6.cell? ⟨a, 2, none⟩ = some (.int .i64 0) := hP.c2
  have H0 := Lib.hid h0
  have H2 := Lib.hid h2
  clear hP hF h0 h2
  go_wp2_with fail
  go_at_call 18
  refine (get_yes_int (i := 0) H0.out HP.out.cells (by decide)).mono ?_
  rintro e w' ⟨rfl, rfl⟩
  simp only [q5g]
  go_wp2_with fail
  go_at_call 18
  refine (get_no_int (i := 2) H0.out (by omega)).mono ?_
  rintro e w' ⟨rfl, rfl⟩
  go_wp2_with fail
  go_at_call 15
  have hBa : Below w6.heap.size w6 (w6.alloc (.cells #[.int .i64 0] 3)) := (Below.refl _ _).alloc (Nat.le_refl _) _
  have hr : Reads (w6.alloc (.cells #[.int .i64 0] 3)) (.slice (some ⟨w6.heap.size, 0, none⟩) 1 1) [0] := by
    refine .inr ⟨w6.heap.size, 0, 1, rfl, fun k hk => ?_⟩
    obtain rfl : k = 0 := by simpa using hk
    rw [cell_of_heap (heap_alloc_new w6 _)]
    rfl
  refine (rsameI_any (reads_below HV6.out hBa) hr (by simp) (by simp)).mono ?_
  rintro e w7 ⟨rfl, hq⟩
  have hB7 : Below w6.heap.size w6 w7 := by
    obtain ⟨q, rfl⟩ := hq
    exact ⟨hBa.os, hBa.tape, hBa.output, hBa.size, hBa.block⟩
  have L7 := Lib.hid (L6.out.step hB7)
  have H0 := Lib.hid (cell_below hB7 H0.out)
  have H2 := Lib.hid (cell_below hB7 H2.out)
  have HC := Lib.hid (HP.out.cells.turn (turn_of_below hB7 []) (by simp))
  have hs : ([0] == [(0 : Int)]) = true := rfl
  simp only [hs]
  clear hq hB7 hBa hr hs HP HV6 L6
  go_wp2_with fail
  go_at_call 19
  refine (stamp_yes_int (i := 0) H0.out HC.out (by decide)).mono ?_
  rintro e w' ⟨rfl, rfl⟩
  simp only [q5s]
  go_wp2_with fail
  go_at_call 19
  refine (stamp_yes_int (i := 1) H0.out HC.out (by decide)).mono ?_
  rintro e w' ⟨rfl, rfl⟩
  simp only [q5t]
  go_wp2_with fail
  go_at_call 13
  refine (marks_int H2.out).mono ?_
  rintro e w' ⟨rfl, rfl⟩
  go_wp2_with fail
  go_at_call 14
  refine (len_int H0.out).mono ?_
  rintro e w' ⟨rfl, rfl⟩
  go_wp2_with fail
  go_at_call 29
  refine (set_no_int (σ := q5) (i := 2) L7.out.at_ (by decide) 1).mono ?_
  rintro e w' ⟨rfl, rfl⟩
  go_wp2_with fail
  go_ret
  exact ⟨rfl, L7.out.below⟩
end Go.Proofs.Ytkajkfapleecaaa
