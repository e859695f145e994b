/-
  What an act does to a trail of numbers, and what comes back.
-/
import Derived.Test.YtkajkfapleecaaaTNewI
namespace Go.Proofs.Ytkajkfapleecaaa
open Go.RowKit

section
variable {α : Type} [DecidableEq α]
/-- an act: 0 a Set of cell i to x, 1 Save, 2 Undo, else nothing -/
def Tr.act (σ : Tr α) (d i : Int) (x : α) : Tr α :=
  if d = 0 then (if 0 ≤ i ∧ i < σ.n then σ.set i.toNat x else σ) else if d = 1 then σ.save else if d = 2 then (if σ.top = 0 then σ else σ.undo) else σ
def Tr.err (σ : Tr α) (d i : Int) : Int :=
  if d = 0 then (if 0 ≤ i ∧ i < σ.n then 0 else 1) else if d = 1 then 0 else if d = 2 then (if σ.top = 0 then 9 else 0) else 0
def Tr.num (σ : Tr α) (d : Int) : Int := if d = 1 then ((σ.top + 1 : Nat) : Int) else 0
/-- all stamps are up to c -/
def Tr.Up (σ : Tr α) (c : Int) : Prop := ∀ j, 0 ≤ σ.st j ∧ σ.st j ≤ c

theorem Tr.Up.act {σ : Tr α} {c : Int} (h : σ.Up c) (d i : Int) (x : α) : (σ.act d i x).Up (c + 1) := by
  have weak : σ.Up (c + 1) := fun j => ⟨(h j).1, by have := (h j).2; omega⟩
  unfold Tr.act
  split
  · split
    · intro j
      show 0 ≤ (if j = i.toNat ∧ ¬ σ.cur i.toNat = x then σ.st j + 1 else σ.st j) ∧ (if j = i.toNat ∧ ¬ σ.cur i.toNat = x then σ.st j + 1 else σ.st j) ≤ c + 1
      have := h j
      split <;> omega
    · exact weak
  · split
    · exact weak
    · split
      · split
        · exact weak
        · intro j
          show 0 ≤ (if ¬ σ.cur j = σ.old σ.top j then σ.st j + 1 else σ.st j) ∧ (if ¬ σ.cur j = σ.old σ.top j then σ.st j + 1 else σ.st j) ≤ c + 1
          have := h j
          split <;> omega
      · exact weak
theorem Tr.act_n (σ : Tr α) (d i : Int) (x : α) : (σ.act d i x).n = σ.n := by
  unfold Tr.act
  split
  · split <;> rfl
  · split
    · rfl
    · split
      · split <;> rfl
      · rfl
omit [DecidableEq α] in
theorem Tr.Up.mono {σ : Tr α} {c c' : Int} (h : σ.Up c) (hc : c ≤ c') : σ.Up c' := fun j => ⟨(h j).1, Int.le_trans (h j).2 hc⟩
omit [DecidableEq α] in
theorem Tr.up_new (n : Nat) (z : α) : (Tr.new n z).Up 0 := fun _ => ⟨Int.le_refl _, Int.le_refl _⟩
end

theorem TrailAt.mono {α : Type} {P : Program} {tt ct mt kt : TypeId} {K : Kd α} {M M' : Nat} {w : World} {F : List Nat} {a : Nat} {σ : Tr α} (h : TrailAt P tt ct mt kt K M w F a σ) (hM : M ≤ M') : TrailAt P tt ct mt kt K M' w F a σ := by
  obtain ⟨bc, bh, cap, ms, gs, h1, h2⟩ := h
  exact ⟨bc, bh, cap, ms, gs, h1.mono hM, h2⟩

/-- what is left of an act -/
def Acted (M : Nat) (w : World) (F : List Nat) (a : Nat) (σ : Tr Int) (d i x : Int) (e : Ending) (w' : World) : Prop :=
  e = .returned (.tuple #[.int .i64 (σ.err d i), .int .i64 (σ.num d)]) ∧ ∃ F', Atint (M + 1) w' F' a (σ.act d i x) ∧ Moves F w F' w'

theorem moves_alloc {F : List Nat} (w : World) (o : Obj) : Moves F w F (w.alloc o) := ⟨(Turn.refl F w).alloc o, fun _ h => .inl h⟩

set_option maxHeartbeats 800000 in
theorem do_any {M : Nat} {w : World} {F : List Nat} {a : Nat} {σ : Tr Int} (h : Atint M w F a σ) (hM : M ≤ 100000) (hst : σ.Up 1000000) (d i x : Int) :
    Calls Try.prog 9 #[.pointer (some ⟨a, 0, none⟩), .agg #[.int .i64 d, .int .i64 i, .int .i64 x]] w (Acted M w F a σ d i x) := by
  have h1 : Atint M (w.alloc (.cells #[.int .i64 d, .int .i64 i, .int .i64 x] 32)) F a σ := h.below ((Below.refl _ w).alloc (Nat.le_refl _) _)
  have H := Lib.hid h1
  have HA := Lib.hid (moves_alloc (F := F) w (.cells #[.int .i64 d, .int .i64 i, .int .i64 x] 32))
  have HM := Lib.hid hM
  have HS := Lib.hid hst
  clear h h1 hM hst
  by_cases h0 : d = 0
  · subst h0
    by_cases hi : 0 ≤ i ∧ i < σ.n
    · obtain ⟨k, rfl⟩ : ∃ k : Nat, i = (k : Int) := ⟨i.toNat, by omega⟩
      have hk : k < σ.n := by omega
      have HF : Hid (∀ e w', Doesint M (w.alloc (.cells #[.int .i64 0, .int .i64 (k : Int), .int .i64 x] 32)) F a (σ.set k x) (.returned (.int .i64 0)) e w' → e = .returned (.int .i64 0) ∧ Acted M w F a σ 0 (k : Int) x (.returned (.tuple #[.int .i64 0, .int .i64 0])) w') := by
        rintro e w' ⟨rfl, F', hA, hMv⟩
        refine ⟨rfl, ?_, F', ?_, HA.out.trans hMv⟩
        · simp [Tr.err, Tr.num, hk]
        · have e1 : σ.act 0 (k : Int) x = σ.set k x := by simp [Tr.act, hk]
          rw [e1]
          exact hA.mono (Nat.le_succ _)
      have HK := Lib.hid hk
      clear hi hk
      go_enter Try.func9, Try.ntmps9
      go_wp2_with fail
      go_at_call 29
      refine (set_yes_int H.out HK.out HS.out x).mono ?_
      intro e w' hd
      obtain ⟨rfl, hF⟩ := HF.out e w' hd
      have HG := Lib.hid hF
      clear hF hd
      go_wp2_with fail
      go_ret2
      exact HG.out
    · have HF : Hid (∀ w', w' = w.alloc (.cells #[.int .i64 0, .int .i64 i, .int .i64 x] 32) → Acted M w F a σ 0 i x (.returned (.tuple #[.int .i64 1, .int .i64 0])) w') := by
        rintro w' rfl
        refine ⟨?_, F, ?_, HA.out⟩
        · simp [Tr.err, Tr.num, hi]
        · have e1 : σ.act 0 i x = σ := by simp [Tr.act, hi]
          rw [e1]
          exact H.out.mono (Nat.le_succ _)
      have HI := Lib.hid hi
      clear hi
      go_enter Try.func9, Try.ntmps9
      go_wp2_with fail
      go_at_call 29
      refine (set_no_int H.out HI.out x).mono ?_
      rintro e w' ⟨rfl, rfl⟩
      go_wp2_with fail
      go_ret2
      exact HF.out _ rfl
  · by_cases h1 : d = 1
    · subst h1
      have HF : Hid (∀ e w', Doesint (M + 1) (w.alloc (.cells #[.int .i64 1, .int .i64 i, .int .i64 x] 32)) F a σ.save (.returned (.int .i64 ((σ.top + 1 : Nat) : Int))) e w' → e = .returned (.int .i64 (σ.num 1)) ∧ Acted M w F a σ 1 i x (.returned (.tuple #[.int .i64 0, .int .i64 (σ.num 1)])) w') := by
        rintro e w' ⟨rfl, F', hA, hMv⟩
        exact ⟨rfl, rfl, F', hA, HA.out.trans hMv⟩
      clear h0
      go_enter Try.func9, Try.ntmps9
      go_wp2_with fail
      go_at_call 20
      refine (save_int H.out HM.out).mono ?_
      intro e w' hd
      obtain ⟨rfl, hF⟩ := HF.out e w' hd
      have HG := Lib.hid hF
      clear hF hd
      generalize σ.num 1 = q at *
      go_wp2_with fail
      go_ret2
      exact HG.out
    · by_cases h2 : d = 2
      · subst h2
        clear h0 h1
        by_cases ht : σ.top = 0
        · have HF : Hid (∀ w', w' = w.alloc (.cells #[.int .i64 2, .int .i64 i, .int .i64 x] 32) → Acted M w F a σ 2 i x (.returned (.tuple #[.int .i64 9, .int .i64 0])) w') := by
            rintro w' rfl
            refine ⟨?_, F, ?_, HA.out⟩
            · simp [Tr.err, Tr.num, ht]
            · have e1 : σ.act 2 i x = σ := by simp [Tr.act, ht]
              rw [e1]
              exact H.out.mono (Nat.le_succ _)
          have HT := Lib.hid ht
          clear ht
          go_enter Try.func9, Try.ntmps9
          go_wp2_with fail
          go_at_call 21
          refine (undo_none_int H.out HT.out).mono ?_
          rintro e w' ⟨rfl, rfl⟩
          go_wp2_with fail
          go_ret2
          exact HF.out _ rfl
        · have HF : Hid (∀ e w', Doesint M (w.alloc (.cells #[.int .i64 2, .int .i64 i, .int .i64 x] 32)) F a σ.undo (.returned (.int .i64 0)) e w' → e = .returned (.int .i64 0) ∧ Acted M w F a σ 2 i x (.returned (.tuple #[.int .i64 0, .int .i64 0])) w') := by
            rintro e w' ⟨rfl, F', hA, hMv⟩
            refine ⟨rfl, ?_, F', ?_, HA.out.trans hMv⟩
            · simp [Tr.err, Tr.num, ht]
            · have e1 : σ.act 2 i x = σ.undo := by simp [Tr.act, ht]
              rw [e1]
              exact hA.mono (Nat.le_succ _)
          have HT := Lib.hid (show 0 < σ.top by omega)
          clear ht
          go_enter Try.func9, Try.ntmps9
          go_wp2_with fail
          go_at_call 21
          refine (undo_int H.out HT.out (by have := HM.out; omega) HS.out).mono ?_
          intro e w' hd
          obtain ⟨rfl, hF⟩ := HF.out e w' hd
          have HG := Lib.hid hF
          clear hF hd
          go_wp2_with fail
          go_ret2
          exact HG.out
      · have HF : Hid (∀ w', w' = w.alloc (.cells #[.int .i64 d, .int .i64 i, .int .i64 x] 32) → Acted M w F a σ d i x (.returned (.tuple #[.int .i64 0, .int .i64 0])) w') := by
          rintro w' rfl
          refine ⟨?_, F, ?_, HA.out⟩
          · simp [Tr.err, Tr.num, h0, h1, h2]
          · have e1 : σ.act d i x = σ := by simp [Tr.act, h0, h1, h2]
            rw [e1]
            exact H.out.mono (Nat.le_succ _)
        have d0 : ((d : Int) == 0) = false := by simpa using h0
        have d1 : ((d : Int) == 1) = false := by simpa using h1
        have d2 : ((d : Int) == 2) = false := by simpa using h2
        clear h0 h1 h2
        go_enter Try.func9, Try.ntmps9
        go_wp2_with fail
        go_ret2
        exact HF.out _ rfl
end Go.Proofs.Ytkajkfapleecaaa
