/-
  What the calls of DomTells answer, side by side: the program's and the document's answers are the same.
-/
import Derived.Test.YtnabkhmonmcmfaaDoorDAw
import Derived.Test.YtnabkhmonmcmfaaDoorDRkeep
import Derived.Test.YtnabkhmonmcmfaaDoorDRnew
namespace Go.Proofs.YtnabkhmonmcmfaaDoor
open Go.RowKit

/-- a domain that a call has made -/
def MadeL (u : World) (X : List Int) (Y : Nat) (e : Ending) (w' : World) : Prop := ∃ p n c, e = .returned (.agg #[.slice p n c, .int .u64 Y]) ∧ Reads w' (.slice p n c) X ∧ Below u.heap.size u w'
theorem madeL_of {u : World} {X : List Int} {Y : Nat} {e : Ending} {w' : World} (h : ∃ r, e = .returned r ∧ DomAt u.heap.size X Y r w' ∧ Below u.heap.size u w') : MadeL u X Y e w' := by
  obtain ⟨r, rfl, hd, hB⟩ := h
  obtain ⟨p, n, c, rfl, hr⟩ := dom_open hd
  exact ⟨p, n, c, rfl, hr, hB⟩
/-- a list that a call has made -/
def MadeI (u : World) (X : List Int) (e : Ending) (w' : World) : Prop := ∃ p c, e = .returned (.slice p X.length c) ∧ Reads w' (.slice p X.length c) X ∧ Below u.heap.size u w'
theorem madeI_of {u : World} {X : List Int} {e : Ending} {w' : World} (h : ∃ r, e = .returned r ∧ OwnsI w' u.heap.size r X ∧ Below u.heap.size u w') : MadeI u X e w' := by
  obtain ⟨r, rfl, ho, hB⟩ := h
  have hr := reads_of_owns ho
  obtain ⟨p, g, c, rfl, _⟩ := ints_shape ho
  exact ⟨p, c, rfl, hr, hB⟩

def pOnly (y : Int) : Int → Bool := fun z => decide (y ≤ z) && decide (z ≤ y)
def pLess (y : Int) : Int → Bool := fun z => !(decide (y ≤ z) && decide (z ≤ y))
def pBetween (low high : Int) : Int → Bool := fun x => decide (low ≤ x) && decide (x ≤ high)

theorem keepL_congr {xs : List Int} {x : Nat} {p q : Int → Bool} (h : mayL xs x = true → ∀ k, k < xs.length → x.testBit k = true → p (xs.getD k 0) = q (xs.getD k 0)) : keepL xs x p = keepL xs x q := by
  unfold keepL
  split
  · exact keep_congr (h (by assumption))
  · rfl
theorem only_eq (xs : List Int) (x : Nat) (y : Int) : keepL xs x (pOnly y) = keepL xs x (fun z => decide (z ∈ [y])) := by
  refine keepL_congr fun _ k _ _ => ?_
  rw [pOnly, Bool.eq_iff_iff]
  simp
  omega
theorem left_in {xs : List Int} {x : Nat} (h : mayL xs x = true) {k : Nat} (hk : k < xs.length) (hb : x.testBit k = true) : xs.getD k 0 ∈ leftM xs x := by
  rw [leftM, if_pos h]
  exact (left_mem h _).2 ⟨k, hk, hb, rfl⟩
theorem less_eq (xs : List Int) (x : Nat) (y : Int) : keepL xs x (pLess y) = keepL xs x (fun z => decide (z ∈ (leftM xs x).filter (fun z => !decide (z = y)))) := by
  refine keepL_congr fun h k hk hb => ?_
  have := left_in h hk hb
  rw [pLess, Bool.eq_iff_iff]
  simp only [List.mem_filter, decide_eq_true_eq, this, true_and]
  simp
  omega
theorem between_eqL (xs : List Int) (x : Nat) (low high : Int) : keepL xs x (pBetween low high) = keepL xs x (fun z => decide (z ∈ (leftM xs x).filter (pBetween low high))) := by
  refine keepL_congr fun h k hk hb => ?_
  have := left_in h hk hb
  rw [Bool.eq_iff_iff]
  simp only [List.mem_filter, decide_eq_true_eq, this, true_and]
theorem has_eq (ls : List Int) (y : Int) : decide (y ∈ ls) = decide ((0 : Int) < ((ls.filter (pOnly y)).length : Nat)) := by
  rw [decide_eq_decide]
  constructor
  · intro h
    have : y ∈ ls.filter (pOnly y) := List.mem_filter.2 ⟨h, by simp [pOnly]⟩
    have := List.length_pos_of_mem this
    omega
  · intro h
    obtain ⟨z, hz⟩ := List.exists_mem_of_length_pos (l := ls.filter (pOnly y)) (by omega)
    obtain ⟨h1, h2⟩ := List.mem_filter.1 hz
    simp [pOnly] at h2
    have : z = y := by omega
    exact this ▸ h1

section
variable {u : World} {s : Value} {xs : List Int} (h : Reads u s xs) (hm : xs.length ≤ 100) (x : Nat) (hx : x < 18446744073709551616)

theorem te_same {t : Value} {Y : Nat} (h : Reads u s xs) (h' : Reads u t xs) (hl : xs.length ≤ 1000000) : Calls Tryd.prog 13 #[.agg #[s, .int .u64 Y], .agg #[t, .int .u64 Y]] u fun e w' => e = .returned (.bool true) ∧ Below u.heap.size u w' := by
  refine (rdsame_any h h' hl hl Y Y).mono ?_
  rintro e w' ⟨rfl, hB⟩
  exact ⟨by simp, hB⟩

include h hm hx
theorem te_list : Calls Tryd.prog 9 #[.agg #[s, .int .u64 x]] u (MadeI u (leftM xs x)) :=
  (rlist_any h (Nat.le_trans hm (by decide)) x hx).mono fun e w' h => madeI_of h
theorem te_may : Calls Tryd.prog 14 #[.agg #[s, .int .u64 x]] u fun e w' => e = .returned (.bool (mayL xs x)) ∧ Below u.heap.size u w' := may_any h (Nat.le_trans hm (by decide)) x hx
theorem te_rmay : Calls Tryd.prog 15 #[.agg #[s, .int .u64 x]] u fun e w' => e = .returned (.bool (mayL xs x)) ∧ Below u.heap.size u w' := rmay_any h (Nat.le_trans hm (by decide)) x hx
theorem te_size : Calls Tryd.prog 16 #[.agg #[s, .int .u64 x]] u fun e w' => e = .returned (.int .i64 ((leftM xs x).length : Nat)) ∧ Below u.heap.size u w' := dsize_any h (Nat.le_trans hm (by decide)) x hx
theorem te_greatest : Calls Tryd.prog 11 #[.agg #[s, .int .u64 x]] u fun e w' => e = .returned (.tuple #[.int .i64 ((leftM xs x).getD ((leftM xs x).length - 1) 0), .bool (decide ((0 : Int) < ((leftM xs x).length : Nat)))]) ∧ Below u.heap.size u w' := by
  have := dgreatest_any h (Nat.le_trans hm (by decide)) x hx
  rw [show decide (0 < (leftM xs x).length) = decide ((0 : Int) < ((leftM xs x).length : Nat)) from decide_eq_decide.2 (by omega)] at this
  exact this
theorem te_has (y : Int) : Calls Tryd.prog 21 #[.agg #[s, .int .u64 x], .int .i64 y] u fun e w' => e = .returned (.bool (decide ((0 : Int) < (((leftM xs x).filter (pOnly y)).length : Nat)))) ∧ Below u.heap.size u w' := by
  have := dhas_any h (Nat.le_trans hm (by decide)) x hx y
  rw [has_eq] at this
  exact this
theorem te_only (y : Int) : Calls Tryd.prog 24 #[.agg #[s, .int .u64 x], .int .i64 y] u (MadeL u (keepX xs x) (keepL xs x (pOnly y))) :=
  (donly_any h (Nat.le_trans hm (by decide)) x hx y).mono fun e w' h => madeL_of h
theorem te_less (y : Int) : Calls Tryd.prog 26 #[.agg #[s, .int .u64 x], .int .i64 y] u (MadeL u (keepX xs x) (keepL xs x (pLess y))) :=
  (dless_any h (Nat.le_trans hm (by decide)) x hx y).mono fun e w' h => madeL_of h
theorem te_between (low high : Int) : Calls Tryd.prog 28 #[.agg #[s, .int .u64 x], .int .i64 low, .int .i64 high] u (MadeL u (keepX xs x) (keepL xs x (pBetween low high))) :=
  (dbetween_any h (Nat.le_trans hm (by decide)) x hx low high).mono fun e w' h => madeL_of h
variable (hT : B.Tab u) (h0 : 0 < u.heap.size)
include hT h0
theorem te_least : Calls Tryd.prog 10 #[.agg #[s, .int .u64 x]] u fun e w' => e = .returned (.tuple #[.int .i64 ((leftM xs x).getD 0 0), .bool (decide ((0 : Int) < ((leftM xs x).length : Nat)))]) ∧ Below u.heap.size u w' := by
  have := dleast_any h (Nat.le_trans hm (by decide)) x hx hT h0
  rw [show decide (0 < (leftM xs x).length) = decide ((0 : Int) < ((leftM xs x).length : Nat)) from decide_eq_decide.2 (by omega)] at this
  exact this
theorem te_single : Calls Tryd.prog 12 #[.agg #[s, .int .u64 x]] u fun e w' => e = .returned (.tuple #[.int .i64 (if (leftM xs x).length = 1 then (leftM xs x).getD 0 0 else 0), .bool ((((leftM xs x).length : Nat) : Int) == 1)]) ∧ Below u.heap.size u w' := by
  have := dsingle_any h (Nat.le_trans hm (by decide)) x hx hT h0
  have e : decide ((leftM xs x).length = 1) = ((((leftM xs x).length : Nat) : Int) == 1) := by
    rw [Bool.eq_iff_iff]
    simp
    omega
  rw [e] at this
  exact this
theorem te_dlist : Calls Tryd.prog 18 #[.agg #[s, .int .u64 x]] u (MadeI u (leftM xs x)) :=
  (dlist_any h (Nat.le_trans hm (by decide)) x hx hT h0).mono fun e w' h => madeI_of h
end

section
variable {u : World} {s : Value} {ls : List Int} (h : Reads u s ls) (hl : ls.length ≤ 64)
include h hl
theorem te_rbetween (low high : Int) : Calls Tryd.prog 20 #[s, .int .i64 low, .int .i64 high] u (MadeI u (ls.filter (pBetween low high))) :=
  (rbetweenL_any h (Nat.le_trans hl (by decide)) low high).mono fun e w' h => madeI_of h
theorem te_rless (y : Int) : Calls Tryd.prog 27 #[s, .int .i64 y] u (MadeI u (ls.filter (fun z => !decide (z = y)))) :=
  (rlessL_any h (Nat.le_trans hl (by decide)) y).mono fun e w' h => madeI_of h
end

theorem te_keep {u : World} {v s : Value} {xs ls : List Int} (hr : ReadsN u v xs) (hls : Reads u s ls) (hm : xs.length ≤ 100) (hml : ls.length ≤ 64) (x : Nat) (hx : x < 18446744073709551616) (Y : Nat) (hY : Y = keepL xs x (fun y => decide (y ∈ ls))) :
    Calls Tryd.prog 25 #[.agg #[v, .int .u64 x], s] u (MadeL u (keepX xs x) Y) := by
  subst hY
  exact (rkeep_any hr hls (Nat.le_trans hm (by decide)) (Nat.le_trans hml (by decide)) x hx).mono fun e w' h => madeL_of h

/-- what the spans of both are -/
theorem te_spans {u : World} {s : Value} {xs : List Int} (h : Reads u s xs) (hm : xs.length ≤ 100) (x : Nat) (hx : x < 18446744073709551616) (hT : B.Tab u) (h0 : 0 < u.heap.size) (M : List (Int × Int)) (h1 : rightL M = true) (h2 : ∀ y, inL M y = decide (y ∈ leftM xs x)) :
    Calls Tryd.prog 23 #[.agg #[s, .int .u64 x]] u fun e w' => ∃ p c, e = .returned (.slice p M.length c) ∧ Sees w' (.slice p M.length c) M ∧ Below u.heap.size u w' := by
  refine (dspans_any h (Nat.le_trans hm (by decide)) x hx hT h0).mono ?_
  rintro e w' ⟨s, L, rfl, g1, g2, ho, _, hB⟩
  obtain rfl : L = M := one g1 h1 fun v => by rw [g2, h2]
  have hr := sees_of_owns ho
  obtain ⟨p, c, rfl⟩ := spans_shape ho
  exact ⟨p, c, rfl, hr, hB⟩
theorem te_rof {u : World} {s : Value} {xs : List Int} {x : Nat} (h : Reads u s (leftM xs x)) :
    Calls Tryd.prog 19 #[s] u fun e w' => ∃ p c M, e = .returned (.tuple #[.slice p M.length c, .int .i64 0]) ∧ rightL M = true ∧ (∀ y, inL M y = decide (y ∈ leftM xs x)) ∧ M.length ≤ 64 ∧ Sees w' (.slice p M.length c) M ∧ Below u.heap.size u w' := by
  obtain ⟨p, b, off, c, rfl, hp, hc⟩ := reads_shape h
  refine (rof_cells p b off c _ (leftM xs x) u rfl (Nat.le_trans (leftM_le xs x) (by decide)) hp hc).mono ?_
  rintro e w' ⟨h1, hB⟩
  rcases h1 with ⟨h1, _⟩ | ⟨_, s, L, rfl, g1, g2, ho, hlen⟩
  · rw [leftM_ok x] at h1
    simp at h1
  · have hr := sees_of_owns ho
    obtain ⟨p, c, rfl⟩ := spans_shape ho
    exact ⟨p, c, L, rfl, g1, g2, Nat.le_trans hlen (leftM_le xs x), hr, hB⟩
end Go.Proofs.YtnabkhmonmcmfaaDoor
