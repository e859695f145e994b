/-
  What Next of the document's answers answers; and the calls that all statements of layer 2 make first.
-/
import Derived.Test.YtbnbicjnfkhdbaaDoorRefs
namespace Go.Proofs.YtbnbicjnfkhdbaaDoor
open Go.RowKit

/-- the first one that is no less than at_; -1, if there is none -/
def from_ (ys : List Int) (at_ : Int) : Int := (ys.filter (fun y => decide (at_ ≤ y))).head?.getD (-1)

theorem from_all (x : Nat) (at_ : Int) : headZ ((mem 64 x).filter (fun k : Nat => decide (at_ ≤ (k : Int)))) = from_ (all x) at_ := by
  unfold from_ all headZ
  rw [List.filter_map]
  have : ((fun y : Int => decide (at_ ≤ y)) ∘ fun k : Nat => (k : Int)) = fun k : Nat => decide (at_ ≤ (k : Int)) := rfl
  rw [this]
  cases (mem 64 x).filter (fun k : Nat => decide (at_ ≤ (k : Int))) <;> rfl

theorem from_hit (ys : List Int) (at_ : Int) (k : Nat) (hk : k < ys.length) (hl : ∀ j, j < k → ys.getD j 0 < at_) (h : at_ ≤ ys.getD k 0) : from_ ys at_ = ys.getD k 0 := by
  have e : ys = ys.take k ++ ys.getD k 0 :: ys.drop (k + 1) := by
    rw [List.getD_eq_getElem?_getD, List.getElem?_eq_getElem hk]
    simp
  have e1 : (ys.take k).filter (fun y => decide (at_ ≤ y)) = [] := by
    rw [List.filter_eq_nil_iff]
    intro y hy
    obtain ⟨j, hj, rfl⟩ := List.getElem_of_mem hy
    have hj' : j < k := by rw [List.length_take] at hj; omega
    have := hl j hj'
    rw [List.getD_eq_getElem?_getD, List.getElem?_eq_getElem (by omega)] at this
    simp at this ⊢
    exact this
  unfold from_
  obtain ⟨z, hz⟩ : ∃ z, z = ys.getD k 0 := ⟨_, rfl⟩
  rw [← hz] at h e ⊢
  rw [e, List.filter_append, e1, List.nil_append, List.filter_cons]
  simp [h]

theorem from_none (ys : List Int) (at_ : Int) (hl : ∀ j, j < ys.length → ys.getD j 0 < at_) : from_ ys at_ = -1 := by
  have e1 : ys.filter (fun y => decide (at_ ≤ y)) = [] := by
    rw [List.filter_eq_nil_iff]
    intro y hy
    obtain ⟨j, hj, rfl⟩ := List.getElem_of_mem hy
    have := hl j hj
    rw [List.getD_eq_getElem?_getD, List.getElem?_eq_getElem hj] at this
    simp at this ⊢
    exact this
  unfold from_
  rw [e1]
  rfl

set_option maxHeartbeats 1000000 in
theorem rnext_any (x : Nat) (hx : x < 18446744073709551616) (at_ : Int) (w : World) :
    Calls Tryd.prog 13 #[.int .u64 x, .int .i64 at_] w fun e w' => e = .returned (.int .i64 (headZ ((mem 64 x).filter (fun k : Nat => decide (at_ ≤ (k : Int)))))) ∧ Below w.heap.size w w' := by
  rw [from_all]
  have c' := Lib.hid (rlist_any x hx)
  have hle := all_le x
  obtain ⟨ys, hys⟩ : ∃ ys, all x = ys := ⟨_, rfl⟩
  rw [hys] at c' hle ⊢
  clear hys
  go_enter Tryd.func13, Tryd.ntmps13
  go_wp2_with fail
  refine (c'.out _).mono ?_
  rintro e w' ⟨v, rfl, hown, hB⟩
  have hr := reads_of_owns hown
  have HB := Lib.hid hB
  clear hown hB c'
  rcases hr with ⟨p, c, rfl, he⟩ | ⟨b, off, c, rfl, hc⟩
  · have R := Lib.hid (from_none ys at_ (fun j hj => absurd hj (by rw [he]; simp)))
    clear he
    go_wp2
    go_loopw [6] (fun i wr => i = .int .i64 0 ∧ wr = w') (fun _ _ => 0)
    case atStart => exact ⟨rfl, rfl⟩
    case round =>
      obtain ⟨rfl, rfl⟩ := hrel
      go_wp2
      go_ret
      exact ⟨by rw [R.out]; rfl, HB.out⟩
  · have HC := Lib.hid hc
    clear hc
    obtain ⟨len, hl⟩ : ∃ len : Nat, len = ys.length := ⟨_, rfl⟩
    rw [← hl] at hle ⊢
    have HN := Lib.hid hl
    clear hl
    go_wp2
    go_loopw [6] (fun i wr => ∃ k : Nat, k ≤ len ∧ i = .int .i64 k ∧ wr = w' ∧ Hid (∀ j, j < k → ys.getD j 0 < at_)) (fun i _ => len - (intOf i).toNat)
    case atStart => exact ⟨0, by omega, rfl, rfl, Lib.hid (fun j hj => absurd hj (by omega))⟩
    case round =>
      obtain ⟨k, hk, rfl, rfl, HF⟩ := hrel
      by_cases hlt : k < len
      · have hly : k < ys.length := by have := HN.out; omega
        have cx := HC.out k hly
        by_cases hat : at_ ≤ ys.getD k 0
        · have R := Lib.hid (from_hit ys at_ k hly HF.out hat)
          obtain ⟨y, ey⟩ : ∃ y, y = ys.getD k 0 := ⟨_, rfl⟩
          rw [← ey] at cx hat R
          clear ey hly
          go_wp2_with fail
          go_ret
          exact ⟨by rw [R.out]; rfl, HB.out⟩
        · have HF' : Hid (∀ j, j < k + 1 → ys.getD j 0 < at_) := fun j hj => by
            by_cases e : j = k
            · subst e; omega
            · exact HF.out j (by omega)
          obtain ⟨y, ey⟩ : ∃ y, y = ys.getD k 0 := ⟨_, rfl⟩
          rw [← ey] at cx hat
          clear ey hly
          go_wp2_with fail
          go_roundw
          case rel => exact ⟨k + 1, by omega, by go_num, trivial, HF'⟩
          case measure => simp [intOf]; omega
      · have R := Lib.hid (from_none ys at_ (fun j hj => HF.out j (by have := HN.out; omega)))
        go_wp2_with fail
        go_ret
        exact ⟨by rw [R.out]; rfl, HB.out⟩

/-- true, with at most new memory -/
def Yes (w : World) (e : Ending) (w' : World) : Prop := e = .returned (.bool true) ∧ Below w.heap.size w w'

theorem below_drawn {B : Nat} {a w : World} (h : Below B a w) (n : Nat) : Below B a (w.drewN n) := ⟨h.os, h.tape, h.output, h.size, h.block⟩

theorem count_is (x n : Nat) (hx : x < 18446744073709551616) (hn : (mem 64 x).length = n) (w : World) :
    Calls Tryd.prog 9 #[.int .u64 (x : Int)] w fun e w' => e = .returned (.int .i64 (n : Int)) ∧ w' = w := by
  rw [← hn]; exact count_any x hx w
theorem least_is (x : Nat) (n : Int) (hx : x < 18446744073709551616) (hn : headZ (mem 64 x) = n) (w : World) (hT : Tab w) :
    Calls Tryd.prog 10 #[.int .u64 (x : Int)] w fun e w' => e = .returned (.int .i64 n) ∧ w' = w := by
  rw [← hn]; exact least_any x hx w hT
theorem greatest_is (x : Nat) (n : Int) (hx : x < 18446744073709551616) (hn : lastZ (mem 64 x) = n) (w : World) :
    Calls Tryd.prog 11 #[.int .u64 (x : Int)] w fun e w' => e = .returned (.int .i64 n) ∧ w' = w := by
  rw [← hn]; exact greatest_any x hx w
theorem next_is (x : Nat) (at_ n : Int) (hx : x < 18446744073709551616) (hn : headZ ((mem 64 x).filter (fun k : Nat => decide (at_ ≤ (k : Int)))) = n) (w : World) (hT : Tab w) :
    Calls Tryd.prog 12 #[.int .u64 (x : Int), .int .i64 at_] w fun e w' => e = .returned (.int .i64 n) ∧ w' = w := by
  rw [← hn]; exact next_any x hx at_ w hT
theorem first_is (n : Int) (m : Nat) (hn : firstN n = m) (w : World) :
    Calls Tryd.prog 16 #[.int .i64 n] w fun e w' => e = .returned (.int .u64 (m : Int)) ∧ w' = w := by
  rw [← hn]; exact first_any n w
theorem between_is (a b : Int) (m : Nat) (hb : -9223372036854775808 ≤ b) (hn : betweenN a b = m) (w : World) :
    Calls Tryd.prog 17 #[.int .i64 a, .int .i64 b] w fun e w' => e = .returned (.int .u64 (m : Int)) ∧ w' = w := by
  rw [← hn]; exact between_any a b hb w

theorem lit_two (w : World) (a b : Int) : Reads (w.alloc (.cells #[.int .i64 a, .int .i64 b] 3)) (.slice (some ⟨w.heap.size, 0, none⟩) 2 2) [a, b] := by
  refine .inr ⟨w.heap.size, 0, 2, rfl, fun k hk => ?_⟩
  match k, hk with
  | 0, _ => simp
  | 1, _ => simp
theorem lit_three (w : World) (a b c : Int) : Reads (w.alloc (.cells #[.int .i64 a, .int .i64 b, .int .i64 c] 3)) (.slice (some ⟨w.heap.size, 0, none⟩) 3 3) [a, b, c] := by
  refine .inr ⟨w.heap.size, 0, 3, rfl, fun k hk => ?_⟩
  match k, hk with
  | 0, _ => simp
  | 1, _ => simp
  | 2, _ => simp

theorem awake_of (w : World) (k : Nat) (hk : k = w.heap.size) :
    Calls Tryd.prog 18 #[.slice (some ⟨k, 0, none⟩) 3 3] (w.alloc (.cells #[.int .i64 2, .int .i64 0, .int .i64 99] 3)) fun e w' => e = .returned (.int .u64 5) ∧ w' = w.alloc (.cells #[.int .i64 2, .int .i64 0, .int .i64 99] 3) := by
  have e : ofN [2, 0, 99] = 5 := by decide +kernel
  subst hk
  have h := of_any (.slice (some ⟨w.heap.size, 0, none⟩) 3 3) [2, 0, 99] _ (lit_three w 2 0 99) (by decide) (fun k hk => by
    match k, hk with
    | 0, _ => simp
    | 1, _ => simp
    | 2, _ => simp)
  rw [e] at h
  exact h

set_option maxHeartbeats 1000000 in
theorem awake_any (w : World) (hT : Tab w) (h0 : 0 < w.heap.size) : Calls Tryd.prog 6 #[] w (Yes w) := by
  have c1 := Lib.hid (count_is 5 2 (by omega) (by decide +kernel))
  have c2 := Lib.hid (least_is 4 2 (by omega) (by decide +kernel) w hT)
  have c3 := Lib.hid (least_is 0 (-1) (by omega) (by decide +kernel) w hT)
  have c4 := Lib.hid (greatest_is 5 2 (by omega) (by decide +kernel))
  have c5 := Lib.hid (greatest_is 0 (-1) (by omega) (by decide +kernel))
  have c6 := Lib.hid (next_is 5 1 2 (by omega) (by decide +kernel) w hT)
  have c7 := Lib.hid (first_is 3 7 (by decide +kernel))
  have c8 := Lib.hid (between_is 1 3 14 (by omega) (by decide +kernel))
  have c9 := Lib.hid (list_any 5 (by omega) w hT h0)
  have a5 : all 5 = [0, 2] := by decide +kernel
  rw [a5] at c9
  clear a5 hT h0
  go_enter Tryd.func6, Tryd.ntmps6
  go_wp2_with fail
  refine (c1.out _).mono ?_
  rintro e w' ⟨rfl, rfl⟩
  go_wp2_with fail
  refine c2.out.mono ?_
  rintro e w' ⟨rfl, rfl⟩
  go_wp2_with fail
  refine c3.out.mono ?_
  rintro e w' ⟨rfl, rfl⟩
  go_wp2_with fail
  refine (c4.out _).mono ?_
  rintro e w' ⟨rfl, rfl⟩
  go_wp2_with fail
  refine (c5.out _).mono ?_
  rintro e w' ⟨rfl, rfl⟩
  go_wp2_with fail
  refine c6.out.mono ?_
  rintro e w' ⟨rfl, rfl⟩
  go_wp2_with fail
  refine (c7.out _).mono ?_
  rintro e w' ⟨rfl, rfl⟩
  go_wp2_with fail
  refine (c8.out _).mono ?_
  rintro e w' ⟨rfl, rfl⟩
  go_wp2_with fail
  refine c9.out.mono ?_
  rintro e w1 ⟨v, rfl, hown, _, hB⟩
  have HR := Lib.hid (reads_of_owns (xs := [0, 2]) hown)
  have HB := Lib.hid hB
  have hsz := hB.size
  clear hown hB
  go_wp2_with fail
  refine (same_any v _ [0, 2] _ (reads_below HR.out ((Below.refl _ w1).alloc (Nat.le_refl _) _)) (lit_two w1 0 2) (by decide)).mono ?_
  rintro e w' ⟨rfl, n, rfl⟩
  go_wp2_with fail
  refine (awake_of ((w1.alloc (.cells #[.int .i64 0, .int .i64 2] 3)).drewN n) (w1.heap.size + 1) (by simp)).mono ?_
  rintro e w2 ⟨rfl, rfl⟩
  go_wp2_with fail
  go_ret
  exact ⟨rfl, (below_drawn (HB.out.alloc hsz _) n).alloc (by simp; omega) _⟩
end Go.Proofs.YtbnbicjnfkhdbaaDoor
