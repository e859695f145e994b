/-
  What within, noSum, nums, sum and row of package model answer, and slices.Contains of numbers, at every constraint that can be read.
-/
import Derived.Test.YtiaibggbbkhjlaaDoorZYAP
namespace Go.Proofs.YtiaibggbbkhjlaaDoor
open Go.RowKit
set_option maxRecDepth 100000

def inM (m n : Int) : Bool := decide (-m ≤ n) && decide (n ≤ m)
set_option maxHeartbeats 400000 in
theorem within_any (n m : Int) (w : World) (h0 : 0 ≤ m) (h1 : m ≤ 2000000000000) : Calls Tryd.prog 61 #[.int .i64 n, .int .i64 m] w fun e w' => e = .returned (.bool (inM m n)) ∧ w' = w := by
  unfold inM
  by_cases g1 : -m ≤ n
  · have d1 : decide (-m ≤ n) = true := decide_eq_true g1
    by_cases g2 : n ≤ m
    · have d2 : decide (n ≤ m) = true := decide_eq_true g2
      rw [d1, d2]
      go_enter Tryd.func61, Tryd.ntmps61
      go_wp2_with fail
      go_ret
      exact ⟨rfl, rfl⟩
    · have d2 : decide (n ≤ m) = false := decide_eq_false g2
      rw [d1, d2]
      go_enter Tryd.func61, Tryd.ntmps61
      go_wp2_with fail
      go_ret
      exact ⟨rfl, rfl⟩
  · have d1 : decide (-m ≤ n) = false := decide_eq_false g1
    rw [d1, Bool.false_and]
    go_enter Tryd.func61, Tryd.ntmps61
    go_wp2_with fail
    go_ret
    exact ⟨rfl, rfl⟩

def noSumB (rl ct : Int) (l2 : Nat) : Bool := decide (l2 = 0) && (decide (rl = 0) && decide (ct = 0))
set_option maxHeartbeats 400000 in
theorem nosum_any (kd rl ct : Int) (p1 p2 p3 : Option Addr) (l1 c1 l2 c2 l3 c3 : Nat) (w : World) :
    Calls Tryd.prog 50 #[.agg #[.int .i64 kd, .slice p1 l1 c1, .slice p2 l2 c2, .int .i64 rl, .int .i64 ct, .slice p3 l3 c3]] w fun e w' => e = .returned (.bool (noSumB rl ct l2)) ∧ Below w.heap.size w w' := by
  have HB := Lib.hid ((Below.refl _ w).alloc (Nat.le_refl _) (.cells #[.int .i64 kd, .slice p1 l1 c1, .slice p2 l2 c2, .int .i64 rl, .int .i64 ct, .slice p3 l3 c3] 24))
  unfold noSumB
  by_cases g1 : l2 = 0
  · have d1 : ((l2 : Int) == 0) = true := beq_iff_eq.2 (by omega)
    rw [decide_eq_true g1]
    clear g1
    by_cases g2 : rl = 0
    · have d2 : (rl == 0) = true := beq_iff_eq.2 g2
      rw [decide_eq_true g2]
      clear g2
      by_cases g3 : ct = 0
      · have d3 : (ct == 0) = true := beq_iff_eq.2 g3
        rw [decide_eq_true g3]
        clear g3
        go_enter Tryd.func50, Tryd.ntmps50
        go_wp2_with fail
        go_ret
        exact ⟨rfl, HB.out⟩
      · have d3 : (ct == 0) = false := beq_eq_false_iff_ne.2 g3
        rw [decide_eq_false g3]
        go_enter Tryd.func50, Tryd.ntmps50
        go_wp2_with fail
        go_ret
        exact ⟨rfl, HB.out⟩
    · have d2 : (rl == 0) = false := beq_eq_false_iff_ne.2 g2
      rw [decide_eq_false g2]
      go_enter Tryd.func50, Tryd.ntmps50
      go_wp2_with fail
      go_ret
      exact ⟨rfl, HB.out⟩
  · have d1 : ((l2 : Int) == 0) = false := beq_eq_false_iff_ne.2 (by omega)
    rw [decide_eq_false g1]
    go_enter Tryd.func50, Tryd.ntmps50
    go_wp2_with fail
    go_ret
    exact ⟨rfl, HB.out⟩

theorem all_bad {xs : List Int} {m x : Int} {k : Nat} (h : k < xs.length) (e : x = xs.getD k 0) (hx : inM m x = false) : allN xs m = false := by
  unfold inM at hx
  simp at hx
  exact all_not h e (by omega)
theorem in_of {m x : Int} (h : inM m x = true) : -m ≤ x ∧ x ≤ m := by
  unfold inM at h
  simpa using h

def numsB (xs : List Int) : Bool := decide (xs.length ≤ 96) && allN xs 1048576
set_option maxHeartbeats 1000000 in
theorem pnums_any (kd rl ct : Int) (p1 p2 p3 : Option Addr) (l1 c1 l2 c2 b3 o3 l3 c3 : Nat) (xs : List Int) (w : World) (hx : SliceOf rNum 1 w p3 b3 o3 l3 xs) :
    Calls Tryd.prog 51 #[.agg #[.int .i64 kd, .slice p1 l1 c1, .slice p2 l2 c2, .int .i64 rl, .int .i64 ct, .slice p3 l3 c3]] w fun e w' => e = .returned (.bool (numsB xs)) ∧ Below w.heap.size w w' := by
  obtain ⟨W0, hW0⟩ : ∃ W0, W0 = w.alloc (.cells #[.int .i64 kd, .slice p1 l1 c1, .slice p2 l2 c2, .int .i64 rl, .int .i64 ct, .slice p3 l3 c3] 24) := ⟨_, rfl⟩
  have hB0 : Below w.heap.size w W0 := by rw [hW0]; exact (Below.refl _ w).alloc (Nat.le_refl _) _
  have m5 : W0.cell? ⟨w.heap.size, 5, none⟩ = some (.slice p3 l3 c3) := by rw [hW0]; go_simp
  have HX := Lib.hid (nums_of (hx.below rNum_stays hB0))
  have HB := Lib.hid hB0
  have HW := Lib.hid hW0
  have hp := hx.at_
  have hl := hx.long
  obtain ⟨R, hR⟩ : ∃ R, R = numsB xs := ⟨_, rfl⟩
  rw [← hR]
  have hR2 : R = (decide (l3 ≤ 96) && allN xs 1048576) := by rw [hR, numsB, ← hl]
  have HN := Lib.hid hl
  clear hR hx hl hB0 hW0
  by_cases g1 : 96 < l3
  · rw [decide_eq_false (show ¬ l3 ≤ 96 by omega), Bool.false_and] at hR2
    subst hR2
    have d1 : decide ((96 : Int) < (l3 : Int)) = true := decide_eq_true (by omega)
    clear g1
    go_enter Tryd.func51, Tryd.ntmps51
    go_upto_region 1 with fail
    rw [← HW.out]
    go_wp2_with fail
    go_ret
    exact ⟨rfl, HB.out⟩
  · rw [decide_eq_true (show l3 ≤ 96 by omega), Bool.true_and] at hR2
    have HR := Lib.hid hR2
    have d1 : decide ((96 : Int) < (l3 : Int)) = false := decide_eq_false (by omega)
    have HZ := Lib.hid (show ∀ j, j < 0 → -1048576 ≤ xs.getD j 0 ∧ xs.getD j 0 ≤ 1048576 from fun j h => by omega)
    clear hR2
    go_enter Tryd.func51, Tryd.ntmps51
    go_upto_region 1 with fail
    rw [← HW.out]
    go_wp2_with fail
    go_loopw [12] (fun i wr => (∃ k : Nat, k ≤ l3 ∧ i = .int .i64 k ∧ ∀ j, j < k → -1048576 ≤ xs.getD j 0 ∧ xs.getD j 0 ≤ 1048576) ∧ wr = W0) (fun i _ => l3 - (intOf i).toNat)
    case atStart => exact ⟨⟨0, by omega, rfl, HZ.out⟩, rfl⟩
    case round =>
      obtain ⟨⟨k, hk, rfl, hrel⟩, rfl⟩ := hrel
      have HK := Lib.hid hrel
      by_cases hlt : k < l3
      · obtain rfl := hp (by omega)
        have c0 := HX.out.cell k hlt
        obtain ⟨x, ex⟩ : ∃ x, x = xs.getD k 0 := ⟨_, rfl⟩
        rw [← ex] at c0
        have HE := Lib.hid ex
        have C := Lib.hid (within_any x 1048576 wr (by omega) (by omega))
        clear hrel ex
        cases hi : inM 1048576 x
        · rw [hi] at C
          have key : R = false := by rw [HR.out]; exact all_bad (by rw [← HX.out.long]; exact hlt) HE.out hi
          subst key
          clear hi
          go_wp2_with fail
          refine C.out.mono ?_
          rintro e w2 ⟨rfl, rfl⟩
          go_wp2_with fail
          go_ret
          exact ⟨rfl, HB.out⟩
        · rw [hi] at C
          have NX := Lib.hid (show ∀ j, j < k + 1 → -1048576 ≤ xs.getD j 0 ∧ xs.getD j 0 ≤ 1048576 from fun j hj => by
            by_cases h : j < k
            · exact HK.out j h
            · obtain rfl : j = k := by omega
              rw [← HE.out]; exact in_of hi)
          clear hi
          go_wp2_with fail
          refine C.out.mono ?_
          rintro e w2 ⟨rfl, rfl⟩
          go_wp2_with fail
          go_roundw
          case rel => exact ⟨⟨k + 1, by omega, by go_num, NX.out⟩, trivial⟩
          case measure => simp [intOf]; omega
      · have key : R = true := by
          rw [HR.out]
          exact all_end fun j hj => HK.out j (by have := HX.out.long; omega)
        subst key
        clear hrel
        go_wp2_with fail
        go_ret
        exact ⟨rfl, HB.out⟩

open Classical in
/-- does x stand at one of the first n places? -/
noncomputable def hasB (xs : List Int) (n : Nat) (x : Int) : Bool := decide (∃ j, j < n ∧ xs.getD j 0 = x)
theorem has_yes {xs : List Int} {n k : Nat} {x : Int} (h : k < n) (e : xs.getD k 0 = x) : hasB xs n x = true := by
  unfold hasB
  exact decide_eq_true ⟨k, h, e⟩
theorem has_no {xs : List Int} {n : Nat} {x : Int} (h : ∀ j, j < n → xs.getD j 0 ≠ x) : hasB xs n x = false := by
  unfold hasB
  exact decide_eq_false fun ⟨j, h1, h2⟩ => h j h1 h2
theorem has_false {xs : List Int} {n : Nat} {x : Int} (h : hasB xs n x = false) : ∀ j, j < n → xs.getD j 0 ≠ x := by
  unfold hasB at h
  have := of_decide_eq_false h
  exact fun j h1 h2 => this ⟨j, h1, h2⟩
theorem has_true {xs : List Int} {n : Nat} {x : Int} (h : hasB xs n x = true) : ∃ j, j < n ∧ xs.getD j 0 = x := by
  unfold hasB at h
  exact of_decide_eq_true h

set_option maxHeartbeats 400000 in
theorem index_cells (p : Option Addr) (b off c len : Nat) (xs : List Int) (x : Int) (w : World) (hp : 0 < len → p = some ⟨b, off, none⟩) (hc : ∀ k, k < len → w.cell? ⟨b, off + k, none⟩ = some (.int .i64 (xs.getD k 0))) (hl : len ≤ 1000000) :
    Calls Tryd.prog 65 #[.slice p len c, .int .i64 x] w fun e w' => ∃ z : Int, e = .returned (.int .i64 z) ∧ decide (0 ≤ z) = hasB xs len x ∧ -1 ≤ z ∧ w' = w := by
  have HC := Lib.hid hc
  obtain ⟨R, hR⟩ : ∃ R, R = hasB xs len x := ⟨_, rfl⟩
  rw [← hR]
  have HR := Lib.hid hR
  have HZ := Lib.hid (show ∀ j, j < 0 → xs.getD j 0 ≠ x from fun j h => by omega)
  clear hc hR
  go_enter Tryd.func65, Tryd.ntmps65
  go_wp2
  go_loopw [8] (fun i wr => (∃ k : Nat, k ≤ len ∧ i = .int .i64 k ∧ ∀ j, j < k → xs.getD j 0 ≠ x) ∧ wr = w) (fun i _ => len - (intOf i).toNat)
  case atStart => exact ⟨⟨0, by omega, rfl, HZ.out⟩, rfl⟩
  case round =>
    obtain ⟨⟨k, hk, rfl, hrel⟩, rfl⟩ := hrel
    have HK := Lib.hid hrel
    clear hrel
    by_cases hlt : k < len
    · obtain rfl := hp (by omega)
      have c0 := HC.out k hlt
      obtain ⟨y, ey⟩ : ∃ y, y = xs.getD k 0 := ⟨_, rfl⟩
      rw [← ey] at c0
      by_cases hy : x = y
      · have key : R = true := by rw [HR.out]; exact has_yes hlt (by rw [← ey, hy])
        subst key
        have d1 : (x == y) = true := beq_iff_eq.2 hy
        clear hy ey
        go_wp2_with fail
        all_goals try (exfalso; have e96 := beq_iff_eq.1 d1; omega)
        go_ret
        exact ⟨_, rfl, by simp, by omega, rfl⟩
      · have d1 : (x == y) = false := beq_eq_false_iff_ne.2 hy
        have NX := Lib.hid (show ∀ j, j < k + 1 → xs.getD j 0 ≠ x from fun j hj => by
          by_cases h : j < k
          · exact HK.out j h
          · obtain rfl : j = k := by omega
            rw [← ey]; exact fun h => hy h.symm)
        clear ey
        go_wp2_with fail
        go_roundw
        case rel => exact ⟨⟨k + 1, by omega, by go_num, NX.out⟩, trivial⟩
        case measure => simp [intOf]; omega
    · have key : R = false := by rw [HR.out]; exact has_no fun j hj => HK.out j (by omega)
      subst key
      go_wp2_with fail
      go_ret
      exact ⟨_, rfl, by simp, by omega, rfl⟩
set_option maxHeartbeats 400000 in
theorem contains_cells (p : Option Addr) (b off c len : Nat) (xs : List Int) (x : Int) (w : World) (hp : 0 < len → p = some ⟨b, off, none⟩) (hc : ∀ k, k < len → w.cell? ⟨b, off + k, none⟩ = some (.int .i64 (xs.getD k 0))) (hl : len ≤ 1000000) :
    Calls Tryd.prog 60 #[.slice p len c, .int .i64 x] w fun e w' => e = .returned (.bool (hasB xs len x)) ∧ w' = w := by
  have C := Lib.hid (index_cells p b off c len xs x w hp hc hl)
  obtain ⟨R, hR⟩ : ∃ R, R = hasB xs len x := ⟨_, rfl⟩
  rw [← hR] at C ⊢
  clear hR hp hc hl
  go_enter Tryd.func60, Tryd.ntmps60
  go_wp2_with fail
  refine C.out.mono ?_
  rintro e w2 ⟨z, rfl, hz, hz1, rfl⟩
  have HZ := Lib.hid hz
  clear hz
  cases R
  · have d : decide (0 ≤ z) = false := HZ.out
    go_wp2_with fail
    go_ret
    exact ⟨rfl, rfl⟩
  · have d : decide (0 ≤ z) = true := HZ.out
    go_wp2_with fail
    go_ret
    exact ⟨rfl, rfl⟩
end Go.Proofs.YtiaibggbbkhjlaaDoor
