/-
  What within, noSum, nums, sum and row of package model answer, and slices.Contains of numbers, at every constraint that can be read.
  What row and sum of package model answer, at every constraint that can be read.
  Constraints that may be, as plain data: as the document's answers tell them, and as package model does.
-/
import Derived.Test.YtkgieaoahijheaaGreatDoorZYAF
namespace Go.Proofs.YtkgieaoahijheaaGreatDoor
open Go.RowKit
set_option maxRecDepth 100000

def inM (m n : Int) : Bool := decide (-m ≤ n) && decide (n ≤ m)
set_option maxHeartbeats 400000 in
theorem within_any (n m : Int) (w : World) (h0 : 0 ≤ m) (h1 : m ≤ 2000000000000) : Calls Tryz.prog 65 #[.int .i64 n, .int .i64 m] w fun e w' => e = .returned (.bool (inM m n)) ∧ w' = w := by
  unfold inM
  by_cases g1 : -m ≤ n
  · have d1 : decide (-m ≤ n) = true := decide_eq_true g1
    by_cases g2 : n ≤ m
    · have d2 : decide (n ≤ m) = true := decide_eq_true g2
      rw [d1, d2]
      go_enter Tryz.func65, Tryz.ntmps65
      go_wp2_with fail
      go_ret
      exact ⟨rfl, rfl⟩
    · have d2 : decide (n ≤ m) = false := decide_eq_false g2
      rw [d1, d2]
      go_enter Tryz.func65, Tryz.ntmps65
      go_wp2_with fail
      go_ret
      exact ⟨rfl, rfl⟩
  · have d1 : decide (-m ≤ n) = false := decide_eq_false g1
    rw [d1, Bool.false_and]
    go_enter Tryz.func65, Tryz.ntmps65
    go_wp2_with fail
    go_ret
    exact ⟨rfl, rfl⟩

def noSumB (rl ct : Int) (l2 : Nat) : Bool := decide (l2 = 0) && (decide (rl = 0) && decide (ct = 0))
set_option maxHeartbeats 400000 in
theorem nosum_any (kd rl ct : Int) (p1 p2 p3 : Option Addr) (l1 c1 l2 c2 l3 c3 : Nat) (w : World) :
    Calls Tryz.prog 40 #[.agg #[.int .i64 kd, .slice p1 l1 c1, .slice p2 l2 c2, .int .i64 rl, .int .i64 ct, .slice p3 l3 c3]] w fun e w' => e = .returned (.bool (noSumB rl ct l2)) ∧ Below w.heap.size w w' := by
  have HB := Lib.hid ((Below.refl _ w).alloc (Nat.le_refl _) (.cells #[.int .i64 kd, .slice p1 l1 c1, .slice p2 l2 c2, .int .i64 rl, .int .i64 ct, .slice p3 l3 c3] 38))
  unfold noSumB
  by_cases g1 : l2 = 0
  · have d1 : ((l2 : Int) == 0) = true := beq_iff_eq.2 (by omega)
    rw [decide_eq_true g1]
    clear g1
    by_cases g2 : rl = 0
    · have d2 : (rl == 0) = true := beq_iff_eq.2 g2
      rw [decide_eq_true g2]
      clear g2
      by_cases g3 : ct = 0
      · have d3 : (ct == 0) = true := beq_iff_eq.2 g3
        rw [decide_eq_true g3]
        clear g3
        go_enter Tryz.func40, Tryz.ntmps40
        go_wp2_with fail
        go_ret
        exact ⟨rfl, HB.out⟩
      · have d3 : (ct == 0) = false := beq_eq_false_iff_ne.2 g3
        rw [decide_eq_false g3]
        go_enter Tryz.func40, Tryz.ntmps40
        go_wp2_with fail
        go_ret
        exact ⟨rfl, HB.out⟩
    · have d2 : (rl == 0) = false := beq_eq_false_iff_ne.2 g2
      rw [decide_eq_false g2]
      go_enter Tryz.func40, Tryz.ntmps40
      go_wp2_with fail
      go_ret
      exact ⟨rfl, HB.out⟩
  · have d1 : ((l2 : Int) == 0) = false := beq_eq_false_iff_ne.2 (by omega)
    rw [decide_eq_false g1]
    go_enter Tryz.func40, Tryz.ntmps40
    go_wp2_with fail
    go_ret
    exact ⟨rfl, HB.out⟩

theorem all_bad {xs : List Int} {m x : Int} {k : Nat} (h : k < xs.length) (e : x = xs.getD k 0) (hx : inM m x = false) : allN xs m = false := by
  unfold inM at hx
  simp at hx
  exact all_not h e (by omega)
theorem in_of {m x : Int} (h : inM m x = true) : -m ≤ x ∧ x ≤ m := by
  unfold inM at h
  simpa using h

def numsB (xs : List Int) : Bool := decide (xs.length ≤ 96) && allN xs 1048576
set_option maxHeartbeats 1000000 in
theorem pnums_any (kd rl ct : Int) (p1 p2 p3 : Option Addr) (l1 c1 l2 c2 b3 o3 l3 c3 : Nat) (xs : List Int) (w : World) (hx : SliceOf rNum 1 w p3 b3 o3 l3 xs) :
    Calls Tryz.prog 41 #[.agg #[.int .i64 kd, .slice p1 l1 c1, .slice p2 l2 c2, .int .i64 rl, .int .i64 ct, .slice p3 l3 c3]] w fun e w' => e = .returned (.bool (numsB xs)) ∧ Below w.heap.size w w' := by
  obtain ⟨W0, hW0⟩ : ∃ W0, W0 = w.alloc (.cells #[.int .i64 kd, .slice p1 l1 c1, .slice p2 l2 c2, .int .i64 rl, .int .i64 ct, .slice p3 l3 c3] 38) := ⟨_, rfl⟩
  have hB0 : Below w.heap.size w W0 := by rw [hW0]; exact (Below.refl _ w).alloc (Nat.le_refl _) _
  have m5 : W0.cell? ⟨w.heap.size, 5, none⟩ = some (.slice p3 l3 c3) := by rw [hW0]; go_simp
  have HX := Lib.hid (nums_of (hx.below rNum_stays hB0))
  have HB := Lib.hid hB0
  have HW := Lib.hid hW0
  have hp := hx.at_
  have hl := hx.long
  obtain ⟨R, hR⟩ : ∃ R, R = numsB xs := ⟨_, rfl⟩
  rw [← hR]
  have hR2 : R = (decide (l3 ≤ 96) && allN xs 1048576) := by rw [hR, numsB, ← hl]
  have HN := Lib.hid hl
  clear hR hx hl hB0 hW0
  by_cases g1 : 96 < l3
  · rw [decide_eq_false (show ¬ l3 ≤ 96 by omega), Bool.false_and] at hR2
    subst hR2
    have d1 : decide ((96 : Int) < (l3 : Int)) = true := decide_eq_true (by omega)
    clear g1
    go_enter Tryz.func41, Tryz.ntmps41
    go_upto_region 1 with fail
    rw [← HW.out]
    go_wp2_with fail
    go_ret
    exact ⟨rfl, HB.out⟩
  · rw [decide_eq_true (show l3 ≤ 96 by omega), Bool.true_and] at hR2
    have HR := Lib.hid hR2
    have d1 : decide ((96 : Int) < (l3 : Int)) = false := decide_eq_false (by omega)
    have HZ := Lib.hid (show ∀ j, j < 0 → -1048576 ≤ xs.getD j 0 ∧ xs.getD j 0 ≤ 1048576 from fun j h => by omega)
    clear hR2
    go_enter Tryz.func41, Tryz.ntmps41
    go_upto_region 1 with fail
    rw [← HW.out]
    go_wp2_with fail
    go_loopw [12] (fun i wr => (∃ k : Nat, k ≤ l3 ∧ i = .int .i64 k ∧ ∀ j, j < k → -1048576 ≤ xs.getD j 0 ∧ xs.getD j 0 ≤ 1048576) ∧ wr = W0) (fun i _ => l3 - (intOf i).toNat)
    case atStart => exact ⟨⟨0, by omega, rfl, HZ.out⟩, rfl⟩
    case round =>
      obtain ⟨⟨k, hk, rfl, hrel⟩, rfl⟩ := hrel
      have HK := Lib.hid hrel
      by_cases hlt : k < l3
      · obtain rfl := hp (by omega)
        have c0 := HX.out.cell k hlt
        obtain ⟨x, ex⟩ : ∃ x, x = xs.getD k 0 := ⟨_, rfl⟩
        rw [← ex] at c0
        have HE := Lib.hid ex
        have C := Lib.hid (within_any x 1048576 wr (by omega) (by omega))
        clear hrel ex
        cases hi : inM 1048576 x
        · rw [hi] at C
          have key : R = false := by rw [HR.out]; exact all_bad (by rw [← HX.out.long]; exact hlt) HE.out hi
          subst key
          clear hi
          go_wp2_with fail
          refine C.out.mono ?_
          rintro e w2 ⟨rfl, rfl⟩
          go_wp2_with fail
          go_ret
          exact ⟨rfl, HB.out⟩
        · rw [hi] at C
          have NX := Lib.hid (show ∀ j, j < k + 1 → -1048576 ≤ xs.getD j 0 ∧ xs.getD j 0 ≤ 1048576 from fun j hj => by
            by_cases h : j < k
            · exact HK.out j h
            · obtain rfl : j = k := by omega
              rw [← HE.out]; exact in_of hi)
          clear hi
          go_wp2_with fail
          refine C.out.mono ?_
          rintro e w2 ⟨rfl, rfl⟩
          go_wp2_with fail
          go_roundw
          case rel => exact ⟨⟨k + 1, by omega, by go_num, NX.out⟩, trivial⟩
          case measure => simp [intOf]; omega
      · have key : R = true := by
          rw [HR.out]
          exact all_end fun j hj => HK.out j (by have := HX.out.long; omega)
        subst key
        clear hrel
        go_wp2_with fail
        go_ret
        exact ⟨rfl, HB.out⟩

open Classical in
/-- does x stand at one of the first n places? -/
noncomputable def hasB (xs : List Int) (n : Nat) (x : Int) : Bool := decide (∃ j, j < n ∧ xs.getD j 0 = x)
theorem has_yes {xs : List Int} {n k : Nat} {x : Int} (h : k < n) (e : xs.getD k 0 = x) : hasB xs n x = true := by
  unfold hasB
  exact decide_eq_true ⟨k, h, e⟩
theorem has_no {xs : List Int} {n : Nat} {x : Int} (h : ∀ j, j < n → xs.getD j 0 ≠ x) : hasB xs n x = false := by
  unfold hasB
  exact decide_eq_false fun ⟨j, h1, h2⟩ => h j h1 h2
theorem has_false {xs : List Int} {n : Nat} {x : Int} (h : hasB xs n x = false) : ∀ j, j < n → xs.getD j 0 ≠ x := by
  unfold hasB at h
  have := of_decide_eq_false h
  exact fun j h1 h2 => this ⟨j, h1, h2⟩
theorem has_true {xs : List Int} {n : Nat} {x : Int} (h : hasB xs n x = true) : ∃ j, j < n ∧ xs.getD j 0 = x := by
  unfold hasB at h
  exact of_decide_eq_true h

set_option maxHeartbeats 400000 in
theorem index_cells (p : Option Addr) (b off c len : Nat) (xs : List Int) (x : Int) (w : World) (hp : 0 < len → p = some ⟨b, off, none⟩) (hc : ∀ k, k < len → w.cell? ⟨b, off + k, none⟩ = some (.int .i64 (xs.getD k 0))) (hl : len ≤ 1000000) :
    Calls Tryz.prog 84 #[.slice p len c, .int .i64 x] w fun e w' => ∃ z : Int, e = .returned (.int .i64 z) ∧ decide (0 ≤ z) = hasB xs len x ∧ -1 ≤ z ∧ w' = w := by
  have HC := Lib.hid hc
  obtain ⟨R, hR⟩ : ∃ R, R = hasB xs len x := ⟨_, rfl⟩
  rw [← hR]
  have HR := Lib.hid hR
  have HZ := Lib.hid (show ∀ j, j < 0 → xs.getD j 0 ≠ x from fun j h => by omega)
  clear hc hR
  go_enter Tryz.func84, Tryz.ntmps84
  go_wp2
  go_loopw [8] (fun i wr => (∃ k : Nat, k ≤ len ∧ i = .int .i64 k ∧ ∀ j, j < k → xs.getD j 0 ≠ x) ∧ wr = w) (fun i _ => len - (intOf i).toNat)
  case atStart => exact ⟨⟨0, by omega, rfl, HZ.out⟩, rfl⟩
  case round =>
    obtain ⟨⟨k, hk, rfl, hrel⟩, rfl⟩ := hrel
    have HK := Lib.hid hrel
    clear hrel
    by_cases hlt : k < len
    · obtain rfl := hp (by omega)
      have c0 := HC.out k hlt
      obtain ⟨y, ey⟩ : ∃ y, y = xs.getD k 0 := ⟨_, rfl⟩
      rw [← ey] at c0
      by_cases hy : x = y
      · have key : R = true := by rw [HR.out]; exact has_yes hlt (by rw [← ey, hy])
        subst key
        have d1 : (x == y) = true := beq_iff_eq.2 hy
        clear hy ey
        go_wp2_with fail
        all_goals try (exfalso; have e96 := beq_iff_eq.1 d1; omega)
        go_ret
        exact ⟨_, rfl, by simp, by omega, rfl⟩
      · have d1 : (x == y) = false := beq_eq_false_iff_ne.2 hy
        have NX := Lib.hid (show ∀ j, j < k + 1 → xs.getD j 0 ≠ x from fun j hj => by
          by_cases h : j < k
          · exact HK.out j h
          · obtain rfl : j = k := by omega
            rw [← ey]; exact fun h => hy h.symm)
        clear ey
        go_wp2_with fail
        go_roundw
        case rel => exact ⟨⟨k + 1, by omega, by go_num, NX.out⟩, trivial⟩
        case measure => simp [intOf]; omega
    · have key : R = false := by rw [HR.out]; exact has_no fun j hj => HK.out j (by omega)
      subst key
      go_wp2_with fail
      go_ret
      exact ⟨_, rfl, by simp, by omega, rfl⟩
set_option maxHeartbeats 400000 in
theorem contains_cells (p : Option Addr) (b off c len : Nat) (xs : List Int) (x : Int) (w : World) (hp : 0 < len → p = some ⟨b, off, none⟩) (hc : ∀ k, k < len → w.cell? ⟨b, off + k, none⟩ = some (.int .i64 (xs.getD k 0))) (hl : len ≤ 1000000) :
    Calls Tryz.prog 64 #[.slice p len c, .int .i64 x] w fun e w' => e = .returned (.bool (hasB xs len x)) ∧ w' = w := by
  have C := Lib.hid (index_cells p b off c len xs x w hp hc hl)
  obtain ⟨R, hR⟩ : ∃ R, R = hasB xs len x := ⟨_, rfl⟩
  rw [← hR] at C ⊢
  clear hR hp hc hl
  go_enter Tryz.func64, Tryz.ntmps64
  go_wp2_with fail
  refine C.out.mono ?_
  rintro e w2 ⟨z, rfl, hz, hz1, rfl⟩
  have HZ := Lib.hid hz
  clear hz
  cases R
  · have d : decide (0 ≤ z) = false := HZ.out
    go_wp2_with fail
    go_ret
    exact ⟨rfl, rfl⟩
  · have d : decide (0 ≤ z) = true := HZ.out
    go_wp2_with fail
    go_ret
    exact ⟨rfl, rfl⟩
end Go.Proofs.YtkgieaoahijheaaGreatDoor
namespace Go.Proofs.YtkgieaoahijheaaGreatDoor
open Go.RowKit
set_option maxRecDepth 100000

def okC (x : Int) : Bool := !decide (x = 0) && inM 1048576 x
def sumB (xs : List Int) (terms rl ct : Int) : Bool := decide ((xs.length : Int) = terms) && (decide (0 ≤ rl) && (decide (rl ≤ 5) && (inM 1099511627776 ct && xs.all okC)))
theorem nums_get {w : World} {p : Option Addr} {b off len : Nat} {xs : List Int} (h : Nums w p b off len xs) {k : Nat} (hk : k < len) : xs[k]? = some (xs.getD k 0) := by
  have hx : k < xs.length := by rw [← h.long]; exact hk
  simp [hx]

set_option maxRecDepth 100000 in
set_option maxHeartbeats 1000000 in
theorem psum_any (kd rl ct tm : Int) (p1 p2 p3 : Option Addr) (l1 c1 b2 o2 l2 c2 l3 c3 : Nat) (xs : List Int) (w : World) (hx : SliceOf rNum 1 w p2 b2 o2 l2 xs) (hmo : l2 ≤ 1000000) :
    Calls Tryz.prog 39 #[.agg #[.int .i64 kd, .slice p1 l1 c1, .slice p2 l2 c2, .int .i64 rl, .int .i64 ct, .slice p3 l3 c3], .int .i64 tm] w fun e w' => e = .returned (.bool (sumB xs tm rl ct)) ∧ Below w.heap.size w w' := by
  obtain ⟨W0, hW0⟩ : ∃ W0, W0 = w.alloc (.cells #[.int .i64 kd, .slice p1 l1 c1, .slice p2 l2 c2, .int .i64 rl, .int .i64 ct, .slice p3 l3 c3] 38) := ⟨_, rfl⟩
  have hB0 : Below w.heap.size w W0 := by rw [hW0]; exact (Below.refl _ w).alloc (Nat.le_refl _) _
  have m2 : W0.cell? ⟨w.heap.size, 2, none⟩ = some (.slice p2 l2 c2) := by rw [hW0]; go_simp
  have m3 : W0.cell? ⟨w.heap.size, 3, none⟩ = some (.int .i64 rl) := by rw [hW0]; go_simp
  have m4 : W0.cell? ⟨w.heap.size, 4, none⟩ = some (.int .i64 ct) := by rw [hW0]; go_simp
  have HX := Lib.hid (nums_of (hx.below rNum_stays hB0))
  have HB := Lib.hid hB0
  have HW := Lib.hid hW0
  have hp := hx.at_
  have hl := hx.long
  obtain ⟨R, hR⟩ : ∃ R, R = sumB xs tm rl ct := ⟨_, rfl⟩
  rw [← hR]
  have hR2 : R = (decide ((l2 : Int) = tm) && (decide (0 ≤ rl) && (decide (rl ≤ 5) && (inM 1099511627776 ct && xs.all okC)))) := by rw [hR, sumB, ← hl]
  have HN := Lib.hid hl
  have CW := Lib.hid (within_any ct 1099511627776 W0 (by omega) (by omega))
  clear hR hx hl hB0 hW0
  by_cases g1 : (l2 : Int) = tm
  · rw [decide_eq_true g1, Bool.true_and] at hR2
    subst g1
    by_cases g2 : 0 ≤ rl
    · rw [decide_eq_true g2, Bool.true_and] at hR2
      have e2 : decide (rl < 0) = false := decide_eq_false (by omega)
      by_cases g3 : rl ≤ 5
      · rw [decide_eq_true g3, Bool.true_and] at hR2
        have e3 : decide ((5 : Int) < rl) = false := decide_eq_false (by omega)
        cases g4 : inM 1099511627776 ct
        · rw [g4] at CW hR2
          rw [Bool.false_and] at hR2
          subst hR2
          clear g4
          go_enter Tryz.func39, Tryz.ntmps39
          go_upto_region 1 with fail
          rw [← HW.out]
          go_wp2_with fail
          refine CW.out.mono ?_
          rintro e w2 ⟨rfl, rfl⟩
          go_wp2_with fail
          go_ret
          exact ⟨rfl, HB.out⟩
        · rw [g4] at CW hR2
          rw [Bool.true_and] at hR2
          have HR := Lib.hid hR2
          have HS := Lib.hid (show R = (xs.drop 0).all okC by rw [hR2]; simp)
          clear g4 hR2
          go_enter Tryz.func39, Tryz.ntmps39
          go_upto_region 1 with fail
          rw [← HW.out]
          go_wp2_with fail
          refine CW.out.mono ?_
          rintro e w2 ⟨rfl, rfl⟩
          go_wp2_with fail
          go_loopw [31] (fun i wr => (∃ k : Nat, k ≤ l2 ∧ i = .int .i64 k ∧ R = (xs.drop k).all okC) ∧ wr = w2) (fun i _ => l2 - (intOf i).toNat)
          case atStart => exact ⟨⟨0, by omega, rfl, HS.out⟩, rfl⟩
          case round =>
            obtain ⟨⟨k, hk, rfl, hrel⟩, rfl⟩ := hrel
            by_cases hlt : k < l2
            · obtain rfl := hp (by omega)
              have c0 := HX.out.cell k hlt
              have hstep := hrel.trans (all_at okC (nums_get HX.out hlt))
              obtain ⟨x, ex⟩ : ∃ x, x = xs.getD k 0 := ⟨_, rfl⟩
              rw [← ex] at c0 hstep
              have C := Lib.hid (within_any x 1048576 wr (by omega) (by omega))
              have hok : okC x = (!decide (x = 0) && inM 1048576 x) := rfl
              clear hrel ex
              by_cases h0 : x = 0
              · rw [decide_eq_true h0] at hok
                rw [hok] at hstep
                have key : R = false := hstep
                subst key
                have e0 : (x == 0) = true := beq_iff_eq.2 h0
                clear h0 hok hstep
                go_wp2_with fail
                go_ret
                exact ⟨rfl, HB.out⟩
              · rw [decide_eq_false h0] at hok
                have e0 : (x == 0) = false := beq_eq_false_iff_ne.2 h0
                cases hi : inM 1048576 x
                · rw [hi] at C hok
                  rw [hok] at hstep
                  have key : R = false := hstep
                  subst key
                  clear hi hok hstep
                  go_wp2_with fail
                  refine C.out.mono ?_
                  rintro e w3 ⟨rfl, rfl⟩
                  go_wp2_with fail
                  go_ret
                  exact ⟨rfl, HB.out⟩
                · rw [hi] at C hok
                  rw [hok] at hstep
                  have NX := Lib.hid (show R = (xs.drop (k + 1)).all okC from hstep)
                  clear hi hok hstep
                  go_wp2_with fail
                  refine C.out.mono ?_
                  rintro e w3 ⟨rfl, rfl⟩
                  go_wp2_with fail
                  go_roundw
                  case rel => exact ⟨⟨k + 1, by omega, by go_num, NX.out⟩, trivial⟩
                  case measure => simp [intOf]; omega
            · have key : R = true := hrel.trans (all_done okC (by rw [← HN.out]; omega))
              subst key
              clear hrel
              go_wp2_with fail
              go_ret
              exact ⟨rfl, HB.out⟩
      · rw [decide_eq_false g3, Bool.false_and] at hR2
        have e3 : decide ((5 : Int) < rl) = true := decide_eq_true (by omega)
        subst hR2
        go_enter Tryz.func39, Tryz.ntmps39
        go_upto_region 1 with fail
        rw [← HW.out]
        go_wp2_with fail
        go_ret
        exact ⟨rfl, HB.out⟩
    · rw [decide_eq_false g2, Bool.false_and] at hR2
      have e2 : decide (rl < 0) = true := decide_eq_true (by omega)
      subst hR2
      go_enter Tryz.func39, Tryz.ntmps39
      go_upto_region 1 with fail
      rw [← HW.out]
      go_wp2_with fail
      go_ret
      exact ⟨rfl, HB.out⟩
  · rw [decide_eq_false g1, Bool.false_and] at hR2
    have e1 : ((l2 : Int) == tm) = false := beq_eq_false_iff_ne.2 g1
    subst hR2
    go_enter Tryz.func39, Tryz.ntmps39
    go_upto_region 1 with fail
    rw [← HW.out]
    go_wp2_with fail
    go_ret
    exact ⟨rfl, HB.out⟩

/-- are the first k numbers of variables, none twice? -/
def VarsTo (xs : List Int) (vars : Int) (k : Nat) : Prop := ∀ i, i < k → (0 ≤ xs.getD i 0 ∧ xs.getD i 0 < vars) ∧ ∀ j, j < i → xs.getD j 0 ≠ xs.getD i 0
theorem vars_next {xs : List Int} {vars : Int} {k : Nat} {x : Int} (h : VarsTo xs vars k) (ex : x = xs.getD k 0) (h0 : 0 ≤ x) (h1 : x < vars) (h2 : hasB xs k x = false) : VarsTo xs vars (k + 1) := fun i hi => by
  by_cases hik : i < k
  · exact h i hik
  · obtain rfl : i = k := by omega
    rw [← ex]
    exact ⟨⟨h0, h1⟩, has_false h2⟩
open Classical in
noncomputable def rowB (xs : List Int) (vars least most : Int) : Bool := decide (least ≤ (xs.length : Int)) && (decide ((xs.length : Int) ≤ most) && decide (VarsTo xs vars xs.length))

open Classical in
set_option maxRecDepth 100000 in
set_option maxHeartbeats 1000000 in
theorem prow_any (kd rl ct vs la mo : Int) (p1 p2 p3 : Option Addr) (b1 o1 l1 c1 l2 c2 l3 c3 : Nat) (xs : List Int) (w : World) (hx : SliceOf rNum 1 w p1 b1 o1 l1 xs) (hcap : l1 ≤ c1) (hmo : l1 ≤ 1000000) :
    Calls Tryz.prog 38 #[.agg #[.int .i64 kd, .slice p1 l1 c1, .slice p2 l2 c2, .int .i64 rl, .int .i64 ct, .slice p3 l3 c3], .int .i64 vs, .int .i64 la, .int .i64 mo] w fun e w' => e = .returned (.bool (rowB xs vs la mo)) ∧ Below w.heap.size w w' := by
  obtain ⟨W0, hW0⟩ : ∃ W0, W0 = w.alloc (.cells #[.int .i64 kd, .slice p1 l1 c1, .slice p2 l2 c2, .int .i64 rl, .int .i64 ct, .slice p3 l3 c3] 38) := ⟨_, rfl⟩
  have hB0 : Below w.heap.size w W0 := by rw [hW0]; exact (Below.refl _ w).alloc (Nat.le_refl _) _
  have m1 : W0.cell? ⟨w.heap.size, 1, none⟩ = some (.slice p1 l1 c1) := by rw [hW0]; go_simp
  have HX := Lib.hid (nums_of (hx.below rNum_stays hB0))
  have HB := Lib.hid hB0
  have HW := Lib.hid hW0
  have hp := hx.at_
  have hl := hx.long
  obtain ⟨R, hR⟩ : ∃ R, R = rowB xs vs la mo := ⟨_, rfl⟩
  rw [← hR]
  have hR2 : R = (decide (la ≤ (l1 : Int)) && (decide ((l1 : Int) ≤ mo) && decide (VarsTo xs vs l1))) := by rw [hR, rowB, ← hl]
  have HN := Lib.hid hl
  clear hR hx hl hB0 hW0
  by_cases g1 : la ≤ (l1 : Int)
  · rw [decide_eq_true g1, Bool.true_and] at hR2
    have e1 : decide ((l1 : Int) < la) = false := decide_eq_false (by omega)
    by_cases g2 : (l1 : Int) ≤ mo
    · rw [decide_eq_true g2, Bool.true_and] at hR2
      have e2 : decide (mo < (l1 : Int)) = false := decide_eq_false (by omega)
      have HR := Lib.hid hR2
      have HZ := Lib.hid (show VarsTo xs vs 0 from fun i h => by omega)
      clear hR2
      go_enter Tryz.func38, Tryz.ntmps38
      go_upto_region 1 with fail
      rw [← HW.out]
      go_wp2_with fail
      go_loopw [26] (fun i wr => (∃ k : Nat, k ≤ l1 ∧ i = .int .i64 k ∧ VarsTo xs vs k) ∧ wr = W0) (fun i _ => l1 - (intOf i).toNat)
      case atStart => exact ⟨⟨0, by omega, rfl, HZ.out⟩, rfl⟩
      case round =>
        obtain ⟨⟨k, hk, rfl, hrel⟩, rfl⟩ := hrel
        have HK := Lib.hid hrel
        clear hrel
        by_cases hlt : k < l1
        · obtain rfl := hp (by omega)
          have c0 := HX.out.cell k hlt
          have hkc : k ≤ c1 := by omega
          have hkc2 : (k : Int) ≤ (c1 : Int) := by omega
          have C := Lib.hid (contains_cells (some ⟨b1, o1, none⟩) b1 o1 c1 k xs (xs.getD k 0) wr (fun _ => rfl) (fun j hj => HX.out.cell j (by omega)) (by omega))
          obtain ⟨x, ex⟩ : ∃ x, x = xs.getD k 0 := ⟨_, rfl⟩
          rw [← ex] at c0 C
          have HE := Lib.hid ex
          have bad : ¬ (0 ≤ x ∧ x < vs) → R = false := fun h => by
            rw [HR.out]
            refine decide_eq_false fun hv => h ?_
            have := (hv k hlt).1
            rw [← HE.out] at this
            exact this
          have HBD := Lib.hid bad
          clear ex bad
          by_cases h1 : x < 0
          · have key : R = false := HBD.out (by omega)
            subst key
            have d1 : decide (x < (0 : Int)) = true := decide_eq_true h1
            go_wp2_with fail
            go_ret
            exact ⟨rfl, HB.out⟩
          · have d1 : decide (x < (0 : Int)) = false := decide_eq_false h1
            by_cases h2 : vs ≤ x
            · have key : R = false := HBD.out (by omega)
              subst key
              have d2 : decide (vs ≤ x) = true := decide_eq_true h2
              go_wp2_with fail
              go_ret
              exact ⟨rfl, HB.out⟩
            · have d2 : decide (vs ≤ x) = false := decide_eq_false h2
              cases hh : hasB xs k x
              · rw [hh] at C
                have NX := Lib.hid (vars_next HK.out HE.out (by omega) (by omega) hh)
                clear hh
                go_wp2_with fail
                refine C.out.mono ?_
                rintro e w3 ⟨rfl, rfl⟩
                go_wp2_with fail
                go_roundw
                case rel => exact ⟨⟨k + 1, by omega, by go_num, NX.out⟩, trivial⟩
                case measure => simp [intOf]; omega
              · rw [hh] at C
                have key : R = false := by
                  rw [HR.out]
                  obtain ⟨j, j1, j2⟩ := has_true hh
                  refine decide_eq_false fun hv => ?_
                  have := (hv k hlt).2 j j1
                  rw [← HE.out] at this
                  exact this j2
                subst key
                clear hh
                go_wp2_with fail
                refine C.out.mono ?_
                rintro e w3 ⟨rfl, rfl⟩
                go_wp2_with fail
                go_ret
                exact ⟨rfl, HB.out⟩
        · obtain rfl : k = l1 := by omega
          have key : R = true := by rw [HR.out]; exact decide_eq_true HK.out
          subst key
          go_wp2_with fail
          go_ret
          exact ⟨rfl, HB.out⟩
    · rw [decide_eq_false g2, Bool.false_and] at hR2
      have e2 : decide (mo < (l1 : Int)) = true := decide_eq_true (by omega)
      subst hR2
      go_enter Tryz.func38, Tryz.ntmps38
      go_upto_region 1 with fail
      rw [← HW.out]
      go_wp2_with fail
      go_ret
      exact ⟨rfl, HB.out⟩
  · rw [decide_eq_false g1, Bool.false_and] at hR2
    have e1 : decide ((l1 : Int) < la) = true := decide_eq_true (by omega)
    subst hR2
    go_enter Tryz.func38, Tryz.ntmps38
    go_upto_region 1 with fail
    rw [← HW.out]
    go_wp2_with fail
    go_ret
    exact ⟨rfl, HB.out⟩
end Go.Proofs.YtkgieaoahijheaaGreatDoor
namespace Go.Proofs.YtkgieaoahijheaaGreatDoor
open Go.RowKit
set_option maxRecDepth 100000

def linR (b : Int) (c : PCon) : Bool := decide (1 ≤ (c.vars.length : Int) - b) && (decide ((c.vars.length : Int) - b ≤ 8) && (decide ((c.coefs.length : Int) = (c.vars.length : Int) - b) && (allN c.coefs 1048576 && (decide (0 ≤ c.rel) && (decide (c.rel ≤ 5) && (allN [c.const] 1099511627776 && decide (c.nums.length = 0)))))))
def restR (c : PCon) : Bool := !(decide (0 < c.coefs.length) || (!decide (c.rel = 0) || (!decide (c.const = 0) || (!allN c.nums 1048576 || decide (96 < c.nums.length)))))
def kindR (c : PCon) : Bool :=
  if c.kind = 2 then decide (c.vars.length = 3) && decide (c.nums.length = 0)
  else if c.kind = 4 then decide (c.vars.length = 2) && decide (1 ≤ c.nums.length)
  else if c.kind = 5 then decide (2 ≤ c.vars.length) && (decide (c.vars.length ≤ 8) && decide (c.nums.length = 0))
  else if c.kind = 6 then decide (1 ≤ c.vars.length) && (decide (c.vars.length ≤ 8) && decide (c.nums.length % c.vars.length = 0))
  else false
open Classical in
/-- may a constraint of so many variables be? -/
noncomputable def rightC (c : PCon) (vars : Int) : Bool :=
  decide (VarsTo c.vars vars c.vars.length) &&
    (if c.kind = 1 then c.coefs.all (fun x => !decide (x = 0)) && linR 0 c else if c.kind = 3 then c.coefs.all (fun x => !decide (x = 0)) && linR 1 c else restR c && kindR c)
open Classical in
theorem right_bad {c : PCon} {vars : Int} (h : ¬ VarsTo c.vars vars c.vars.length) : rightC c vars = false := by unfold rightC; rw [decide_eq_false h]; rfl
open Classical in
theorem right_on {c : PCon} {vars : Int} (h : VarsTo c.vars vars c.vars.length) : rightC c vars = (if c.kind = 1 then c.coefs.all (fun x => !decide (x = 0)) && linR 0 c else if c.kind = 3 then c.coefs.all (fun x => !decide (x = 0)) && linR 1 c else restR c && kindR c) := by unfold rightC; rw [decide_eq_true h, Bool.true_and]
theorem nums_one (w : World) (z : Int) (h : Fit z) : Nums (w.alloc (.cells #[.int .i64 z] 3)) (some ⟨w.heap.size, 0, none⟩) w.heap.size 0 1 [z] :=
  ⟨rfl, fun _ => rfl, fun k hk => by
    obtain rfl : k = 0 := by omega
    rw [World.cell?_alloc_mark]
    rfl, fun k hk => by
    obtain rfl : k = 0 := by omega
    exact h⟩
theorem coefs_bad {xs : List Int} {j : Nat} (hj : j < xs.length) (h : xs.getD j 0 = 0) : xs.all (fun x => !decide (x = 0)) = false := by
  cases q : xs.all (fun x => !decide (x = 0))
  · rfl
  · have := List.all_eq_true.1 q (xs.getD j 0) (by rw [List.getD_eq_getElem?_getD, List.getElem?_eq_getElem hj]; exact List.getElem_mem hj)
    rw [h] at this
    simp at this
theorem coefs_good {xs : List Int} (h : ∀ j, j < xs.length → xs.getD j 0 ≠ 0) : xs.all (fun x => !decide (x = 0)) = true := by
  refine List.all_eq_true.2 fun x hx => ?_
  obtain ⟨j, hj, e⟩ := List.getElem_of_mem hx
  have := h j hj
  simp [hj, e] at this
  simp [this]

theorem all_okC : ∀ xs : List Int, xs.all okC = (xs.all (fun x => !decide (x = 0)) && allN xs 1048576)
  | [] => rfl
  | x :: r => by
    have e : allN (x :: r) 1048576 = (inM 1048576 x && allN r 1048576) := rfl
    rw [List.all_cons, List.all_cons, e, all_okC r, okC]
    cases inM 1048576 x <;> cases allN r 1048576 <;> simp
theorem all_one (z m : Int) : allN [z] m = inM m z := by simp [allN, inM]
theorem all_none (m : Int) : allN [] m = true := rfl

/-- as package model does it -/
noncomputable def rightP (c : PCon) (vars : Int) : Bool :=
  if c.kind = 1 then rowB c.vars vars 1 8 && (sumB c.coefs c.vars.length c.rel c.const && decide (c.nums.length = 0))
  else if c.kind = 2 then rowB c.vars vars 3 3 && (noSumB c.rel c.const c.coefs.length && decide (c.nums.length = 0))
  else if c.kind = 3 then rowB c.vars vars 2 9 && (sumB c.coefs ((c.vars.length : Int) - 1) c.rel c.const && decide (c.nums.length = 0))
  else if c.kind = 4 then rowB c.vars vars 2 2 && (noSumB c.rel c.const c.coefs.length && (decide (0 < c.nums.length) && numsB c.nums))
  else if c.kind = 5 then rowB c.vars vars 2 8 && (noSumB c.rel c.const c.coefs.length && decide (c.nums.length = 0))
  else if c.kind = 6 then rowB c.vars vars 1 8 && (noSumB c.rel c.const c.coefs.length && (numsB c.nums && decide (c.nums.length % c.vars.length = 0)))
  else false

theorem lin_is (V A : Bool) (b : Int) (c : PCon) (hA : A = c.coefs.all (fun x => !decide (x = 0))) : (V && (A && linR b c)) = ((decide (1 + b ≤ (c.vars.length : Int)) && (decide ((c.vars.length : Int) ≤ 8 + b) && V)) && (sumB c.coefs ((c.vars.length : Int) - b) c.rel c.const && decide (c.nums.length = 0))) := by
  unfold linR sumB
  rw [all_okC, ← hA, all_one]
  have e1 : decide (1 ≤ (c.vars.length : Int) - b) = decide (1 + b ≤ (c.vars.length : Int)) := decide_eq_decide.2 (by omega)
  have e2 : decide ((c.vars.length : Int) - b ≤ 8) = decide ((c.vars.length : Int) ≤ 8 + b) := decide_eq_decide.2 (by omega)
  rw [e1, e2]
  generalize decide (1 + b ≤ (c.vars.length : Int)) = x1
  generalize decide ((c.vars.length : Int) ≤ 8 + b) = x2
  generalize decide ((c.coefs.length : Int) = (c.vars.length : Int) - b) = x3
  generalize allN c.coefs 1048576 = x4
  generalize decide (0 ≤ c.rel) = x5
  generalize decide (c.rel ≤ 5) = x6
  generalize inM 1099511627776 c.const = x7
  generalize decide (c.nums.length = 0) = x8
  cases V <;> cases A <;> cases x1 <;> cases x2 <;> cases x3 <;> cases x4 <;> cases x5 <;> cases x6 <;> cases x7 <;> cases x8 <;> rfl

theorem rest_is (c : PCon) : restR c = (noSumB c.rel c.const c.coefs.length && numsB c.nums) := by
  unfold restR noSumB numsB
  have e1 : decide (0 < c.coefs.length) = !decide (c.coefs.length = 0) := by
    by_cases h : c.coefs.length = 0
    · rw [decide_eq_true h, decide_eq_false (by omega)]; rfl
    · rw [decide_eq_false h, decide_eq_true (by omega)]; rfl
  have e2 : decide (96 < c.nums.length) = !decide (c.nums.length ≤ 96) := by
    by_cases h : c.nums.length ≤ 96
    · rw [decide_eq_true h, decide_eq_false (by omega)]; rfl
    · rw [decide_eq_false h, decide_eq_true (by omega)]; rfl
  rw [e1, e2]
  generalize decide (c.coefs.length = 0) = x1
  generalize decide (c.rel = 0) = x2
  generalize decide (c.const = 0) = x3
  generalize allN c.nums 1048576 = x4
  generalize decide (c.nums.length ≤ 96) = x5
  cases x1 <;> cases x2 <;> cases x3 <;> cases x4 <;> cases x5 <;> rfl
theorem nums_zero {c : PCon} : (numsB c.nums && decide (c.nums.length = 0)) = decide (c.nums.length = 0) := by
  by_cases h : c.nums.length = 0
  · have e : c.nums = [] := List.eq_nil_of_length_eq_zero h
    rw [e]; rfl
  · rw [decide_eq_false h, Bool.and_false]

open Classical in
theorem right_is (c : PCon) (vars : Int) : rightC c vars = rightP c vars := by
  unfold rightC rightP rowB
  obtain ⟨V, hV⟩ : ∃ V, V = decide (VarsTo c.vars vars c.vars.length) := ⟨_, rfl⟩
  rw [← hV]
  by_cases k1 : c.kind = 1
  · rw [if_pos k1, if_pos k1, lin_is V _ 0 c rfl]
    simp
  · rw [if_neg k1, if_neg k1]
    by_cases k3 : c.kind = 3
    · rw [if_pos k3, if_neg (by omega), if_pos k3, lin_is V _ 1 c rfl]
      simp
    · rw [if_neg k3, rest_is]
      unfold kindR
      by_cases k2 : c.kind = 2
      · rw [if_pos k2, if_pos k2]
        have e : decide (c.vars.length = 3) = (decide (3 ≤ (c.vars.length : Int)) && decide ((c.vars.length : Int) ≤ 3)) := by
          rw [Bool.eq_iff_iff]; simp; omega
        rw [e]
        have n := @nums_zero c
        revert n
        generalize decide (3 ≤ (c.vars.length : Int)) = x1
        generalize decide ((c.vars.length : Int) ≤ 3) = x2
        generalize noSumB c.rel c.const c.coefs.length = x3
        generalize numsB c.nums = x4
        generalize decide (c.nums.length = 0) = x5
        cases V <;> cases x1 <;> cases x2 <;> cases x3 <;> cases x4 <;> cases x5 <;> simp
      · rw [if_neg k2, if_neg k2, if_neg k3]
        by_cases k4 : c.kind = 4
        · rw [if_pos k4, if_pos k4]
          have e : decide (c.vars.length = 2) = (decide (2 ≤ (c.vars.length : Int)) && decide ((c.vars.length : Int) ≤ 2)) := by
            rw [Bool.eq_iff_iff]; simp; omega
          have e2 : decide (1 ≤ c.nums.length) = decide (0 < c.nums.length) := decide_eq_decide.2 (by omega)
          rw [e, e2]
          generalize decide (2 ≤ (c.vars.length : Int)) = x1
          generalize decide ((c.vars.length : Int) ≤ 2) = x2
          generalize noSumB c.rel c.const c.coefs.length = x3
          generalize numsB c.nums = x4
          generalize decide (0 < c.nums.length) = x5
          cases V <;> cases x1 <;> cases x2 <;> cases x3 <;> cases x4 <;> cases x5 <;> rfl
        · rw [if_neg k4, if_neg k4]
          by_cases k5 : c.kind = 5
          · rw [if_pos k5, if_pos k5]
            have e : decide (2 ≤ c.vars.length) = decide (2 ≤ (c.vars.length : Int)) := decide_eq_decide.2 (by omega)
            have e2 : decide (c.vars.length ≤ 8) = decide ((c.vars.length : Int) ≤ 8) := decide_eq_decide.2 (by omega)
            rw [e, e2]
            have n := @nums_zero c
            revert n
            generalize decide (2 ≤ (c.vars.length : Int)) = x1
            generalize decide ((c.vars.length : Int) ≤ 8) = x2
            generalize noSumB c.rel c.const c.coefs.length = x3
            generalize numsB c.nums = x4
            generalize decide (c.nums.length = 0) = x5
            cases V <;> cases x1 <;> cases x2 <;> cases x3 <;> cases x4 <;> cases x5 <;> simp
          · rw [if_neg k5, if_neg k5]
            by_cases k6 : c.kind = 6
            · rw [if_pos k6, if_pos k6]
              have e : decide (1 ≤ c.vars.length) = decide (1 ≤ (c.vars.length : Int)) := decide_eq_decide.2 (by omega)
              have e2 : decide (c.vars.length ≤ 8) = decide ((c.vars.length : Int) ≤ 8) := decide_eq_decide.2 (by omega)
              rw [e, e2]
              generalize decide (1 ≤ (c.vars.length : Int)) = x1
              generalize decide ((c.vars.length : Int) ≤ 8) = x2
              generalize noSumB c.rel c.const c.coefs.length = x3
              generalize numsB c.nums = x4
              generalize decide (c.nums.length % c.vars.length = 0) = x5
              cases V <;> cases x1 <;> cases x2 <;> cases x3 <;> cases x4 <;> cases x5 <;> rfl
            · rw [if_neg k6, if_neg k6, Bool.and_false, Bool.and_false]
end Go.Proofs.YtkgieaoahijheaaGreatDoor
