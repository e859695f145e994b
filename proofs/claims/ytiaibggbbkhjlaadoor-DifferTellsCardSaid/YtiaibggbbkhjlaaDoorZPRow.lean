/-
  What row and sum of package model answer, at every constraint that can be read.
-/
import Derived.Test.YtiaibggbbkhjlaaDoorZPCon
namespace Go.Proofs.YtiaibggbbkhjlaaDoor
open Go.RowKit
set_option maxRecDepth 100000

def okC (x : Int) : Bool := !decide (x = 0) && inM 1048576 x
def sumB (xs : List Int) (terms rl ct : Int) : Bool := decide ((xs.length : Int) = terms) && (decide (0 ≤ rl) && (decide (rl ≤ 5) && (inM 1099511627776 ct && xs.all okC)))
theorem nums_get {w : World} {p : Option Addr} {b off len : Nat} {xs : List Int} (h : Nums w p b off len xs) {k : Nat} (hk : k < len) : xs[k]? = some (xs.getD k 0) := by
  have hx : k < xs.length := by rw [← h.long]; exact hk
  simp [hx]

set_option maxRecDepth 100000 in
set_option maxHeartbeats 1000000 in
theorem psum_any (kd rl ct tm : Int) (p1 p2 p3 : Option Addr) (l1 c1 b2 o2 l2 c2 l3 c3 : Nat) (xs : List Int) (w : World) (hx : SliceOf rNum 1 w p2 b2 o2 l2 xs) (hmo : l2 ≤ 1000000) :
    Calls Tryd.prog 49 #[.agg #[.int .i64 kd, .slice p1 l1 c1, .slice p2 l2 c2, .int .i64 rl, .int .i64 ct, .slice p3 l3 c3], .int .i64 tm] w fun e w' => e = .returned (.bool (sumB xs tm rl ct)) ∧ Below w.heap.size w w' := by
  obtain ⟨W0, hW0⟩ : ∃ W0, W0 = w.alloc (.cells #[.int .i64 kd, .slice p1 l1 c1, .slice p2 l2 c2, .int .i64 rl, .int .i64 ct, .slice p3 l3 c3] 24) := ⟨_, rfl⟩
  have hB0 : Below w.heap.size w W0 := by rw [hW0]; exact (Below.refl _ w).alloc (Nat.le_refl _) _
  have m2 : W0.cell? ⟨w.heap.size, 2, none⟩ = some (.slice p2 l2 c2) := by rw [hW0]; go_simp
  have m3 : W0.cell? ⟨w.heap.size, 3, none⟩ = some (.int .i64 rl) := by rw [hW0]; go_simp
  have m4 : W0.cell? ⟨w.heap.size, 4, none⟩ = some (.int .i64 ct) := by rw [hW0]; go_simp
  have HX := Lib.hid (nums_of (hx.below rNum_stays hB0))
  have HB := Lib.hid hB0
  have HW := Lib.hid hW0
  have hp := hx.at_
  have hl := hx.long
  obtain ⟨R, hR⟩ : ∃ R, R = sumB xs tm rl ct := ⟨_, rfl⟩
  rw [← hR]
  have hR2 : R = (decide ((l2 : Int) = tm) && (decide (0 ≤ rl) && (decide (rl ≤ 5) && (inM 1099511627776 ct && xs.all okC)))) := by rw [hR, sumB, ← hl]
  have HN := Lib.hid hl
  have CW := Lib.hid (within_any ct 1099511627776 W0 (by omega) (by omega))
  clear hR hx hl hB0 hW0
  by_cases g1 : (l2 : Int) = tm
  · rw [decide_eq_true g1, Bool.true_and] at hR2
    subst g1
    by_cases g2 : 0 ≤ rl
    · rw [decide_eq_true g2, Bool.true_and] at hR2
      have e2 : decide (rl < 0) = false := decide_eq_false (by omega)
      by_cases g3 : rl ≤ 5
      · rw [decide_eq_true g3, Bool.true_and] at hR2
        have e3 : decide ((5 : Int) < rl) = false := decide_eq_false (by omega)
        cases g4 : inM 1099511627776 ct
        · rw [g4] at CW hR2
          rw [Bool.false_and] at hR2
          subst hR2
          clear g4
          go_enter Tryd.func49, Tryd.ntmps49
          go_upto_region 1 with fail
          rw [← HW.out]
          go_wp2_with fail
          refine CW.out.mono ?_
          rintro e w2 ⟨rfl, rfl⟩
          go_wp2_with fail
          go_ret
          exact ⟨rfl, HB.out⟩
        · rw [g4] at CW hR2
          rw [Bool.true_and] at hR2
          have HR := Lib.hid hR2
          have HS := Lib.hid (show R = (xs.drop 0).all okC by rw [hR2]; simp)
          clear g4 hR2
          go_enter Tryd.func49, Tryd.ntmps49
          go_upto_region 1 with fail
          rw [← HW.out]
          go_wp2_with fail
          refine CW.out.mono ?_
          rintro e w2 ⟨rfl, rfl⟩
          go_wp2_with fail
          go_loopw [31] (fun i wr => (∃ k : Nat, k ≤ l2 ∧ i = .int .i64 k ∧ R = (xs.drop k).all okC) ∧ wr = w2) (fun i _ => l2 - (intOf i).toNat)
          case atStart => exact ⟨⟨0, by omega, rfl, HS.out⟩, rfl⟩
          case round =>
            obtain ⟨⟨k, hk, rfl, hrel⟩, rfl⟩ := hrel
            by_cases hlt : k < l2
            · obtain rfl := hp (by omega)
              have c0 := HX.out.cell k hlt
              have hstep := hrel.trans (all_at okC (nums_get HX.out hlt))
              obtain ⟨x, ex⟩ : ∃ x, x = xs.getD k 0 := ⟨_, rfl⟩
              rw [← ex] at c0 hstep
              have C := Lib.hid (within_any x 1048576 wr (by omega) (by omega))
              have hok : okC x = (!decide (x = 0) && inM 1048576 x) := rfl
              clear hrel ex
              by_cases h0 : x = 0
              · rw [decide_eq_true h0] at hok
                rw [hok] at hstep
                have key : R = false := hstep
                subst key
                have e0 : (x == 0) = true := beq_iff_eq.2 h0
                clear h0 hok hstep
                go_wp2_with fail
                go_ret
                exact ⟨rfl, HB.out⟩
              · rw [decide_eq_false h0] at hok
                have e0 : (x == 0) = false := beq_eq_false_iff_ne.2 h0
                cases hi : inM 1048576 x
                · rw [hi] at C hok
                  rw [hok] at hstep
                  have key : R = false := hstep
                  subst key
                  clear hi hok hstep
                  go_wp2_with fail
                  refine C.out.mono ?_
                  rintro e w3 ⟨rfl, rfl⟩
                  go_wp2_with fail
                  go_ret
                  exact ⟨rfl, HB.out⟩
                · rw [hi] at C hok
                  rw [hok] at hstep
                  have NX := Lib.hid (show R = (xs.drop (k + 1)).all okC from hstep)
                  clear hi hok hstep
                  go_wp2_with fail
                  refine C.out.mono ?_
                  rintro e w3 ⟨rfl, rfl⟩
                  go_wp2_with fail
                  go_roundw
                  case rel => exact ⟨⟨k + 1, by omega, by go_num, NX.out⟩, trivial⟩
                  case measure => simp [intOf]; omega
            · have key : R = true := hrel.trans (all_done okC (by rw [← HN.out]; omega))
              subst key
              clear hrel
              go_wp2_with fail
              go_ret
              exact ⟨rfl, HB.out⟩
      · rw [decide_eq_false g3, Bool.false_and] at hR2
        have e3 : decide ((5 : Int) < rl) = true := decide_eq_true (by omega)
        subst hR2
        go_enter Tryd.func49, Tryd.ntmps49
        go_upto_region 1 with fail
        rw [← HW.out]
        go_wp2_with fail
        go_ret
        exact ⟨rfl, HB.out⟩
    · rw [decide_eq_false g2, Bool.false_and] at hR2
      have e2 : decide (rl < 0) = true := decide_eq_true (by omega)
      subst hR2
      go_enter Tryd.func49, Tryd.ntmps49
      go_upto_region 1 with fail
      rw [← HW.out]
      go_wp2_with fail
      go_ret
      exact ⟨rfl, HB.out⟩
  · rw [decide_eq_false g1, Bool.false_and] at hR2
    have e1 : ((l2 : Int) == tm) = false := beq_eq_false_iff_ne.2 g1
    subst hR2
    go_enter Tryd.func49, Tryd.ntmps49
    go_upto_region 1 with fail
    rw [← HW.out]
    go_wp2_with fail
    go_ret
    exact ⟨rfl, HB.out⟩

/-- are the first k numbers of variables, none twice? -/
def VarsTo (xs : List Int) (vars : Int) (k : Nat) : Prop := ∀ i, i < k → (0 ≤ xs.getD i 0 ∧ xs.getD i 0 < vars) ∧ ∀ j, j < i → xs.getD j 0 ≠ xs.getD i 0
theorem vars_next {xs : List Int} {vars : Int} {k : Nat} {x : Int} (h : VarsTo xs vars k) (ex : x = xs.getD k 0) (h0 : 0 ≤ x) (h1 : x < vars) (h2 : hasB xs k x = false) : VarsTo xs vars (k + 1) := fun i hi => by
  by_cases hik : i < k
  · exact h i hik
  · obtain rfl : i = k := by omega
    rw [← ex]
    exact ⟨⟨h0, h1⟩, has_false h2⟩
open Classical in
noncomputable def rowB (xs : List Int) (vars least most : Int) : Bool := decide (least ≤ (xs.length : Int)) && (decide ((xs.length : Int) ≤ most) && decide (VarsTo xs vars xs.length))

open Classical in
set_option maxRecDepth 100000 in
set_option maxHeartbeats 1000000 in
theorem prow_any (kd rl ct vs la mo : Int) (p1 p2 p3 : Option Addr) (b1 o1 l1 c1 l2 c2 l3 c3 : Nat) (xs : List Int) (w : World) (hx : SliceOf rNum 1 w p1 b1 o1 l1 xs) (hcap : l1 ≤ c1) (hmo : l1 ≤ 1000000) :
    Calls Tryd.prog 48 #[.agg #[.int .i64 kd, .slice p1 l1 c1, .slice p2 l2 c2, .int .i64 rl, .int .i64 ct, .slice p3 l3 c3], .int .i64 vs, .int .i64 la, .int .i64 mo] w fun e w' => e = .returned (.bool (rowB xs vs la mo)) ∧ Below w.heap.size w w' := by
  obtain ⟨W0, hW0⟩ : ∃ W0, W0 = w.alloc (.cells #[.int .i64 kd, .slice p1 l1 c1, .slice p2 l2 c2, .int .i64 rl, .int .i64 ct, .slice p3 l3 c3] 24) := ⟨_, rfl⟩
  have hB0 : Below w.heap.size w W0 := by rw [hW0]; exact (Below.refl _ w).alloc (Nat.le_refl _) _
  have m1 : W0.cell? ⟨w.heap.size, 1, none⟩ = some (.slice p1 l1 c1) := by rw [hW0]; go_simp
  have HX := Lib.hid (nums_of (hx.below rNum_stays hB0))
  have HB := Lib.hid hB0
  have HW := Lib.hid hW0
  have hp := hx.at_
  have hl := hx.long
  obtain ⟨R, hR⟩ : ∃ R, R = rowB xs vs la mo := ⟨_, rfl⟩
  rw [← hR]
  have hR2 : R = (decide (la ≤ (l1 : Int)) && (decide ((l1 : Int) ≤ mo) && decide (VarsTo xs vs l1))) := by rw [hR, rowB, ← hl]
  have HN := Lib.hid hl
  clear hR hx hl hB0 hW0
  by_cases g1 : la ≤ (l1 : Int)
  · rw [decide_eq_true g1, Bool.true_and] at hR2
    have e1 : decide ((l1 : Int) < la) = false := decide_eq_false (by omega)
    by_cases g2 : (l1 : Int) ≤ mo
    · rw [decide_eq_true g2, Bool.true_and] at hR2
      have e2 : decide (mo < (l1 : Int)) = false := decide_eq_false (by omega)
      have HR := Lib.hid hR2
      have HZ := Lib.hid (show VarsTo xs vs 0 from fun i h => by omega)
      clear hR2
      go_enter Tryd.func48, Tryd.ntmps48
      go_upto_region 1 with fail
      rw [← HW.out]
      go_wp2_with fail
      go_loopw [26] (fun i wr => (∃ k : Nat, k ≤ l1 ∧ i = .int .i64 k ∧ VarsTo xs vs k) ∧ wr = W0) (fun i _ => l1 - (intOf i).toNat)
      case atStart => exact ⟨⟨0, by omega, rfl, HZ.out⟩, rfl⟩
      case round =>
        obtain ⟨⟨k, hk, rfl, hrel⟩, rfl⟩ := hrel
        have HK := Lib.hid hrel
        clear hrel
        by_cases hlt : k < l1
        · obtain rfl := hp (by omega)
          have c0 := HX.out.cell k hlt
          have hkc : k ≤ c1 := by omega
          have hkc2 : (k : Int) ≤ (c1 : Int) := by omega
          have C := Lib.hid (contains_cells (some ⟨b1, o1, none⟩) b1 o1 c1 k xs (xs.getD k 0) wr (fun _ => rfl) (fun j hj => HX.out.cell j (by omega)) (by omega))
          obtain ⟨x, ex⟩ : ∃ x, x = xs.getD k 0 := ⟨_, rfl⟩
          rw [← ex] at c0 C
          have HE := Lib.hid ex
          have bad : ¬ (0 ≤ x ∧ x < vs) → R = false := fun h => by
            rw [HR.out]
            refine decide_eq_false fun hv => h ?_
            have := (hv k hlt).1
            rw [← HE.out] at this
            exact this
          have HBD := Lib.hid bad
          clear ex bad
          by_cases h1 : x < 0
          · have key : R = false := HBD.out (by omega)
            subst key
            have d1 : decide (x < (0 : Int)) = true := decide_eq_true h1
            go_wp2_with fail
            go_ret
            exact ⟨rfl, HB.out⟩
          · have d1 : decide (x < (0 : Int)) = false := decide_eq_false h1
            by_cases h2 : vs ≤ x
            · have key : R = false := HBD.out (by omega)
              subst key
              have d2 : decide (vs ≤ x) = true := decide_eq_true h2
              go_wp2_with fail
              go_ret
              exact ⟨rfl, HB.out⟩
            · have d2 : decide (vs ≤ x) = false := decide_eq_false h2
              cases hh : hasB xs k x
              · rw [hh] at C
                have NX := Lib.hid (vars_next HK.out HE.out (by omega) (by omega) hh)
                clear hh
                go_wp2_with fail
                refine C.out.mono ?_
                rintro e w3 ⟨rfl, rfl⟩
                go_wp2_with fail
                go_roundw
                case rel => exact ⟨⟨k + 1, by omega, by go_num, NX.out⟩, trivial⟩
                case measure => simp [intOf]; omega
              · rw [hh] at C
                have key : R = false := by
                  rw [HR.out]
                  obtain ⟨j, j1, j2⟩ := has_true hh
                  refine decide_eq_false fun hv => ?_
                  have := (hv k hlt).2 j j1
                  rw [← HE.out] at this
                  exact this j2
                subst key
                clear hh
                go_wp2_with fail
                refine C.out.mono ?_
                rintro e w3 ⟨rfl, rfl⟩
                go_wp2_with fail
                go_ret
                exact ⟨rfl, HB.out⟩
        · obtain rfl : k = l1 := by omega
          have key : R = true := by rw [HR.out]; exact decide_eq_true HK.out
          subst key
          go_wp2_with fail
          go_ret
          exact ⟨rfl, HB.out⟩
    · rw [decide_eq_false g2, Bool.false_and] at hR2
      have e2 : decide (mo < (l1 : Int)) = true := decide_eq_true (by omega)
      subst hR2
      go_enter Tryd.func48, Tryd.ntmps48
      go_upto_region 1 with fail
      rw [← HW.out]
      go_wp2_with fail
      go_ret
      exact ⟨rfl, HB.out⟩
  · rw [decide_eq_false g1, Bool.false_and] at hR2
    have e1 : decide ((l1 : Int) < la) = true := decide_eq_true (by omega)
    subst hR2
    go_enter Tryd.func48, Tryd.ntmps48
    go_upto_region 1 with fail
    rw [← HW.out]
    go_wp2_with fail
    go_ret
    exact ⟨rfl, HB.out⟩
end Go.Proofs.YtiaibggbbkhjlaaDoor
