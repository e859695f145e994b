/-
  What Right of the document's answers for models answers, at every constraint that can be read.
-/
import Derived.Test.YtiaibggbbkhjlaaDoorZRNum
namespace Go.Proofs.YtiaibggbbkhjlaaDoor
open Go.RowKit
set_option maxRecDepth 100000

theorem eqInt (a b : Int) (W : World) : Sem.run Tryd.prog (binOp .eql 3 (.int .i64 a) (.int .i64 b)) W = .ok (.bool (a == b)) W := by go_simp

set_option maxRecDepth 100000 in
set_option maxHeartbeats 4000000 in
theorem rr_cells (p1 p2 p3 : Option Addr) (b1 o1 c1 l1 b2 o2 c2 l2 b3 o3 c3 l3 : Nat) (c : PCon) (vars : Int) (w : World) (h1 : SliceOf rNum 1 w p1 b1 o1 l1 c.vars) (h2 : SliceOf rNum 1 w p2 b2 o2 l2 c.coefs) (h3 : SliceOf rNum 1 w p3 b3 o3 l3 c.nums)
    (hl1 : l1 ≤ 1000) (hl2 : l2 ≤ 1000) (hl3 : l3 ≤ 1000) (_hv : Fit vars) (hk : Fit c.kind) (hr : Fit c.rel) (hc : Fit c.const) :
    Calls Tryd.prog 36 #[.agg #[.int .i64 c.kind, .slice p1 l1 c1, .slice p2 l2 c2, .int .i64 c.rel, .int .i64 c.const, .slice p3 l3 c3], .int .i64 vars] w fun e w' => e = .returned (.bool (rightC c vars)) ∧ Below w.heap.size w w' := by
  obtain ⟨R, hR⟩ : ∃ R, R = rightC c vars := ⟨_, rfl⟩
  rw [← hR]
  have HR := Lib.hid hR
  obtain ⟨W0, hW0⟩ : ∃ W0, W0 = w.alloc (.cells #[.int .i64 c.kind, .slice p1 l1 c1, .slice p2 l2 c2, .int .i64 c.rel, .int .i64 c.const, .slice p3 l3 c3] 24) := ⟨_, rfl⟩
  have hB0 : Below w.heap.size w W0 := by rw [hW0]; exact (Below.refl _ w).alloc (Nat.le_refl _) _
  have m0 : W0.cell? ⟨w.heap.size, 0, none⟩ = some (.int .i64 c.kind) := by rw [hW0]; go_simp
  have m1 : W0.cell? ⟨w.heap.size, 1, none⟩ = some (.slice p1 l1 c1) := by rw [hW0]; go_simp
  have m2 : W0.cell? ⟨w.heap.size, 2, none⟩ = some (.slice p2 l2 c2) := by rw [hW0]; go_simp
  have m3 : W0.cell? ⟨w.heap.size, 3, none⟩ = some (.int .i64 c.rel) := by rw [hW0]; go_simp
  have m4 : W0.cell? ⟨w.heap.size, 4, none⟩ = some (.int .i64 c.const) := by rw [hW0]; go_simp
  have m5 : W0.cell? ⟨w.heap.size, 5, none⟩ = some (.slice p3 l3 c3) := by rw [hW0]; go_simp
  have HW := Lib.hid hW0
  have HB0 := Lib.hid hB0
  have N1 := Lib.hid (nums_of (h1.below rNum_stays hB0))
  have N2 := Lib.hid (nums_of (h2.below rNum_stays hB0))
  have N3 := Lib.hid (nums_of (h3.below rNum_stays hB0))
  have q1 := h1.at_
  have HV := Lib.hid (show VarsTo c.vars vars 0 from fun i h => by omega)
  have HFK := Lib.hid hk
  have HFR := Lib.hid hr
  have HFC := Lib.hid hc
  unfold Fit at _hv
  clear hR hW0 hB0 h1 h2 h3 hk hr hc
  go_enter Tryd.func36, Tryd.ntmps36
  go_upto_region 1 with fail
  rw [← HW.out]
  go_wp2_with fail
  go_loopw [6] (fun i wr => (∃ k : Nat, k ≤ l1 ∧ i = .int .i64 k ∧ VarsTo c.vars vars k) ∧ ∃ n, wr = W0.drewN n) (fun i _ => l1 - (intOf i).toNat)
  case atStart => exact ⟨⟨0, by omega, rfl, HV.out⟩, 0, rfl⟩
  case round =>
    obtain ⟨⟨k, hk, rfl, hrel⟩, n, rfl⟩ := hrel
    have HK := Lib.hid hrel
    clear hrel
    by_cases hlt : k < l1
    · obtain rfl := q1 (by omega)
      have a0 := N1.out.cell k hlt
      have hfx := N1.out.fit k hlt
      obtain ⟨x, ex⟩ : ∃ x, x = c.vars.getD k 0 := ⟨_, rfl⟩
      rw [← ex] at a0 hfx
      unfold Fit at hfx
      have HE := Lib.hid ex
      clear ex
      have bad : ¬ (0 ≤ x ∧ x < vars) → R = false := fun h => by
        rw [HR.out]
        refine right_bad fun hv => h ?_
        have := (hv k (by rw [← N1.out.long]; exact hlt)).1
        rw [← HE.out] at this
        exact this
      have HBD := Lib.hid bad
      clear bad
      by_cases g1 : x < 0
      · have key : R = false := HBD.out (by omega)
        subst key
        have d1 : decide (x < (0 : Int)) = true := decide_eq_true g1
        go_wp2_with fail
        go_ret
        exact ⟨rfl, below_drewN HB0.out⟩
      · have d1 : decide (x < (0 : Int)) = false := decide_eq_false g1
        by_cases g2 : vars ≤ x
        · have key : R = false := HBD.out (by omega)
          subst key
          have d2 : decide (vars ≤ x) = true := decide_eq_true g2
          go_wp2_with fail
          go_ret
          exact ⟨rfl, below_drewN HB0.out⟩
        · have d2 : decide (vars ≤ x) = false := decide_eq_false g2
          have HJ := Lib.hid (show ∀ j, j < 0 → c.vars.getD j 0 ≠ x from fun j h => by omega)
          go_wp2_with fail
          go_loopw [7] (fun i wr => (∃ j : Nat, j ≤ k ∧ i = .int .i64 j ∧ ∀ j', j' < j → c.vars.getD j' 0 ≠ x) ∧ ∃ n, wr = W0.drewN n) (fun i _ => k - (intOf i).toNat)
          case atStart => exact ⟨⟨0, by omega, rfl, HJ.out⟩, n, rfl⟩
          case round =>
            obtain ⟨⟨j, hj, rfl, hrel⟩, n2, rfl⟩ := hrel
            have HJ2 := Lib.hid hrel
            clear hrel
            by_cases hlj : j < k
            · have e0 := N1.out.cell j (by omega)
              obtain ⟨y, ey⟩ : ∃ y, y = c.vars.getD j 0 := ⟨_, rfl⟩
              rw [← ey] at e0
              by_cases hxy : y = x
              · have key : R = false := by
                  rw [HR.out]
                  refine right_bad fun hv => ?_
                  have := (hv k (by rw [← N1.out.long]; exact hlt)).2 j hlj
                  rw [← HE.out, ← ey] at this
                  exact this hxy
                subst key
                have exy : (y == x) = true := beq_iff_eq.2 hxy
                clear hxy ey
                go_wp2
                go_quiet (fail)
                go_wp2_with fail
                all_goals try (exfalso; have e96 := beq_iff_eq.1 exy; omega)
                go_ret
                exact ⟨rfl, below_drewN (below_drewN HB0.out)⟩
              · have exy : (y == x) = false := beq_eq_false_iff_ne.2 hxy
                have NX := Lib.hid (show ∀ j', j' < j + 1 → c.vars.getD j' 0 ≠ x from fun j' hj' => by
                  by_cases h : j' < j
                  · exact HJ2.out j' h
                  · obtain rfl : j' = j := by omega
                    rw [← ey]; exact hxy)
                clear ey
                go_wp2
                go_quiet (fail)
                go_wp2_with fail
                go_roundw
                case rel => exact ⟨⟨j + 1, by omega, by go_num, NX.out⟩, _, rfl⟩
                case measure => simp [intOf]; omega
            · obtain rfl : j = k := by omega
              have NX := Lib.hid (show VarsTo c.vars vars (j + 1) from fun i hi => by
                by_cases h : i < j
                · exact HK.out i h
                · obtain rfl : i = j := by omega
                  rw [← HE.out]
                  exact ⟨by omega, HJ2.out⟩)
              go_wp2_with fail
              go_roundw
              case rel => exact ⟨⟨j + 1, by omega, by go_num, NX.out⟩, _, rfl⟩
              case measure => simp [intOf]; omega
    · obtain rfl : k = l1 := by omega
      have hon := HR.out.trans (right_on (by rw [← N1.out.long]; exact HK.out))
      obtain ⟨rl, erl⟩ : ∃ rl, rl = c.rel := ⟨_, rfl⟩
      obtain ⟨ct, ect⟩ : ∃ ct, ct = c.const := ⟨_, rfl⟩
      obtain ⟨kd, ekd⟩ : ∃ kd, kd = c.kind := ⟨_, rfl⟩
      rw [← erl] at m3
      rw [← ect] at m4
      rw [← ekd] at m0 hon
      have HEKD := Lib.hid ekd
      have HERL := Lib.hid erl
      have HECT := Lib.hid ect
      skip
      have hfr := HFR.out
      have hfc := HFC.out
      have hfk := HFK.out
      rw [← erl] at hfr
      rw [← ect] at hfc
      rw [← ekd] at hfk
      unfold Fit at hfr hfk
      obtain ⟨a1, ea1⟩ : ∃ a1, a1 = allN c.coefs 1048576 := ⟨_, rfl⟩
      obtain ⟨a2, ea2⟩ : ∃ a2, a2 = allN [c.const] 1099511627776 := ⟨_, rfl⟩
      obtain ⟨a3, ea3⟩ : ∃ a3, a3 = allN c.nums 1048576 := ⟨_, rfl⟩
      have hn2 := N2.out.at_
      have q2 := N2.out.at_
      have CA : Hid (∀ m, Calls Tryd.prog 47 #[.slice p2 l2 c2, .int .i64 1048576] (W0.drewN m) fun e w' => e = .returned (.bool a1) ∧ w' = W0.drewN m) := Lib.hid (fun m => by rw [ea1]; exact all_cells p2 b2 o2 c2 l2 c.coefs 1048576 _ (N2.out.drewN m) (by omega) (by omega) (by omega))
      have CB : Hid (Calls Tryd.prog 47 #[.slice (some ⟨W0.heap.size, 0, none⟩) 1 1, .int .i64 1099511627776] ((W0.drewN n).alloc (.cells #[.int .i64 ct] 3)) fun e w' => e = .returned (.bool a2) ∧ w' = (W0.drewN n).alloc (.cells #[.int .i64 ct] 3)) := Lib.hid (by
        rw [ea2, ← ect]
        exact all_cells _ _ _ _ 1 [ct] 1099511627776 _ (nums_one (W0.drewN n) ct hfc) (by omega) (by omega) (by omega))
      have m5a : ((W0.drewN n).alloc (.cells #[.int .i64 ct] 3)).cell? ⟨w.heap.size, 5, none⟩ = some (.slice p3 l3 c3) := cell_stays (show Below (W0.drewN n).heap.size (W0.drewN n) ((W0.drewN n).alloc (.cells #[.int .i64 ct] 3)) from (Below.refl _ _).alloc (Nat.le_refl _) _) m5
      have CC : Hid (∀ m, Calls Tryd.prog 47 #[.slice p3 l3 c3, .int .i64 1048576] (W0.drewN m) fun e w' => e = .returned (.bool a3) ∧ w' = W0.drewN m) := Lib.hid (fun m => by rw [ea3]; exact all_cells p3 b3 o3 c3 l3 c.nums 1048576 _ (N3.out.drewN m) (by omega) (by omega) (by omega))
      have HEA1 := Lib.hid ea1
      have HEA2 := Lib.hid ea2
      have HEA3 := Lib.hid ea3
      clear hn2 ea1 ea2 ea3 erl ect ekd hk hlt
      by_cases k1 : kd = 1
      · subst k1
        rw [if_pos rfl] at hon
        have hlin : linR 0 c = (decide (1 ≤ (k : Int)) && (decide ((k : Int) ≤ 8) && (decide ((l2 : Int) = (k : Int)) && (a1 && (decide (0 ≤ rl) && (decide (rl ≤ 5) && (a2 && decide (l3 = 0)))))))) := by
          rw [HEA1.out, HEA2.out, HERL.out, linR, ← N1.out.long, ← N2.out.long, ← N3.out.long]
          try simp
        go_wp2_with fail
        go_loopw [9] (fun i wr => (∃ j : Nat, j ≤ l2 ∧ i = .int .i64 j ∧ ∀ j', j' < j → c.coefs.getD j' 0 ≠ 0) ∧ wr = W0.drewN n) (fun i _ => l2 - (intOf i).toNat)
        case atStart => exact ⟨⟨0, by omega, rfl, fun j h => by omega⟩, rfl⟩
        case round =>
          obtain ⟨⟨j, hj, rfl, hrel⟩, rfl⟩ := hrel
          have HJ := Lib.hid hrel
          clear hrel
          by_cases hlj : j < l2
          · obtain rfl := q2 (by omega)
            have e0 := N2.out.cell j hlj
            obtain ⟨y, ey⟩ : ∃ y, y = c.coefs.getD j 0 := ⟨_, rfl⟩
            rw [← ey] at e0
            by_cases hy : y = 0
            · have key : R = false := by rw [hon, coefs_bad (by rw [← N2.out.long]; exact hlj) (by rw [← ey]; exact hy)]; rfl
              subst key
              have exy : (y == 0) = true := beq_iff_eq.2 hy
              clear hy ey hon hlin
              go_wp2_with fail
              go_ret
              exact ⟨rfl, below_drewN HB0.out⟩
            · have exy : (y == 0) = false := beq_eq_false_iff_ne.2 hy
              have NX := Lib.hid (show ∀ j', j' < j + 1 → c.coefs.getD j' 0 ≠ 0 from fun j' hj' => by
                by_cases h : j' < j
                · exact HJ.out j' h
                · obtain rfl : j' = j := by omega
                  rw [← ey]; exact hy)
              clear ey
              go_wp2_with fail
              go_roundw
              case rel => exact ⟨⟨j + 1, by omega, by go_num, NX.out⟩, trivial⟩
              case measure => simp [intOf]; omega
          · obtain rfl : j = l2 := by omega
            rw [coefs_good (fun j' h => HJ.out j' (by rw [N2.out.long]; exact h)), Bool.true_and] at hon
            go_upto_region 19 with fail
            by_cases t1 : 1 ≤ (k : Int)
            · rw [decide_eq_true t1, Bool.true_and] at hlin
              have d1 : decide (1 ≤ (k : Int)) = true := decide_eq_true t1
              by_cases t2 : (k : Int) ≤ 8
              · rw [decide_eq_true t2, Bool.true_and] at hlin
                have d2 : decide ((k : Int) ≤ 8) = true := decide_eq_true t2
                by_cases t3 : (j : Int) = (k : Int)
                · rw [decide_eq_true t3, Bool.true_and] at hlin
                  have u3 : (j : Int) ≤ (k : Int) := by omega
                  have v3 : (k : Int) ≤ (j : Int) := by omega
                  clear t3
                  cases a1
                  · rw [Bool.false_and] at hlin
                    rw [hlin] at hon
                    have key : R = false := by rw [hon]; try simp
                    subst key
                    clear hon hlin
                    go_wp2_with fail
                    all_goals try (exfalso; omega)
                    refine (CA.out n).mono ?_
                    rintro e w' ⟨rfl, rfl⟩
                    go_wp2_with fail
                    all_goals try (exfalso; omega)
                    go_ret
                    exact ⟨rfl, below_drewN HB0.out⟩
                  · rw [Bool.true_and] at hlin
                    by_cases t5 : 0 ≤ rl
                    · rw [decide_eq_true t5, Bool.true_and] at hlin
                      have d5 : decide (0 ≤ rl) = true := decide_eq_true t5
                      by_cases t6 : rl ≤ 5
                      · rw [decide_eq_true t6, Bool.true_and] at hlin
                        have d6 : decide (rl ≤ 5) = true := decide_eq_true t6
                        cases a2
                        · rw [Bool.false_and] at hlin
                          rw [hlin] at hon
                          have key : R = false := by rw [hon]; try simp
                          subst key
                          clear hon hlin
                          go_wp2_with fail
                          all_goals try (exfalso; omega)
                          refine (CA.out n).mono ?_
                          rintro e w' ⟨rfl, rfl⟩
                          go_wp2_with fail
                          all_goals try (exfalso; omega)
                          refine (CB.out).mono ?_
                          rintro e w' ⟨rfl, rfl⟩
                          go_wp2_with fail
                          all_goals try (exfalso; omega)
                          go_ret
                          exact ⟨rfl, (below_drewN HB0.out).alloc (by have := HB0.out.size; simpa using this) _⟩
                        · rw [Bool.true_and] at hlin
                          by_cases t8 : l3 = 0
                          · have e8 : ((l3 : Int) == 0) = true := by rw [beq_iff_eq]; omega
                            rw [decide_eq_true t8] at hlin
                            rw [hlin] at hon
                            subst hon
                            clear hlin t8
                            go_wp2_with fail
                            all_goals try (exfalso; omega)
                            refine (CA.out n).mono ?_
                            rintro e w' ⟨rfl, rfl⟩
                            go_wp2_with fail
                            all_goals try (exfalso; omega)
                            refine (CB.out).mono ?_
                            rintro e w' ⟨rfl, rfl⟩
                            go_wp2_with fail
                            all_goals try (exfalso; omega)
                            go_ret
                            exact ⟨rfl, (below_drewN HB0.out).alloc (by have := HB0.out.size; simpa using this) _⟩
                          · have e8 : ((l3 : Int) == 0) = false := beq_eq_false_iff_ne.2 (by omega)
                            rw [decide_eq_false t8] at hlin
                            rw [hlin] at hon
                            subst hon
                            clear hlin t8
                            go_wp2_with fail
                            all_goals try (exfalso; omega)
                            refine (CA.out n).mono ?_
                            rintro e w' ⟨rfl, rfl⟩
                            go_wp2_with fail
                            all_goals try (exfalso; omega)
                            refine (CB.out).mono ?_
                            rintro e w' ⟨rfl, rfl⟩
                            go_wp2_with fail
                            all_goals try (exfalso; omega)
                            go_ret
                            exact ⟨rfl, (below_drewN HB0.out).alloc (by have := HB0.out.size; simpa using this) _⟩
                      · rw [decide_eq_false t6, Bool.false_and] at hlin
                        rw [hlin] at hon
                        have key : R = false := by rw [hon]; try simp
                        subst key
                        clear hon hlin
                        have d6 : decide (rl ≤ 5) = false := decide_eq_false t6
                        go_wp2_with fail
                        all_goals try (exfalso; omega)
                        refine (CA.out n).mono ?_
                        rintro e w' ⟨rfl, rfl⟩
                        go_wp2_with fail
                        all_goals try (exfalso; omega)
                        go_ret
                        exact ⟨rfl, below_drewN HB0.out⟩
                    · rw [decide_eq_false t5, Bool.false_and] at hlin
                      rw [hlin] at hon
                      have key : R = false := by rw [hon]; try simp
                      subst key
                      clear hon hlin
                      have d5 : decide (0 ≤ rl) = false := decide_eq_false t5
                      go_wp2_with fail
                      all_goals try (exfalso; omega)
                      refine (CA.out n).mono ?_
                      rintro e w' ⟨rfl, rfl⟩
                      go_wp2_with fail
                      all_goals try (exfalso; omega)
                      go_ret
                      exact ⟨rfl, below_drewN HB0.out⟩
                · rw [decide_eq_false t3, Bool.false_and] at hlin
                  rw [hlin] at hon
                  have key : R = false := by rw [hon]; try simp
                  subst key
                  clear hon hlin
                  go_wp2_with fail
                  all_goals try (exfalso; omega)
                  go_ret
                  exact ⟨rfl, below_drewN HB0.out⟩
              · rw [decide_eq_false t2, Bool.false_and] at hlin
                rw [hlin] at hon
                have key : R = false := by rw [hon]; try simp
                subst key
                clear hon hlin
                have d2 : decide ((k : Int) ≤ 8) = false := decide_eq_false t2
                go_wp2_with fail
                all_goals try (exfalso; omega)
                go_ret
                exact ⟨rfl, below_drewN HB0.out⟩
            · rw [decide_eq_false t1, Bool.false_and] at hlin
              rw [hlin] at hon
              have key : R = false := by rw [hon]; try simp
              subst key
              clear hon hlin
              have d1 : decide (1 ≤ (k : Int)) = false := decide_eq_false t1
              go_wp2_with fail
              all_goals try (exfalso; omega)
              go_ret
              exact ⟨rfl, below_drewN HB0.out⟩
      · rw [if_neg k1] at hon
        by_cases k3 : kd = 3
        · subst k3
          rw [if_pos rfl] at hon
          have hlin : linR 1 c = (decide (1 ≤ ((k : Int) - 1)) && (decide (((k : Int) - 1) ≤ 8) && (decide ((l2 : Int) = ((k : Int) - 1)) && (a1 && (decide (0 ≤ rl) && (decide (rl ≤ 5) && (a2 && decide (l3 = 0)))))))) := by
            rw [HEA1.out, HEA2.out, HERL.out, linR, ← N1.out.long, ← N2.out.long, ← N3.out.long]
            try simp
          go_wp2_with fail
          go_loopw [9] (fun i wr => (∃ j : Nat, j ≤ l2 ∧ i = .int .i64 j ∧ ∀ j', j' < j → c.coefs.getD j' 0 ≠ 0) ∧ wr = W0.drewN n) (fun i _ => l2 - (intOf i).toNat)
          case atStart => exact ⟨⟨0, by omega, rfl, fun j h => by omega⟩, rfl⟩
          case round =>
            obtain ⟨⟨j, hj, rfl, hrel⟩, rfl⟩ := hrel
            have HJ := Lib.hid hrel
            clear hrel
            by_cases hlj : j < l2
            · obtain rfl := q2 (by omega)
              have e0 := N2.out.cell j hlj
              obtain ⟨y, ey⟩ : ∃ y, y = c.coefs.getD j 0 := ⟨_, rfl⟩
              rw [← ey] at e0
              by_cases hy : y = 0
              · have key : R = false := by rw [hon, coefs_bad (by rw [← N2.out.long]; exact hlj) (by rw [← ey]; exact hy)]; rfl
                subst key
                have exy : (y == 0) = true := beq_iff_eq.2 hy
                clear hy ey hon hlin
                go_wp2_with fail
                go_ret
                exact ⟨rfl, below_drewN HB0.out⟩
              · have exy : (y == 0) = false := beq_eq_false_iff_ne.2 hy
                have NX := Lib.hid (show ∀ j', j' < j + 1 → c.coefs.getD j' 0 ≠ 0 from fun j' hj' => by
                  by_cases h : j' < j
                  · exact HJ.out j' h
                  · obtain rfl : j' = j := by omega
                    rw [← ey]; exact hy)
                clear ey
                go_wp2_with fail
                go_roundw
                case rel => exact ⟨⟨j + 1, by omega, by go_num, NX.out⟩, trivial⟩
                case measure => simp [intOf]; omega
            · obtain rfl : j = l2 := by omega
              rw [coefs_good (fun j' h => HJ.out j' (by rw [N2.out.long]; exact h)), Bool.true_and] at hon
              go_upto_region 19 with fail
              by_cases t1 : 1 ≤ ((k : Int) - 1)
              · rw [decide_eq_true t1, Bool.true_and] at hlin
                have d1 : decide (1 ≤ ((k : Int) - 1)) = true := decide_eq_true t1
                by_cases t2 : ((k : Int) - 1) ≤ 8
                · rw [decide_eq_true t2, Bool.true_and] at hlin
                  have d2 : decide (((k : Int) - 1) ≤ 8) = true := decide_eq_true t2
                  by_cases t3 : (j : Int) = ((k : Int) - 1)
                  · rw [decide_eq_true t3, Bool.true_and] at hlin
                    have u3 : (j : Int) ≤ ((k : Int) - 1) := by omega
                    have v3 : ((k : Int) - 1) ≤ (j : Int) := by omega
                    clear t3
                    cases a1
                    · rw [Bool.false_and] at hlin
                      rw [hlin] at hon
                      have key : R = false := by rw [hon]; try simp
                      subst key
                      clear hon hlin
                      go_wp2_with fail
                      all_goals try (exfalso; omega)
                      refine (CA.out n).mono ?_
                      rintro e w' ⟨rfl, rfl⟩
                      go_wp2_with fail
                      all_goals try (exfalso; omega)
                      go_ret
                      exact ⟨rfl, below_drewN HB0.out⟩
                    · rw [Bool.true_and] at hlin
                      by_cases t5 : 0 ≤ rl
                      · rw [decide_eq_true t5, Bool.true_and] at hlin
                        have d5 : decide (0 ≤ rl) = true := decide_eq_true t5
                        by_cases t6 : rl ≤ 5
                        · rw [decide_eq_true t6, Bool.true_and] at hlin
                          have d6 : decide (rl ≤ 5) = true := decide_eq_true t6
                          cases a2
                          · rw [Bool.false_and] at hlin
                            rw [hlin] at hon
                            have key : R = false := by rw [hon]; try simp
                            subst key
                            clear hon hlin
                            go_wp2_with fail
                            all_goals try (exfalso; omega)
                            refine (CA.out n).mono ?_
                            rintro e w' ⟨rfl, rfl⟩
                            go_wp2_with fail
                            all_goals try (exfalso; omega)
                            refine (CB.out).mono ?_
                            rintro e w' ⟨rfl, rfl⟩
                            go_wp2_with fail
                            all_goals try (exfalso; omega)
                            go_ret
                            exact ⟨rfl, (below_drewN HB0.out).alloc (by have := HB0.out.size; simpa using this) _⟩
                          · rw [Bool.true_and] at hlin
                            by_cases t8 : l3 = 0
                            · have e8 : ((l3 : Int) == 0) = true := by rw [beq_iff_eq]; omega
                              rw [decide_eq_true t8] at hlin
                              rw [hlin] at hon
                              subst hon
                              clear hlin t8
                              go_wp2_with fail
                              all_goals try (exfalso; omega)
                              refine (CA.out n).mono ?_
                              rintro e w' ⟨rfl, rfl⟩
                              go_wp2_with fail
                              all_goals try (exfalso; omega)
                              refine (CB.out).mono ?_
                              rintro e w' ⟨rfl, rfl⟩
                              go_wp2_with fail
                              all_goals try (exfalso; omega)
                              go_ret
                              exact ⟨rfl, (below_drewN HB0.out).alloc (by have := HB0.out.size; simpa using this) _⟩
                            · have e8 : ((l3 : Int) == 0) = false := beq_eq_false_iff_ne.2 (by omega)
                              rw [decide_eq_false t8] at hlin
                              rw [hlin] at hon
                              subst hon
                              clear hlin t8
                              go_wp2_with fail
                              all_goals try (exfalso; omega)
                              refine (CA.out n).mono ?_
                              rintro e w' ⟨rfl, rfl⟩
                              go_wp2_with fail
                              all_goals try (exfalso; omega)
                              refine (CB.out).mono ?_
                              rintro e w' ⟨rfl, rfl⟩
                              go_wp2_with fail
                              all_goals try (exfalso; omega)
                              go_ret
                              exact ⟨rfl, (below_drewN HB0.out).alloc (by have := HB0.out.size; simpa using this) _⟩
                        · rw [decide_eq_false t6, Bool.false_and] at hlin
                          rw [hlin] at hon
                          have key : R = false := by rw [hon]; try simp
                          subst key
                          clear hon hlin
                          have d6 : decide (rl ≤ 5) = false := decide_eq_false t6
                          go_wp2_with fail
                          all_goals try (exfalso; omega)
                          refine (CA.out n).mono ?_
                          rintro e w' ⟨rfl, rfl⟩
                          go_wp2_with fail
                          all_goals try (exfalso; omega)
                          go_ret
                          exact ⟨rfl, below_drewN HB0.out⟩
                      · rw [decide_eq_false t5, Bool.false_and] at hlin
                        rw [hlin] at hon
                        have key : R = false := by rw [hon]; try simp
                        subst key
                        clear hon hlin
                        have d5 : decide (0 ≤ rl) = false := decide_eq_false t5
                        go_wp2_with fail
                        all_goals try (exfalso; omega)
                        refine (CA.out n).mono ?_
                        rintro e w' ⟨rfl, rfl⟩
                        go_wp2_with fail
                        all_goals try (exfalso; omega)
                        go_ret
                        exact ⟨rfl, below_drewN HB0.out⟩
                  · rw [decide_eq_false t3, Bool.false_and] at hlin
                    rw [hlin] at hon
                    have key : R = false := by rw [hon]; try simp
                    subst key
                    clear hon hlin
                    go_wp2_with fail
                    all_goals try (exfalso; omega)
                    go_ret
                    exact ⟨rfl, below_drewN HB0.out⟩
                · rw [decide_eq_false t2, Bool.false_and] at hlin
                  rw [hlin] at hon
                  have key : R = false := by rw [hon]; try simp
                  subst key
                  clear hon hlin
                  have d2 : decide (((k : Int) - 1) ≤ 8) = false := decide_eq_false t2
                  go_wp2_with fail
                  all_goals try (exfalso; omega)
                  go_ret
                  exact ⟨rfl, below_drewN HB0.out⟩
              · rw [decide_eq_false t1, Bool.false_and] at hlin
                rw [hlin] at hon
                have key : R = false := by rw [hon]; try simp
                subst key
                clear hon hlin
                have d1 : decide (1 ≤ ((k : Int) - 1)) = false := decide_eq_false t1
                go_wp2_with fail
                all_goals try (exfalso; omega)
                go_ret
                exact ⟨rfl, below_drewN HB0.out⟩
        · rw [if_neg k3] at hon
          have n1 : (kd == 1) = false := beq_eq_false_iff_ne.2 k1
          have n3 : (kd == 3) = false := beq_eq_false_iff_ne.2 k3
          go_upto_region 20 with fail
          have hres : restR c = !(decide (0 < l2) || (!decide (rl = 0) || (!decide (ct = 0) || (!a3 || decide (96 < l3))))) := by
            rw [HEA3.out, HERL.out, HECT.out, restR, ← N2.out.long, ← N3.out.long]
          by_cases g1 : 0 < l2
          · have d1 : decide ((0 : Int) < (l2 : Int)) = true := decide_eq_true (by omega)
            rw [decide_eq_true g1, Bool.true_or] at hres
            have key : R = false := by rw [hon, hres]; try simp
            subst key
            clear hon hres
            go_wp2_with fail
            all_goals try (exfalso; omega)
            go_ret
            exact ⟨rfl, below_drewN HB0.out⟩
          · have d1 : decide ((0 : Int) < (l2 : Int)) = false := decide_eq_false (by omega)
            rw [decide_eq_false g1, Bool.false_or] at hres
            by_cases g2 : rl = 0
            · rw [decide_eq_true g2, Bool.not_true, Bool.false_or] at hres
              have e2 : (rl == 0) = true := beq_iff_eq.2 g2
              have u2 : rl ≤ 0 := by omega
              have v2 : 0 ≤ rl := by omega
              clear g2
              by_cases g3 : ct = 0
              · rw [decide_eq_true g3, Bool.not_true, Bool.false_or] at hres
                have e3 : (ct == 0) = true := beq_iff_eq.2 g3
                have u3 : ct ≤ 0 := by omega
                have v3 : 0 ≤ ct := by omega
                clear g3
                cases a3
                · rw [Bool.not_false, Bool.true_or] at hres
                  have key : R = false := by rw [hon, hres]; try simp
                  subst key
                  clear hon hres
                  go_wp2_with fail
                  all_goals try (exfalso; omega)
                  refine (CC.out n).mono ?_
                  rintro e w' ⟨rfl, rfl⟩
                  go_wp2_with fail
                  all_goals try (exfalso; omega)
                  go_ret
                  exact ⟨rfl, below_drewN HB0.out⟩
                · rw [Bool.not_true, Bool.false_or] at hres
                  by_cases g5 : 96 < l3
                  · have d5 : decide ((96 : Int) < (l3 : Int)) = true := decide_eq_true (by omega)
                    rw [decide_eq_true g5] at hres
                    have key : R = false := by rw [hon, hres]; try simp
                    subst key
                    clear hon hres
                    go_wp2_with fail
                    all_goals try (exfalso; omega)
                    refine (CC.out n).mono ?_
                    rintro e w' ⟨rfl, rfl⟩
                    go_wp2_with fail
                    all_goals try (exfalso; omega)
                    go_ret
                    exact ⟨rfl, below_drewN HB0.out⟩
                  · have d5 : decide ((96 : Int) < (l3 : Int)) = false := decide_eq_false (by omega)
                    rw [decide_eq_false g5] at hres
                    rw [show restR c = true from by rw [hres]; rfl, Bool.true_and] at hon
                    have hkk : kindR c = (if kd = 2 then decide (k = 3) && decide (l3 = 0) else if kd = 4 then decide (k = 2) && decide (1 ≤ l3) else if kd = 5 then decide (2 ≤ k) && (decide (k ≤ 8) && decide (l3 = 0)) else if kd = 6 then decide (1 ≤ k) && (decide (k ≤ 8) && decide (l3 % k = 0)) else false) := by
                      rw [kindR, ← HEKD.out, ← N1.out.long, ← N3.out.long]
                    clear hres
                    by_cases k2 : kd = 2
                    · subst k2
                      rw [if_pos rfl] at hkk
                      by_cases t1 : k = 3
                      · have u1 : (k : Int) ≤ 3 := by omega
                        have v1 : 3 ≤ (k : Int) := by omega
                        rw [decide_eq_true t1, Bool.true_and] at hkk
                        have e1 : ((k : Int) == 3) = true := beq_iff_eq.2 (by omega)
                        clear t1
                        by_cases t8 : l3 = 0
                        · have e8 : ((l3 : Int) == 0) = true := beq_iff_eq.2 (by omega)
                          rw [decide_eq_true t8] at hkk
                          clear t8
                          have key : R = true := by rw [hon, hkk]; try simp
                          subst key
                          clear hon hkk
                          go_wp2_with fail
                          all_goals try (exfalso; omega)
                          refine (CC.out n).mono ?_
                          rintro e w' ⟨rfl, rfl⟩
                          go_wp2_with fail
                          all_goals try (exfalso; omega)
                          go_ret
                          exact ⟨rfl, below_drewN HB0.out⟩
                        · have e8 : ((l3 : Int) == 0) = false := beq_eq_false_iff_ne.2 (by omega)
                          rw [decide_eq_false t8] at hkk
                          have key : R = false := by rw [hon, hkk]; try simp
                          subst key
                          clear hon hkk
                          go_wp2_with fail
                          all_goals try (exfalso; omega)
                          refine (CC.out n).mono ?_
                          rintro e w' ⟨rfl, rfl⟩
                          go_wp2_with fail
                          all_goals try (exfalso; omega)
                          go_ret
                          exact ⟨rfl, below_drewN HB0.out⟩
                      · have e1 : ((k : Int) == 3) = false := beq_eq_false_iff_ne.2 (by omega)
                        rw [decide_eq_false t1, Bool.false_and] at hkk
                        have key : R = false := by rw [hon, hkk]; try simp
                        subst key
                        clear hon hkk
                        go_wp2_with fail
                        all_goals try (exfalso; omega)
                        refine (CC.out n).mono ?_
                        rintro e w' ⟨rfl, rfl⟩
                        go_wp2_with fail
                        all_goals try (exfalso; omega)
                        go_ret
                        exact ⟨rfl, below_drewN HB0.out⟩
                    · rw [if_neg k2] at hkk
                      by_cases k4 : kd = 4
                      · subst k4
                        rw [if_pos rfl] at hkk
                        by_cases t1 : k = 2
                        · have u1 : (k : Int) ≤ 2 := by omega
                          have v1 : 2 ≤ (k : Int) := by omega
                          rw [decide_eq_true t1, Bool.true_and] at hkk
                          have e1 : ((k : Int) == 2) = true := beq_iff_eq.2 (by omega)
                          clear t1
                          by_cases t8 : 1 ≤ l3
                          · have e8 : decide ((1 : Int) ≤ (l3 : Int)) = true := decide_eq_true (by omega)
                            rw [decide_eq_true t8] at hkk
                            have key : R = true := by rw [hon, hkk]; try simp
                            subst key
                            clear hon hkk
                            go_wp2_with fail
                            all_goals try (exfalso; omega)
                            refine (CC.out n).mono ?_
                            rintro e w' ⟨rfl, rfl⟩
                            go_wp2_with fail
                            all_goals try (exfalso; omega)
                            go_ret
                            exact ⟨rfl, below_drewN HB0.out⟩
                          · have e8 : decide ((1 : Int) ≤ (l3 : Int)) = false := decide_eq_false (by omega)
                            rw [decide_eq_false t8] at hkk
                            have key : R = false := by rw [hon, hkk]; try simp
                            subst key
                            clear hon hkk
                            go_wp2_with fail
                            all_goals try (exfalso; omega)
                            refine (CC.out n).mono ?_
                            rintro e w' ⟨rfl, rfl⟩
                            go_wp2_with fail
                            all_goals try (exfalso; omega)
                            go_ret
                            exact ⟨rfl, below_drewN HB0.out⟩
                        · have e1 : ((k : Int) == 2) = false := beq_eq_false_iff_ne.2 (by omega)
                          rw [decide_eq_false t1, Bool.false_and] at hkk
                          have key : R = false := by rw [hon, hkk]; try simp
                          subst key
                          clear hon hkk
                          go_wp2_with fail
                          all_goals try (exfalso; omega)
                          refine (CC.out n).mono ?_
                          rintro e w' ⟨rfl, rfl⟩
                          go_wp2_with fail
                          all_goals try (exfalso; omega)
                          go_ret
                          exact ⟨rfl, below_drewN HB0.out⟩
                      · rw [if_neg k4] at hkk
                        by_cases k5 : kd = 5
                        · subst k5
                          rw [if_pos rfl] at hkk
                          by_cases t1 : 2 ≤ k
                          · have d1 : decide ((2 : Int) ≤ (k : Int)) = true := decide_eq_true (by omega)
                            rw [decide_eq_true t1, Bool.true_and] at hkk
                            by_cases t2 : k ≤ 8
                            · have d2 : decide ((k : Int) ≤ 8) = true := decide_eq_true (by omega)
                              rw [decide_eq_true t2, Bool.true_and] at hkk
                              by_cases t8 : l3 = 0
                              · have e8 : ((l3 : Int) == 0) = true := beq_iff_eq.2 (by omega)
                                rw [decide_eq_true t8] at hkk
                                clear t8
                                have key : R = true := by rw [hon, hkk]; try simp
                                subst key
                                clear hon hkk
                                go_wp2_with fail
                                all_goals try (exfalso; omega)
                                refine (CC.out n).mono ?_
                                rintro e w' ⟨rfl, rfl⟩
                                go_wp2_with fail
                                all_goals try (exfalso; omega)
                                go_ret
                                exact ⟨rfl, below_drewN HB0.out⟩
                              · have e8 : ((l3 : Int) == 0) = false := beq_eq_false_iff_ne.2 (by omega)
                                rw [decide_eq_false t8] at hkk
                                have key : R = false := by rw [hon, hkk]; try simp
                                subst key
                                clear hon hkk
                                go_wp2_with fail
                                all_goals try (exfalso; omega)
                                refine (CC.out n).mono ?_
                                rintro e w' ⟨rfl, rfl⟩
                                go_wp2_with fail
                                all_goals try (exfalso; omega)
                                go_ret
                                exact ⟨rfl, below_drewN HB0.out⟩
                            · have d2 : decide ((k : Int) ≤ 8) = false := decide_eq_false (by omega)
                              rw [decide_eq_false t2, Bool.false_and] at hkk
                              have key : R = false := by rw [hon, hkk]; try simp
                              subst key
                              clear hon hkk
                              go_wp2_with fail
                              all_goals try (exfalso; omega)
                              refine (CC.out n).mono ?_
                              rintro e w' ⟨rfl, rfl⟩
                              go_wp2_with fail
                              all_goals try (exfalso; omega)
                              go_ret
                              exact ⟨rfl, below_drewN HB0.out⟩
                          · have d1 : decide ((2 : Int) ≤ (k : Int)) = false := decide_eq_false (by omega)
                            rw [decide_eq_false t1, Bool.false_and] at hkk
                            have key : R = false := by rw [hon, hkk]; try simp
                            subst key
                            clear hon hkk
                            go_wp2_with fail
                            all_goals try (exfalso; omega)
                            refine (CC.out n).mono ?_
                            rintro e w' ⟨rfl, rfl⟩
                            go_wp2_with fail
                            all_goals try (exfalso; omega)
                            go_ret
                            exact ⟨rfl, below_drewN HB0.out⟩
                        · rw [if_neg k5] at hkk
                          by_cases k6 : kd = 6
                          · subst k6
                            rw [if_pos rfl] at hkk
                            by_cases t1 : 1 ≤ k
                            · have d1 : decide ((1 : Int) ≤ (k : Int)) = true := decide_eq_true (by omega)
                              rw [decide_eq_true t1, Bool.true_and] at hkk
                              by_cases t2 : k ≤ 8
                              · have d2 : decide ((k : Int) ≤ 8) = true := decide_eq_true (by omega)
                                rw [decide_eq_true t2, Bool.true_and] at hkk
                                have hz : (k : Int) ≠ 0 := by omega
                                have hz2 : ((k : Int) == 0) = false := beq_eq_false_iff_ne.2 hz
                                by_cases t8 : l3 % k = 0
                                · have e8 : ((l3 : Int) % (k : Int) == 0) = true := beq_iff_eq.2 (by exact_mod_cast t8)
                                  rw [decide_eq_true t8] at hkk
                                  clear t8
                                  have key : R = true := by rw [hon, hkk]; try simp
                                  subst key
                                  clear hon hkk
                                  go_wp2_with fail
                                  all_goals try (exfalso; omega)
                                  refine (CC.out n).mono ?_
                                  rintro e w' ⟨rfl, rfl⟩
                                  go_wp2_with fail
                                  all_goals try (exfalso; omega)
                                  go_ret
                                  exact ⟨rfl, below_drewN HB0.out⟩
                                · have hne : ¬ (l3 : Int) % (k : Int) = 0 := by exact_mod_cast t8
                                  have e8 : ((l3 : Int) % (k : Int) == 0) = false := beq_eq_false_iff_ne.2 hne
                                  rw [decide_eq_false t8] at hkk
                                  have key : R = false := by rw [hon, hkk]; try simp
                                  subst key
                                  clear hon hkk
                                  go_wp2_with fail
                                  all_goals try (exfalso; omega)
                                  refine (CC.out n).mono ?_
                                  rintro e w' ⟨rfl, rfl⟩
                                  go_wp2_with fail
                                  all_goals try (exfalso; omega)
                                  go_ret
                                  exact ⟨rfl, below_drewN HB0.out⟩
                              · have d2 : decide ((k : Int) ≤ 8) = false := decide_eq_false (by omega)
                                rw [decide_eq_false t2, Bool.false_and] at hkk
                                have key : R = false := by rw [hon, hkk]; try simp
                                subst key
                                clear hon hkk
                                go_wp2_with fail
                                all_goals try (exfalso; omega)
                                refine (CC.out n).mono ?_
                                rintro e w' ⟨rfl, rfl⟩
                                go_wp2_with fail
                                all_goals try (exfalso; omega)
                                go_ret
                                exact ⟨rfl, below_drewN HB0.out⟩
                            · have d1 : decide ((1 : Int) ≤ (k : Int)) = false := decide_eq_false (by omega)
                              rw [decide_eq_false t1, Bool.false_and] at hkk
                              have key : R = false := by rw [hon, hkk]; try simp
                              subst key
                              clear hon hkk
                              go_wp2_with fail
                              all_goals try (exfalso; omega)
                              refine (CC.out n).mono ?_
                              rintro e w' ⟨rfl, rfl⟩
                              go_wp2_with fail
                              all_goals try (exfalso; omega)
                              go_ret
                              exact ⟨rfl, below_drewN HB0.out⟩
                          · rw [if_neg k6] at hkk
                            have n2 : (kd == 2) = false := beq_eq_false_iff_ne.2 k2
                            have n4 : (kd == 4) = false := beq_eq_false_iff_ne.2 k4
                            have n5 : (kd == 5) = false := beq_eq_false_iff_ne.2 k5
                            have n6 : (kd == 6) = false := beq_eq_false_iff_ne.2 k6
                            have key : R = false := by rw [hon, hkk]; try simp
                            subst key
                            clear hon hkk
                            go_wp2_with fail
                            all_goals try (exfalso; omega)
                            refine (CC.out n).mono ?_
                            rintro e w' ⟨rfl, rfl⟩
                            go_wp2_with fail
                            all_goals try (exfalso; omega)
                            go_ret
                            exact ⟨rfl, below_drewN HB0.out⟩
              · have e3 : (ct == 0) = false := beq_eq_false_iff_ne.2 g3
                rw [decide_eq_false g3, Bool.not_false, Bool.true_or] at hres
                have key : R = false := by rw [hon, hres]; try simp
                subst key
                clear hon hres
                go_wp2_with fail
                all_goals try (exfalso; omega)
                go_ret
                exact ⟨rfl, below_drewN HB0.out⟩
            · have e2 : (rl == 0) = false := beq_eq_false_iff_ne.2 g2
              rw [decide_eq_false g2, Bool.not_false, Bool.true_or] at hres
              have key : R = false := by rw [hon, hres]; try simp
              subst key
              clear hon hres
              go_wp2_with fail
              all_goals try (exfalso; omega)
              go_ret
              exact ⟨rfl, below_drewN HB0.out⟩
end Go.Proofs.YtiaibggbbkhjlaaDoor
