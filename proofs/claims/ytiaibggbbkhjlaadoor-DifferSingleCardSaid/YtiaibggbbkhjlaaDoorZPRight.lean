/-
  What Right of package model answers, at every constraint that can be read and every number of variables.
-/
import Derived.Test.YtiaibggbbkhjlaaDoorZRNum
namespace Go.Proofs.YtiaibggbbkhjlaaDoor
open Go.RowKit
set_option maxRecDepth 100000

/-- six cells of a constraint in a block, in whatever memory comes behind -/
theorem six_stay {w W0 : World} {b : Nat} {v0 v1 v2 v3 v4 v5 : Value} (h : At6 W0 b v0 v1 v2 v3 v4 v5) (hB : Below W0.heap.size W0 w) : At6 w b v0 v1 v2 v3 v4 v5 :=
  ⟨cell_stays hB h.c0, cell_stays hB h.c1, cell_stays hB h.c2, cell_stays hB h.c3, cell_stays hB h.c4, cell_stays hB h.c5⟩
theorem six_new (w : World) (v0 v1 v2 v3 v4 v5 : Value) (t : TypeId) : At6 (w.alloc (.cells #[v0, v1, v2, v3, v4, v5] t)) w.heap.size v0 v1 v2 v3 v4 v5 :=
  ⟨by go_simp, by go_simp, by go_simp, by go_simp, by go_simp, by go_simp⟩

set_option maxRecDepth 100000 in
set_option maxHeartbeats 8000000 in
theorem pright_cells (p1 p2 p3 : Option Addr) (b1 o1 c1 l1 b2 o2 c2 l2 b3 o3 c3 l3 : Nat) (c : PCon) (vars : Int) (w : World) (h1 : SliceOf rNum 1 w p1 b1 o1 l1 c.vars) (h2 : SliceOf rNum 1 w p2 b2 o2 l2 c.coefs) (h3 : SliceOf rNum 1 w p3 b3 o3 l3 c.nums)
    (hl1 : l1 ≤ 1000) (hl2 : l2 ≤ 1000) (hl3 : l3 ≤ 1000) (hcap : l1 ≤ c1) :
    Calls Tryd.prog 38 #[.agg #[.int .i64 c.kind, .slice p1 l1 c1, .slice p2 l2 c2, .int .i64 c.rel, .int .i64 c.const, .slice p3 l3 c3], .int .i64 vars] w fun e w' => e = .returned (.bool (rightC c vars)) ∧ Below w.heap.size w w' := by
  obtain ⟨R, hR⟩ : ∃ R, R = rightC c vars := ⟨_, rfl⟩
  rw [← hR]
  rw [right_is, rightP] at hR
  obtain ⟨kd, ekd⟩ : ∃ kd, kd = c.kind := ⟨_, rfl⟩
  obtain ⟨rl, erl⟩ : ∃ rl, rl = c.rel := ⟨_, rfl⟩
  obtain ⟨ct, ect⟩ : ∃ ct, ct = c.const := ⟨_, rfl⟩
  rw [← ekd, ← erl, ← ect] at hR ⊢
  rw [← h1.long, ← h2.long, ← h3.long] at hR
  obtain ⟨W0, hW0⟩ : ∃ W0, W0 = w.alloc (.cells #[.int .i64 kd, .slice p1 l1 c1, .slice p2 l2 c2, .int .i64 rl, .int .i64 ct, .slice p3 l3 c3] 24) := ⟨_, rfl⟩
  have hB0 : Below w.heap.size w W0 := by rw [hW0]; exact (Below.refl _ w).alloc (Nat.le_refl _) _
  have h6 : At6 W0 w.heap.size (.int .i64 kd) (.slice p1 l1 c1) (.slice p2 l2 c2) (.int .i64 rl) (.int .i64 ct) (.slice p3 l3 c3) := by rw [hW0]; exact six_new _ _ _ _ _ _ _ _
  have H6 := Lib.hid h6
  have HW := Lib.hid hW0
  have HB0 := Lib.hid hB0
  have CR := Lib.hid (fun (la mo : Int) (u : World) (hb : Below W0.heap.size W0 u) => prow_any kd rl ct vars la mo p1 p2 p3 b1 o1 l1 c1 l2 c2 l3 c3 c.vars u ((h1.below rNum_stays hB0).below rNum_stays hb) hcap (by omega))
  have CS := Lib.hid (fun (tm : Int) (u : World) (hb : Below W0.heap.size W0 u) => psum_any kd rl ct tm p1 p2 p3 l1 c1 b2 o2 l2 c2 l3 c3 c.coefs u ((h2.below rNum_stays hB0).below rNum_stays hb) (by omega))
  have CN := Lib.hid (fun (u : World) (hb : Below W0.heap.size W0 u) => nosum_any kd rl ct p1 p2 p3 l1 c1 l2 c2 l3 c3 u)
  have CX := Lib.hid (fun (u : World) (hb : Below W0.heap.size W0 u) => pnums_any kd rl ct p1 p2 p3 l1 c1 l2 c2 b3 o3 l3 c3 c.nums u ((h3.below rNum_stays hB0).below rNum_stays hb))
  have HLV := Lib.hid h1.long
  clear h1 h2 h3 hB0 h6 hW0 ekd erl ect
  by_cases k1 : kd = 1
  · subst k1
    rw [if_pos rfl] at hR
    have CR1 := Lib.hid (CR.out 1 8)
    have hra : ∀ b, rowB c.vars vars 1 8 = b → b = true → (1 : Int) ≤ (l1 : Int) := fun b e h => by
      rw [h, rowB] at e
      rw [HLV.out]
      have e1 := (Bool.and_eq_true_iff.1 e).1
      exact of_decide_eq_true e1
    generalize rowB c.vars vars 1 8 = a at CR1 hR hra
    cases a
    · skip
      clear hra
      have key : R = false := by rw [hR]; try simp
      subst key
      clear hR
      go_enter Tryd.func38, Tryd.ntmps38
      go_upto_region 1 with fail
      rw [← HW.out]
      obtain ⟨m0, m1, m2, m3, m4, m5⟩ := H6.out
      go_wp2_with fail
      refine (CR1.out _ (Below.refl W0.heap.size W0)).mono ?_
      rintro e w1 ⟨rfl, hB⟩
      have HB1 := Lib.hid ((Below.refl W0.heap.size W0).trans (hB.mono (Below.refl W0.heap.size W0).size))
      clear hB m0 m1 m2 m3 m4 m5
      obtain ⟨m0, m1, m2, m3, m4, m5⟩ := six_stay H6.out HB1.out
      go_wp2_with fail
      go_ret
      exact ⟨rfl, HB0.out.trans (HB1.out.mono HB0.out.size)⟩
    · try rw [Bool.true_and] at hR
      have hlow := hra true rfl rfl
      clear hra
      have CS1 := Lib.hid (CS.out (l1 : Int))
      generalize sumB c.coefs (l1 : Int) rl ct = a at CS1 hR
      cases a
      · skip
        have key : R = false := by rw [hR]; try simp
        subst key
        clear hR
        go_enter Tryd.func38, Tryd.ntmps38
        go_upto_region 1 with fail
        rw [← HW.out]
        obtain ⟨m0, m1, m2, m3, m4, m5⟩ := H6.out
        go_wp2_with fail
        refine (CR1.out _ (Below.refl W0.heap.size W0)).mono ?_
        rintro e w1 ⟨rfl, hB⟩
        have HB1 := Lib.hid ((Below.refl W0.heap.size W0).trans (hB.mono (Below.refl W0.heap.size W0).size))
        clear hB m0 m1 m2 m3 m4 m5
        obtain ⟨m0, m1, m2, m3, m4, m5⟩ := six_stay H6.out HB1.out
        go_wp2_with fail
        refine (CS1.out _ HB1.out).mono ?_
        rintro e w2 ⟨rfl, hB⟩
        have HB2 := Lib.hid (HB1.out.trans (hB.mono HB1.out.size))
        clear hB m0 m1 m2 m3 m4 m5
        obtain ⟨m0, m1, m2, m3, m4, m5⟩ := six_stay H6.out HB2.out
        go_wp2_with fail
        go_ret
        exact ⟨rfl, HB0.out.trans (HB2.out.mono HB0.out.size)⟩
      · try rw [Bool.true_and] at hR
        by_cases g : l3 = 0
        · rw [decide_eq_true g] at hR
          have e : ((l3 : Int) == 0) = true := beq_iff_eq.2 (by omega)
          clear g
          have key : R = true := hR
          subst key
          clear hR
          go_enter Tryd.func38, Tryd.ntmps38
          go_upto_region 1 with fail
          rw [← HW.out]
          obtain ⟨m0, m1, m2, m3, m4, m5⟩ := H6.out
          go_wp2_with fail
          refine (CR1.out _ (Below.refl W0.heap.size W0)).mono ?_
          rintro e w1 ⟨rfl, hB⟩
          have HB1 := Lib.hid ((Below.refl W0.heap.size W0).trans (hB.mono (Below.refl W0.heap.size W0).size))
          clear hB m0 m1 m2 m3 m4 m5
          obtain ⟨m0, m1, m2, m3, m4, m5⟩ := six_stay H6.out HB1.out
          go_wp2_with fail
          refine (CS1.out _ HB1.out).mono ?_
          rintro e w2 ⟨rfl, hB⟩
          have HB2 := Lib.hid (HB1.out.trans (hB.mono HB1.out.size))
          clear hB m0 m1 m2 m3 m4 m5
          obtain ⟨m0, m1, m2, m3, m4, m5⟩ := six_stay H6.out HB2.out
          go_wp2_with fail
          go_ret
          exact ⟨rfl, HB0.out.trans (HB2.out.mono HB0.out.size)⟩
        · rw [decide_eq_false g] at hR
          have e : ((l3 : Int) == 0) = false := beq_eq_false_iff_ne.2 (by omega)
          have key : R = false := by rw [hR]; try simp
          subst key
          clear hR
          go_enter Tryd.func38, Tryd.ntmps38
          go_upto_region 1 with fail
          rw [← HW.out]
          obtain ⟨m0, m1, m2, m3, m4, m5⟩ := H6.out
          go_wp2_with fail
          refine (CR1.out _ (Below.refl W0.heap.size W0)).mono ?_
          rintro e w1 ⟨rfl, hB⟩
          have HB1 := Lib.hid ((Below.refl W0.heap.size W0).trans (hB.mono (Below.refl W0.heap.size W0).size))
          clear hB m0 m1 m2 m3 m4 m5
          obtain ⟨m0, m1, m2, m3, m4, m5⟩ := six_stay H6.out HB1.out
          go_wp2_with fail
          refine (CS1.out _ HB1.out).mono ?_
          rintro e w2 ⟨rfl, hB⟩
          have HB2 := Lib.hid (HB1.out.trans (hB.mono HB1.out.size))
          clear hB m0 m1 m2 m3 m4 m5
          obtain ⟨m0, m1, m2, m3, m4, m5⟩ := six_stay H6.out HB2.out
          go_wp2_with fail
          go_ret
          exact ⟨rfl, HB0.out.trans (HB2.out.mono HB0.out.size)⟩
  · rw [if_neg k1] at hR
    by_cases k2 : kd = 2
    · subst k2
      rw [if_pos rfl] at hR
      have CR1 := Lib.hid (CR.out 3 3)
      have hra : ∀ b, rowB c.vars vars 3 3 = b → b = true → (3 : Int) ≤ (l1 : Int) := fun b e h => by
        rw [h, rowB] at e
        rw [HLV.out]
        have e1 := (Bool.and_eq_true_iff.1 e).1
        exact of_decide_eq_true e1
      generalize rowB c.vars vars 3 3 = a at CR1 hR hra
      cases a
      · skip
        clear hra
        have key : R = false := by rw [hR]; try simp
        subst key
        clear hR
        go_enter Tryd.func38, Tryd.ntmps38
        go_upto_region 1 with fail
        rw [← HW.out]
        obtain ⟨m0, m1, m2, m3, m4, m5⟩ := H6.out
        go_wp2_with fail
        refine (CR1.out _ (Below.refl W0.heap.size W0)).mono ?_
        rintro e w1 ⟨rfl, hB⟩
        have HB1 := Lib.hid ((Below.refl W0.heap.size W0).trans (hB.mono (Below.refl W0.heap.size W0).size))
        clear hB m0 m1 m2 m3 m4 m5
        obtain ⟨m0, m1, m2, m3, m4, m5⟩ := six_stay H6.out HB1.out
        go_wp2_with fail
        go_ret
        exact ⟨rfl, HB0.out.trans (HB1.out.mono HB0.out.size)⟩
      · try rw [Bool.true_and] at hR
        have hlow := hra true rfl rfl
        clear hra
        have CN1 := Lib.hid (CN.out)
        generalize noSumB rl ct l2 = a at CN1 hR
        cases a
        · skip
          have key : R = false := by rw [hR]; try simp
          subst key
          clear hR
          go_enter Tryd.func38, Tryd.ntmps38
          go_upto_region 1 with fail
          rw [← HW.out]
          obtain ⟨m0, m1, m2, m3, m4, m5⟩ := H6.out
          go_wp2_with fail
          refine (CR1.out _ (Below.refl W0.heap.size W0)).mono ?_
          rintro e w1 ⟨rfl, hB⟩
          have HB1 := Lib.hid ((Below.refl W0.heap.size W0).trans (hB.mono (Below.refl W0.heap.size W0).size))
          clear hB m0 m1 m2 m3 m4 m5
          obtain ⟨m0, m1, m2, m3, m4, m5⟩ := six_stay H6.out HB1.out
          go_wp2_with fail
          refine (CN1.out _ HB1.out).mono ?_
          rintro e w2 ⟨rfl, hB⟩
          have HB2 := Lib.hid (HB1.out.trans (hB.mono HB1.out.size))
          clear hB m0 m1 m2 m3 m4 m5
          obtain ⟨m0, m1, m2, m3, m4, m5⟩ := six_stay H6.out HB2.out
          go_wp2_with fail
          go_ret
          exact ⟨rfl, HB0.out.trans (HB2.out.mono HB0.out.size)⟩
        · try rw [Bool.true_and] at hR
          by_cases g : l3 = 0
          · rw [decide_eq_true g] at hR
            have e : ((l3 : Int) == 0) = true := beq_iff_eq.2 (by omega)
            clear g
            have key : R = true := hR
            subst key
            clear hR
            go_enter Tryd.func38, Tryd.ntmps38
            go_upto_region 1 with fail
            rw [← HW.out]
            obtain ⟨m0, m1, m2, m3, m4, m5⟩ := H6.out
            go_wp2_with fail
            refine (CR1.out _ (Below.refl W0.heap.size W0)).mono ?_
            rintro e w1 ⟨rfl, hB⟩
            have HB1 := Lib.hid ((Below.refl W0.heap.size W0).trans (hB.mono (Below.refl W0.heap.size W0).size))
            clear hB m0 m1 m2 m3 m4 m5
            obtain ⟨m0, m1, m2, m3, m4, m5⟩ := six_stay H6.out HB1.out
            go_wp2_with fail
            refine (CN1.out _ HB1.out).mono ?_
            rintro e w2 ⟨rfl, hB⟩
            have HB2 := Lib.hid (HB1.out.trans (hB.mono HB1.out.size))
            clear hB m0 m1 m2 m3 m4 m5
            obtain ⟨m0, m1, m2, m3, m4, m5⟩ := six_stay H6.out HB2.out
            go_wp2_with fail
            go_ret
            exact ⟨rfl, HB0.out.trans (HB2.out.mono HB0.out.size)⟩
          · rw [decide_eq_false g] at hR
            have e : ((l3 : Int) == 0) = false := beq_eq_false_iff_ne.2 (by omega)
            have key : R = false := by rw [hR]; try simp
            subst key
            clear hR
            go_enter Tryd.func38, Tryd.ntmps38
            go_upto_region 1 with fail
            rw [← HW.out]
            obtain ⟨m0, m1, m2, m3, m4, m5⟩ := H6.out
            go_wp2_with fail
            refine (CR1.out _ (Below.refl W0.heap.size W0)).mono ?_
            rintro e w1 ⟨rfl, hB⟩
            have HB1 := Lib.hid ((Below.refl W0.heap.size W0).trans (hB.mono (Below.refl W0.heap.size W0).size))
            clear hB m0 m1 m2 m3 m4 m5
            obtain ⟨m0, m1, m2, m3, m4, m5⟩ := six_stay H6.out HB1.out
            go_wp2_with fail
            refine (CN1.out _ HB1.out).mono ?_
            rintro e w2 ⟨rfl, hB⟩
            have HB2 := Lib.hid (HB1.out.trans (hB.mono HB1.out.size))
            clear hB m0 m1 m2 m3 m4 m5
            obtain ⟨m0, m1, m2, m3, m4, m5⟩ := six_stay H6.out HB2.out
            go_wp2_with fail
            go_ret
            exact ⟨rfl, HB0.out.trans (HB2.out.mono HB0.out.size)⟩
    · rw [if_neg k2] at hR
      by_cases k3 : kd = 3
      · subst k3
        rw [if_pos rfl] at hR
        have CR1 := Lib.hid (CR.out 2 9)
        have hra : ∀ b, rowB c.vars vars 2 9 = b → b = true → (2 : Int) ≤ (l1 : Int) := fun b e h => by
          rw [h, rowB] at e
          rw [HLV.out]
          have e1 := (Bool.and_eq_true_iff.1 e).1
          exact of_decide_eq_true e1
        generalize rowB c.vars vars 2 9 = a at CR1 hR hra
        cases a
        · skip
          clear hra
          have key : R = false := by rw [hR]; try simp
          subst key
          clear hR
          go_enter Tryd.func38, Tryd.ntmps38
          go_upto_region 1 with fail
          rw [← HW.out]
          obtain ⟨m0, m1, m2, m3, m4, m5⟩ := H6.out
          go_wp2_with fail
          refine (CR1.out _ (Below.refl W0.heap.size W0)).mono ?_
          rintro e w1 ⟨rfl, hB⟩
          have HB1 := Lib.hid ((Below.refl W0.heap.size W0).trans (hB.mono (Below.refl W0.heap.size W0).size))
          clear hB m0 m1 m2 m3 m4 m5
          obtain ⟨m0, m1, m2, m3, m4, m5⟩ := six_stay H6.out HB1.out
          go_wp2_with fail
          go_ret
          exact ⟨rfl, HB0.out.trans (HB1.out.mono HB0.out.size)⟩
        · try rw [Bool.true_and] at hR
          have hlow := hra true rfl rfl
          clear hra
          have CS1 := Lib.hid (CS.out ((l1 : Int) - 1))
          generalize sumB c.coefs ((l1 : Int) - 1) rl ct = a at CS1 hR
          cases a
          · skip
            have key : R = false := by rw [hR]; try simp
            subst key
            clear hR
            go_enter Tryd.func38, Tryd.ntmps38
            go_upto_region 1 with fail
            rw [← HW.out]
            obtain ⟨m0, m1, m2, m3, m4, m5⟩ := H6.out
            go_wp2_with fail
            refine (CR1.out _ (Below.refl W0.heap.size W0)).mono ?_
            rintro e w1 ⟨rfl, hB⟩
            have HB1 := Lib.hid ((Below.refl W0.heap.size W0).trans (hB.mono (Below.refl W0.heap.size W0).size))
            clear hB m0 m1 m2 m3 m4 m5
            obtain ⟨m0, m1, m2, m3, m4, m5⟩ := six_stay H6.out HB1.out
            go_wp2_with fail
            refine (CS1.out _ HB1.out).mono ?_
            rintro e w2 ⟨rfl, hB⟩
            have HB2 := Lib.hid (HB1.out.trans (hB.mono HB1.out.size))
            clear hB m0 m1 m2 m3 m4 m5
            obtain ⟨m0, m1, m2, m3, m4, m5⟩ := six_stay H6.out HB2.out
            go_wp2_with fail
            go_ret
            exact ⟨rfl, HB0.out.trans (HB2.out.mono HB0.out.size)⟩
          · try rw [Bool.true_and] at hR
            by_cases g : l3 = 0
            · rw [decide_eq_true g] at hR
              have e : ((l3 : Int) == 0) = true := beq_iff_eq.2 (by omega)
              clear g
              have key : R = true := hR
              subst key
              clear hR
              go_enter Tryd.func38, Tryd.ntmps38
              go_upto_region 1 with fail
              rw [← HW.out]
              obtain ⟨m0, m1, m2, m3, m4, m5⟩ := H6.out
              go_wp2_with fail
              refine (CR1.out _ (Below.refl W0.heap.size W0)).mono ?_
              rintro e w1 ⟨rfl, hB⟩
              have HB1 := Lib.hid ((Below.refl W0.heap.size W0).trans (hB.mono (Below.refl W0.heap.size W0).size))
              clear hB m0 m1 m2 m3 m4 m5
              obtain ⟨m0, m1, m2, m3, m4, m5⟩ := six_stay H6.out HB1.out
              go_wp2_with fail
              refine (CS1.out _ HB1.out).mono ?_
              rintro e w2 ⟨rfl, hB⟩
              have HB2 := Lib.hid (HB1.out.trans (hB.mono HB1.out.size))
              clear hB m0 m1 m2 m3 m4 m5
              obtain ⟨m0, m1, m2, m3, m4, m5⟩ := six_stay H6.out HB2.out
              go_wp2_with fail
              go_ret
              exact ⟨rfl, HB0.out.trans (HB2.out.mono HB0.out.size)⟩
            · rw [decide_eq_false g] at hR
              have e : ((l3 : Int) == 0) = false := beq_eq_false_iff_ne.2 (by omega)
              have key : R = false := by rw [hR]; try simp
              subst key
              clear hR
              go_enter Tryd.func38, Tryd.ntmps38
              go_upto_region 1 with fail
              rw [← HW.out]
              obtain ⟨m0, m1, m2, m3, m4, m5⟩ := H6.out
              go_wp2_with fail
              refine (CR1.out _ (Below.refl W0.heap.size W0)).mono ?_
              rintro e w1 ⟨rfl, hB⟩
              have HB1 := Lib.hid ((Below.refl W0.heap.size W0).trans (hB.mono (Below.refl W0.heap.size W0).size))
              clear hB m0 m1 m2 m3 m4 m5
              obtain ⟨m0, m1, m2, m3, m4, m5⟩ := six_stay H6.out HB1.out
              go_wp2_with fail
              refine (CS1.out _ HB1.out).mono ?_
              rintro e w2 ⟨rfl, hB⟩
              have HB2 := Lib.hid (HB1.out.trans (hB.mono HB1.out.size))
              clear hB m0 m1 m2 m3 m4 m5
              obtain ⟨m0, m1, m2, m3, m4, m5⟩ := six_stay H6.out HB2.out
              go_wp2_with fail
              go_ret
              exact ⟨rfl, HB0.out.trans (HB2.out.mono HB0.out.size)⟩
      · rw [if_neg k3] at hR
        by_cases k4 : kd = 4
        · subst k4
          rw [if_pos rfl] at hR
          have CR1 := Lib.hid (CR.out 2 2)
          have hra : ∀ b, rowB c.vars vars 2 2 = b → b = true → (2 : Int) ≤ (l1 : Int) := fun b e h => by
            rw [h, rowB] at e
            rw [HLV.out]
            have e1 := (Bool.and_eq_true_iff.1 e).1
            exact of_decide_eq_true e1
          generalize rowB c.vars vars 2 2 = a at CR1 hR hra
          cases a
          · skip
            clear hra
            have key : R = false := by rw [hR]; try simp
            subst key
            clear hR
            go_enter Tryd.func38, Tryd.ntmps38
            go_upto_region 1 with fail
            rw [← HW.out]
            obtain ⟨m0, m1, m2, m3, m4, m5⟩ := H6.out
            go_wp2_with fail
            refine (CR1.out _ (Below.refl W0.heap.size W0)).mono ?_
            rintro e w1 ⟨rfl, hB⟩
            have HB1 := Lib.hid ((Below.refl W0.heap.size W0).trans (hB.mono (Below.refl W0.heap.size W0).size))
            clear hB m0 m1 m2 m3 m4 m5
            obtain ⟨m0, m1, m2, m3, m4, m5⟩ := six_stay H6.out HB1.out
            go_wp2_with fail
            go_ret
            exact ⟨rfl, HB0.out.trans (HB1.out.mono HB0.out.size)⟩
          · try rw [Bool.true_and] at hR
            have hlow := hra true rfl rfl
            clear hra
            have CN1 := Lib.hid (CN.out)
            generalize noSumB rl ct l2 = a at CN1 hR
            cases a
            · skip
              have key : R = false := by rw [hR]; try simp
              subst key
              clear hR
              go_enter Tryd.func38, Tryd.ntmps38
              go_upto_region 1 with fail
              rw [← HW.out]
              obtain ⟨m0, m1, m2, m3, m4, m5⟩ := H6.out
              go_wp2_with fail
              refine (CR1.out _ (Below.refl W0.heap.size W0)).mono ?_
              rintro e w1 ⟨rfl, hB⟩
              have HB1 := Lib.hid ((Below.refl W0.heap.size W0).trans (hB.mono (Below.refl W0.heap.size W0).size))
              clear hB m0 m1 m2 m3 m4 m5
              obtain ⟨m0, m1, m2, m3, m4, m5⟩ := six_stay H6.out HB1.out
              go_wp2_with fail
              refine (CN1.out _ HB1.out).mono ?_
              rintro e w2 ⟨rfl, hB⟩
              have HB2 := Lib.hid (HB1.out.trans (hB.mono HB1.out.size))
              clear hB m0 m1 m2 m3 m4 m5
              obtain ⟨m0, m1, m2, m3, m4, m5⟩ := six_stay H6.out HB2.out
              go_wp2_with fail
              go_ret
              exact ⟨rfl, HB0.out.trans (HB2.out.mono HB0.out.size)⟩
            · try rw [Bool.true_and] at hR
              by_cases g : 0 < l3
              · rw [decide_eq_true g, Bool.true_and] at hR
                have e : decide ((0 : Int) < (l3 : Int)) = true := decide_eq_true (by omega)
                have CX1 := Lib.hid (CX.out)
                generalize numsB c.nums = a at CX1 hR
                cases a
                · skip
                  have key : R = false := by rw [hR]; try simp
                  subst key
                  clear hR
                  go_enter Tryd.func38, Tryd.ntmps38
                  go_upto_region 1 with fail
                  rw [← HW.out]
                  obtain ⟨m0, m1, m2, m3, m4, m5⟩ := H6.out
                  go_wp2_with fail
                  refine (CR1.out _ (Below.refl W0.heap.size W0)).mono ?_
                  rintro e w1 ⟨rfl, hB⟩
                  have HB1 := Lib.hid ((Below.refl W0.heap.size W0).trans (hB.mono (Below.refl W0.heap.size W0).size))
                  clear hB m0 m1 m2 m3 m4 m5
                  obtain ⟨m0, m1, m2, m3, m4, m5⟩ := six_stay H6.out HB1.out
                  go_wp2_with fail
                  refine (CN1.out _ HB1.out).mono ?_
                  rintro e w2 ⟨rfl, hB⟩
                  have HB2 := Lib.hid (HB1.out.trans (hB.mono HB1.out.size))
                  clear hB m0 m1 m2 m3 m4 m5
                  obtain ⟨m0, m1, m2, m3, m4, m5⟩ := six_stay H6.out HB2.out
                  go_wp2_with fail
                  refine (CX1.out _ HB2.out).mono ?_
                  rintro e w3 ⟨rfl, hB⟩
                  have HB3 := Lib.hid (HB2.out.trans (hB.mono HB2.out.size))
                  clear hB m0 m1 m2 m3 m4 m5
                  obtain ⟨m0, m1, m2, m3, m4, m5⟩ := six_stay H6.out HB3.out
                  go_wp2_with fail
                  go_ret
                  exact ⟨rfl, HB0.out.trans (HB3.out.mono HB0.out.size)⟩
                · try rw [Bool.true_and] at hR
                  have key : R = true := hR
                  subst key
                  clear hR
                  go_enter Tryd.func38, Tryd.ntmps38
                  go_upto_region 1 with fail
                  rw [← HW.out]
                  obtain ⟨m0, m1, m2, m3, m4, m5⟩ := H6.out
                  go_wp2_with fail
                  refine (CR1.out _ (Below.refl W0.heap.size W0)).mono ?_
                  rintro e w1 ⟨rfl, hB⟩
                  have HB1 := Lib.hid ((Below.refl W0.heap.size W0).trans (hB.mono (Below.refl W0.heap.size W0).size))
                  clear hB m0 m1 m2 m3 m4 m5
                  obtain ⟨m0, m1, m2, m3, m4, m5⟩ := six_stay H6.out HB1.out
                  go_wp2_with fail
                  refine (CN1.out _ HB1.out).mono ?_
                  rintro e w2 ⟨rfl, hB⟩
                  have HB2 := Lib.hid (HB1.out.trans (hB.mono HB1.out.size))
                  clear hB m0 m1 m2 m3 m4 m5
                  obtain ⟨m0, m1, m2, m3, m4, m5⟩ := six_stay H6.out HB2.out
                  go_wp2_with fail
                  refine (CX1.out _ HB2.out).mono ?_
                  rintro e w3 ⟨rfl, hB⟩
                  have HB3 := Lib.hid (HB2.out.trans (hB.mono HB2.out.size))
                  clear hB m0 m1 m2 m3 m4 m5
                  obtain ⟨m0, m1, m2, m3, m4, m5⟩ := six_stay H6.out HB3.out
                  go_wp2_with fail
                  go_ret
                  exact ⟨rfl, HB0.out.trans (HB3.out.mono HB0.out.size)⟩
              · rw [decide_eq_false g] at hR
                have e : decide ((0 : Int) < (l3 : Int)) = false := decide_eq_false (by omega)
                have key : R = false := by rw [hR]; try simp
                subst key
                clear hR
                go_enter Tryd.func38, Tryd.ntmps38
                go_upto_region 1 with fail
                rw [← HW.out]
                obtain ⟨m0, m1, m2, m3, m4, m5⟩ := H6.out
                go_wp2_with fail
                refine (CR1.out _ (Below.refl W0.heap.size W0)).mono ?_
                rintro e w1 ⟨rfl, hB⟩
                have HB1 := Lib.hid ((Below.refl W0.heap.size W0).trans (hB.mono (Below.refl W0.heap.size W0).size))
                clear hB m0 m1 m2 m3 m4 m5
                obtain ⟨m0, m1, m2, m3, m4, m5⟩ := six_stay H6.out HB1.out
                go_wp2_with fail
                refine (CN1.out _ HB1.out).mono ?_
                rintro e w2 ⟨rfl, hB⟩
                have HB2 := Lib.hid (HB1.out.trans (hB.mono HB1.out.size))
                clear hB m0 m1 m2 m3 m4 m5
                obtain ⟨m0, m1, m2, m3, m4, m5⟩ := six_stay H6.out HB2.out
                go_wp2_with fail
                go_ret
                exact ⟨rfl, HB0.out.trans (HB2.out.mono HB0.out.size)⟩
        · rw [if_neg k4] at hR
          by_cases k5 : kd = 5
          · subst k5
            rw [if_pos rfl] at hR
            have CR1 := Lib.hid (CR.out 2 8)
            have hra : ∀ b, rowB c.vars vars 2 8 = b → b = true → (2 : Int) ≤ (l1 : Int) := fun b e h => by
              rw [h, rowB] at e
              rw [HLV.out]
              have e1 := (Bool.and_eq_true_iff.1 e).1
              exact of_decide_eq_true e1
            generalize rowB c.vars vars 2 8 = a at CR1 hR hra
            cases a
            · skip
              clear hra
              have key : R = false := by rw [hR]; try simp
              subst key
              clear hR
              go_enter Tryd.func38, Tryd.ntmps38
              go_upto_region 1 with fail
              rw [← HW.out]
              obtain ⟨m0, m1, m2, m3, m4, m5⟩ := H6.out
              go_wp2_with fail
              refine (CR1.out _ (Below.refl W0.heap.size W0)).mono ?_
              rintro e w1 ⟨rfl, hB⟩
              have HB1 := Lib.hid ((Below.refl W0.heap.size W0).trans (hB.mono (Below.refl W0.heap.size W0).size))
              clear hB m0 m1 m2 m3 m4 m5
              obtain ⟨m0, m1, m2, m3, m4, m5⟩ := six_stay H6.out HB1.out
              go_wp2_with fail
              go_ret
              exact ⟨rfl, HB0.out.trans (HB1.out.mono HB0.out.size)⟩
            · try rw [Bool.true_and] at hR
              have hlow := hra true rfl rfl
              clear hra
              have CN1 := Lib.hid (CN.out)
              generalize noSumB rl ct l2 = a at CN1 hR
              cases a
              · skip
                have key : R = false := by rw [hR]; try simp
                subst key
                clear hR
                go_enter Tryd.func38, Tryd.ntmps38
                go_upto_region 1 with fail
                rw [← HW.out]
                obtain ⟨m0, m1, m2, m3, m4, m5⟩ := H6.out
                go_wp2_with fail
                refine (CR1.out _ (Below.refl W0.heap.size W0)).mono ?_
                rintro e w1 ⟨rfl, hB⟩
                have HB1 := Lib.hid ((Below.refl W0.heap.size W0).trans (hB.mono (Below.refl W0.heap.size W0).size))
                clear hB m0 m1 m2 m3 m4 m5
                obtain ⟨m0, m1, m2, m3, m4, m5⟩ := six_stay H6.out HB1.out
                go_wp2_with fail
                refine (CN1.out _ HB1.out).mono ?_
                rintro e w2 ⟨rfl, hB⟩
                have HB2 := Lib.hid (HB1.out.trans (hB.mono HB1.out.size))
                clear hB m0 m1 m2 m3 m4 m5
                obtain ⟨m0, m1, m2, m3, m4, m5⟩ := six_stay H6.out HB2.out
                go_wp2_with fail
                go_ret
                exact ⟨rfl, HB0.out.trans (HB2.out.mono HB0.out.size)⟩
              · try rw [Bool.true_and] at hR
                by_cases g : l3 = 0
                · rw [decide_eq_true g] at hR
                  have e : ((l3 : Int) == 0) = true := beq_iff_eq.2 (by omega)
                  clear g
                  have key : R = true := hR
                  subst key
                  clear hR
                  go_enter Tryd.func38, Tryd.ntmps38
                  go_upto_region 1 with fail
                  rw [← HW.out]
                  obtain ⟨m0, m1, m2, m3, m4, m5⟩ := H6.out
                  go_wp2_with fail
                  refine (CR1.out _ (Below.refl W0.heap.size W0)).mono ?_
                  rintro e w1 ⟨rfl, hB⟩
                  have HB1 := Lib.hid ((Below.refl W0.heap.size W0).trans (hB.mono (Below.refl W0.heap.size W0).size))
                  clear hB m0 m1 m2 m3 m4 m5
                  obtain ⟨m0, m1, m2, m3, m4, m5⟩ := six_stay H6.out HB1.out
                  go_wp2_with fail
                  refine (CN1.out _ HB1.out).mono ?_
                  rintro e w2 ⟨rfl, hB⟩
                  have HB2 := Lib.hid (HB1.out.trans (hB.mono HB1.out.size))
                  clear hB m0 m1 m2 m3 m4 m5
                  obtain ⟨m0, m1, m2, m3, m4, m5⟩ := six_stay H6.out HB2.out
                  go_wp2_with fail
                  go_ret
                  exact ⟨rfl, HB0.out.trans (HB2.out.mono HB0.out.size)⟩
                · rw [decide_eq_false g] at hR
                  have e : ((l3 : Int) == 0) = false := beq_eq_false_iff_ne.2 (by omega)
                  have key : R = false := by rw [hR]; try simp
                  subst key
                  clear hR
                  go_enter Tryd.func38, Tryd.ntmps38
                  go_upto_region 1 with fail
                  rw [← HW.out]
                  obtain ⟨m0, m1, m2, m3, m4, m5⟩ := H6.out
                  go_wp2_with fail
                  refine (CR1.out _ (Below.refl W0.heap.size W0)).mono ?_
                  rintro e w1 ⟨rfl, hB⟩
                  have HB1 := Lib.hid ((Below.refl W0.heap.size W0).trans (hB.mono (Below.refl W0.heap.size W0).size))
                  clear hB m0 m1 m2 m3 m4 m5
                  obtain ⟨m0, m1, m2, m3, m4, m5⟩ := six_stay H6.out HB1.out
                  go_wp2_with fail
                  refine (CN1.out _ HB1.out).mono ?_
                  rintro e w2 ⟨rfl, hB⟩
                  have HB2 := Lib.hid (HB1.out.trans (hB.mono HB1.out.size))
                  clear hB m0 m1 m2 m3 m4 m5
                  obtain ⟨m0, m1, m2, m3, m4, m5⟩ := six_stay H6.out HB2.out
                  go_wp2_with fail
                  go_ret
                  exact ⟨rfl, HB0.out.trans (HB2.out.mono HB0.out.size)⟩
          · rw [if_neg k5] at hR
            by_cases k6 : kd = 6
            · subst k6
              rw [if_pos rfl] at hR
              have CR1 := Lib.hid (CR.out 1 8)
              have hra : ∀ b, rowB c.vars vars 1 8 = b → b = true → (1 : Int) ≤ (l1 : Int) := fun b e h => by
                rw [h, rowB] at e
                rw [HLV.out]
                have e1 := (Bool.and_eq_true_iff.1 e).1
                exact of_decide_eq_true e1
              generalize rowB c.vars vars 1 8 = a at CR1 hR hra
              cases a
              · skip
                clear hra
                have key : R = false := by rw [hR]; try simp
                subst key
                clear hR
                go_enter Tryd.func38, Tryd.ntmps38
                go_upto_region 1 with fail
                rw [← HW.out]
                obtain ⟨m0, m1, m2, m3, m4, m5⟩ := H6.out
                go_wp2_with fail
                refine (CR1.out _ (Below.refl W0.heap.size W0)).mono ?_
                rintro e w1 ⟨rfl, hB⟩
                have HB1 := Lib.hid ((Below.refl W0.heap.size W0).trans (hB.mono (Below.refl W0.heap.size W0).size))
                clear hB m0 m1 m2 m3 m4 m5
                obtain ⟨m0, m1, m2, m3, m4, m5⟩ := six_stay H6.out HB1.out
                go_wp2_with fail
                go_ret
                exact ⟨rfl, HB0.out.trans (HB1.out.mono HB0.out.size)⟩
              · try rw [Bool.true_and] at hR
                have hlow := hra true rfl rfl
                clear hra
                have CN1 := Lib.hid (CN.out)
                generalize noSumB rl ct l2 = a at CN1 hR
                cases a
                · skip
                  have key : R = false := by rw [hR]; try simp
                  subst key
                  clear hR
                  go_enter Tryd.func38, Tryd.ntmps38
                  go_upto_region 1 with fail
                  rw [← HW.out]
                  obtain ⟨m0, m1, m2, m3, m4, m5⟩ := H6.out
                  go_wp2_with fail
                  refine (CR1.out _ (Below.refl W0.heap.size W0)).mono ?_
                  rintro e w1 ⟨rfl, hB⟩
                  have HB1 := Lib.hid ((Below.refl W0.heap.size W0).trans (hB.mono (Below.refl W0.heap.size W0).size))
                  clear hB m0 m1 m2 m3 m4 m5
                  obtain ⟨m0, m1, m2, m3, m4, m5⟩ := six_stay H6.out HB1.out
                  go_wp2_with fail
                  refine (CN1.out _ HB1.out).mono ?_
                  rintro e w2 ⟨rfl, hB⟩
                  have HB2 := Lib.hid (HB1.out.trans (hB.mono HB1.out.size))
                  clear hB m0 m1 m2 m3 m4 m5
                  obtain ⟨m0, m1, m2, m3, m4, m5⟩ := six_stay H6.out HB2.out
                  go_wp2_with fail
                  go_ret
                  exact ⟨rfl, HB0.out.trans (HB2.out.mono HB0.out.size)⟩
                · try rw [Bool.true_and] at hR
                  have CX1 := Lib.hid (CX.out)
                  generalize numsB c.nums = a at CX1 hR
                  cases a
                  · skip
                    have key : R = false := by rw [hR]; try simp
                    subst key
                    clear hR
                    go_enter Tryd.func38, Tryd.ntmps38
                    go_upto_region 1 with fail
                    rw [← HW.out]
                    obtain ⟨m0, m1, m2, m3, m4, m5⟩ := H6.out
                    go_wp2_with fail
                    refine (CR1.out _ (Below.refl W0.heap.size W0)).mono ?_
                    rintro e w1 ⟨rfl, hB⟩
                    have HB1 := Lib.hid ((Below.refl W0.heap.size W0).trans (hB.mono (Below.refl W0.heap.size W0).size))
                    clear hB m0 m1 m2 m3 m4 m5
                    obtain ⟨m0, m1, m2, m3, m4, m5⟩ := six_stay H6.out HB1.out
                    go_wp2_with fail
                    refine (CN1.out _ HB1.out).mono ?_
                    rintro e w2 ⟨rfl, hB⟩
                    have HB2 := Lib.hid (HB1.out.trans (hB.mono HB1.out.size))
                    clear hB m0 m1 m2 m3 m4 m5
                    obtain ⟨m0, m1, m2, m3, m4, m5⟩ := six_stay H6.out HB2.out
                    go_wp2_with fail
                    refine (CX1.out _ HB2.out).mono ?_
                    rintro e w3 ⟨rfl, hB⟩
                    have HB3 := Lib.hid (HB2.out.trans (hB.mono HB2.out.size))
                    clear hB m0 m1 m2 m3 m4 m5
                    obtain ⟨m0, m1, m2, m3, m4, m5⟩ := six_stay H6.out HB3.out
                    go_wp2_with fail
                    go_ret
                    exact ⟨rfl, HB0.out.trans (HB3.out.mono HB0.out.size)⟩
                  · try rw [Bool.true_and] at hR
                    have hz : (l1 : Int) ≠ 0 := by omega
                    have hz2 : ((l1 : Int) == 0) = false := beq_eq_false_iff_ne.2 hz
                    by_cases g : l3 % l1 = 0
                    · rw [decide_eq_true g] at hR
                      have e : ((l3 : Int) % (l1 : Int) == 0) = true := beq_iff_eq.2 (by exact_mod_cast g)
                      clear g
                      have key : R = true := hR
                      subst key
                      clear hR
                      go_enter Tryd.func38, Tryd.ntmps38
                      go_upto_region 1 with fail
                      rw [← HW.out]
                      obtain ⟨m0, m1, m2, m3, m4, m5⟩ := H6.out
                      go_wp2_with fail
                      refine (CR1.out _ (Below.refl W0.heap.size W0)).mono ?_
                      rintro e w1 ⟨rfl, hB⟩
                      have HB1 := Lib.hid ((Below.refl W0.heap.size W0).trans (hB.mono (Below.refl W0.heap.size W0).size))
                      clear hB m0 m1 m2 m3 m4 m5
                      obtain ⟨m0, m1, m2, m3, m4, m5⟩ := six_stay H6.out HB1.out
                      go_wp2_with fail
                      refine (CN1.out _ HB1.out).mono ?_
                      rintro e w2 ⟨rfl, hB⟩
                      have HB2 := Lib.hid (HB1.out.trans (hB.mono HB1.out.size))
                      clear hB m0 m1 m2 m3 m4 m5
                      obtain ⟨m0, m1, m2, m3, m4, m5⟩ := six_stay H6.out HB2.out
                      go_wp2_with fail
                      refine (CX1.out _ HB2.out).mono ?_
                      rintro e w3 ⟨rfl, hB⟩
                      have HB3 := Lib.hid (HB2.out.trans (hB.mono HB2.out.size))
                      clear hB m0 m1 m2 m3 m4 m5
                      obtain ⟨m0, m1, m2, m3, m4, m5⟩ := six_stay H6.out HB3.out
                      go_wp2_with fail
                      go_ret
                      exact ⟨rfl, HB0.out.trans (HB3.out.mono HB0.out.size)⟩
                    · rw [decide_eq_false g] at hR
                      have hne : ¬ (l3 : Int) % (l1 : Int) = 0 := by exact_mod_cast g
                      have e : ((l3 : Int) % (l1 : Int) == 0) = false := beq_eq_false_iff_ne.2 hne
                      have key : R = false := by rw [hR]; try simp
                      subst key
                      clear hR
                      go_enter Tryd.func38, Tryd.ntmps38
                      go_upto_region 1 with fail
                      rw [← HW.out]
                      obtain ⟨m0, m1, m2, m3, m4, m5⟩ := H6.out
                      go_wp2_with fail
                      refine (CR1.out _ (Below.refl W0.heap.size W0)).mono ?_
                      rintro e w1 ⟨rfl, hB⟩
                      have HB1 := Lib.hid ((Below.refl W0.heap.size W0).trans (hB.mono (Below.refl W0.heap.size W0).size))
                      clear hB m0 m1 m2 m3 m4 m5
                      obtain ⟨m0, m1, m2, m3, m4, m5⟩ := six_stay H6.out HB1.out
                      go_wp2_with fail
                      refine (CN1.out _ HB1.out).mono ?_
                      rintro e w2 ⟨rfl, hB⟩
                      have HB2 := Lib.hid (HB1.out.trans (hB.mono HB1.out.size))
                      clear hB m0 m1 m2 m3 m4 m5
                      obtain ⟨m0, m1, m2, m3, m4, m5⟩ := six_stay H6.out HB2.out
                      go_wp2_with fail
                      refine (CX1.out _ HB2.out).mono ?_
                      rintro e w3 ⟨rfl, hB⟩
                      have HB3 := Lib.hid (HB2.out.trans (hB.mono HB2.out.size))
                      clear hB m0 m1 m2 m3 m4 m5
                      obtain ⟨m0, m1, m2, m3, m4, m5⟩ := six_stay H6.out HB3.out
                      go_wp2_with fail
                      go_ret
                      exact ⟨rfl, HB0.out.trans (HB3.out.mono HB0.out.size)⟩
            · rw [if_neg k6] at hR
              have n1 : (kd == 1) = false := beq_eq_false_iff_ne.2 k1
              have n2 : (kd == 2) = false := beq_eq_false_iff_ne.2 k2
              have n3 : (kd == 3) = false := beq_eq_false_iff_ne.2 k3
              have n4 : (kd == 4) = false := beq_eq_false_iff_ne.2 k4
              have n5 : (kd == 5) = false := beq_eq_false_iff_ne.2 k5
              have n6 : (kd == 6) = false := beq_eq_false_iff_ne.2 k6
              subst hR
              go_enter Tryd.func38, Tryd.ntmps38
              go_upto_region 1 with fail
              rw [← HW.out]
              obtain ⟨m0, m1, m2, m3, m4, m5⟩ := H6.out
              go_wp2_with fail
              go_ret
              exact ⟨rfl, HB0.out.trans ((Below.refl W0.heap.size W0).mono HB0.out.size)⟩
theorem pright_any {w : World} {k r t : Int} {v1 v2 v3 : Value} {c : PCon} (vars : Int) (h : rCon w [.int .i64 k, v1, v2, .int .i64 r, .int .i64 t, v3] c) (hs : Short 1000 c) :
    Calls Tryd.prog 38 #[.agg #[.int .i64 k, v1, v2, .int .i64 r, .int .i64 t, v3], .int .i64 vars] w fun e w' => e = .returned (.bool (rightC c vars)) ∧ Below w.heap.size w w' := by
  obtain ⟨u1, u2, u3, e, _, ⟨p1, b1, o1, c1, l1, e1, hc1, h1⟩, ⟨p2, b2, o2, c2, l2, e2, _, h2⟩, ⟨p3, b3, o3, c3, l3, e3, _, h3⟩⟩ := h
  subst e1 e2 e3
  simp only [List.cons.injEq, and_true, Value.int.injEq, true_and] at e
  obtain ⟨rfl, rfl, rfl, rfl, rfl, rfl⟩ := e
  exact pright_cells p1 p2 p3 b1 o1 c1 l1 b2 o2 c2 l2 b3 o3 c3 l3 c vars w h1 h2 h3 (by rw [h1.long]; exact hs.1) (by rw [h2.long]; exact hs.2.1) (by rw [h3.long]; exact hs.2.2) hc1.2
end Go.Proofs.YtiaibggbbkhjlaaDoor
