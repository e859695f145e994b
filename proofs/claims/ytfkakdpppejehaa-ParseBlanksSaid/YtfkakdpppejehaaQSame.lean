/-
  What Same of the document's answers answers, at every two models that can be read and whose lists are short.
-/
import Derived.Test.YtfkakdpppejehaaPCheck
import Derived.Deep.RegionHeld3
import Derived.Test.YtfkakdpppejehaaMPair
namespace Go.Proofs.Ytfkakdpppejehaa
open Go.RowKit
set_option maxRecDepth 100000

theorem hold8s {W0 u u' : World} {p0 p1 p2 p3 p4 p5 p6 p7 : Addr} {a0 a1 a2 a3 a4 a5 a6 a7 : Value} (h : u.cell? p0 = some a0 ∧ u.cell? p1 = some a1 ∧ u.cell? p2 = some a2 ∧ u.cell? p3 = some a3 ∧ u.cell? p4 = some a4 ∧ u.cell? p5 = some a5 ∧ u.cell? p6 = some a6 ∧ u.cell? p7 = some a7 ∧ Hid (Below W0.heap.size W0 u)) (hb : Below u.heap.size u u') :
    u'.cell? p0 = some a0 ∧ u'.cell? p1 = some a1 ∧ u'.cell? p2 = some a2 ∧ u'.cell? p3 = some a3 ∧ u'.cell? p4 = some a4 ∧ u'.cell? p5 = some a5 ∧ u'.cell? p6 = some a6 ∧ u'.cell? p7 = some a7 ∧ Hid (Below W0.heap.size W0 u') :=
  ⟨cell_stays hb h.1, cell_stays hb h.2.1, cell_stays hb h.2.2.1, cell_stays hb h.2.2.2.1, cell_stays hb h.2.2.2.2.1, cell_stays hb h.2.2.2.2.2.1, cell_stays hb h.2.2.2.2.2.2.1, cell_stays hb h.2.2.2.2.2.2.2.1, Lib.hid (h.2.2.2.2.2.2.2.2.out.trans (hb.mono h.2.2.2.2.2.2.2.2.out.size))⟩
theorem hold8sb {W0 u : World} {p0 p1 p2 p3 p4 p5 p6 p7 : Addr} {a0 a1 a2 a3 a4 a5 a6 a7 : Value} (h : u.cell? p0 = some a0 ∧ u.cell? p1 = some a1 ∧ u.cell? p2 = some a2 ∧ u.cell? p3 = some a3 ∧ u.cell? p4 = some a4 ∧ u.cell? p5 = some a5 ∧ u.cell? p6 = some a6 ∧ u.cell? p7 = some a7 ∧ Hid (Below W0.heap.size W0 u)) : Below W0.heap.size W0 u := h.2.2.2.2.2.2.2.2.out

set_option maxRecDepth 100000 in
set_option maxHeartbeats 4000000 in
theorem rsame_any {w : World} {bv gv bv' gv' : Value} {m n : PModel} (h : rModel w [bv, gv] m) (h' : rModel w [bv', gv'] n) (hf : Few m) (hf' : Few n) :
    Calls Try.prog 10 #[.agg #[bv, gv], .agg #[bv', gv']] w fun e w' => e = .returned (.bool (sameM m n)) ∧ Below w.heap.size w w' := by
  obtain ⟨R, hR⟩ : ∃ R, R = sameM m n := ⟨_, rfl⟩
  rw [← hR]
  obtain ⟨pb, bb, ob, cb, lb, pg, lg, cg, rfl, rfl, _, hm⟩ := rModel_open h
  obtain ⟨pb', bb', ob', cb', lb', pg', lg', cg', rfl, rfl, _, hm'⟩ := rModel_open h'
  obtain ⟨W1, hW1⟩ : ∃ W1, W1 = (w.alloc (.cells #[.slice pb lb cb, .slice pg lg cg] 26)).alloc (.cells #[.slice pb' lb' cb', .slice pg' lg' cg'] 26) := ⟨_, rfl⟩
  have hB1 : Below w.heap.size w W1 := by rw [hW1]; exact below_twice _ _ _
  obtain ⟨⟨m0, m1⟩, ⟨n0, n1⟩⟩ := two_two w (.slice pb lb cb) (.slice pg lg cg) (.slice pb' lb' cb') (.slice pg' lg' cg') 26
  rw [← hW1] at m0 m1 n0 n1
  have hlb : lb = m.blocks.length := hm.mod.blocks.long
  have hlb' : lb' = n.blocks.length := hm'.mod.blocks.long
  have hb30 : lb ≤ 1000 := by rw [hlb]; exact hf.blocks
  have hpb := hm.mod.blocks.at_
  have hpb' := hm'.mod.blocks.at_
  have HX := Lib.hid (hm.below hB1)
  have HY := Lib.hid (hm'.below hB1)
  have HF := Lib.hid hf
  have HF' := Lib.hid hf'
  have HB1 := Lib.hid hB1
  have HW1 := Lib.hid hW1
  have HM := Lib.hid (And.intro m0 (And.intro m1 (And.intro n0 n1)))
  have HLB := Lib.hid hlb
  have HLB' := Lib.hid hlb'
  have CG := Lib.hid (fun u (hb : Below W1.heap.size W1 u) => alike_any (HX.out.mod.below hb).goal (HY.out.mod.below hb).goal (by have := HF.out.goal.1; omega) (by have := HF'.out.goal.1; omega) (fun d hd => short_more (HF.out.goal.2 d hd)) (fun d hd => short_more (HF'.out.goal.2 d hd)))
  clear h h' hf hf' hm hm' hW1 hB1 hlb hlb'
  by_cases he : lb = lb'
  · subst he
    have e1 : ((lb : Int) == (lb : Int)) = true := beq_self_eq_true _
    have e2 : ((lb : Int) != (lb : Int)) = false := by simp
    obtain ⟨G, hG⟩ : ∃ G, G = listB sameC m.goal n.goal := ⟨_, rfl⟩
    rw [← hG] at CG
    have HS := Lib.hid (show R = (listB sameB (m.blocks.drop 0) (n.blocks.drop 0) && G) by rw [hR, hG]; rfl)
    clear hR hG
    go_enter Try.func10, Try.ntmps10
    go_upto_region 1 with fail
    rw [← HW1.out]
    go_wp2_with fail
    clear m0 m1 n0 n1 e1 e2
    go_loopw [5] (fun vi wr => ∃ k : Nat, k ≤ lb ∧ vi = .int .i64 k ∧ R = (listB sameB (m.blocks.drop k) (n.blocks.drop k) && G) ∧ Below W1.heap.size W1 wr) (fun vi _ => lb - (intOf vi).toNat)
    case atStart => exact ⟨0, by omega, rfl, HS.out, Below.refl _ _⟩
    case round =>
      obtain ⟨k, hk, rfl, hrel, hB⟩ := hrel
      have m0 := cell_stays hB HM.out.1
      have n0 := cell_stays hB HM.out.2.2.1
      have HB := Lib.hid hB
      by_cases hlt : k < lb
      · obtain rfl := hpb (by omega)
        obtain rfl := hpb' (by omega)
        obtain ⟨x, v1, v2, ex, _, a0, a1, a2, sv, sc⟩ := block_at HX.out.mod.blocks hlt
        obtain ⟨y, u1, u2, ey, _, b0, b1, b2, tv, tc⟩ := block_at HY.out.mod.blocks hlt
        have a0 := cell_stays hB a0
        have a1 := cell_stays hB a1
        have a2 := cell_stays hB a2
        have b0 := cell_stays hB b0
        have b1 := cell_stays hB b1
        have b2 := cell_stays hB b2
        have hstep := hrel.trans (by rw [listB_at sameB ex ey])
        have fx := HF.out.block x (List.mem_of_getElem? ex)
        have fy := HF'.out.block y (List.mem_of_getElem? ey)
        have CD := Lib.hid (fun u (hb : Below W1.heap.size W1 u) => decls_any (sv.below rDecl_stays hb) (tv.below rDecl_stays hb) fx.vars fy.vars fx.doms fy.doms)
        have CA := Lib.hid (fun u (hb : Below W1.heap.size W1 u) => alike_any (sc.below rCon_stays hb) (tc.below rCon_stays hb) fx.cons fy.cons fx.nums fy.nums)
        obtain ⟨p1, l1, c1, rfl⟩ := slc_shape sv
        obtain ⟨p2, l2, c2, rfl⟩ := slc_shape sc
        obtain ⟨q1, k1, s1, rfl⟩ := slc_shape tv
        obtain ⟨q2, k2, s2, rfl⟩ := slc_shape tc
        rw [show sameB x y = (decide (x.all = y.all) && (listB sameD x.vars y.vars && listB sameC x.cons y.cons)) from rfl] at hstep
        generalize listB sameD x.vars y.vars = P at CD hstep
        generalize listB sameC x.cons y.cons = Q at CA hstep
        generalize x.all = xa at a0 hstep
        generalize y.all = ya at b0 hstep
        clear hrel ex ey sv sc tv tc fx fy hB
        by_cases hxy : xa = ya
        · subst hxy
          have q0 : (xa != xa) = false := by simp
          have q00 : (xa == xa) = true := by simp
          rw [decide_eq_true rfl, Bool.true_and] at hstep
          cases P
          · rw [Bool.false_and, Bool.false_and, Bool.false_and] at hstep
            subst hstep
            go_upto_region 6 with fail
            go_quiet ((go_at_call 18; exact Calls.quiet_of (CD.out _ (below_drewN HB.out))))
            clear m0 n0 a0 a1 a2 b0 b1 b2
            go_wp2_with fail
            go_ret
            exact ⟨rfl, HB1.out.trans ((below_drewN HB.out).mono HB1.out.size)⟩
          · rw [Bool.true_and] at hstep
            have hst : wr.cell? ⟨w.heap.size, 0, none⟩ = some (.slice (some ⟨bb, ob, none⟩) lb cb) ∧ wr.cell? ⟨w.heap.size + 1, 0, none⟩ = some (.slice (some ⟨bb', ob', none⟩) lb cb') ∧ wr.cell? ⟨bb, ob + k * 3, none⟩ = some (.bool xa) ∧ wr.cell? ⟨bb, ob + k * 3 + 1, none⟩ = some (.slice p1 l1 c1) ∧ wr.cell? ⟨bb, ob + k * 3 + 2, none⟩ = some (.slice p2 l2 c2) ∧ wr.cell? ⟨bb', ob' + k * 3, none⟩ = some (.bool xa) ∧ wr.cell? ⟨bb', ob' + k * 3 + 1, none⟩ = some (.slice q1 k1 s1) ∧ wr.cell? ⟨bb', ob' + k * 3 + 2, none⟩ = some (.slice q2 k2 s2) ∧ Hid (Below W1.heap.size W1 wr) := ⟨m0, n0, a0, a1, a2, b0, b1, b2, HB⟩
            have H0 := Lib.hid hst
            have NX := Lib.hid hstep
            have CB : Hid (∀ u, Below W1.heap.size W1 u → Calls Try.prog 18 #[.slice p1 l1 c1, .slice q1 k1 s1] u fun e w' => e = .returned (.bool true) ∧ Below u.heap.size u w') := Lib.hid fun u hb => (CD.out u hb).mono fun e w' h => ⟨h.1, by obtain ⟨nn, hn⟩ := h.2; rw [hn]; exact below_drewN (Below.refl _ _)⟩
            clear hst hstep
            go_upto_region 6 with fail
            clear m0 n0 a0 a1 a2 b0 b1 b2
            go_region_held3 (fun w' => w'.cell? ⟨w.heap.size, 0, none⟩ = some (.slice (some ⟨bb, ob, none⟩) lb cb) ∧ w'.cell? ⟨w.heap.size + 1, 0, none⟩ = some (.slice (some ⟨bb', ob', none⟩) lb cb') ∧ w'.cell? ⟨bb, ob + k * 3, none⟩ = some (.bool xa) ∧ w'.cell? ⟨bb, ob + k * 3 + 1, none⟩ = some (.slice p1 l1 c1) ∧ w'.cell? ⟨bb, ob + k * 3 + 2, none⟩ = some (.slice p2 l2 c2) ∧ w'.cell? ⟨bb', ob' + k * 3, none⟩ = some (.bool xa) ∧ w'.cell? ⟨bb', ob' + k * 3 + 1, none⟩ = some (.slice q1 k1 s1) ∧ w'.cell? ⟨bb', ob' + k * 3 + 2, none⟩ = some (.slice q2 k2 s2) ∧ Hid (Below W1.heap.size W1 w'))
              (first | exact hold8s (by assumption) (by assumption) | exact hold8s H0.out (below_drewN (n := 1) (Below.refl _ _)))
              (first | (go_at_call 18; refine (CB.out _ (hold8sb (by assumption))).mono ?_; rintro e u ⟨rfl, hB⟩) | (go_at_call 19; refine (CA.out _ (hold8sb (by assumption))).mono ?_; rintro e u2 ⟨rfl, hB⟩))
            have HH := Lib.hid (hold8sb (by assumption))
            cases Q
            · have key : R = false := by rw [NX.out, Bool.false_and, Bool.false_and]
              subst key
              go_wp2_with fail
              go_ret
              exact ⟨rfl, HB1.out.trans (HH.out.mono HB1.out.size)⟩
            · go_wp2_with fail
              go_roundw
              case rel => exact ⟨k + 1, by omega, by go_num, by rw [NX.out, Bool.true_and], HH.out⟩
              case measure => simp [intOf]; omega
        · have q0 : (xa != ya) = true := by simp [hxy]
          have q00 : (xa == ya) = false := beq_eq_false_iff_ne.2 hxy
          rw [decide_eq_false hxy, Bool.false_and, Bool.false_and, Bool.false_and] at hstep
          subst hstep
          clear hxy
          go_upto_region 6 with fail
          go_quiet (fail)
          clear m0 n0 a0 a1 a2 b0 b1 b2 q0 q00
          go_wp2_with fail
          go_ret
          exact ⟨rfl, HB1.out.trans ((below_drewN HB.out).mono HB1.out.size)⟩
      · have key : R = G := by
          rw [hrel, List.drop_of_length_le (by rw [← HLB.out]; omega), List.drop_of_length_le (by rw [← HLB'.out]; omega)]
          rfl
        subst key
        have m1 := cell_stays hB HM.out.2.1
        have n1 := cell_stays hB HM.out.2.2.2
        have CG2 := Lib.hid (CG.out _ hB)
        clear hrel hB
        go_wp2_with fail
        refine CG2.out.mono ?_
        rintro e u ⟨rfl, hBu⟩
        have HBu := Lib.hid (HB.out.trans (hBu.mono HB.out.size))
        clear hBu m0 n0 m1 n1
        go_wp2_with fail
        go_ret
        exact ⟨rfl, HB1.out.trans (HBu.out.mono HB1.out.size)⟩
  · have key : R = false := by
      rw [hR, sameM, listB_len _ _ _ (by rw [← HLB.out, ← HLB'.out]; exact he)]
      rfl
    clear hR
    subst key
    have e1 : ((lb : Int) == (lb' : Int)) = false := beq_eq_false_iff_ne.2 (by omega)
    clear he
    go_enter Try.func10, Try.ntmps10
    go_upto_region 1 with fail
    rw [← HW1.out]
    go_wp2_with fail
    go_ret
    exact ⟨rfl, HB1.out⟩
end Go.Proofs.Ytfkakdpppejehaa
