/-
  What Check of the document's answers answers, at every model that can be read and whose lists are short.
-/
import Derived.Test.YtkgieaoahijheaaDoorZYAZ
import Derived.Deep.RegionHeld3
import Derived.Test.YtkgieaoahijheaaDoorZMRight
namespace Go.Proofs.YtkgieaoahijheaaDoor
open Go.RowKit
set_option maxRecDepth 100000

theorem rrcon_any {w : World} {k r t : Int} {v1 v2 v3 : Value} {c : PCon} (vars : Int) (hv : Fit vars) (h : rCon w [.int .i64 k, v1, v2, .int .i64 r, .int .i64 t, v3] c) (hs : Short 1000 c) :
    Calls Tryd.prog 10 #[.agg #[.int .i64 k, v1, v2, .int .i64 r, .int .i64 t, v3], .int .i64 vars] w fun e w' => e = .returned (.bool (rightC c vars)) ∧ Below w.heap.size w w' := by
  obtain ⟨u1, u2, u3, e, ⟨f1, f2, f3⟩, ⟨p1, b1, o1, c1, l1, e1, hc1, h1⟩, ⟨p2, b2, o2, c2, l2, e2, _, h2⟩, ⟨p3, b3, o3, c3, l3, e3, _, h3⟩⟩ := h
  subst e1 e2 e3
  simp only [List.cons.injEq, and_true, Value.int.injEq, true_and] at e
  obtain ⟨rfl, rfl, rfl, rfl, rfl, rfl⟩ := e
  exact rr_cells p1 p2 p3 b1 o1 c1 l1 b2 o2 c2 l2 b3 o3 c3 l3 c vars w h1 h2 h3 (by rw [h1.long]; exact hs.1) (by rw [h2.long]; exact hs.2.1) (by rw [h3.long]; exact hs.2.2) hv f1 f2 f3

noncomputable def endK (m : PModel) (fo wb : Bool) : Int := if fo = true then 2 else if nameM m = true then 7 else if twiceM m = true then 8 else if domM m = true then 1 else if wb = true then 12 else 0
theorem check_is (m : PModel) : checkM m = if bigM m = true then 5 else endK m (formM m) (conM m) := by
  simp only [checkM, faultsM, firstF, endK]
theorem ends_get : ∀ (bs : List PBlock) (n k : Nat), k < bs.length → (endsF n bs).getD k 0 = ((n + (varsL (bs.take (k + 1))).length : Nat) : Int)
  | [], _, _, h => by simp at h
  | x :: r, n, 0, _ => by simp [endsF, varsL]
  | x :: r, n, k + 1, h => by
    have := ends_get r (n + x.vars.length) k (by simpa using h)
    rw [endsF, List.getD_cons_succ, this]
    have e : varsL ((x :: r).take (k + 1 + 1)) = x.vars ++ varsL (r.take (k + 1)) := by simp [varsL]
    rw [e, List.length_append]
    omega
theorem dec_zero (n : Nat) : decide (n = 0) = ((n : Int) == 0) := by
  by_cases h : n = 0
  · subst h; rfl
  · rw [decide_eq_false h]
    exact (beq_eq_false_iff_ne.2 (by omega)).symm
theorem hold11 {W0 u u' : World} {p0 p1 p2 p3 p4 p5 p6 p7 p8 : Addr} {a0 a1 a2 a3 a4 a5 a6 a7 a8 : Value} (h : u.cell? p0 = some a0 ∧ u.cell? p1 = some a1 ∧ u.cell? p2 = some a2 ∧ u.cell? p3 = some a3 ∧ u.cell? p4 = some a4 ∧ u.cell? p5 = some a5 ∧ u.cell? p6 = some a6 ∧ u.cell? p7 = some a7 ∧ u.cell? p8 = some a8 ∧ Hid (Below W0.heap.size W0 u)) (hb : Below u.heap.size u u') :
    u'.cell? p0 = some a0 ∧ u'.cell? p1 = some a1 ∧ u'.cell? p2 = some a2 ∧ u'.cell? p3 = some a3 ∧ u'.cell? p4 = some a4 ∧ u'.cell? p5 = some a5 ∧ u'.cell? p6 = some a6 ∧ u'.cell? p7 = some a7 ∧ u'.cell? p8 = some a8 ∧ Hid (Below W0.heap.size W0 u') :=
  ⟨cell_stays hb h.1, cell_stays hb h.2.1, cell_stays hb h.2.2.1, cell_stays hb h.2.2.2.1, cell_stays hb h.2.2.2.2.1, cell_stays hb h.2.2.2.2.2.1, cell_stays hb h.2.2.2.2.2.2.1, cell_stays hb h.2.2.2.2.2.2.2.1, cell_stays hb h.2.2.2.2.2.2.2.2.1, Lib.hid (h.2.2.2.2.2.2.2.2.2.out.trans (hb.mono h.2.2.2.2.2.2.2.2.2.out.size))⟩
theorem hold11b {W0 u : World} {p0 p1 p2 p3 p4 p5 p6 p7 p8 : Addr} {a0 a1 a2 a3 a4 a5 a6 a7 a8 : Value} (h : u.cell? p0 = some a0 ∧ u.cell? p1 = some a1 ∧ u.cell? p2 = some a2 ∧ u.cell? p3 = some a3 ∧ u.cell? p4 = some a4 ∧ u.cell? p5 = some a5 ∧ u.cell? p6 = some a6 ∧ u.cell? p7 = some a7 ∧ u.cell? p8 = some a8 ∧ Hid (Below W0.heap.size W0 u)) : Below W0.heap.size W0 u := h.2.2.2.2.2.2.2.2.2.out

set_option maxRecDepth 100000 in
set_option maxHeartbeats 8000000 in
theorem rcheck_any {w : World} {bv gv : Value} {m : PModel} (h : rModel w [bv, gv] m) (hf : Few m) :
    Calls Tryd.prog 9 #[.agg #[bv, gv]] w fun e w' => e = .returned (.int .i64 (checkM m)) ∧ Below w.heap.size w w' := by
  obtain ⟨pb, bb, ob, cb, lb, pg, lg, cg, rfl, rfl, hc, hm⟩ := rModel_open h
  obtain ⟨R, hR⟩ : ∃ R, R = checkM m := ⟨_, rfl⟩
  rw [← hR]
  have hR2 := hR.trans (check_is m)
  obtain ⟨L, hL⟩ : ∃ L, L = varsL m.blocks := ⟨_, rfl⟩
  obtain ⟨W0, hW0⟩ : ∃ W0, W0 = w.alloc (.cells #[.slice pb lb cb, .slice pg lg cg] 25) := ⟨_, rfl⟩
  have hB0 : Below w.heap.size w W0 := by rw [hW0]; exact (Below.refl _ w).alloc (Nat.le_refl _) _
  have m0 : W0.cell? ⟨w.heap.size, 0, none⟩ = some (.slice pb lb cb) := by rw [hW0]; go_simp
  have m1 : W0.cell? ⟨w.heap.size, 1, none⟩ = some (.slice pg lg cg) := by rw [hW0]; go_simp
  have HM := Lib.hid (And.intro m0 m1)
  have HR := Lib.hid (fun u (hb : Below W0.heap.size W0 u) => ((hm.below hB0).below hb).model hc)
  have HMO := Lib.hid (hm.below hB0)
  have HW := Lib.hid hW0
  have HB0 := Lib.hid hB0
  have HF := Lib.hid hf
  have hlb : lb = m.blocks.length := hm.mod.blocks.long
  have hlg : lg = m.goal.length := hm.goal
  have hlb30 : lb ≤ 1000 := by rw [hlb]; exact hf.blocks
  have hlg30 : lg ≤ 1000 := by rw [hlg]; exact hf.goal.1
  have hL900 : L.length ≤ 1000 := by rw [hL]; exact hf.few
  have HDL := Lib.hid (show ∀ d ∈ L, d.name.length ≤ 1000 ∧ d.dom.length ≤ 1000 by rw [hL]; exact hf.decl)
  have CV := Lib.hid (vars_any (HR.out W0 (Below.refl _ W0)) hf.blocks hf.vars (by have := hf.few; omega))
  have CE := Lib.hid (fun u (hb : Below W0.heap.size W0 u) => ends_any (HR.out u hb) (by have := hf.blocks; omega) (fun x hx => by have := hf.vars x hx; omega))
  have hbig : bigM m = (decide (8 < lb) || (decide (16 < lg) || (m.blocks.any fW || decide (16 < L.length)))) := by rw [bigM, ← hlb, ← hlg, ← hL]; rfl
  have hform : formM m = (decide (lb = 0) || m.blocks.any fV) := by rw [formM, ← hlb]; rfl
  have hcon : conM m = (conF 0 m.blocks || wrongL m.goal L.length) := by rw [conM, ← hL]
  rw [hbig, hform, hcon, dec_zero] at hR2
  rw [← hL] at CV
  have HLE := Lib.hid hL
  have HLB := Lib.hid hlb
  have HLG := Lib.hid hlg
  clear h hf hc hm hW0 hB0 hR hL hbig hform hcon hlb hlg m0 m1
  have m0 := HM.out.1
  have m1 := HM.out.2
  go_enter Tryd.func9, Tryd.ntmps9
  go_upto_region 1 with fail
  rw [← HW.out]
  go_wp2_with fail
  refine CV.out.mono ?_
  rintro e w1 ⟨v, rfl, hsl, hB1⟩
  obtain ⟨pl, bl, ol, cl, ll, rfl, hs⟩ := hsl.open_
  have hlen := hs.long
  have hpl := hs.at_
  have HB1 := Lib.hid hB1
  have HSL := Lib.hid hs
  have HLN := Lib.hid hlen
  have m0 := cell_stays hB1 HM.out.1
  have m1 := cell_stays hB1 HM.out.2
  rw [← hlen] at hR2 hL900
  clear hsl hs hB1 hlen
  by_cases b1 : 8 < lb
  · have d1 : decide ((8 : Int) < (lb : Int)) = true := decide_eq_true (by omega)
    rw [decide_eq_true b1, Bool.true_or, if_pos rfl] at hR2
    subst hR2
    go_wp2_with fail
    go_ret
    exact ⟨rfl, HB0.out.trans (HB1.out.mono HB0.out.size)⟩
  have d1 : decide ((8 : Int) < (lb : Int)) = false := decide_eq_false (by omega)
  rw [decide_eq_false b1, Bool.false_or] at hR2
  by_cases b2 : 16 < ll
  · have d2 : decide ((16 : Int) < (ll : Int)) = true := decide_eq_true (by omega)
    rw [decide_eq_true b2, Bool.or_true, Bool.or_true, if_pos rfl] at hR2
    subst hR2
    go_wp2_with fail
    go_ret
    exact ⟨rfl, HB0.out.trans (HB1.out.mono HB0.out.size)⟩
  have d2 : decide ((16 : Int) < (ll : Int)) = false := decide_eq_false (by omega)
  rw [decide_eq_false b2, Bool.or_false] at hR2
  by_cases b3 : 16 < lg
  · have d3 : decide ((16 : Int) < (lg : Int)) = true := decide_eq_true (by omega)
    rw [decide_eq_true b3, Bool.true_or, if_pos rfl] at hR2
    subst hR2
    go_wp2_with fail
    go_ret
    exact ⟨rfl, HB0.out.trans (HB1.out.mono HB0.out.size)⟩
  have d3 : decide ((16 : Int) < (lg : Int)) = false := decide_eq_false (by omega)
  rw [decide_eq_false b3, Bool.false_or] at hR2
  obtain ⟨fo0, hfo0⟩ : ∃ fo0, fo0 = ((lb : Int) == 0) := ⟨_, rfl⟩
  rw [← hfo0] at hR2
  have HS := Lib.hid (show R = (if (m.blocks.drop 0).any fW = true then 5 else endK m (fo0 || (m.blocks.drop 0).any fV) (false || (conF 0 (m.blocks.drop 0) || wrongL m.goal ll))) ∧ 0 = (varsL (m.blocks.take 0)).length ∧ 0 ≤ 0 * 1000 by exact ⟨by rw [hR2, List.drop_zero, Bool.false_or], by simp [varsL], by omega⟩)
  clear hR2
  go_upto_region 5 with fail
  rw [← hfo0]
  clear d1 d2 d3 b1 b2 b3 hfo0
  go_wp2_with fail
  refine (CE.out w1 HB1.out).mono ?_
  rintro e w2 ⟨v, rfl, hes, hB2⟩
  obtain ⟨pe, be, oe, ce, le, rfl, hs⟩ := hes.open_
  have hnm := nums_of hs
  have hle : le = lb := by rw [hs.long, ends_length, HLB.out]
  subst hle
  have hpe := hs.at_
  have HB2 := Lib.hid (HB1.out.trans (hB2.mono HB1.out.size))
  have HSL := Lib.hid (HSL.out.below rDecl_stays hB2)
  have HEN := Lib.hid hnm
  have HMO := Lib.hid (HMO.out.below HB2.out)
  have m0 := cell_stays hB2 m0
  have m1 := cell_stays hB2 m1
  have HM := Lib.hid (And.intro m0 m1)
  have hpb := HMO.out.mod.blocks.at_
  clear hes hs hB2 hnm m0 m1
  go_upto_region 7 with fail
  go_wp2_with fail
  go_loopw [4, 5, 7] (fun vf vw vi wr => ∃ (k n : Nat) (fo wb : Bool), k ≤ le ∧ vi = .int .i64 k ∧ vf = .bool fo ∧ vw = .bool wb ∧ (R = (if (m.blocks.drop k).any fW = true then 5 else endK m (fo || (m.blocks.drop k).any fV) (wb || (conF n (m.blocks.drop k) || wrongL m.goal ll))) ∧ n = (varsL (m.blocks.take k)).length ∧ n ≤ k * 1000) ∧ Below w2.heap.size w2 wr) (fun _ _ vi _ => le - (intOf vi).toNat)
  case atStart => exact ⟨0, 0, fo0, false, by omega, rfl, rfl, rfl, HS.out, Below.refl _ _⟩
  case round =>
    obtain ⟨k, n, fo, wb, hk, rfl, rfl, rfl, ⟨hrel, hn, hn2⟩, hB⟩ := hrel
    have m0 := cell_stays hB HM.out.1
    have m1 := cell_stays hB HM.out.2
    have HB := Lib.hid hB
    by_cases hlt : k < le
    · obtain rfl := hpb (by omega)
      obtain rfl := hpe (by omega)
      obtain ⟨x, v1, v2, ex, ed, a0, a1, a2, sv, sc⟩ := block_at HMO.out.mod.blocks hlt
      have hstep := hrel.trans (by rw [any_at fW ex, any_at fV ex, con_at_k ex])
      have htot := totals ex
      obtain ⟨p1, l1, c1, rfl, hl1⟩ := slc_long sv
      have hxv := HF.out.vars x (List.mem_of_getElem? ex)
      obtain ⟨hxc, hsh⟩ := HF.out.wheres x (List.mem_of_getElem? ex)
      obtain ⟨p2, b2, o2, c2, l2, rfl, hs2⟩ := sc.open_
      have a1 := cell_stays hB a1
      have A2 := Lib.hid a2
      have a2 := cell_stays hB a2
      have e0 := HEN.out.cell k hlt
      rw [ends_get m.blocks 0 k (by rw [← HLB.out]; exact hlt), Nat.zero_add, htot, ← hn, ← hl1] at e0
      have E0 := Lib.hid e0
      have hfw : fW x = decide (16 < l2) := by rw [fW, ← hs2.long]
      have hfv : fV x = ((l1 : Int) == 0) := by rw [fV, ← hl1, dec_zero]
      rw [hfw, hfv, ← hl1] at hstep
      rw [← hn, ← hl1] at htot
      rw [← hl1] at hxv
      have hp2 := hs2.at_
      have hl2 := hs2.long
      rw [← hl2] at hxc
      have HL2 := Lib.hid hl2
      have HS2 := Lib.hid hs2
      have HSH := Lib.hid hsh
      have HTOT := Lib.hid htot
      clear hrel ex ed a0 sv sc hB e0 hfw hfv hl1 hl2 hs2 hsh htot hn
      by_cases g3 : 16 < l2
      · have d4 : decide ((16 : Int) < (l2 : Int)) = true := decide_eq_true (by omega)
        rw [decide_eq_true g3, Bool.true_or, if_pos rfl] at hstep
        subst hstep
        go_wp2_with fail
        go_ret
        exact ⟨rfl, HB0.out.trans ((HB2.out.trans (HB.out.mono HB2.out.size)).mono HB0.out.size)⟩
      · have d4 : decide ((16 : Int) < (l2 : Int)) = false := decide_eq_false (by omega)
        rw [decide_eq_false g3, Bool.false_or] at hstep
        obtain ⟨N, eN⟩ : ∃ N, N = n + l1 := ⟨_, rfl⟩
        rw [← eN] at hstep E0 HTOT
        have hN : N ≤ (k + 1) * 1000 := by omega
        obtain ⟨Z, hZ⟩ : ∃ Z, Z = (conF N (m.blocks.drop (k + 1)) || wrongL m.goal ll) := ⟨_, rfl⟩
        obtain ⟨F, hF⟩ : ∃ F : Bool → Bool → Int, F = fun f b => if (m.blocks.drop (k + 1)).any fW = true then 5 else endK m (f || (m.blocks.drop (k + 1)).any fV) b := ⟨_, rfl⟩
        have hst2 : R = F (fo || ((l1 : Int) == 0)) (wb || ((x.cons.drop 0).any (fun c => !rightC c (N : Int)) || Z)) := by
          rw [hstep, hF, hZ, List.drop_zero]
          simp only [Bool.or_assoc]
          rfl
        have HFZ := Lib.hid (And.intro hF hZ)
        clear hstep hF hZ eN g3
        cases fo
        · rw [Bool.false_or] at hst2
          obtain ⟨f1, hf1⟩ : ∃ f1, f1 = ((l1 : Int) == 0) := ⟨_, rfl⟩
          rw [← hf1] at hst2
          go_upto_region 13 with fail
          rw [← hf1]
          clear hf1 a1 d4
          have HST := Lib.hid hst2
          clear hst2 m0 m1 a2
          go_wp2_with fail
          go_loopw [5, 8] (fun vw vj wq => ∃ (j : Nat) (b : Bool), j ≤ l2 ∧ vj = .int .i64 j ∧ vw = .bool b ∧ R = F f1 (b || ((x.cons.drop j).any (fun c => !rightC c (N : Int)) || Z)) ∧ Below w2.heap.size w2 wq) (fun _ vj _ => l2 - (intOf vj).toNat)
          case atStart => exact ⟨0, wb, by omega, rfl, rfl, HST.out, HB.out⟩
          case round =>
            obtain ⟨j, b, hj, rfl, rfl, hrel, hBq⟩ := hrel
            have m0 := cell_stays hBq HM.out.1
            have a2 := cell_stays hBq A2.out
            have HBq := Lib.hid hBq
            by_cases hlj : j < l2
            · obtain rfl := hp2 (by omega)
              have e0 := cell_stays hBq E0.out
              obtain ⟨d, u1, u2, u3, exd, ⟨c0, c1', c2', c3, c4, c5⟩, hd⟩ := con_at2 HS2.out hlj
              obtain ⟨⟨q1, n1, s1, rfl⟩, ⟨q2, n2, s2, rfl⟩, ⟨q3, n3, s3, rfl⟩⟩ := rCon_shape hd
              have c0 := cell_stays hBq c0
              have c1' := cell_stays hBq c1'
              have c2' := cell_stays hBq c2'
              have c3 := cell_stays hBq c3
              have c4 := cell_stays hBq c4
              have c5 := cell_stays hBq c5
              have hstep := hrel.trans (by rw [any_at _ exd])
              have CR := Lib.hid (fun u (hb : Below w2.heap.size w2 u) => rrcon_any ((N : Nat) : Int) (by unfold Fit; omega) (rCon_stays _ _ _ _ hb hd) (short_150 (HSH.out d (List.mem_of_getElem? exd))))
              obtain ⟨q, hq⟩ : ∃ q, q = rightC d ((N : Nat) : Int) := ⟨_, rfl⟩
              rw [← hq] at CR hstep
              generalize d.kind = k0 at c0 CR
              generalize d.rel = r0 at c3 CR
              generalize d.const = t0 at c4 CR
              clear hrel exd hd hBq hq
              cases b
              · have hst : wr.cell? ⟨w.heap.size, 0, none⟩ = some (.slice (some ⟨bb, ob, none⟩) le cb) ∧ wr.cell? ⟨bb, ob + k * 3 + 2, none⟩ = some (.slice (some ⟨b2, o2, none⟩) l2 c2) ∧ wr.cell? ⟨be, oe + k, none⟩ = some (.int .i64 ((N : Nat) : Int)) ∧ wr.cell? ⟨b2, o2 + j * 6, none⟩ = some (.int .i64 k0) ∧ wr.cell? ⟨b2, o2 + j * 6 + 1, none⟩ = some (.slice q1 n1 s1) ∧ wr.cell? ⟨b2, o2 + j * 6 + 2, none⟩ = some (.slice q2 n2 s2) ∧ wr.cell? ⟨b2, o2 + j * 6 + 3, none⟩ = some (.int .i64 r0) ∧ wr.cell? ⟨b2, o2 + j * 6 + 4, none⟩ = some (.int .i64 t0) ∧ wr.cell? ⟨b2, o2 + j * 6 + 5, none⟩ = some (.slice q3 n3 s3) ∧ Hid (Below w2.heap.size w2 wr) := ⟨m0, a2, e0, c0, c1', c2', c3, c4, c5, HBq⟩
                have H0 := Lib.hid hst
                have NX := Lib.hid hstep
                clear hst hstep
                go_upto_region 16 with fail
                clear m0 a2 e0 c0 c1' c2' c3 c4 c5
                go_region_held3 (fun w' => w'.cell? ⟨w.heap.size, 0, none⟩ = some (.slice (some ⟨bb, ob, none⟩) le cb) ∧ w'.cell? ⟨bb, ob + k * 3 + 2, none⟩ = some (.slice (some ⟨b2, o2, none⟩) l2 c2) ∧ w'.cell? ⟨be, oe + k, none⟩ = some (.int .i64 ((N : Nat) : Int)) ∧ w'.cell? ⟨b2, o2 + j * 6, none⟩ = some (.int .i64 k0) ∧ w'.cell? ⟨b2, o2 + j * 6 + 1, none⟩ = some (.slice q1 n1 s1) ∧ w'.cell? ⟨b2, o2 + j * 6 + 2, none⟩ = some (.slice q2 n2 s2) ∧ w'.cell? ⟨b2, o2 + j * 6 + 3, none⟩ = some (.int .i64 r0) ∧ w'.cell? ⟨b2, o2 + j * 6 + 4, none⟩ = some (.int .i64 t0) ∧ w'.cell? ⟨b2, o2 + j * 6 + 5, none⟩ = some (.slice q3 n3 s3) ∧ Hid (Below w2.heap.size w2 w'))
                  (first | exact hold11 (by assumption) (by assumption) | exact hold11 H0.out (below_drewN (n := 1) (Below.refl _ _)))
                  (first | (go_at_call 10; refine (CR.out _ (hold11b (by assumption))).mono ?_; rintro e u ⟨rfl, hB⟩))
                have HH := Lib.hid (hold11b (by assumption))
                go_wp2_with fail
                go_roundw
                case rel => exact ⟨j + 1, !q, by omega, by go_num, rfl, by rw [NX.out, Bool.false_or, Bool.or_assoc], HH.out⟩
                case measure => simp [intOf]; omega
              · rw [Bool.true_or] at hstep
                have NX := Lib.hid hstep
                clear hstep
                go_upto_region 16 with fail
                clear e0 c0 c1' c2' c3 c4 c5 m0 a2
                go_quiet (fail)
                go_wp2_with fail
                go_roundw
                case rel => exact ⟨j + 1, true, by omega, by go_num, rfl, by rw [NX.out, Bool.true_or], below_drewN HBq.out⟩
                case measure => simp [intOf]; omega
            · have hdr : x.cons.drop j = [] := List.drop_of_length_le (by rw [← HL2.out]; omega)
              have key : R = F f1 (b || Z) := by rw [hrel, hdr, List.any_nil, Bool.false_or]
              have NX := Lib.hid key
              clear hrel hBq hdr key
              go_wp2_with fail
              go_roundw
              case rel => exact ⟨k + 1, N, f1, b, by omega, by go_num, rfl, rfl, ⟨by rw [NX.out, HFZ.out.1, HFZ.out.2], HTOT.out.symm, hN⟩, HBq.out⟩
              case measure => simp [intOf]; omega
        · rw [Bool.true_or] at hst2
          obtain ⟨f1, hf1⟩ : ∃ f1, f1 = true := ⟨_, rfl⟩
          rw [← hf1] at hst2
          go_upto_region 13 with fail
          rw [← hf1]
          clear hf1 a1 d4
          have HST := Lib.hid hst2
          clear hst2 m0 m1 a2
          go_wp2_with fail
          go_loopw [5, 8] (fun vw vj wq => ∃ (j : Nat) (b : Bool), j ≤ l2 ∧ vj = .int .i64 j ∧ vw = .bool b ∧ R = F f1 (b || ((x.cons.drop j).any (fun c => !rightC c (N : Int)) || Z)) ∧ Below w2.heap.size w2 wq) (fun _ vj _ => l2 - (intOf vj).toNat)
          case atStart => exact ⟨0, wb, by omega, rfl, rfl, HST.out, HB.out⟩
          case round =>
            obtain ⟨j, b, hj, rfl, rfl, hrel, hBq⟩ := hrel
            have m0 := cell_stays hBq HM.out.1
            have a2 := cell_stays hBq A2.out
            have HBq := Lib.hid hBq
            by_cases hlj : j < l2
            · obtain rfl := hp2 (by omega)
              have e0 := cell_stays hBq E0.out
              obtain ⟨d, u1, u2, u3, exd, ⟨c0, c1', c2', c3, c4, c5⟩, hd⟩ := con_at2 HS2.out hlj
              obtain ⟨⟨q1, n1, s1, rfl⟩, ⟨q2, n2, s2, rfl⟩, ⟨q3, n3, s3, rfl⟩⟩ := rCon_shape hd
              have c0 := cell_stays hBq c0
              have c1' := cell_stays hBq c1'
              have c2' := cell_stays hBq c2'
              have c3 := cell_stays hBq c3
              have c4 := cell_stays hBq c4
              have c5 := cell_stays hBq c5
              have hstep := hrel.trans (by rw [any_at _ exd])
              have CR := Lib.hid (fun u (hb : Below w2.heap.size w2 u) => rrcon_any ((N : Nat) : Int) (by unfold Fit; omega) (rCon_stays _ _ _ _ hb hd) (short_150 (HSH.out d (List.mem_of_getElem? exd))))
              obtain ⟨q, hq⟩ : ∃ q, q = rightC d ((N : Nat) : Int) := ⟨_, rfl⟩
              rw [← hq] at CR hstep
              generalize d.kind = k0 at c0 CR
              generalize d.rel = r0 at c3 CR
              generalize d.const = t0 at c4 CR
              clear hrel exd hd hBq hq
              cases b
              · have hst : wr.cell? ⟨w.heap.size, 0, none⟩ = some (.slice (some ⟨bb, ob, none⟩) le cb) ∧ wr.cell? ⟨bb, ob + k * 3 + 2, none⟩ = some (.slice (some ⟨b2, o2, none⟩) l2 c2) ∧ wr.cell? ⟨be, oe + k, none⟩ = some (.int .i64 ((N : Nat) : Int)) ∧ wr.cell? ⟨b2, o2 + j * 6, none⟩ = some (.int .i64 k0) ∧ wr.cell? ⟨b2, o2 + j * 6 + 1, none⟩ = some (.slice q1 n1 s1) ∧ wr.cell? ⟨b2, o2 + j * 6 + 2, none⟩ = some (.slice q2 n2 s2) ∧ wr.cell? ⟨b2, o2 + j * 6 + 3, none⟩ = some (.int .i64 r0) ∧ wr.cell? ⟨b2, o2 + j * 6 + 4, none⟩ = some (.int .i64 t0) ∧ wr.cell? ⟨b2, o2 + j * 6 + 5, none⟩ = some (.slice q3 n3 s3) ∧ Hid (Below w2.heap.size w2 wr) := ⟨m0, a2, e0, c0, c1', c2', c3, c4, c5, HBq⟩
                have H0 := Lib.hid hst
                have NX := Lib.hid hstep
                clear hst hstep
                go_upto_region 16 with fail
                clear m0 a2 e0 c0 c1' c2' c3 c4 c5
                go_region_held3 (fun w' => w'.cell? ⟨w.heap.size, 0, none⟩ = some (.slice (some ⟨bb, ob, none⟩) le cb) ∧ w'.cell? ⟨bb, ob + k * 3 + 2, none⟩ = some (.slice (some ⟨b2, o2, none⟩) l2 c2) ∧ w'.cell? ⟨be, oe + k, none⟩ = some (.int .i64 ((N : Nat) : Int)) ∧ w'.cell? ⟨b2, o2 + j * 6, none⟩ = some (.int .i64 k0) ∧ w'.cell? ⟨b2, o2 + j * 6 + 1, none⟩ = some (.slice q1 n1 s1) ∧ w'.cell? ⟨b2, o2 + j * 6 + 2, none⟩ = some (.slice q2 n2 s2) ∧ w'.cell? ⟨b2, o2 + j * 6 + 3, none⟩ = some (.int .i64 r0) ∧ w'.cell? ⟨b2, o2 + j * 6 + 4, none⟩ = some (.int .i64 t0) ∧ w'.cell? ⟨b2, o2 + j * 6 + 5, none⟩ = some (.slice q3 n3 s3) ∧ Hid (Below w2.heap.size w2 w'))
                  (first | exact hold11 (by assumption) (by assumption) | exact hold11 H0.out (below_drewN (n := 1) (Below.refl _ _)))
                  (first | (go_at_call 10; refine (CR.out _ (hold11b (by assumption))).mono ?_; rintro e u ⟨rfl, hB⟩))
                have HH := Lib.hid (hold11b (by assumption))
                go_wp2_with fail
                go_roundw
                case rel => exact ⟨j + 1, !q, by omega, by go_num, rfl, by rw [NX.out, Bool.false_or, Bool.or_assoc], HH.out⟩
                case measure => simp [intOf]; omega
              · rw [Bool.true_or] at hstep
                have NX := Lib.hid hstep
                clear hstep
                go_upto_region 16 with fail
                clear e0 c0 c1' c2' c3 c4 c5 m0 a2
                go_quiet (fail)
                go_wp2_with fail
                go_roundw
                case rel => exact ⟨j + 1, true, by omega, by go_num, rfl, by rw [NX.out, Bool.true_or], below_drewN HBq.out⟩
                case measure => simp [intOf]; omega
            · have hdr : x.cons.drop j = [] := List.drop_of_length_le (by rw [← HL2.out]; omega)
              have key : R = F f1 (b || Z) := by rw [hrel, hdr, List.any_nil, Bool.false_or]
              have NX := Lib.hid key
              clear hrel hBq hdr key
              go_wp2_with fail
              go_roundw
              case rel => exact ⟨k + 1, N, f1, b, by omega, by go_num, rfl, rfl, ⟨by rw [NX.out, HFZ.out.1, HFZ.out.2], HTOT.out.symm, hN⟩, HBq.out⟩
              case measure => simp [intOf]; omega
    · have hdr : m.blocks.drop k = [] := List.drop_of_length_le (by rw [← HLB.out]; omega)
      have key : R = endK m fo (wb || wrongL m.goal ll) := by
        rw [hrel, hdr]
        simp [conF]
      clear hrel hn hdr
      obtain ⟨pgo, bg, og, cgo, lgo, eg, hgs⟩ := HMO.out.mod.goal.open_
      simp only [Value.slice.injEq] at eg
      obtain ⟨rfl, rfl, rfl⟩ := eg
      have hpg := hgs.at_
      have HGS := Lib.hid hgs
      have HGD := Lib.hid HF.out.goal.2
      have HSG := Lib.hid (show R = endK m fo (wb || (m.goal.drop 0).any (fun c => !rightC c (ll : Int))) by rw [key]; rfl)
      clear hgs key hB
      go_wp2_with fail
      clear m0 m1
      go_loopw [5, 9] (fun vw vj wq => ∃ (j : Nat) (b : Bool), j ≤ lg ∧ vj = .int .i64 j ∧ vw = .bool b ∧ R = endK m fo (b || (m.goal.drop j).any (fun c => !rightC c (ll : Int))) ∧ Below w2.heap.size w2 wq) (fun _ vj _ => lg - (intOf vj).toNat)
      case atStart => exact ⟨0, wb, by omega, rfl, rfl, HSG.out, HB.out⟩
      case round =>
        obtain ⟨j, b, hj, rfl, rfl, hrel, hBq⟩ := hrel
        have m1 := cell_stays hBq HM.out.2
        have HBq := Lib.hid hBq
        by_cases hlj : j < lg
        · obtain rfl := hpg (by omega)
          obtain ⟨d, u1, u2, u3, exd, ⟨c0, c1', c2', c3, c4, c5⟩, hd⟩ := con_at2 HGS.out hlj
          obtain ⟨⟨q1, n1, s1, rfl⟩, ⟨q2, n2, s2, rfl⟩, ⟨q3, n3, s3, rfl⟩⟩ := rCon_shape hd
          have c0 := cell_stays hBq c0
          have c1' := cell_stays hBq c1'
          have c2' := cell_stays hBq c2'
          have c3 := cell_stays hBq c3
          have c4 := cell_stays hBq c4
          have c5 := cell_stays hBq c5
          have hstep := hrel.trans (by rw [any_at _ exd])
          have CR := Lib.hid (rrcon_any ((ll : Nat) : Int) (by unfold Fit; omega) (rCon_stays _ _ _ _ hBq hd) (short_150 (HGD.out d (List.mem_of_getElem? exd))))
          obtain ⟨q, hq⟩ : ∃ q, q = rightC d ((ll : Nat) : Int) := ⟨_, rfl⟩
          rw [← hq] at CR hstep
          generalize d.kind = k0 at c0 CR
          generalize d.rel = r0 at c3 CR
          generalize d.const = t0 at c4 CR
          clear hrel exd hd hBq hq
          cases b
          · have NX := Lib.hid hstep
            clear hstep
            go_wp2_with fail
            refine CR.out.mono ?_
            rintro e u ⟨rfl, hBu⟩
            have HBu := Lib.hid (HBq.out.trans (hBu.mono HBq.out.size))
            clear hBu m1 c0 c1' c2' c3 c4 c5
            go_wp2_with fail
            go_roundw
            case rel => exact ⟨j + 1, !q, by omega, by go_num, rfl, by rw [NX.out, Bool.false_or], HBu.out⟩
            case measure => simp [intOf]; omega
          · rw [Bool.true_or] at hstep
            have NX := Lib.hid hstep
            clear hstep
            go_wp2_with fail
            go_roundw
            case rel => exact ⟨j + 1, true, by omega, by go_num, rfl, by rw [NX.out, Bool.true_or], HBq.out⟩
            case measure => simp [intOf]; omega
        · have hdr : m.goal.drop j = [] := List.drop_of_length_le (by rw [← HLG.out]; omega)
          have key : R = endK m fo b := by rw [hrel, hdr, List.any_nil, Bool.or_false]
          clear hrel hdr hBq
          cases fo
          · obtain ⟨E3, hE3⟩ : ∃ E3 : Int, E3 = if b = true then 12 else 0 := ⟨_, rfl⟩
            obtain ⟨E2, hE2⟩ : ∃ E2 : Int, E2 = if domM m = true then 1 else E3 := ⟨_, rfl⟩
            obtain ⟨E1, hE1⟩ : ∃ E1 : Int, E1 = if twiceM m = true then 8 else E2 := ⟨_, rfl⟩
            have key2 : R = if (L.drop 0).any fN = true then 7 else E1 := by
              rw [key, endK, hE1, hE2, hE3, List.drop_zero, if_neg (by simp), nameM, HLE.out]
              rfl
            have HE := Lib.hid (And.intro hE1 (And.intro hE2 hE3))
            have HSN := Lib.hid key2
            have HBZ := Lib.hid (HB0.out.trans (HB2.out.mono HB0.out.size))
            clear key hE1 hE2 hE3 key2
            go_wp2_with fail
            clear m1
            go_loopw [10] (fun vi wn => ∃ k : Nat, k ≤ ll ∧ vi = .int .i64 k ∧ R = (if (L.drop k).any fN = true then 7 else E1) ∧ Below w2.heap.size w2 wn) (fun vi _ => ll - (intOf vi).toNat)
            case atStart => exact ⟨0, by omega, rfl, HSN.out, HBq.out⟩
            case round =>
              obtain ⟨k, hk, rfl, hrel, hB⟩ := hrel
              have HB := Lib.hid hB
              by_cases hlt : k < ll
              · obtain rfl := hpl (by omega)
                obtain ⟨d, s, v, ex, a0, a1, hs, hv⟩ := decl_at HSL.out hlt
                have a0 := cell_stays hB a0
                have hstep := hrel.trans (by rw [any_at fN ex])
                have hsz : s.size ≤ 1000 := by
                  have := (HDL.out d (List.mem_of_getElem? ex)).1
                  rw [txt_size, hs]; omega
                have CN := Lib.hid (name_any s wr hsz)
                obtain ⟨q, hq⟩ : ∃ q, q = nameL (txt s) := ⟨_, rfl⟩
                have hfn : fN d = !q := by rw [fN, hq, hs]
                rw [← hq] at CN
                rw [hfn] at hstep
                clear hrel ex a1 hs hv hB hsz hq hfn
                cases q
                · rw [Bool.not_false, Bool.true_or, if_pos rfl] at hstep
                  subst hstep
                  go_wp2_with fail
                  refine CN.out.mono ?_
                  rintro e u ⟨rfl, hBu⟩
                  have HBu := Lib.hid (HB.out.trans (hBu.mono HB.out.size))
                  clear hBu a0
                  go_wp2_with fail
                  go_ret
                  exact ⟨rfl, HBZ.out.trans (HBu.out.mono HBZ.out.size)⟩
                · rw [Bool.not_true, Bool.false_or] at hstep
                  have NX := Lib.hid hstep
                  clear hstep
                  go_wp2_with fail
                  refine CN.out.mono ?_
                  rintro e u ⟨rfl, hBu⟩
                  have HBu := Lib.hid (HB.out.trans (hBu.mono HB.out.size))
                  clear hBu a0
                  go_wp2_with fail
                  go_roundw
                  case rel => exact ⟨k + 1, by omega, by go_num, NX.out, HBu.out⟩
                  case measure => simp [intOf]; omega
              · have key : R = E1 := by rw [hrel, any_end fN (by rw [← HLN.out]; omega), if_neg (by simp)]
                have HKE := Lib.hid key
                clear hrel hB key
                go_wp2_with fail
                go_loopw [11] (fun vi wn => ∃ k : Nat, k ≤ ll ∧ vi = .int .i64 k ∧ ¬ TwiceTo (names L) k ∧ Below w2.heap.size w2 wn) (fun vi _ => ll - (intOf vi).toNat)
                case atStart => exact ⟨0, by omega, rfl, (by rintro ⟨i, j, hj, hi, _⟩; omega), HB.out⟩
                case round =>
                  obtain ⟨k, hk, rfl, hrel, hB⟩ := hrel
                  have HB := Lib.hid hB
                  have HNT := Lib.hid hrel
                  by_cases hlt : k < ll
                  · obtain rfl := hpl (by omega)
                    obtain ⟨d, s, v, ex, a0, a1, hs, hv⟩ := decl_at HSL.out hlt
                    have hgd := names_get ex
                    rw [← hs] at hgd
                    have HGD := Lib.hid hgd
                    have A0 := Lib.hid a0
                    clear hrel ex a1 a0 hs hv hB hgd
                    obtain ⟨wo, hwo⟩ : ∃ wo, wo = wr := ⟨_, rfl⟩
                    rw [← hwo] at HB ⊢
                    clear hwo
                    go_wp2_with fail
                    go_loopw [12] (fun vj wq => ∃ j : Nat, j ≤ k ∧ vj = .int .i64 j ∧ (∀ i, i < j → (names L).getD k [] ≠ (names L).getD i []) ∧ Below w2.heap.size w2 wq) (fun vj _ => k - (intOf vj).toNat)
                    case atStart => exact ⟨0, by omega, rfl, (fun i hi => by omega), HB.out⟩
                    case round =>
                      obtain ⟨j, hj, rfl, hrel, hBq⟩ := hrel
                      have HBq := Lib.hid hBq
                      have HRL := Lib.hid hrel
                      by_cases hlj : j < k
                      · obtain ⟨d', s', v', ex', b0, b1, hs', hv'⟩ := decl_at HSL.out (show j < ll by omega)
                        have hgd' := names_get ex'
                        rw [← hs'] at hgd'
                        have a0 := cell_stays hBq A0.out
                        have b0 := cell_stays hBq b0
                        have hq := eql_txt s s'
                        have HGD' := Lib.hid hgd'
                        have hjl : (j : Int) < (ll : Int) := by omega
                        have hjl2 : j < ll := by omega
                        clear hrel ex' b1 hs' hv' hBq hgd'
                        by_cases hn : txt s = txt s'
                        · rw [decide_eq_true hn] at hq
                          have ht : TwiceTo (names L) (names L).length := twice_yes hlj (by rw [names_len, ← HLN.out]; exact hlt) (by rw [HGD.out, HGD'.out]; exact hn)
                          have key : R = 8 := by rw [HKE.out, HE.out.1, twice_true HLE.out ht, if_pos rfl]
                          subst key
                          clear hn ht
                          go_upto_region 34 with fail
                          go_quiet (fail)
                          clear a0 b0 hq
                          go_wp2_with fail
                          go_ret
                          exact ⟨rfl, HBZ.out.trans ((below_drewN HBq.out).mono HBZ.out.size)⟩
                        · rw [decide_eq_false hn] at hq
                          have HNN := Lib.hid hn
                          clear hn
                          go_upto_region 34 with fail
                          go_quiet (fail)
                          clear a0 b0 hq
                          go_wp2_with fail
                          go_roundw
                          case rel =>
                            refine ⟨j + 1, by omega, by go_num, fun i hi => ?_, below_drewN HBq.out⟩
                            by_cases hij : i < j
                            · exact HRL.out i hij
                            · obtain rfl : i = j := by omega
                              rw [HGD.out, HGD'.out]
                              exact HNN.out
                          case measure => simp [intOf]; omega
                      · have hnt : ¬ TwiceTo (names L) (k + 1) := by
                          rintro ⟨i, i', hi', hi, e⟩
                          by_cases hik : i < k
                          · exact HNT.out ⟨i, i', hi', hik, e⟩
                          · obtain rfl : i = k := by omega
                            exact hrel i' (by omega) e
                        have HNX := Lib.hid hnt
                        clear hrel hBq hnt
                        go_wp2_with fail
                        go_roundw
                        case rel => exact ⟨k + 1, by omega, by go_num, HNX.out, HBq.out⟩
                        case measure => simp [intOf]; omega
                  · have hkl : k = (names L).length := by rw [names_len, ← HLN.out]; omega
                    rw [hkl] at hrel
                    have key : R = if (L.drop 0).any domD = true then 1 else E3 := by
                      rw [HKE.out, HE.out.1, twice_false HLE.out hrel, if_neg (by simp), HE.out.2.1, List.drop_zero, domM, HLE.out]
                    have HKD := Lib.hid key
                    clear hrel hB key hkl
                    go_wp2_with fail
                    go_loopw [13] (fun vi wn => ∃ k : Nat, k ≤ ll ∧ vi = .int .i64 k ∧ R = (if (L.drop k).any domD = true then 1 else E3) ∧ Below w2.heap.size w2 wn) (fun vi _ => ll - (intOf vi).toNat)
                    case atStart => exact ⟨0, by omega, rfl, HKD.out, HB.out⟩
                    case round =>
                      obtain ⟨k, hk, rfl, hrel, hB⟩ := hrel
                      have HB := Lib.hid hB
                      by_cases hlt : k < ll
                      · obtain rfl := hpl (by omega)
                        obtain ⟨d, s, v, ex, a0, a1, hs, hv⟩ := decl_at HSL.out hlt
                        have A1 := Lib.hid a1
                        have a1 := cell_stays hB a1
                        have hstep := hrel.trans (by rw [any_at domD ex])
                        have hdl := (HDL.out d (List.mem_of_getElem? ex)).2
                        have CS := Lib.hid (fun u (hb : Below w2.heap.size w2 u) => rfsize_any (hv.below rSpan_stays hb) (by omega))
                        obtain ⟨pd, ld, cd, rfl⟩ := slc_shape hv
                        obtain ⟨z, hz⟩ : ∃ z, z = szL d.dom := ⟨_, rfl⟩
                        have hdd : domD d = (decide (z < 1) || decide (64 < z)) := by rw [domD, hz]
                        rw [hdd] at hstep
                        rw [← hz] at CS
                        clear hrel ex a0 hs hv hB hdl hz hdd
                        by_cases z1 : z < 1
                        · have t1 : decide (z < 1) = true := decide_eq_true z1
                          rw [t1, Bool.true_or, Bool.true_or, if_pos rfl] at hstep
                          subst hstep
                          go_wp2_with fail
                          refine (CS.out _ HB.out).mono ?_
                          rintro e u ⟨rfl, hBu⟩
                          have HBu := Lib.hid (HB.out.trans (hBu.mono HB.out.size))
                          clear hBu a1
                          go_wp2_with fail
                          go_ret
                          exact ⟨rfl, HBZ.out.trans (HBu.out.mono HBZ.out.size)⟩
                        · have t1 : decide (z < 1) = false := decide_eq_false z1
                          rw [t1, Bool.false_or] at hstep
                          by_cases z2 : 64 < z
                          · have t2 : decide (64 < z) = true := decide_eq_true z2
                            rw [t2, Bool.true_or, if_pos rfl] at hstep
                            subst hstep
                            go_wp2_with fail
                            refine (CS.out _ HB.out).mono ?_
                            rintro e u ⟨rfl, hBu⟩
                            have HBu := Lib.hid (HB.out.trans (hBu.mono HB.out.size))
                            have a1 := cell_stays HBu.out A1.out
                            clear hBu
                            go_wp2_with fail
                            refine (CS.out _ HBu.out).mono ?_
                            rintro e u' ⟨rfl, hBu⟩
                            have HBv := Lib.hid (HBu.out.trans (hBu.mono HBu.out.size))
                            clear hBu a1
                            go_wp2_with fail
                            go_ret
                            exact ⟨rfl, HBZ.out.trans (HBv.out.mono HBZ.out.size)⟩
                          · have t2 : decide (64 < z) = false := decide_eq_false z2
                            rw [t2, Bool.false_or] at hstep
                            have NX := Lib.hid hstep
                            clear hstep
                            go_wp2_with fail
                            refine (CS.out _ HB.out).mono ?_
                            rintro e u ⟨rfl, hBu⟩
                            have HBu := Lib.hid (HB.out.trans (hBu.mono HB.out.size))
                            have a1 := cell_stays HBu.out A1.out
                            clear hBu
                            go_wp2_with fail
                            refine (CS.out _ HBu.out).mono ?_
                            rintro e u' ⟨rfl, hBu⟩
                            have HBv := Lib.hid (HBu.out.trans (hBu.mono HBu.out.size))
                            clear hBu a1
                            go_wp2_with fail
                            go_roundw
                            case rel => exact ⟨k + 1, by omega, by go_num, NX.out, HBv.out⟩
                            case measure => simp [intOf]; omega
                      · have key : R = if b = true then 12 else 0 := by rw [hrel, any_end domD (by rw [← HLN.out]; omega), if_neg (by simp), HE.out.2.2]
                        clear hrel hB
                        cases b
                        · rw [if_neg (by simp)] at key
                          subst key
                          go_wp2_with fail
                          go_ret
                          exact ⟨rfl, HBZ.out.trans (HB.out.mono HBZ.out.size)⟩
                        · rw [if_pos rfl] at key
                          subst key
                          go_wp2_with fail
                          go_ret
                          exact ⟨rfl, HBZ.out.trans (HB.out.mono HBZ.out.size)⟩
          · rw [endK, if_pos rfl] at key
            subst key
            go_wp2_with fail
            go_ret
            exact ⟨rfl, HB0.out.trans ((HB2.out.trans (HBq.out.mono HB2.out.size)).mono HB0.out.size)⟩
end Go.Proofs.YtkgieaoahijheaaDoor
