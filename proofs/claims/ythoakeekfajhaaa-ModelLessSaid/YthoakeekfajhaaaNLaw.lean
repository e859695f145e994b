/-
  What the law ModelNodes answers, at every model that can be read: true.
-/
import Derived.Test.YthoakeekfajhaaaNNum
namespace Go.Proofs.Ythoakeekfajhaaa
open Go.RowKit

set_option maxRecDepth 100000 in
set_option maxHeartbeats 4000000 in
theorem nodes_law {w : World} {bv gv : Value} {m : PModel} (h : rModel w [bv, gv] m) :
    Calls Try.prog 5 #[.agg #[bv, gv]] w fun e w' => e = .returned (.bool true) ∧ Below w.heap.size w w' := by
  obtain ⟨pb, bb, ob, cb, lb, pg, lg, cg, rfl, rfl, hc, hm⟩ := rModel_open h
  obtain ⟨W0, hW0⟩ : ∃ W0, W0 = w.alloc (.cells #[.slice pb lb cb, .slice pg lg cg] 25) := ⟨_, rfl⟩
  have hB0 : Below w.heap.size w W0 := by rw [hW0]; exact (Below.refl _ w).alloc (Nat.le_refl _) _
  have m0 : W0.cell? ⟨w.heap.size, 0, none⟩ = some (.slice pb lb cb) := by rw [hW0]; go_simp
  have m1 : W0.cell? ⟨w.heap.size, 1, none⟩ = some (.slice pg lg cg) := by rw [hW0]; go_simp
  have HM := Lib.hid (And.intro m0 m1)
  have HR := Lib.hid (fun u (hb : Below W0.heap.size W0 u) => ((hm.below hB0).below hb).model hc)
  have HW := Lib.hid hW0
  have HB0 := Lib.hid hB0
  clear h hm hc hW0 hB0 m0 m1
  go_enter Try.func5, Try.ntmps5
  go_upto_region 1 with fail
  rw [← HW.out]
  go_wp2_with fail
  refine (awake_any _).mono ?_
  rintro e w1 ⟨rfl, hB1⟩
  have m0 := cell_stays hB1 HM.out.1
  have m1 := cell_stays hB1 HM.out.2
  have CL := Lib.hid (large_any (HR.out w1 hB1))
  have HB1 := Lib.hid hB1
  clear hB1
  obtain ⟨B, hBe⟩ : ∃ B, B = largeB m := ⟨_, rfl⟩
  rw [← hBe] at CL
  go_wp2_with fail
  refine CL.out.mono ?_
  rintro e w2 ⟨rfl, hB2⟩
  have HB2 := Lib.hid (HB1.out.trans (hB2.mono HB1.out.size))
  clear hB2 m0 m1
  cases B
  · have hf := few_of hBe.symm
    have m0 := cell_stays HB2.out HM.out.1
    have m1 := cell_stays HB2.out HM.out.2
    have CC := Lib.hid (check_any (HR.out w2 HB2.out) hf)
    have CN := Lib.hid (fun u (hb : Below W0.heap.size W0 u) => pnodes_any (HR.out u hb) hf)
    have CV := Lib.hid (fun u (hb : Below W0.heap.size W0 u) => pvars_any (HR.out u hb) hf)
    obtain ⟨z, hz⟩ : ∃ z, z = checkM m := ⟨_, rfl⟩
    rw [← hz] at CC
    have HFD := Lib.hid hf.decl
    clear hBe hf
    by_cases z0 : z = 0
    · subst z0
      obtain ⟨k1, _, _, _, k5, _⟩ := check_ok hz.symm
      have hL16 := (big_ok k1).2.2.2
      have HDO := Lib.hid (dom_ok k5)
      have hnm : nodesM m = nodesF 2 (varsL m.blocks) := by rw [nodesM, if_pos hz.symm]
      obtain ⟨n0, n1⟩ := nodes_most (varsL m.blocks) (show (1 : Int) ≤ 2 by omega) (by omega)
      have HRS := Lib.hid (rows_start (varsL m.blocks))
      rw [hnm] at CN
      obtain ⟨L, hL⟩ : ∃ L, L = varsL m.blocks := ⟨_, rfl⟩
      rw [← hL] at CN CV HDO HFD HRS hL16 n0 n1
      obtain ⟨n, hn⟩ : ∃ n, n = nodesF 2 L := ⟨_, rfl⟩
      rw [← hn] at CN HRS n0 n1
      clear hz k1 k5 hnm hL hn
      go_wp2_with fail
      refine CC.out.mono ?_
      rintro e w3 ⟨rfl, hB3⟩
      have HB3 := Lib.hid (HB2.out.trans (hB3.mono HB2.out.size))
      clear hB3 m0 m1
      have m0 := cell_stays HB3.out HM.out.1
      have m1 := cell_stays HB3.out HM.out.2
      go_wp2_with fail
      refine (CN.out w3 HB3.out).mono ?_
      rintro e w4 ⟨rfl, hB4⟩
      have HB4 := Lib.hid (HB3.out.trans (hB4.mono HB3.out.size))
      clear hB4 m0 m1
      have m0 := cell_stays HB4.out HM.out.1
      have m1 := cell_stays HB4.out HM.out.2
      go_wp2_with fail
      refine (CV.out w4 HB4.out).mono ?_
      rintro e w5 ⟨v, rfl, hsl, hB5⟩
      obtain ⟨p, b, off, c, len, rfl, hs⟩ := hsl.open_
      have hp := hs.at_
      have hlen := hs.long
      have HLN := Lib.hid hlen
      have HSL := Lib.hid hs
      have HB5 := Lib.hid (HB4.out.trans (hB5.mono HB4.out.size))
      have h16 : len ≤ 16 := by omega
      clear hB5 hs hlen hsl m0 m1
      go_wp2_with fail
      go_loopw [4, 5, 25] (fun tr ta i wr => ∃ (k : Nat) (r a p : Int), k ≤ len ∧ i = .int .i64 k ∧ tr = .int .u64 r ∧ ta = .int .u64 a ∧ RowsRel L n k r a p ∧ Below w5.heap.size w5 wr) (fun _ _ i _ => len - (intOf i).toNat)
      case atStart => exact ⟨0, 1, 1, 1, by omega, rfl, rfl, rfl, HRS.out, Below.refl _ _⟩
      case round =>
        obtain ⟨k, r, a, p', hk, rfl, rfl, rfl, hrel, hB⟩ := hrel
        by_cases hlt : k < len
        · obtain rfl := hp (by omega)
          obtain ⟨d, s, v, ex, a0, a1, hsn, sd⟩ := decl_at (HSL.out.below rDecl_stays hB) hlt
          obtain ⟨q1, q2, q3, q4⟩ := HDO.out d (List.mem_of_getElem? ex)
          have hdl := (HFD.out d (List.mem_of_getElem? ex)).2
          obtain ⟨pd, bd, od, cd, ld, rfl, hsd⟩ := sd.open_
          have hpd := hsd.at_
          have HLD := Lib.hid hsd.long
          have hld : ld ≤ 150 := by rw [hsd.long]; exact hdl
          have hS0 : SizeRel d.dom 0 0 := ⟨by simp, by omega, _, rest_start q1⟩
          obtain ⟨D, hD⟩ : ∃ D, D = d.dom := ⟨_, rfl⟩
          rw [← hD] at hS0 hsd HLD q2 q3 q4
          have HS0 := Lib.hid hS0
          have HSD := Lib.hid hsd
          have HREL := Lib.hid hrel
          obtain ⟨S, hS⟩ : ∃ S, S = sizeL D := ⟨_, rfl⟩
          rw [← hS] at q2 q3 q4
          have HNX := Lib.hid (fun hr => rows_next hrel ex (by rw [← hD]; exact q4) q2 q3 hr)
          have HSE := Lib.hid hS
          have hrb : 1 ≤ r ∧ r ≤ 72057594037927936 := ⟨hrel.r0, hrel.rm⟩
          have hab : 1 ≤ a ∧ a ≤ 1 + k * 72057594037927936 := ⟨hrel.a0, hrel.am⟩
          have HB := Lib.hid hB
          clear hrel hB ex hsn sd hdl hS0 hsd hS q1 q4
          go_upto_region 10 with fail
          obtain ⟨W1, hW1⟩ : ∃ W1, W1 = wr.alloc (.cells #[.string s, .slice pd ld cd] 48) := ⟨_, rfl⟩
          rw [← hW1]
          have hB1 : Below wr.heap.size wr W1 := by rw [hW1]; exact (Below.refl _ wr).alloc (Nat.le_refl _) _
          have t1 : W1.cell? ⟨wr.heap.size, 1, none⟩ = some (.slice pd ld cd) := by rw [hW1]; go_simp
          have HBW := Lib.hid (HB.out.trans (hB1.mono HB.out.size))
          have HSD := Lib.hid (HSD.out.below rSpan_stays hB1)
          clear hW1 hB1 a0 a1
          go_wp2_with fail
          go_loopw [8, 32] (fun t i wq => ∃ (j : Nat) (x : Int), j ≤ ld ∧ i = .int .i64 j ∧ t = .int .u64 x ∧ SizeRel D j x ∧ Below W1.heap.size W1 wq) (fun _ i _ => ld - (intOf i).toNat)
          case atStart => exact ⟨0, 0, by omega, rfl, rfl, HS0.out, Below.refl _ _⟩
          case round =>
            obtain ⟨j, x, hj, rfl, rfl, hsz, hBq⟩ := hrel
            by_cases hlj : j < ld
            · obtain rfl := hpd (by omega)
              obtain ⟨e0, e1⟩ := span_at (HSD.out.below rSpan_stays hBq) hlj
              have hlx : j < D.length := by rw [← HLD.out]; exact hlj
              obtain ⟨lo, elo⟩ : ∃ lo, lo = (D.getD j (0, 0)).1 := ⟨_, rfl⟩
              obtain ⟨hi, ehi⟩ : ∃ hi, hi = (D.getD j (0, 0)).2 := ⟨_, rfl⟩
              rw [← elo] at e0
              rw [← ehi] at e1
              have hon := size_on hsz hlx elo ehi
              obtain ⟨u1, u2, y, u3⟩ := hsz
              obtain ⟨_, f1, f2, f3, f4, f5⟩ := rest_on u3 hlx elo ehi
              have hx2 : x + (hi - lo + 1) ≤ S := by rw [HSE.out, hon.1]; omega
              have HON := Lib.hid hon
              have HBQ := Lib.hid (fun o => hBq.alloc hBq.size o)
              clear hBq elo ehi hon u1 u3 hlx
              go_wp2_with fail
              go_roundw
              case rel => exact ⟨j + 1, x + (hi - lo + 1), by omega, by go_num, by go_num, HON.out, HBQ.out _⟩
              case measure => simp [intOf]; omega
            · have hd0 : D.drop j = [] := drop_end (by rw [← HLD.out]; omega)
              have key : x = S := by
                have h1 := hsz.1
                rw [hd0, sizeL, Int.add_zero] at h1
                rw [HSE.out, h1]
              subst key
              have HBQ := Lib.hid (HBW.out.trans (hBq.mono HBW.out.size))
              clear hsz hBq hd0 HS0
              by_cases g : 1125899906842624 < r
              · have hgr := rows_great HREL.out g
                have d1 : decide ((1125899906842624 : Int) < r) = true := decide_eq_true g
                have d2 : decide ((1125899906842624 : Int) < n) = true := decide_eq_true hgr
                go_wp2_with fail
                go_ret
                exact ⟨rfl, HB0.out.trans ((HB5.out.trans (HBQ.out.mono HB5.out.size)).mono HB0.out.size)⟩
              · have d1 : decide ((1125899906842624 : Int) < r) = false := decide_eq_false g
                obtain ⟨g1, g2⟩ := HNX.out (by omega)
                have g3 := g1.r0
                have G1 := Lib.hid g1
                obtain ⟨rs, hrs⟩ : ∃ rs, rs = r * x := ⟨_, rfl⟩
                have HRSE := Lib.hid hrs
                clear g1
                go_wp2_with fail
                go_roundw
                case rel => exact ⟨k + 1, r * x, a + r * x, p' * (x + 1), by omega, by go_num, by go_num, by go_num, G1.out, HBQ.out⟩
                case measure => simp [intOf]; omega
        · obtain ⟨e1, e2⟩ := rows_end hrel (by omega)
          have ha := hrel.a0
          have HB := Lib.hid (HB0.out.trans ((HB5.out.trans (hB.mono HB5.out.size)).mono HB0.out.size))
          have d1 : decide ((0 : Int) < n) = true := decide_eq_true e1
          have d2 : decide (a ≤ n / 2 + 1) = true := decide_eq_true e2
          clear hrel hB
          go_wp2_with fail
          go_ret
          exact ⟨rfl, HB.out⟩
    · have e0 : (z == 0) = false := beq_eq_false_iff_ne.2 z0
      go_wp2_with fail
      refine CC.out.mono ?_
      rintro e w3 ⟨rfl, hB3⟩
      have HB3 := Lib.hid (HB2.out.trans (hB3.mono HB2.out.size))
      clear hB3 m0 m1
      go_wp2_with fail
      all_goals try (exfalso; omega)
      go_ret
      exact ⟨rfl, HB0.out.trans (HB3.out.mono HB0.out.size)⟩
  · clear hBe
    go_wp2_with fail
    go_ret
    exact ⟨rfl, HB0.out.trans (HB2.out.mono HB0.out.size)⟩
end Go.Proofs.Ythoakeekfajhaaa
