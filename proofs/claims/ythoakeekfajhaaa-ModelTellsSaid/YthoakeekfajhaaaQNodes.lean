/-
  What Nodes of the document's answers answers, at every model that can be read and whose lists are short.
-/
import Derived.Test.YthoakeekfajhaaaQCheck
namespace Go.Proofs.Ythoakeekfajhaaa
open Go.RowKit

/-- how far the sum has come: j times n, which is no more than may be -/
theorem sum_next {n s : Int} {j : Nat} (hs : s = (j : Int) * n) : s + n = ((j + 1 : Nat) : Int) * n := by
  rw [hs, show ((j + 1 : Nat) : Int) = (j : Int) + 1 from by omega, Int.add_mul, Int.one_mul]
theorem sum_over {n s z : Int} {j : Nat} (hn : 1 ≤ n) (hj : (j : Int) ≤ z) (hs : s = (j : Int) * n) (h : maxI - n < s) : maxI / (z + 1) < n := by
  refine (Int.ediv_lt_iff_lt_mul (by omega)).2 ?_
  have h1 : ((j : Int) + 1) * n ≤ (z + 1) * n := Int.mul_le_mul_of_nonneg_right (by omega) (by omega)
  have h2 : ((j : Int) + 1) * n = s + n := by rw [hs, Int.add_mul, Int.one_mul]
  rw [Int.mul_comm n (z + 1)]
  omega
theorem sum_full {n s z : Int} {j : Nat} (hj : (j : Int) = z + 1) (hs : s = (j : Int) * n) (hz : 0 ≤ z) (h : s ≤ maxI) : ¬ maxI / (z + 1) < n ∧ s = n * (z + 1) := by
  have e : s = n * (z + 1) := by rw [hs, hj, Int.mul_comm]
  refine ⟨fun g => ?_, e⟩
  have := (Int.ediv_lt_iff_lt_mul (show (0 : Int) < z + 1 by omega)).1 g
  omega

set_option maxRecDepth 100000 in
set_option maxHeartbeats 4000000 in
theorem rnodes_any {w : World} {bv gv : Value} {m : PModel} (h : rModel w [bv, gv] m) (hf : Few m) :
    Calls Try.prog 24 #[.agg #[bv, gv]] w fun e w' => e = .returned (.int .i64 (nodesM m)) ∧ Below w.heap.size w w' := by
  obtain ⟨L, hL⟩ : ∃ L, L = varsL m.blocks := ⟨_, rfl⟩
  have hdl : ∀ d ∈ L, d.dom.length ≤ 150 := fun d hd => (hf.decl d (by rw [← hL]; exact hd)).2
  have hLn : L.length ≤ 900 := by rw [hL]; exact hf.few
  obtain ⟨pb, bb, ob, cb, lb, pg, lg, cg, rfl, rfl, hc, hm⟩ := rModel_open h
  obtain ⟨W0, hW0⟩ : ∃ W0, W0 = w.alloc (.cells #[.slice pb lb cb, .slice pg lg cg] 25) := ⟨_, rfl⟩
  have hB0 : Below w.heap.size w W0 := by rw [hW0]; exact (Below.refl _ w).alloc (Nat.le_refl _) _
  have m0 : W0.cell? ⟨w.heap.size, 0, none⟩ = some (.slice pb lb cb) := by rw [hW0]; go_simp
  have m1 : W0.cell? ⟨w.heap.size, 1, none⟩ = some (.slice pg lg cg) := by rw [hW0]; go_simp
  have HRD := Lib.hid (fun u (hb : Below W0.heap.size W0 u) => ((hm.below hB0).below hb).model hc)
  have CH := Lib.hid (rcheck_any (HRD.out W0 (Below.refl _ _)) hf)
  have D := Lib.hid (fun u (hb : Below W0.heap.size W0 u) => vars_any (HRD.out u hb) (by have := hf.blocks; omega) (fun x hx => by have := hf.vars x hx; omega))
  rw [← hL] at D
  obtain ⟨R, hR⟩ : ∃ R, R = nodesM m := ⟨_, rfl⟩
  rw [← hR]
  rw [nodesM, ← hL] at hR
  obtain ⟨z, hz⟩ : ∃ z, z = checkM m := ⟨_, rfl⟩
  rw [← hz] at CH hR
  have HM := Lib.hid (And.intro m0 m1)
  have HW := Lib.hid hW0
  have HB0 := Lib.hid hB0
  have HDL := Lib.hid hdl
  clear h hf hc hm hW0 hB0 hdl hL hz
  by_cases z0 : z = 0
  · rw [if_pos z0] at hR
    subst z0
    have HS := Lib.hid (show R = nodesF 2 (L.drop 0) from hR)
    clear hR
    go_enter Try.func24, Try.ntmps24
    go_upto_region 1 with fail
    rw [← HW.out]
    go_wp2_with fail
    refine CH.out.mono ?_
    rintro e w1 ⟨rfl, hB1⟩
    have m0 := cell_stays hB1 HM.out.1
    have m1 := cell_stays hB1 HM.out.2
    have DD := Lib.hid (D.out w1 hB1)
    have HB1 := Lib.hid (HB0.out.trans (hB1.mono HB0.out.size))
    clear hB1
    go_wp2_with fail
    refine DD.out.mono ?_
    rintro e w2 ⟨v, rfl, hsl, hB2⟩
    obtain ⟨p, b, off, c, len, rfl, hs⟩ := hsl.open_
    have hp := hs.at_
    have hlen := hs.long
    have HLN := Lib.hid hlen
    have HSL := Lib.hid hs
    have HB2 := Lib.hid (HB1.out.trans (hB2.mono HB1.out.size))
    have h900 : len ≤ 900 := by omega
    clear hsl hB2 hs hlen m0 m1
    go_wp2_with fail
    go_loopw [4, 5] (fun t i wr => ∃ (k : Nat) (n : Int), k ≤ len ∧ i = .int .i64 k ∧ t = .int .i64 n ∧ (1 ≤ n ∧ n ≤ 9223372036854775807) ∧ R = nodesF n (L.drop k) ∧ Below w2.heap.size w2 wr) (fun _ i _ => len - (intOf i).toNat)
    case atStart => exact ⟨0, 2, by omega, rfl, rfl, by omega, HS.out, Below.refl _ _⟩
    case round =>
      obtain ⟨k, n, hk, rfl, rfl, hn, hrel, hB⟩ := hrel
      have HB := Lib.hid hB
      by_cases hlt : k < len
      · obtain rfl := hp (by omega)
        obtain ⟨d, s, v, ex, a0, a1, hsn, sd⟩ := decl_at HSL.out hlt
        have hstep := hrel.trans (nodes_at ex)
        have hbd := HDL.out d (List.mem_of_getElem? ex)
        have C := Lib.hid (fun u (hb : Below w2.heap.size w2 u) => rfsize_any (sd.below rSpan_stays hb) (by omega))
        have A1 := Lib.hid a1
        obtain ⟨p1, l1, c1, rfl⟩ := slc_shape sd
        obtain ⟨z, hz⟩ : ∃ z, z = szL d.dom := ⟨_, rfl⟩
        obtain ⟨z0, z1⟩ := sz_low d.dom
        rw [← hz] at C hstep z0 z1
        have HST := Lib.hid hstep
        clear hrel hB ex hsn sd hbd hz a0 a1 hstep
        obtain ⟨wo, hwo⟩ : ∃ wo, wo = wr := ⟨_, rfl⟩
        rw [← hwo] at HB ⊢
        clear hwo
        go_wp2_with fail
        go_loopw [6, 7] (fun t i wq => ∃ (j : Nat) (x : Int), (j : Int) ≤ z + 1 ∧ i = .int .i64 j ∧ t = .int .i64 x ∧ (0 ≤ x ∧ x ≤ 9223372036854775807) ∧ x = (j : Int) * n ∧ Below w2.heap.size w2 wq) (fun _ i _ => (z + 1).toNat - (intOf i).toNat)
        case atStart => exact ⟨0, 0, by omega, rfl, rfl, by omega, by simp, HB.out⟩
        case round =>
          obtain ⟨j, x, hj, rfl, rfl, hx, hrel, hBq⟩ := hrel
          have a1 := cell_stays hBq A1.out
          have CC := Lib.hid (C.out _ hBq)
          have HBq := Lib.hid hBq
          have HX := Lib.hid hrel
          clear hrel hBq
          by_cases hlj : (j : Int) ≤ z
          · have d1 : decide ((j : Int) ≤ z) = true := decide_eq_true hlj
            by_cases g : 9223372036854775807 - n < x
            · have d2 : decide (9223372036854775807 - n < x) = true := decide_eq_true g
              have key : R = 9223372036854775807 := by
                rw [HST.out, if_pos (sum_over hn.1 hlj HX.out g)]
                rfl
              subst key
              go_wp2_with fail
              refine CC.out.mono ?_
              rintro e u ⟨rfl, hBu⟩
              have HBu := Lib.hid (HBq.out.trans (hBu.mono HBq.out.size))
              clear hBu a1
              go_wp2_with fail
              go_ret
              exact ⟨rfl, HB2.out.trans (HBu.out.mono HB2.out.size)⟩
            · have d2 : decide (9223372036854775807 - n < x) = false := decide_eq_false g
              go_wp2_with fail
              refine CC.out.mono ?_
              rintro e u ⟨rfl, hBu⟩
              have HBu := Lib.hid (HBq.out.trans (hBu.mono HBq.out.size))
              clear hBu a1
              go_wp2_with fail
              go_roundw
              case rel => exact ⟨j + 1, x + n, by omega, by go_num, by go_num, by omega, sum_next HX.out, HBu.out⟩
              case measure => simp [intOf]; omega
          · have d1 : decide ((j : Int) ≤ z) = false := decide_eq_false hlj
            obtain ⟨g1, g2⟩ := sum_full (show (j : Int) = z + 1 by omega) HX.out z0 hx.2
            have hNX : R = nodesF x (L.drop (k + 1)) := by rw [HST.out, if_neg g1, ← g2]
            have hx1 : 1 ≤ x := by
              rw [g2]
              have : 1 * 1 ≤ n * (z + 1) := Int.mul_le_mul hn.1 (by omega) (by omega) (by omega)
              omega
            have NX := Lib.hid hNX
            clear g1 g2 hNX
            go_wp2_with fail
            refine CC.out.mono ?_
            rintro e u ⟨rfl, hBu⟩
            have HBu := Lib.hid (HBq.out.trans (hBu.mono HBq.out.size))
            clear hBu a1
            go_wp2_with fail
            go_roundw
            case rel => exact ⟨k + 1, x, by omega, by go_num, rfl, ⟨hx1, hx.2⟩, NX.out, HBu.out⟩
            case measure => simp [intOf]; omega
      · have key : R = n := hrel.trans (nodes_end (by rw [← HLN.out]; omega))
        subst key
        clear hrel hB
        go_wp2_with fail
        go_ret
        exact ⟨rfl, HB2.out.trans (HB.out.mono HB2.out.size)⟩
  · rw [if_neg z0] at hR
    subst hR
    have e0 : (z == 0) = false := beq_eq_false_iff_ne.2 z0
    go_enter Try.func24, Try.ntmps24
    go_upto_region 1 with fail
    rw [← HW.out]
    go_wp2_with fail
    refine CH.out.mono ?_
    rintro e w1 ⟨rfl, hB1⟩
    have HB1 := Lib.hid (HB0.out.trans (hB1.mono HB0.out.size))
    clear hB1 m0 m1
    go_wp2_with fail
    go_ret
    exact ⟨rfl, HB1.out⟩
end Go.Proofs.Ythoakeekfajhaaa
