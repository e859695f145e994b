/-
  What cons and Large of the law answer, at every list of constraints and every model that can be read.
-/
import Derived.Test.YtkgieaoahijheaaDoorZYAG
namespace Go.Proofs.YtkgieaoahijheaaDoor
open Go.RowKit
set_option maxRecDepth 100000
set_option maxRecDepth 100000 in
set_option maxHeartbeats 1000000 in
theorem cons_cells (p : Option Addr) (b off c len : Nat) (L : List PCon) (w : World) (hx : SliceOf rCon 6 w p b off len L) :
    Calls Tryd.prog 14 #[.slice p len c] w fun e w' => e = .returned (.bool (consB L)) ∧ Below w.heap.size w w' := by
  have HX := Lib.hid hx
  have hp := hx.at_
  have hl := hx.long
  obtain ⟨R, hR⟩ : ∃ R, R = consB L := ⟨_, rfl⟩
  rw [← hR]
  have hR2 : R = (decide (30 < len) || L.any longC) := by rw [hR, consB, ← hl]
  clear hR hx
  by_cases h30 : 30 < len
  · rw [decide_eq_true h30, Bool.true_or] at hR2
    subst hR2
    have d30 : decide ((30 : Int) < (len : Int)) = true := decide_eq_true (by omega)
    clear hp hl h30
    go_enter Tryd.func14, Tryd.ntmps14
    go_wp2_with fail
    go_ret
    exact ⟨rfl, Below.refl _ _⟩
  · rw [decide_eq_false h30, Bool.false_or] at hR2
    have HR := Lib.hid (show R = (L.drop 0).any longC by rw [hR2]; simp)
    have HL := Lib.hid hl
    have d30 : decide ((30 : Int) < (len : Int)) = false := decide_eq_false (by omega)
    clear hl hR2
    go_enter Tryd.func14, Tryd.ntmps14
    go_wp2_with fail
    go_loopw [10] (fun i wr => ∃ k : Nat, k ≤ len ∧ i = .int .i64 k ∧ R = (L.drop k).any longC ∧ Below w.heap.size w wr) (fun i _ => len - (intOf i).toNat)
    case atStart => exact ⟨0, by omega, rfl, HR.out, Below.refl _ _⟩
    case round =>
      obtain ⟨k, hk, rfl, hrel, hB⟩ := hrel
      have HB := Lib.hid (fun o => hB.alloc hB.size o)
      by_cases hlt : k < len
      · obtain rfl := hp (by omega)
        obtain ⟨d, v1, v2, v3, ex, ⟨a0, a1, a2, a3, a4, a5⟩, sv1, sv2, sv3⟩ := con_at (HX.out.below rCon_stays hB) hlt
        have hstep := hrel.trans (any_at longC ex)
        obtain ⟨p1, l1, c1, rfl, e1⟩ := slc_long sv1
        obtain ⟨p2, l2, c2, rfl, e2⟩ := slc_long sv2
        obtain ⟨p3, l3, c3, rfl, e3⟩ := slc_long sv3
        have hlong : longC d = (decide (150 < l1) || (decide (150 < l2) || decide (150 < l3))) := by rw [longC, ← e1, ← e2, ← e3]
        generalize d.kind = k0 at a0
        generalize d.rel = r0 at a3
        generalize d.const = t0 at a4
        clear ex hrel hB sv1 sv2 sv3 e1 e2 e3
        by_cases h1 : 150 < l1
        · have key : R = true := by rw [hstep, hlong, decide_eq_true h1]; simp
          subst key
          have d1 : decide ((150 : Int) < (l1 : Int)) = true := decide_eq_true (by omega)
          clear hstep hlong
          go_wp2_with fail
          go_ret
          exact ⟨rfl, HB.out _⟩
        · have d1 : decide ((150 : Int) < (l1 : Int)) = false := decide_eq_false (by omega)
          rw [decide_eq_false h1, Bool.false_or] at hlong
          by_cases h2 : 150 < l2
          · have key : R = true := by rw [hstep, hlong, decide_eq_true h2]; simp
            subst key
            have d2 : decide ((150 : Int) < (l2 : Int)) = true := decide_eq_true (by omega)
            clear hstep hlong
            go_wp2_with fail
            go_ret
            exact ⟨rfl, HB.out _⟩
          · have d2 : decide ((150 : Int) < (l2 : Int)) = false := decide_eq_false (by omega)
            rw [decide_eq_false h2, Bool.false_or] at hlong
            by_cases h3 : 150 < l3
            · have key : R = true := by rw [hstep, hlong, decide_eq_true h3]; simp
              subst key
              have d3 : decide ((150 : Int) < (l3 : Int)) = true := decide_eq_true (by omega)
              clear hstep hlong
              go_wp2_with fail
              go_ret
              exact ⟨rfl, HB.out _⟩
            · have d3 : decide ((150 : Int) < (l3 : Int)) = false := decide_eq_false (by omega)
              rw [decide_eq_false h3] at hlong
              rw [hlong, Bool.false_or] at hstep
              have NX := Lib.hid hstep
              clear hstep hlong
              go_wp2_with fail
              go_roundw
              case rel => exact ⟨k + 1, by omega, by go_num, NX.out, HB.out _⟩
              case measure => simp [intOf]; omega
      · have key : R = false := hrel.trans (any_end longC (by rw [← HL.out]; omega))
        subst key
        have HB2 := Lib.hid hB
        clear hrel hB
        go_wp2_with fail
        go_ret
        exact ⟨rfl, HB2.out⟩
theorem cons_any {w : World} {v : Value} {L : List PCon} (h : Slc rCon 6 w v L) : Calls Tryd.prog 14 #[v] w fun e w' => e = .returned (.bool (consB L)) ∧ Below w.heap.size w w' := by
  obtain ⟨p, b, off, c, len, rfl, _, hs⟩ := h
  exact cons_cells p b off c len L w hs

set_option maxRecDepth 100000 in
set_option maxHeartbeats 2000000 in
theorem large_cells (pb : Option Addr) (bb ob cb lb : Nat) (gv : Value) (m : PModel) (w : World) (h : Mod w pb bb ob cb lb gv m) :
    Calls Tryd.prog 5 #[.agg #[.slice pb lb cb, gv]] w fun e w' => e = .returned (.bool (largeB m)) ∧ Below w.heap.size w w' := by
  have hp := h.blocks.at_
  have hl := h.blocks.long
  have HM := Lib.hid h
  obtain ⟨R, hR⟩ : ∃ R, R = largeB m := ⟨_, rfl⟩
  rw [← hR]
  have hR2 : R = (decide (30 < lb) || (consB m.goal || m.blocks.any longB)) := by rw [hR, largeB, ← hl]
  clear hR h
  obtain ⟨W0, hW0⟩ : ∃ W0, W0 = w.alloc (.cells #[.slice pb lb cb, gv] 25) := ⟨_, rfl⟩
  have hB0 : Below w.heap.size w W0 := by rw [hW0]; exact (Below.refl _ w).alloc (Nat.le_refl _) _
  have hb0 : W0.cell? ⟨w.heap.size, 0, none⟩ = some (.slice pb lb cb) := by rw [hW0]; go_simp
  have hb1 : W0.cell? ⟨w.heap.size, 1, none⟩ = some gv := by rw [hW0]; go_simp
  have HW := Lib.hid hW0
  have HB0 := Lib.hid hB0
  have GO := Lib.hid (cons_any (HM.out.below hB0).goal)
  have HC0 := Lib.hid hb0
  by_cases h30 : 30 < lb
  · rw [decide_eq_true h30, Bool.true_or] at hR2
    subst hR2
    have d30 : decide ((30 : Int) < (lb : Int)) = true := decide_eq_true (by omega)
    clear hp hl h30 hb0 hb1 hW0 hB0
    go_enter Tryd.func5, Tryd.ntmps5
    go_upto_region 1 with fail
    rw [← HW.out]
    have hb0 := HC0.out
    go_wp2_with fail
    go_ret
    exact ⟨rfl, HB0.out⟩
  · rw [decide_eq_false h30, Bool.false_or] at hR2
    have d30 : decide ((30 : Int) < (lb : Int)) = false := decide_eq_false (by omega)
    have HL := Lib.hid hl
    clear hl hW0 hB0
    go_enter Tryd.func5, Tryd.ntmps5
    go_upto_region 1 with fail
    rw [← HW.out]
    go_wp2_with fail
    refine GO.out.mono ?_
    rintro e w1 ⟨rfl, hB1⟩
    have hb0 := cell_stays hB1 hb0
    have HB1 := Lib.hid (HB0.out.trans (hB1.mono HB0.out.size))
    clear hB1 hb1
    cases hg : consB m.goal
    · rw [hg, Bool.false_or] at hR2
      have HR := Lib.hid (show R = (m.blocks.drop 0).any longB by rw [hR2]; simp)
      clear hR2 hg
      go_wp2_with fail
      go_loopw [19] (fun i wr => ∃ k : Nat, k ≤ lb ∧ i = .int .i64 k ∧ R = (m.blocks.drop k).any longB ∧ Below w.heap.size w wr) (fun i _ => lb - (intOf i).toNat)
      case atStart => exact ⟨0, by omega, rfl, HR.out, HB1.out⟩
      case round =>
        obtain ⟨k, hk, rfl, hrel, hB⟩ := hrel
        by_cases hlt : k < lb
        · obtain rfl := hp (by omega)
          obtain ⟨x, v1, v2, ex, ed, a0, a1, a2, sv, sc⟩ := block_at (HM.out.below hB).blocks hlt
          have hstep := hrel.trans (any_at longB ex)
          obtain ⟨p1, b1, o1, c1, l1, rfl, _, hs⟩ := sv
          obtain ⟨p2, l2, c2, rfl⟩ := slc_shape sc
          have hlb : longB x = (decide (30 < l1) || (consB x.cons || x.vars.any longD)) := by rw [longB, ← hs.long]
          rw [hlb] at hstep
          obtain ⟨W1, hW1⟩ : ∃ W1, W1 = wr.alloc (.cells #[.bool x.all, .slice p1 l1 c1, .slice p2 l2 c2] 44) := ⟨_, rfl⟩
          have hBa : Below wr.heap.size wr W1 := by rw [hW1]; exact (Below.refl _ wr).alloc (Nat.le_refl _) _
          have q1 : W1.cell? ⟨wr.heap.size, 1, none⟩ = some (.slice p1 l1 c1) := by rw [hW1]; go_simp
          have q2 : W1.cell? ⟨wr.heap.size, 2, none⟩ = some (.slice p2 l2 c2) := by rw [hW1]; go_simp
          have HW1 := Lib.hid hW1
          have HBA := Lib.hid (hB.trans (hBa.mono hB.size))
          have CO := Lib.hid (cons_any (sc.below rCon_stays hBa))
          have HSV := Lib.hid (hs.below rDecl_stays hBa)
          have hpv := hs.at_
          generalize x.all = xa at a0 HW1
          clear ex ed hrel hB sc hs hlb hW1 hBa
          by_cases h1 : 30 < l1
          · rw [decide_eq_true h1, Bool.true_or, Bool.true_or] at hstep
            subst hstep
            have d1 : decide ((30 : Int) < (l1 : Int)) = true := decide_eq_true (by omega)
            go_upto_region 6 with fail
            rw [← HW1.out]
            go_wp2_with fail
            go_ret
            exact ⟨rfl, HBA.out⟩
          · rw [decide_eq_false h1, Bool.false_or] at hstep
            have d1 : decide ((30 : Int) < (l1 : Int)) = false := decide_eq_false (by omega)
            go_upto_region 6 with fail
            rw [← HW1.out]
            go_wp2_with fail
            refine CO.out.mono ?_
            rintro e w2 ⟨rfl, hB2⟩
            have q1 := cell_stays hB2 q1
            have HB2 := Lib.hid (HBA.out.trans (hB2.mono HBA.out.size))
            have HSV := Lib.hid (HSV.out.below rDecl_stays hB2)
            clear hB2 q2 a0 a1 a2
            cases hc : consB x.cons
            · rw [hc, Bool.false_or] at hstep
              have HS2 := Lib.hid (show R = ((x.vars.drop 0).any longD || (m.blocks.drop (k + 1)).any longB) by rw [hstep]; simp)
              clear hstep hc
              go_wp2_with fail
              go_loopw [35] (fun i wq => ∃ j : Nat, j ≤ l1 ∧ i = .int .i64 j ∧ R = ((x.vars.drop j).any longD || (m.blocks.drop (k + 1)).any longB) ∧ Below w.heap.size w wq ∧ Below w2.heap.size w2 wq) (fun i _ => l1 - (intOf i).toNat)
              case atStart => exact ⟨0, by omega, rfl, HS2.out, HB2.out, Below.refl _ _⟩
              case round =>
                obtain ⟨j, hj, rfl, hrel, hB, hB3⟩ := hrel
                by_cases hlj : j < l1
                · obtain rfl := hpv (by omega)
                  obtain ⟨d, s, v, exd, e0, e1, hsn, sd⟩ := decl_at (HSV.out.below rDecl_stays hB3) hlj
                  have hstep := hrel
                  rw [any_at longD exd] at hstep
                  obtain ⟨pd, ld, cd, rfl, hld⟩ := slc_long sd
                  obtain ⟨ns, hns⟩ : ∃ ns, ns = s.size := ⟨_, rfl⟩
                  have hsz : ((s.size : Nat) : Int) = (ns : Int) := by rw [hns]
                  have hlong : longD d = (decide (100 < ns) || decide (150 < ld)) := by rw [longD, ← hsn, ← txt_size, ← hld, hns]
                  rw [hlong] at hstep
                  have HQ := Lib.hid (fun o => (hB.alloc hB.size o))
                  have HQ2 := Lib.hid (fun o => (hB3.alloc hB3.size o))
                  clear exd hrel hB hB3 hld sd hsn hlong hns
                  by_cases g1 : 100 < ns
                  · rw [decide_eq_true g1, Bool.true_or, Bool.true_or, Bool.true_or] at hstep
                    subst hstep
                    have d1 : decide ((100 : Int) < (ns : Int)) = true := decide_eq_true (by omega)
                    go_wp2_with fail
                    go_ret
                    exact ⟨rfl, HQ.out _⟩
                  · rw [decide_eq_false g1, Bool.false_or] at hstep
                    have d1 : decide ((100 : Int) < (ns : Int)) = false := decide_eq_false (by omega)
                    by_cases g2 : 150 < ld
                    · rw [decide_eq_true g2, Bool.true_or, Bool.true_or] at hstep
                      subst hstep
                      have d2 : decide ((150 : Int) < (ld : Int)) = true := decide_eq_true (by omega)
                      go_wp2_with fail
                      go_ret
                      exact ⟨rfl, HQ.out _⟩
                    · rw [decide_eq_false g2, Bool.false_or] at hstep
                      have d2 : decide ((150 : Int) < (ld : Int)) = false := decide_eq_false (by omega)
                      have NX := Lib.hid hstep
                      clear hstep
                      go_wp2_with fail
                      go_roundw
                      case rel => exact ⟨j + 1, by omega, by go_num, NX.out, HQ.out _, HQ2.out _⟩
                      case measure => simp [intOf]; omega
                · rw [any_end longD (by rw [← HSV.out.long]; omega), Bool.false_or] at hrel
                  have NX := Lib.hid hrel
                  have HQ := Lib.hid hB
                  clear hrel hB hB3
                  go_wp2_with fail
                  go_roundw
                  case rel => exact ⟨k + 1, by omega, by go_num, NX.out, HQ.out⟩
                  case measure => simp [intOf]; omega
            · rw [hc, Bool.true_or, Bool.true_or] at hstep
              subst hstep
              clear hc
              go_wp2_with fail
              go_ret
              exact ⟨rfl, HB2.out⟩
        · have key : R = false := hrel.trans (any_end longB (by rw [← HL.out]; omega))
          subst key
          have HB2 := Lib.hid hB
          clear hrel hB
          go_wp2_with fail
          go_ret
          exact ⟨rfl, HB2.out⟩
    · rw [hg, Bool.true_or] at hR2
      subst hR2
      clear hg
      go_wp2_with fail
      go_ret
      exact ⟨rfl, HB1.out⟩
theorem large_any {w : World} {bv gv : Value} {m : PModel} (h : rModel w [bv, gv] m) : Calls Tryd.prog 5 #[.agg #[bv, gv]] w fun e w' => e = .returned (.bool (largeB m)) ∧ Below w.heap.size w w' := by
  obtain ⟨pb, bb, ob, cb, lb, rfl, hm⟩ := mod_of h
  exact large_cells pb bb ob cb lb gv m w hm
end Go.Proofs.YtkgieaoahijheaaDoor
