/-
  What Nodes of package model answers, at every model that can be read and whose lists are short.
-/
import Derived.Test.YthoakeekfajhaaaPSame
namespace Go.Proofs.Ythoakeekfajhaaa
open Go.RowKit

def maxI : Int := 9223372036854775807
def nodesF (n : Int) : List PDecl → Int
  | [] => n
  | d :: r => if maxI / (szL d.dom + 1) < n then maxI else nodesF (n * (szL d.dom + 1)) r
noncomputable def nodesM (m : PModel) : Int := if checkM m = 0 then nodesF 2 (varsL m.blocks) else 0
theorem nodes_at {n : Int} {L : List PDecl} {k : Nat} {d : PDecl} (h : L[k]? = some d) : nodesF n (L.drop k) = if maxI / (szL d.dom + 1) < n then maxI else nodesF (n * (szL d.dom + 1)) (L.drop (k + 1)) := by
  obtain ⟨hk, e⟩ := List.getElem?_eq_some_iff.1 h
  rw [List.drop_eq_getElem_cons hk, nodesF, e]
theorem nodes_end {n : Int} {L : List PDecl} {k : Nat} (h : L.length ≤ k) : nodesF n (L.drop k) = n := by
  rw [List.drop_of_length_le h, nodesF]
/-- the greatest number that n goes into -/
theorem quo_fits {n z : Int} (hn : 1 ≤ n) (hz : 0 ≤ z) (h : ¬ 9223372036854775807 / (z + 1) < n) : 1 ≤ n * (z + 1) ∧ n * (z + 1) ≤ 9223372036854775807 := by
  have hp : 0 < z + 1 := by omega
  have h1 : n ≤ 9223372036854775807 / (z + 1) := by omega
  have h2 := (Int.le_ediv_iff_mul_le hp).1 h1
  have h3 : 1 * 1 ≤ n * (z + 1) := Int.mul_le_mul hn (by omega) (by omega) (by omega)
  omega

set_option maxRecDepth 100000 in
set_option maxHeartbeats 2000000 in
theorem pnodes_any {w : World} {bv gv : Value} {m : PModel} (h : rModel w [bv, gv] m) (hf : Few m) :
    Calls Try.prog 23 #[.agg #[bv, gv]] w fun e w' => e = .returned (.int .i64 (nodesM m)) ∧ Below w.heap.size w w' := by
  obtain ⟨L, hL⟩ : ∃ L, L = varsL m.blocks := ⟨_, rfl⟩
  have hdl : ∀ d ∈ L, d.dom.length ≤ 150 := fun d hd => (hf.decl d (by rw [← hL]; exact hd)).2
  have hLn : L.length ≤ 900 := by rw [hL]; exact hf.few
  obtain ⟨pb, bb, ob, cb, lb, pg, lg, cg, rfl, rfl, hc, hm⟩ := rModel_open h
  obtain ⟨W0, hW0⟩ : ∃ W0, W0 = w.alloc (.cells #[.slice pb lb cb, .slice pg lg cg] 25) := ⟨_, rfl⟩
  have hB0 : Below w.heap.size w W0 := by rw [hW0]; exact (Below.refl _ w).alloc (Nat.le_refl _) _
  have m0 : W0.cell? ⟨w.heap.size, 0, none⟩ = some (.slice pb lb cb) := by rw [hW0]; go_simp
  have m1 : W0.cell? ⟨w.heap.size, 1, none⟩ = some (.slice pg lg cg) := by rw [hW0]; go_simp
  have CH := Lib.hid (check_cells pb bb ob cb lb pg lg cg m W0 (hm.below hB0) hc hf)
  have D := Lib.hid (fun u (hb : Below W0.heap.size W0 u) => pdecls_any (((hm.below hB0).below hb).model hc) hf)
  rw [← hL] at D
  obtain ⟨R, hR⟩ : ∃ R, R = nodesM m := ⟨_, rfl⟩
  rw [← hR]
  rw [nodesM, ← hL] at hR
  obtain ⟨z, hz⟩ : ∃ z, z = checkM m := ⟨_, rfl⟩
  rw [← hz] at CH hR
  have HM := Lib.hid (And.intro m0 m1)
  have HW := Lib.hid hW0
  have HB0 := Lib.hid hB0
  have HDL := Lib.hid hdl
  clear h hf hc hm hW0 hB0 hdl hL hz
  by_cases z0 : z = 0
  · rw [if_pos z0] at hR
    subst z0
    have HS := Lib.hid (show R = nodesF 2 (L.drop 0) from hR)
    clear hR
    go_enter Try.func23, Try.ntmps23
    go_upto_region 1 with fail
    rw [← HW.out]
    go_wp2_with fail
    refine CH.out.mono ?_
    rintro e w1 ⟨rfl, hB1⟩
    have m0 := cell_stays hB1 HM.out.1
    have m1 := cell_stays hB1 HM.out.2
    have DD := Lib.hid (D.out w1 hB1)
    have HB1 := Lib.hid (HB0.out.trans (hB1.mono HB0.out.size))
    clear hB1
    go_wp2_with fail
    refine DD.out.mono ?_
    rintro e w2 ⟨v, rfl, hown, hB2⟩
    obtain ⟨p, b, off, c, len, rfl, hs⟩ := (hown.slc rDecl_stays hB2).open_
    have hp := hs.at_
    have hlen := hs.long
    have HLN := Lib.hid hlen
    have HSL := Lib.hid hs
    have HB2 := Lib.hid (HB1.out.trans (hB2.mono HB1.out.size))
    have h900 : len ≤ 900 := by omega
    clear hown hB2 hs hlen m0 m1
    go_wp2_with fail
    go_loopw [3, 13] (fun t i wr => ∃ (k : Nat) (n : Int), k ≤ len ∧ i = .int .i64 k ∧ t = .int .i64 n ∧ (1 ≤ n ∧ n ≤ 9223372036854775807) ∧ R = nodesF n (L.drop k) ∧ Below w2.heap.size w2 wr) (fun _ i _ => len - (intOf i).toNat)
    case atStart => exact ⟨0, 2, by omega, rfl, rfl, by omega, HS.out, Below.refl _ _⟩
    case round =>
      obtain ⟨k, n, hk, rfl, rfl, hn, hrel, hB⟩ := hrel
      by_cases hlt : k < len
      · obtain rfl := hp (by omega)
        obtain ⟨d, s, v, ex, a0, a1, hsn, sd⟩ := decl_at (HSL.out.below rDecl_stays hB) hlt
        have hstep := hrel.trans (nodes_at ex)
        have hbd := HDL.out d (List.mem_of_getElem? ex)
        have HBa := Lib.hid (fun o => (Below.refl _ wr).alloc (Nat.le_refl _) o)
        have C := Lib.hid (fun o => psize_any (sd.below rSpan_stays (HBa.out o)) (by omega))
        obtain ⟨p1, l1, c1, rfl⟩ := slc_shape sd
        obtain ⟨z, hz⟩ : ∃ z, z = szL d.dom := ⟨_, rfl⟩
        obtain ⟨z0, z1⟩ := sz_low d.dom
        rw [← hz] at C hstep z0 z1
        have HB := Lib.hid (fun o => hB.trans ((HBa.out o).mono hB.size))
        clear hrel hB ex hsn sd hbd hz
        have hz2 : ¬ z + 1 = 0 := by omega
        have hz3 : (z + 1 == 0) = false := beq_eq_false_iff_ne.2 hz2
        unfold maxI at hstep
        by_cases g : 9223372036854775807 / (z + 1) < n
        · rw [if_pos g] at hstep
          subst hstep
          have d1 : decide (9223372036854775807 / (z + 1) < n) = true := decide_eq_true g
          go_wp2_with fail
          refine (C.out _).mono ?_
          rintro e w3 ⟨rfl, hB3⟩
          have HB3 := Lib.hid ((HB.out _).trans (hB3.mono (HB.out _).size))
          clear hB3
          go_wp2_with fail
          go_ret
          exact ⟨rfl, HB2.out.trans (HB3.out.mono HB2.out.size)⟩
        · rw [if_neg g] at hstep
          have d1 : decide (9223372036854775807 / (z + 1) < n) = false := decide_eq_false g
          have hmul := quo_fits hn.1 z0 g
          have NX := Lib.hid hstep
          clear hstep
          go_wp2_with fail
          refine (C.out _).mono ?_
          rintro e w3 ⟨rfl, hB3⟩
          have HB3 := Lib.hid ((HB.out _).trans (hB3.mono (HB.out _).size))
          clear hB3
          go_wp2_with fail
          go_roundw
          case rel => exact ⟨k + 1, n * (z + 1), by omega, by go_num, by go_num, hmul, NX.out, HB3.out⟩
          case measure => simp [intOf]; omega
      · have key : R = n := hrel.trans (nodes_end (by rw [← HLN.out]; omega))
        subst key
        have HB := Lib.hid hB
        clear hrel hB
        go_wp2_with fail
        go_ret
        exact ⟨rfl, HB2.out.trans (HB.out.mono HB2.out.size)⟩
  · rw [if_neg z0] at hR
    subst hR
    have e0 : (z == 0) = false := beq_eq_false_iff_ne.2 z0
    go_enter Try.func23, Try.ntmps23
    go_upto_region 1 with fail
    rw [← HW.out]
    go_wp2_with fail
    refine CH.out.mono ?_
    rintro e w1 ⟨rfl, hB1⟩
    have HB1 := Lib.hid (HB0.out.trans (hB1.mono HB0.out.size))
    clear hB1 m0 m1
    go_wp2_with fail
    go_ret
    exact ⟨rfl, HB1.out⟩
end Go.Proofs.Ythoakeekfajhaaa
