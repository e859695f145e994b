/-
  The law ShowTells, at every model and constraint.
-/
import Derived.Test.YtkgieaoahijheaaDoorZYBI
import Derived.Test.YtkgieaoahijheaaDoorZWTxt
import Derived.Test.YtkgieaoahijheaaDoorZMLarge
namespace Go.Proofs.YtkgieaoahijheaaDoor.Wt
open Go.RowKit
open Sc (Tok)
set_option maxRecDepth 100000

theorem cut_one (O : List UInt8) (W : World) : (Instr.slice 9 (.string ⟨(32 :: O).toArray⟩) (some (.int .i64 1)) none none).run Tryd.prog W = .ok (.string ⟨O.toArray⟩) W := by
  have hs : (⟨(32 :: O).toArray⟩ : ByteArray).size = O.length + 1 := by simp [ByteArray.size]
  rw [run_slice_string_from_if W 9 ⟨(32 :: O).toArray⟩ .i64 1 Tryd.underlying9, if_pos ⟨by omega, by rw [hs]; omega⟩]
  congr 2
  rw [Lib.extract_eq, hs]
  simp
/-- the arguments' own variables -/
structure Two (w : World) (bv gv : Value) (cs : Array Value) (u : World) : Prop where
  mod : Mb w bv gv u
  con : Cb w (w.heap.size + 1) cs u
section
variable {w u u' : World} {bv gv y0 y1 y2 y3 y4 y5 : Value}
theorem Two.ext {cs : Array Value} (h : Two w bv gv cs u) (hB : Below u.heap.size u u') : Two w bv gv cs u' := ⟨h.mod.ext hB, h.con.ext hB⟩
theorem Two.all (h : Two w bv gv #[y0, y1, y2, y3, y4, y5] u) : u.cell? ⟨w.heap.size, 0, none⟩ = some bv ∧ u.cell? ⟨w.heap.size, 1, none⟩ = some gv ∧ u.cell? ⟨w.heap.size + 1, 0, none⟩ = some y0 ∧ u.cell? ⟨w.heap.size + 1, 1, none⟩ = some y1 ∧ u.cell? ⟨w.heap.size + 1, 2, none⟩ = some y2 ∧ u.cell? ⟨w.heap.size + 1, 3, none⟩ = some y3 ∧ u.cell? ⟨w.heap.size + 1, 4, none⟩ = some y4 ∧ u.cell? ⟨w.heap.size + 1, 5, none⟩ = some y5 ∧ Two w bv gv #[y0, y1, y2, y3, y4, y5] u :=
  ⟨h.mod.cells.1, h.mod.cells.2.1, h.con.cell 0, h.con.cell 1, h.con.cell 2, h.con.cell 3, h.con.cell 4, h.con.cell 5, h⟩
theorem s8k (h : u.cell? ⟨w.heap.size, 0, none⟩ = some bv ∧ u.cell? ⟨w.heap.size, 1, none⟩ = some gv ∧ u.cell? ⟨w.heap.size + 1, 0, none⟩ = some y0 ∧ u.cell? ⟨w.heap.size + 1, 1, none⟩ = some y1 ∧ u.cell? ⟨w.heap.size + 1, 2, none⟩ = some y2 ∧ u.cell? ⟨w.heap.size + 1, 3, none⟩ = some y3 ∧ u.cell? ⟨w.heap.size + 1, 4, none⟩ = some y4 ∧ u.cell? ⟨w.heap.size + 1, 5, none⟩ = some y5 ∧ Two w bv gv #[y0, y1, y2, y3, y4, y5] u) (hB : Below u.heap.size u u') :
    u'.cell? ⟨w.heap.size, 0, none⟩ = some bv ∧ u'.cell? ⟨w.heap.size, 1, none⟩ = some gv ∧ u'.cell? ⟨w.heap.size + 1, 0, none⟩ = some y0 ∧ u'.cell? ⟨w.heap.size + 1, 1, none⟩ = some y1 ∧ u'.cell? ⟨w.heap.size + 1, 2, none⟩ = some y2 ∧ u'.cell? ⟨w.heap.size + 1, 3, none⟩ = some y3 ∧ u'.cell? ⟨w.heap.size + 1, 4, none⟩ = some y4 ∧ u'.cell? ⟨w.heap.size + 1, 5, none⟩ = some y5 ∧ Two w bv gv #[y0, y1, y2, y3, y4, y5] u' := (h.2.2.2.2.2.2.2.2.ext hB).all
theorem s8l (h : u.cell? ⟨w.heap.size, 0, none⟩ = some bv ∧ u.cell? ⟨w.heap.size, 1, none⟩ = some gv ∧ u.cell? ⟨w.heap.size + 1, 0, none⟩ = some y0 ∧ u.cell? ⟨w.heap.size + 1, 1, none⟩ = some y1 ∧ u.cell? ⟨w.heap.size + 1, 2, none⟩ = some y2 ∧ u.cell? ⟨w.heap.size + 1, 3, none⟩ = some y3 ∧ u.cell? ⟨w.heap.size + 1, 4, none⟩ = some y4 ∧ u.cell? ⟨w.heap.size + 1, 5, none⟩ = some y5 ∧ Two w bv gv #[y0, y1, y2, y3, y4, y5] u) : Below w.heap.size w u := h.2.2.2.2.2.2.2.2.mod.low
theorem two_start (w : World) (bv gv : Value) (cs : Array Value) : Two w bv gv cs ((w.alloc (.cells #[bv, gv] 25)).alloc (.cells cs 28)) := by
  have k0 := (Below.refl _ w).alloc (Nat.le_refl _) (.cells #[bv, gv] 25)
  have s1 : (w.alloc (.cells #[bv, gv] 25)).heap.size = w.heap.size + 1 := by simp
  have k1 := k0.alloc (by omega) (.cells cs 28)
  have rw1 := heap_alloc_new (w.alloc (.cells #[bv, gv] 25)) (.cells cs 28)
  rw [s1] at rw1
  exact ⟨⟨(Lib.alloc_old _ _ _ (by omega)).trans (heap_alloc_new w _), k1⟩, rw1, k1⟩
end
set_option maxHeartbeats 8000000 in
theorem tells_more {w : World} {pb pg q1 q2 q3 : Option Addr} {lb cb lg cg m1 d1 m2 d2 m3 d3 : Nat} {m : PModel} {c : PCon} (hm : rModel w [.slice pb lb cb, .slice pg lg cg] m) (ht : Tb w.heap.size w) (hl : largeB m = true ∨ 1000 < m1 ∨ 1000 < m2 ∨ 1000 < m3) : Calls Tryd.prog 3 #[.agg #[.slice pb lb cb, .slice pg lg cg], .agg #[.int .i64 c.kind, .slice q1 m1 d1, .slice q2 m2 d2, .int .i64 c.rel, .int .i64 c.const, .slice q3 m3 d3]] w fun e w' => e = .returned (.bool true) ∧ Below w.heap.size w w' := by
  have T0 := Lib.hid (two_start w (.slice pb lb cb) (.slice pg lg cg) #[.int .i64 c.kind, .slice q1 m1 d1, .slice q2 m2 d2, .int .i64 c.rel, .int .i64 c.const, .slice q3 m3 d3])
  have HT := Lib.hid ht
  have AW := Lib.hid (fun (u : World) (hb : Below w.heap.size w u) => awake_any u (HT.out.up hb))
  have LG := Lib.hid (fun (u : World) (hb : Below w.heap.size w u) => large_any (rModel_stays _ _ _ _ hb hm))
  obtain ⟨lg2, hlg⟩ : ∃ b, b = largeB m := ⟨_, rfl⟩
  rw [← hlg] at LG hl
  have HL := Lib.hid hl
  clear hm ht hlg hl
  obtain ⟨x0, x1, y0, y1, y2, y3, y4, y5, _⟩ := T0.out.all
  go_enter Tryd.func3, Tryd.ntmps3
  go_wp2_with fail
  refine (AW.out _ T0.out.mod.low).mono ?_
  rintro e w1 ⟨rfl, hB⟩
  have T1 := Lib.hid (T0.out.ext hB)
  clear hB x0 x1 y0 y1 y2 y3 y4 y5
  obtain ⟨x0, x1, y0, y1, y2, y3, y4, y5, _⟩ := T1.out.all
  go_wp2_with fail
  refine (LG.out _ T1.out.mod.low).mono ?_
  rintro e w2 ⟨rfl, hB⟩
  have T2 := Lib.hid (T1.out.ext hB)
  clear hB x0 x1 y0 y1 y2 y3 y4 y5
  obtain ⟨x0, x1, y0, y1, y2, y3, y4, y5, _⟩ := T2.out.all
  cases lg2
  · by_cases j1 : 1000 < m1
    · have i1 : (1000 : Int) < (m1 : Int) := by omega
      go_wp2_with fail
      go_ret
      exact ⟨rfl, T2.out.mod.low⟩
    · have i1 : ¬ (1000 : Int) < (m1 : Int) := by omega
      by_cases j2 : 1000 < m2
      · have i2 : (1000 : Int) < (m2 : Int) := by omega
        go_wp2_with fail
        go_ret
        exact ⟨rfl, T2.out.mod.low⟩
      · have i2 : ¬ (1000 : Int) < (m2 : Int) := by omega
        have j3 : 1000 < m3 := by
          rcases HL.out with h | h | h | h
          · cases h
          · exact absurd h j1
          · exact absurd h j2
          · exact h
        have i3 : (1000 : Int) < (m3 : Int) := by omega
        go_wp2_with fail
        go_ret
        exact ⟨rfl, T2.out.mod.low⟩
  · go_wp2_with fail
    go_ret
    exact ⟨rfl, T2.out.mod.low⟩
set_option maxHeartbeats 16000000 in
theorem tells_bad {w : World} {pb pg q1 q2 q3 : Option Addr} {lb cb lg cg m1 d1 m2 d2 m3 d3 : Nat} {m : PModel} {c : PCon} (hm : rModel w [.slice pb lb cb, .slice pg lg cg] m) (hr : rCon w [.int .i64 c.kind, .slice q1 m1 d1, .slice q2 m2 d2, .int .i64 c.rel, .int .i64 c.const, .slice q3 m3 d3] c) (ht : Tb w.heap.size w) (hg : largeB m = false) (e1 : m1 = c.vars.length) (e2 : m2 = c.coefs.length) (e3 : m3 = c.nums.length) (l1 : m1 ≤ 1000) (l2 : m2 ≤ 1000) (l3 : m3 ≤ 1000)
    (hc : checkM m ≠ 0) : Calls Tryd.prog 3 #[.agg #[.slice pb lb cb, .slice pg lg cg], .agg #[.int .i64 c.kind, .slice q1 m1 d1, .slice q2 m2 d2, .int .i64 c.rel, .int .i64 c.const, .slice q3 m3 d3]] w fun e w' => e = .returned (.bool true) ∧ Below w.heap.size w w' := by
  have hf := few_of hg
  have hs : Short 1000 c := ⟨by omega, by omega, by omega⟩
  have T0 := Lib.hid (two_start w (.slice pb lb cb) (.slice pg lg cg) #[.int .i64 c.kind, .slice q1 m1 d1, .slice q2 m2 d2, .int .i64 c.rel, .int .i64 c.const, .slice q3 m3 d3])
  obtain ⟨R1, hR1⟩ : ∃ R1, R1 = (textA m).1 := ⟨_, rfl⟩
  obtain ⟨R2, hR2⟩ : ∃ R2, R2 = (textA m).2 := ⟨_, rfl⟩
  have HT := Lib.hid ht
  have HM := Lib.hid hm
  have AW := Lib.hid (fun (u : World) (hb : Below w.heap.size w u) => awake_any u (HT.out.up hb))
  have LG := Lib.hid (fun (u : World) (hb : Below w.heap.size w u) => large_any (rModel_stays _ _ _ _ hb hm))
  rw [hg] at LG
  have TP := Lib.hid (fun (u : World) (hb : Below w.heap.size w u) => ptext_any (rModel_stays _ _ _ _ hb hm) hf (HT.out.up hb))
  have TR := Lib.hid (fun (u : World) (hb : Below w.heap.size w u) => rtext_any (rModel_stays _ _ _ _ hb hm) hf)
  rw [← hR1, ← hR2] at TP TR
  have CP := Lib.hid (fun (u : World) (hb : Below w.heap.size w u) => pcon_any (rModel_stays _ _ _ _ hb hm) hf (rCon_stays _ _ _ _ hb hr) hs (HT.out.up hb))
  have CK := Lib.hid (fun (u : World) (hb : Below w.heap.size w u) => rcheck_any (rModel_stays _ _ _ _ hb hm) hf)
  obtain ⟨ck, hck⟩ : ∃ ck, ck = checkM m := ⟨_, rfl⟩
  have hA : conA m c = ([], ck) := by unfold conA; rw [if_neg hc, hck]
  rw [hA] at CP
  rw [← hck] at CK hc
  have hc1 : (ck == 0) = false := beq_eq_false_iff_ne.2 hc
  have hc2 : (ck != 0) = true := by rw [bne, hc1]; rfl
  have hc3 : (ck == ck) = true := beq_self_eq_true _
  have hz := eql_str [] []
  have hy : binOp .eql 9 (.string ⟨R1.toArray⟩) (.string ⟨R1.toArray⟩) = pure (.bool true) := by rw [eql_str]; simp
  have hx : (R2 == R2) = true := beq_self_eq_true _
  have i1 : ¬ (1000 : Int) < (m1 : Int) := by omega
  have i2 : ¬ (1000 : Int) < (m2 : Int) := by omega
  have i3 : ¬ (1000 : Int) < (m3 : Int) := by omega
  have n1 : ¬ 1000 < m1 := by omega
  have n2 : ¬ 1000 < m2 := by omega
  have n3 : ¬ 1000 < m3 := by omega
  have t1 : decide ((1000 : Int) < (m1 : Int)) = false := decide_eq_false i1
  have t2 : decide ((1000 : Int) < (m2 : Int)) = false := decide_eq_false i2
  have t3 : decide ((1000 : Int) < (m3 : Int)) = false := decide_eq_false i3
  clear hm hr ht hg hf hs e1 e2 e3 hR1 hR2 hck hA hc
  obtain ⟨x0, x1, y0, y1, y2, y3, y4, y5, _⟩ := T0.out.all
  go_enter Tryd.func3, Tryd.ntmps3
  go_wp2_with fail
  refine (AW.out _ T0.out.mod.low).mono ?_
  rintro e w1 ⟨rfl, hB⟩
  have T1 := Lib.hid (T0.out.ext hB)
  clear hB x0 x1 y0 y1 y2 y3 y4 y5
  obtain ⟨x0, x1, y0, y1, y2, y3, y4, y5, _⟩ := T1.out.all
  go_wp2_with fail
  refine (LG.out _ T1.out.mod.low).mono ?_
  rintro e w2 ⟨rfl, hB⟩
  have T2 := Lib.hid (T1.out.ext hB)
  clear hB x0 x1 y0 y1 y2 y3 y4 y5
  obtain ⟨x0, x1, y0, y1, y2, y3, y4, y5, _⟩ := T2.out.all
  go_wp2_with fail
  refine (TP.out _ T2.out.mod.low).mono ?_
  rintro e w3 ⟨rfl, hB⟩
  have T3 := Lib.hid (T2.out.ext hB)
  clear hB x0 x1 y0 y1 y2 y3 y4 y5
  obtain ⟨x0, x1, y0, y1, y2, y3, y4, y5, _⟩ := T3.out.all
  go_wp2_with fail
  refine (TR.out _ T3.out.mod.low).mono ?_
  rintro e w4 ⟨rfl, hB⟩
  have T4 := Lib.hid (T3.out.ext hB)
  clear hB x0 x1 y0 y1 y2 y3 y4 y5
  obtain ⟨x0, x1, y0, y1, y2, y3, y4, y5, _⟩ := T4.out.all
  go_wp2_with fail
  refine (CP.out _ T4.out.mod.low).mono ?_
  rintro e w5 ⟨rfl, hB⟩
  have T5 := Lib.hid (T4.out.ext hB)
  clear hB x0 x1 y0 y1 y2 y3 y4 y5
  obtain ⟨x0, x1, y0, y1, y2, y3, y4, y5, _⟩ := T5.out.all
  go_wp2_with fail
  refine (CK.out _ T5.out.mod.low).mono ?_
  rintro e w6 ⟨rfl, hB⟩
  have T6 := Lib.hid (T5.out.ext hB)
  clear hB x0 x1 y0 y1 y2 y3 y4 y5
  obtain ⟨x0, x1, y0, y1, y2, y3, y4, y5, _⟩ := T6.out.all
  go_wp2_with fail
  go_ret
  exact ⟨rfl, T6.out.mod.low⟩
set_option maxHeartbeats 16000000 in
theorem tells_no {w : World} {pb pg q1 q2 q3 : Option Addr} {lb cb lg cg m1 d1 m2 d2 m3 d3 : Nat} {m : PModel} {c : PCon} (hm : rModel w [.slice pb lb cb, .slice pg lg cg] m) (hr : rCon w [.int .i64 c.kind, .slice q1 m1 d1, .slice q2 m2 d2, .int .i64 c.rel, .int .i64 c.const, .slice q3 m3 d3] c) (ht : Tb w.heap.size w) (hg : largeB m = false) (e1 : m1 = c.vars.length) (e2 : m2 = c.coefs.length) (e3 : m3 = c.nums.length) (l1 : m1 ≤ 1000) (l2 : m2 ≤ 1000) (l3 : m3 ≤ 1000)
    (hc : checkM m = 0) (hq : rightC c ((varsL m.blocks).length : Int) = false) : Calls Tryd.prog 3 #[.agg #[.slice pb lb cb, .slice pg lg cg], .agg #[.int .i64 c.kind, .slice q1 m1 d1, .slice q2 m2 d2, .int .i64 c.rel, .int .i64 c.const, .slice q3 m3 d3]] w fun e w' => e = .returned (.bool true) ∧ Below w.heap.size w w' := by
  have hf := few_of hg
  have hs : Short 1000 c := ⟨by omega, by omega, by omega⟩
  have T0 := Lib.hid (two_start w (.slice pb lb cb) (.slice pg lg cg) #[.int .i64 c.kind, .slice q1 m1 d1, .slice q2 m2 d2, .int .i64 c.rel, .int .i64 c.const, .slice q3 m3 d3])
  obtain ⟨R1, hR1⟩ : ∃ R1, R1 = (textA m).1 := ⟨_, rfl⟩
  obtain ⟨R2, hR2⟩ : ∃ R2, R2 = (textA m).2 := ⟨_, rfl⟩
  have HT := Lib.hid ht
  have HM := Lib.hid hm
  have AW := Lib.hid (fun (u : World) (hb : Below w.heap.size w u) => awake_any u (HT.out.up hb))
  have LG := Lib.hid (fun (u : World) (hb : Below w.heap.size w u) => large_any (rModel_stays _ _ _ _ hb hm))
  rw [hg] at LG
  have TP := Lib.hid (fun (u : World) (hb : Below w.heap.size w u) => ptext_any (rModel_stays _ _ _ _ hb hm) hf (HT.out.up hb))
  have TR := Lib.hid (fun (u : World) (hb : Below w.heap.size w u) => rtext_any (rModel_stays _ _ _ _ hb hm) hf)
  rw [← hR1, ← hR2] at TP TR
  have CP := Lib.hid (fun (u : World) (hb : Below w.heap.size w u) => pcon_any (rModel_stays _ _ _ _ hb hm) hf (rCon_stays _ _ _ _ hb hr) hs (HT.out.up hb))
  have CK := Lib.hid (fun (u : World) (hb : Below w.heap.size w u) => rcheck_any (rModel_stays _ _ _ _ hb hm) hf)
  obtain ⟨L, hL⟩ : ∃ L, L = varsL m.blocks := ⟨_, rfl⟩
  have hLl : L.length ≤ 1000 := by rw [hL]; exact hf.few
  rw [hc] at CK
  rw [← hL] at hq
  have VX := Lib.hid (fun (u : World) (hb : Below w.heap.size w u) => show Calls Tryd.prog 11 #[.agg #[.slice pb lb cb, .slice pg lg cg]] u fun e w' => ∃ p n c, e = .returned (.slice p n c) ∧ (Slc rDecl 2 w' (.slice p n c) L ∧ n = L.length) ∧ Below u.heap.size u w' from (vars_any (rModel_stays _ _ _ _ hb hm) hf.blocks hf.vars (by have := hf.few; omega)).mono fun e w' ⟨v, e1, e2, e3⟩ => by
    rw [← hL] at e2
    have q := e2
    obtain ⟨p, _, _, c, n, rfl, _, hsl⟩ := q
    exact ⟨p, n, c, e1, ⟨e2, hsl.long⟩, e3⟩)
  have RX := Lib.hid (fun (u : World) (hb : Below w.heap.size w u) => rrcon_any (L.length : Int) (by unfold Fit; omega) (rCon_stays _ _ _ _ hb hr) hs)
  rw [hq] at RX
  have hA : conA m c = ([], 12) := by unfold conA; rw [if_pos hc, ← hL, if_neg (by rw [hq]; decide)]
  rw [hA] at CP
  have hz := eql_str [] []
  have hy : binOp .eql 9 (.string ⟨R1.toArray⟩) (.string ⟨R1.toArray⟩) = pure (.bool true) := by rw [eql_str]; simp
  have hx : (R2 == R2) = true := beq_self_eq_true _
  have i1 : ¬ (1000 : Int) < (m1 : Int) := by omega
  have i2 : ¬ (1000 : Int) < (m2 : Int) := by omega
  have i3 : ¬ (1000 : Int) < (m3 : Int) := by omega
  have n1 : ¬ 1000 < m1 := by omega
  have n2 : ¬ 1000 < m2 := by omega
  have n3 : ¬ 1000 < m3 := by omega
  have t1 : decide ((1000 : Int) < (m1 : Int)) = false := decide_eq_false i1
  have t2 : decide ((1000 : Int) < (m2 : Int)) = false := decide_eq_false i2
  have t3 : decide ((1000 : Int) < (m3 : Int)) = false := decide_eq_false i3
  clear hm hr ht hg hf hs e1 e2 e3 hR1 hR2 hL hLl hA hc hq
  obtain ⟨x0, x1, y0, y1, y2, y3, y4, y5, _⟩ := T0.out.all
  go_enter Tryd.func3, Tryd.ntmps3
  go_wp2_with fail
  refine (AW.out _ T0.out.mod.low).mono ?_
  rintro e w1 ⟨rfl, hB⟩
  have T1 := Lib.hid (T0.out.ext hB)
  clear hB x0 x1 y0 y1 y2 y3 y4 y5
  obtain ⟨x0, x1, y0, y1, y2, y3, y4, y5, _⟩ := T1.out.all
  go_wp2_with fail
  refine (LG.out _ T1.out.mod.low).mono ?_
  rintro e w2 ⟨rfl, hB⟩
  have T2 := Lib.hid (T1.out.ext hB)
  clear hB x0 x1 y0 y1 y2 y3 y4 y5
  obtain ⟨x0, x1, y0, y1, y2, y3, y4, y5, _⟩ := T2.out.all
  go_wp2_with fail
  refine (TP.out _ T2.out.mod.low).mono ?_
  rintro e w3 ⟨rfl, hB⟩
  have T3 := Lib.hid (T2.out.ext hB)
  clear hB x0 x1 y0 y1 y2 y3 y4 y5
  obtain ⟨x0, x1, y0, y1, y2, y3, y4, y5, _⟩ := T3.out.all
  go_wp2_with fail
  refine (TR.out _ T3.out.mod.low).mono ?_
  rintro e w4 ⟨rfl, hB⟩
  have T4 := Lib.hid (T3.out.ext hB)
  clear hB x0 x1 y0 y1 y2 y3 y4 y5
  obtain ⟨x0, x1, y0, y1, y2, y3, y4, y5, _⟩ := T4.out.all
  go_wp2_with fail
  refine (CP.out _ T4.out.mod.low).mono ?_
  rintro e w5 ⟨rfl, hB⟩
  have T5 := Lib.hid (T4.out.ext hB)
  clear hB x0 x1 y0 y1 y2 y3 y4 y5
  obtain ⟨x0, x1, y0, y1, y2, y3, y4, y5, _⟩ := T5.out.all
  go_wp2_with fail
  refine (CK.out _ T5.out.mod.low).mono ?_
  rintro e w6 ⟨rfl, hB⟩
  have T6 := Lib.hid (T5.out.ext hB)
  clear hB x0 x1 y0 y1 y2 y3 y4 y5
  obtain ⟨x0, x1, y0, y1, y2, y3, y4, y5, _⟩ := T6.out.all
  have H0 := Lib.hid T6.out.all
  go_wp2_with fail
  clear x0 x1 y0 y1 y2 y3 y4 y5
  go_region_held3 (fun w' => w'.cell? ⟨w.heap.size, 0, none⟩ = some (.slice pb lb cb) ∧ w'.cell? ⟨w.heap.size, 1, none⟩ = some (.slice pg lg cg) ∧ w'.cell? ⟨w.heap.size + 1, 0, none⟩ = some (.int .i64 c.kind) ∧ w'.cell? ⟨w.heap.size + 1, 1, none⟩ = some (.slice q1 m1 d1) ∧ w'.cell? ⟨w.heap.size + 1, 2, none⟩ = some (.slice q2 m2 d2) ∧ w'.cell? ⟨w.heap.size + 1, 3, none⟩ = some (.int .i64 c.rel) ∧ w'.cell? ⟨w.heap.size + 1, 4, none⟩ = some (.int .i64 c.const) ∧ w'.cell? ⟨w.heap.size + 1, 5, none⟩ = some (.slice q3 m3 d3) ∧ Two w (.slice pb lb cb) (.slice pg lg cg) #[.int .i64 c.kind, .slice q1 m1 d1, .slice q2 m2 d2, .int .i64 c.rel, .int .i64 c.const, .slice q3 m3 d3] w')
    (first | exact s8k (by assumption) (by assumption) | exact s8k H0.out (below_dr 1))
    (first
      | (go_at_call 11; refine (VX.out _ (s8l (by assumption))).mono ?_; rintro e u1 ⟨pn, ln, cn, rfl, ⟨hV, rfl⟩, hB1⟩; have HV1 := Lib.hid hV; clear hV)
      | (go_at_call 10; refine (RX.out _ (s8l (by assumption))).mono ?_; rintro e u2 ⟨rfl, hB2⟩))
  have T7 := Lib.hid (by assumption : u2.cell? ⟨w.heap.size, 0, none⟩ = some (.slice pb lb cb) ∧ u2.cell? ⟨w.heap.size, 1, none⟩ = some (.slice pg lg cg) ∧ u2.cell? ⟨w.heap.size + 1, 0, none⟩ = some (.int .i64 c.kind) ∧ u2.cell? ⟨w.heap.size + 1, 1, none⟩ = some (.slice q1 m1 d1) ∧ u2.cell? ⟨w.heap.size + 1, 2, none⟩ = some (.slice q2 m2 d2) ∧ u2.cell? ⟨w.heap.size + 1, 3, none⟩ = some (.int .i64 c.rel) ∧ u2.cell? ⟨w.heap.size + 1, 4, none⟩ = some (.int .i64 c.const) ∧ u2.cell? ⟨w.heap.size + 1, 5, none⟩ = some (.slice q3 m3 d3) ∧ Two w (.slice pb lb cb) (.slice pg lg cg) #[.int .i64 c.kind, .slice q1 m1 d1, .slice q2 m2 d2, .int .i64 c.rel, .int .i64 c.const, .slice q3 m3 d3] u2).2.2.2.2.2.2.2.2
  obtain ⟨x0, x1, y0, y1, y2, y3, y4, y5, _⟩ := T7.out.all
  go_wp2_with fail
  go_ret
  exact ⟨rfl, T7.out.mod.low⟩
set_option maxHeartbeats 16000000 in
theorem tells_yes {w : World} {pb pg q1 q2 q3 : Option Addr} {lb cb lg cg m1 d1 m2 d2 m3 d3 : Nat} {m : PModel} {c : PCon} (hm : rModel w [.slice pb lb cb, .slice pg lg cg] m) (hr : rCon w [.int .i64 c.kind, .slice q1 m1 d1, .slice q2 m2 d2, .int .i64 c.rel, .int .i64 c.const, .slice q3 m3 d3] c) (ht : Tb w.heap.size w) (hg : largeB m = false) (e1 : m1 = c.vars.length) (e2 : m2 = c.coefs.length) (e3 : m3 = c.nums.length) (l1 : m1 ≤ 1000) (l2 : m2 ≤ 1000) (l3 : m3 ≤ 1000)
    (hc : checkM m = 0) (hq : rightC c ((varsL m.blocks).length : Int) = true) : Calls Tryd.prog 3 #[.agg #[.slice pb lb cb, .slice pg lg cg], .agg #[.int .i64 c.kind, .slice q1 m1 d1, .slice q2 m2 d2, .int .i64 c.rel, .int .i64 c.const, .slice q3 m3 d3]] w fun e w' => e = .returned (.bool true) ∧ Below w.heap.size w w' := by
  have hf := few_of hg
  have hs : Short 1000 c := ⟨by omega, by omega, by omega⟩
  have T0 := Lib.hid (two_start w (.slice pb lb cb) (.slice pg lg cg) #[.int .i64 c.kind, .slice q1 m1 d1, .slice q2 m2 d2, .int .i64 c.rel, .int .i64 c.const, .slice q3 m3 d3])
  obtain ⟨R1, hR1⟩ : ∃ R1, R1 = (textA m).1 := ⟨_, rfl⟩
  obtain ⟨R2, hR2⟩ : ∃ R2, R2 = (textA m).2 := ⟨_, rfl⟩
  have HT := Lib.hid ht
  have HM := Lib.hid hm
  have AW := Lib.hid (fun (u : World) (hb : Below w.heap.size w u) => awake_any u (HT.out.up hb))
  have LG := Lib.hid (fun (u : World) (hb : Below w.heap.size w u) => large_any (rModel_stays _ _ _ _ hb hm))
  rw [hg] at LG
  have TP := Lib.hid (fun (u : World) (hb : Below w.heap.size w u) => ptext_any (rModel_stays _ _ _ _ hb hm) hf (HT.out.up hb))
  have TR := Lib.hid (fun (u : World) (hb : Below w.heap.size w u) => rtext_any (rModel_stays _ _ _ _ hb hm) hf)
  rw [← hR1, ← hR2] at TP TR
  have CP := Lib.hid (fun (u : World) (hb : Below w.heap.size w u) => pcon_any (rModel_stays _ _ _ _ hb hm) hf (rCon_stays _ _ _ _ hb hr) hs (HT.out.up hb))
  have CK := Lib.hid (fun (u : World) (hb : Below w.heap.size w u) => rcheck_any (rModel_stays _ _ _ _ hb hm) hf)
  obtain ⟨L, hL⟩ : ∃ L, L = varsL m.blocks := ⟨_, rfl⟩
  have hLl : L.length ≤ 1000 := by rw [hL]; exact hf.few
  rw [hc] at CK
  rw [← hL] at hq
  have VX := Lib.hid (fun (u : World) (hb : Below w.heap.size w u) => show Calls Tryd.prog 11 #[.agg #[.slice pb lb cb, .slice pg lg cg]] u fun e w' => ∃ p n c, e = .returned (.slice p n c) ∧ (Slc rDecl 2 w' (.slice p n c) L ∧ n = L.length) ∧ Below u.heap.size u w' from (vars_any (rModel_stays _ _ _ _ hb hm) hf.blocks hf.vars (by have := hf.few; omega)).mono fun e w' ⟨v, e1, e2, e3⟩ => by
    rw [← hL] at e2
    have q := e2
    obtain ⟨p, _, _, c, n, rfl, _, hsl⟩ := q
    exact ⟨p, n, c, e1, ⟨e2, hsl.long⟩, e3⟩)
  have RX := Lib.hid (fun (u : World) (hb : Below w.heap.size w u) => rrcon_any (L.length : Int) (by unfold Fit; omega) (rCon_stays _ _ _ _ hb hr) hs)
  rw [hq] at RX
  obtain ⟨_, hn⟩ := name_semi hc
  obtain ⟨O, o1, _⟩ := con_tail hn c (con_some _ c)
  have hA : conA m c = (O, 0) := by unfold conA; rw [if_pos hc, ← hL, if_pos hq, o1]; rfl
  rw [hA] at CP
  have hok : ConM (nmT (namesM m)) L c := by
    rw [hL]
    exact con_may (Nat.le_refl _) (by rw [← hL]; exact hq)
  have KX := Lib.hid (fun (u : World) (p : Option Addr) (n k : Nat) (hb : Below w.heap.size w u) (hv : Slc rDecl 2 u (.slice p n k) L) => show Calls Tryd.prog 12 #[.agg #[.int .i64 c.kind, .slice q1 m1 d1, .slice q2 m2 d2, .int .i64 c.rel, .int .i64 c.const, .slice q3 m3 d3], .slice p n k] u fun e w' => e = .returned (.string ⟨(32 :: O).toArray⟩) ∧ Below u.heap.size u w' from by
    have q := hv
    obtain ⟨p', bn, off, k', n', e, _, hsl⟩ := q
    cases e
    have h := rcon_any (cn := k) (rCon_stays _ _ _ _ hb hr) hsl (fun d hd => by rw [hL] at hd; have := (text_may hc).name d hd; omega) hok
    rw [o1] at h
    exact h)
  have hcut := fun W => cut_one O W
  have hz : binOp .eql 9 (.string ⟨O.toArray⟩) (.string ⟨O.toArray⟩) = pure (.bool true) := by rw [eql_str]; simp
  have hy : binOp .eql 9 (.string ⟨R1.toArray⟩) (.string ⟨R1.toArray⟩) = pure (.bool true) := by rw [eql_str]; simp
  have hx : (R2 == R2) = true := beq_self_eq_true _
  have i1 : ¬ (1000 : Int) < (m1 : Int) := by omega
  have i2 : ¬ (1000 : Int) < (m2 : Int) := by omega
  have i3 : ¬ (1000 : Int) < (m3 : Int) := by omega
  have n1 : ¬ 1000 < m1 := by omega
  have n2 : ¬ 1000 < m2 := by omega
  have n3 : ¬ 1000 < m3 := by omega
  have t1 : decide ((1000 : Int) < (m1 : Int)) = false := decide_eq_false i1
  have t2 : decide ((1000 : Int) < (m2 : Int)) = false := decide_eq_false i2
  have t3 : decide ((1000 : Int) < (m3 : Int)) = false := decide_eq_false i3
  clear hm hr ht hg hf hs e1 e2 e3 hR1 hR2 hL hLl hA hc hq o1 hok hn
  obtain ⟨x0, x1, y0, y1, y2, y3, y4, y5, _⟩ := T0.out.all
  go_enter Tryd.func3, Tryd.ntmps3
  go_wp2_with fail
  refine (AW.out _ T0.out.mod.low).mono ?_
  rintro e w1 ⟨rfl, hB⟩
  have T1 := Lib.hid (T0.out.ext hB)
  clear hB x0 x1 y0 y1 y2 y3 y4 y5
  obtain ⟨x0, x1, y0, y1, y2, y3, y4, y5, _⟩ := T1.out.all
  go_wp2_with fail
  refine (LG.out _ T1.out.mod.low).mono ?_
  rintro e w2 ⟨rfl, hB⟩
  have T2 := Lib.hid (T1.out.ext hB)
  clear hB x0 x1 y0 y1 y2 y3 y4 y5
  obtain ⟨x0, x1, y0, y1, y2, y3, y4, y5, _⟩ := T2.out.all
  go_wp2_with fail
  refine (TP.out _ T2.out.mod.low).mono ?_
  rintro e w3 ⟨rfl, hB⟩
  have T3 := Lib.hid (T2.out.ext hB)
  clear hB x0 x1 y0 y1 y2 y3 y4 y5
  obtain ⟨x0, x1, y0, y1, y2, y3, y4, y5, _⟩ := T3.out.all
  go_wp2_with fail
  refine (TR.out _ T3.out.mod.low).mono ?_
  rintro e w4 ⟨rfl, hB⟩
  have T4 := Lib.hid (T3.out.ext hB)
  clear hB x0 x1 y0 y1 y2 y3 y4 y5
  obtain ⟨x0, x1, y0, y1, y2, y3, y4, y5, _⟩ := T4.out.all
  go_wp2_with fail
  refine (CP.out _ T4.out.mod.low).mono ?_
  rintro e w5 ⟨rfl, hB⟩
  have T5 := Lib.hid (T4.out.ext hB)
  clear hB x0 x1 y0 y1 y2 y3 y4 y5
  obtain ⟨x0, x1, y0, y1, y2, y3, y4, y5, _⟩ := T5.out.all
  go_wp2_with fail
  refine (CK.out _ T5.out.mod.low).mono ?_
  rintro e w6 ⟨rfl, hB⟩
  have T6 := Lib.hid (T5.out.ext hB)
  clear hB x0 x1 y0 y1 y2 y3 y4 y5
  obtain ⟨x0, x1, y0, y1, y2, y3, y4, y5, _⟩ := T6.out.all
  have H0 := Lib.hid T6.out.all
  go_wp2_with fail
  clear x0 x1 y0 y1 y2 y3 y4 y5
  go_region_held3 (fun w' => w'.cell? ⟨w.heap.size, 0, none⟩ = some (.slice pb lb cb) ∧ w'.cell? ⟨w.heap.size, 1, none⟩ = some (.slice pg lg cg) ∧ w'.cell? ⟨w.heap.size + 1, 0, none⟩ = some (.int .i64 c.kind) ∧ w'.cell? ⟨w.heap.size + 1, 1, none⟩ = some (.slice q1 m1 d1) ∧ w'.cell? ⟨w.heap.size + 1, 2, none⟩ = some (.slice q2 m2 d2) ∧ w'.cell? ⟨w.heap.size + 1, 3, none⟩ = some (.int .i64 c.rel) ∧ w'.cell? ⟨w.heap.size + 1, 4, none⟩ = some (.int .i64 c.const) ∧ w'.cell? ⟨w.heap.size + 1, 5, none⟩ = some (.slice q3 m3 d3) ∧ Two w (.slice pb lb cb) (.slice pg lg cg) #[.int .i64 c.kind, .slice q1 m1 d1, .slice q2 m2 d2, .int .i64 c.rel, .int .i64 c.const, .slice q3 m3 d3] w')
    (first | exact s8k (by assumption) (by assumption) | exact s8k H0.out (below_dr 1))
    (first
      | (go_at_call 11; refine (VX.out _ (s8l (by assumption))).mono ?_; rintro e u1 ⟨pn, ln, cn, rfl, ⟨hV, rfl⟩, hB1⟩; have HV1 := Lib.hid hV; clear hV)
      | (go_at_call 10; refine (RX.out _ (s8l (by assumption))).mono ?_; rintro e u2 ⟨rfl, hB2⟩))
  have T7 := Lib.hid (by assumption : u2.cell? ⟨w.heap.size, 0, none⟩ = some (.slice pb lb cb) ∧ u2.cell? ⟨w.heap.size, 1, none⟩ = some (.slice pg lg cg) ∧ u2.cell? ⟨w.heap.size + 1, 0, none⟩ = some (.int .i64 c.kind) ∧ u2.cell? ⟨w.heap.size + 1, 1, none⟩ = some (.slice q1 m1 d1) ∧ u2.cell? ⟨w.heap.size + 1, 2, none⟩ = some (.slice q2 m2 d2) ∧ u2.cell? ⟨w.heap.size + 1, 3, none⟩ = some (.int .i64 c.rel) ∧ u2.cell? ⟨w.heap.size + 1, 4, none⟩ = some (.int .i64 c.const) ∧ u2.cell? ⟨w.heap.size + 1, 5, none⟩ = some (.slice q3 m3 d3) ∧ Two w (.slice pb lb cb) (.slice pg lg cg) #[.int .i64 c.kind, .slice q1 m1 d1, .slice q2 m2 d2, .int .i64 c.rel, .int .i64 c.const, .slice q3 m3 d3] u2).2.2.2.2.2.2.2.2
  obtain ⟨x0, x1, y0, y1, y2, y3, y4, y5, _⟩ := T7.out.all
  have H1 := Lib.hid T7.out.all
  go_wp2_with fail
  clear x0 x1 y0 y1 y2 y3 y4 y5
  go_region_held3 (fun w' => w'.cell? ⟨w.heap.size, 0, none⟩ = some (.slice pb lb cb) ∧ w'.cell? ⟨w.heap.size, 1, none⟩ = some (.slice pg lg cg) ∧ w'.cell? ⟨w.heap.size + 1, 0, none⟩ = some (.int .i64 c.kind) ∧ w'.cell? ⟨w.heap.size + 1, 1, none⟩ = some (.slice q1 m1 d1) ∧ w'.cell? ⟨w.heap.size + 1, 2, none⟩ = some (.slice q2 m2 d2) ∧ w'.cell? ⟨w.heap.size + 1, 3, none⟩ = some (.int .i64 c.rel) ∧ w'.cell? ⟨w.heap.size + 1, 4, none⟩ = some (.int .i64 c.const) ∧ w'.cell? ⟨w.heap.size + 1, 5, none⟩ = some (.slice q3 m3 d3) ∧ Two w (.slice pb lb cb) (.slice pg lg cg) #[.int .i64 c.kind, .slice q1 m1 d1, .slice q2 m2 d2, .int .i64 c.rel, .int .i64 c.const, .slice q3 m3 d3] w')
    (first | exact s8k (by assumption) (by assumption) | exact s8k H1.out (below_dr 1))
    (first
      | (go_at_call 11; refine (VX.out _ (s8l (by assumption))).mono ?_; rintro e u3 ⟨pn3, ln3, cn3, rfl, ⟨hV, rfl⟩, hB3⟩; have HV3 := Lib.hid hV; clear hV)
      | (go_at_call 12; refine (KX.out _ _ _ _ (s8l (by assumption)) HV3.out).mono ?_; rintro e u4 ⟨rfl, hB4⟩))
  have T8 := Lib.hid (by assumption : u4.cell? ⟨w.heap.size, 0, none⟩ = some (.slice pb lb cb) ∧ u4.cell? ⟨w.heap.size, 1, none⟩ = some (.slice pg lg cg) ∧ u4.cell? ⟨w.heap.size + 1, 0, none⟩ = some (.int .i64 c.kind) ∧ u4.cell? ⟨w.heap.size + 1, 1, none⟩ = some (.slice q1 m1 d1) ∧ u4.cell? ⟨w.heap.size + 1, 2, none⟩ = some (.slice q2 m2 d2) ∧ u4.cell? ⟨w.heap.size + 1, 3, none⟩ = some (.int .i64 c.rel) ∧ u4.cell? ⟨w.heap.size + 1, 4, none⟩ = some (.int .i64 c.const) ∧ u4.cell? ⟨w.heap.size + 1, 5, none⟩ = some (.slice q3 m3 d3) ∧ Two w (.slice pb lb cb) (.slice pg lg cg) #[.int .i64 c.kind, .slice q1 m1 d1, .slice q2 m2 d2, .int .i64 c.rel, .int .i64 c.const, .slice q3 m3 d3] u4).2.2.2.2.2.2.2.2
  obtain ⟨x0, x1, y0, y1, y2, y3, y4, y5, _⟩ := T8.out.all
  go_wp2_with fail
  go_ret
  exact ⟨rfl, T8.out.mod.low⟩
theorem tells_any {w : World} {bv gv v1 v2 v3 : Value} {m : PModel} {c : PCon} (hm : rModel w [bv, gv] m) (hr : rCon w [.int .i64 c.kind, v1, v2, .int .i64 c.rel, .int .i64 c.const, v3] c) (ht : Tb w.heap.size w) : Calls Tryd.prog 3 #[.agg #[bv, gv], .agg #[.int .i64 c.kind, v1, v2, .int .i64 c.rel, .int .i64 c.const, v3]] w fun e w' => e = .returned (.bool true) ∧ Below w.heap.size w w' := by
  obtain ⟨z1, z2, e0, b1, b2⟩ := hm
  have hm : rModel w [bv, gv] m := ⟨z1, z2, e0, b1, b2⟩
  simp only [List.cons.injEq, and_true] at e0
  obtain ⟨rfl, rfl⟩ := e0
  obtain ⟨pb, lb, cb, rfl⟩ := slc_shape b1
  obtain ⟨pg, lg, cg, rfl⟩ := slc_shape b2
  obtain ⟨u1, u2, u3, e, _, s1, s2, s3⟩ := hr
  have hr : rCon w [.int .i64 c.kind, u1, u2, .int .i64 c.rel, .int .i64 c.const, u3] c := ⟨u1, u2, u3, rfl, by assumption, s1, s2, s3⟩
  simp only [List.cons.injEq, and_true, true_and] at e
  obtain ⟨rfl, rfl, rfl⟩ := e
  obtain ⟨q1, m1, d1, rfl, e1⟩ := slc_long s1
  obtain ⟨q2, m2, d2, rfl, e2⟩ := slc_long s2
  obtain ⟨q3, m3, d3, rfl, e3⟩ := slc_long s3
  by_cases hl : largeB m = true ∨ 1000 < m1 ∨ 1000 < m2 ∨ 1000 < m3
  · exact tells_more hm ht hl
  · have hg : largeB m = false := by
      cases h : largeB m
      · rfl
      · exact absurd (.inl h) hl
    have l1 : m1 ≤ 1000 := by
      refine Nat.le_of_not_lt fun h => hl (.inr (.inl h))
    have l2 : m2 ≤ 1000 := by
      refine Nat.le_of_not_lt fun h => hl (.inr (.inr (.inl h)))
    have l3 : m3 ≤ 1000 := by
      refine Nat.le_of_not_lt fun h => hl (.inr (.inr (.inr h)))
    by_cases hc : checkM m = 0
    · cases hq : rightC c ((varsL m.blocks).length : Int)
      · exact tells_no hm hr ht hg e1 e2 e3 l1 l2 l3 hc hq
      · exact tells_yes hm hr ht hg e1 e2 e3 l1 l2 l3 hc hq
    · exact tells_bad hm hr ht hg e1 e2 e3 l1 l2 l3 hc
end Go.Proofs.YtkgieaoahijheaaDoor.Wt
