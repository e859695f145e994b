/-
  What the looks of package model (big, form, name, dom, con) answer, at every model that can be read and whose lists are short.
  What wrong of package model answers, and its look con, at every model that can be read and whose lists are short.
-/
import Derived.Test.YtkgieaoahijheaaDoorZYAX
namespace Go.Proofs.YtkgieaoahijheaaDoor
open Go.RowKit
set_option maxRecDepth 100000

theorem Slc.open_ {α : Type} {R : Reader α} {n : Nat} {w : World} {v : Value} {L : List α} (h : Slc R n w v L) : ∃ (p : Option Addr) (b off c len : Nat), v = .slice p len c ∧ SliceOf R n w p b off len L := by
  obtain ⟨p, b, off, c, len, h1, _, h2⟩ := h
  exact ⟨p, b, off, c, len, h1, h2⟩

/-- a model's value, its two slices open -/
structure Mo (w : World) (pb : Option Addr) (bb ob cb lb : Nat) (pg : Option Addr) (lg cg : Nat) (m : PModel) : Prop where
  mod : Mod w pb bb ob cb lb (.slice pg lg cg) m
  goal : lg = m.goal.length
theorem mo_of {w : World} {bv gv : Value} {m : PModel} (h : rModel w [bv, gv] m) : ∃ (pb : Option Addr) (bb ob cb lb : Nat) (pg : Option Addr) (lg cg : Nat), bv = .slice pb lb cb ∧ gv = .slice pg lg cg ∧ Mo w pb bb ob cb lb pg lg cg m := by
  obtain ⟨pb, bb, ob, cb, lb, rfl, hm⟩ := mod_of h
  obtain ⟨pg, bg, og, cg, lg, rfl, hg⟩ := Slc.open_ hm.goal
  exact ⟨pb, bb, ob, cb, lb, pg, lg, cg, rfl, rfl, hm, hg.long⟩
theorem Mo.model {w : World} {pb : Option Addr} {bb ob cb lb : Nat} {pg : Option Addr} {lg cg : Nat} {m : PModel} (h : Mo w pb bb ob cb lb pg lg cg m) (hc : (pb = none → cb = 0) ∧ lb ≤ cb) : rModel w [.slice pb lb cb, .slice pg lg cg] m :=
  ⟨_, _, rfl, ⟨pb, bb, ob, cb, lb, rfl, hc, h.mod.blocks⟩, h.mod.goal⟩
theorem Mo.below {w w' : World} {pb : Option Addr} {bb ob cb lb : Nat} {pg : Option Addr} {lg cg : Nat} {m : PModel} (h : Mo w pb bb ob cb lb pg lg cg m) (hB : Below w.heap.size w w') : Mo w' pb bb ob cb lb pg lg cg m :=
  ⟨h.mod.below hB, h.goal⟩

def fW (b : PBlock) : Bool := decide (16 < b.cons.length)
set_option maxRecDepth 100000 in
set_option maxHeartbeats 2000000 in
theorem big_cells (pb : Option Addr) (bb ob cb lb : Nat) (pg : Option Addr) (lg cg : Nat) (m : PModel) (w : World) (h : Mo w pb bb ob cb lb pg lg cg m) (hf : Few m) :
    Calls Tryd.prog 47 #[.agg #[.slice pb lb cb, .slice pg lg cg]] w fun e w' => e = .returned (.bool (bigM m)) ∧ Below w.heap.size w w' := by
  obtain ⟨R, hR⟩ : ∃ R, R = bigM m := ⟨_, rfl⟩
  rw [← hR]
  have hR2 : R = (decide (8 < lb) || (decide (16 < lg) || (m.blocks.any fW || decide (16 < (varsL m.blocks).length)))) := by rw [hR, bigM, ← h.mod.blocks.long, ← h.goal]; rfl
  have hp := h.mod.blocks.at_
  have hlb : lb ≤ 1000 := by rw [h.mod.blocks.long]; exact hf.blocks
  have hlg : lg ≤ 1000 := by rw [h.goal]; exact hf.goal.1
  have HLB := Lib.hid h.mod.blocks.long
  have HM := Lib.hid h
  have HF := Lib.hid hf
  obtain ⟨W0, hW0⟩ : ∃ W0, W0 = w.alloc (.cells #[.slice pb lb cb, .slice pg lg cg] 71) := ⟨_, rfl⟩
  have hB0 : Below w.heap.size w W0 := by rw [hW0]; exact (Below.refl _ w).alloc (Nat.le_refl _) _
  have m0 : W0.cell? ⟨w.heap.size, 0, none⟩ = some (.slice pb lb cb) := by rw [hW0]; go_simp
  have m1 : W0.cell? ⟨w.heap.size, 1, none⟩ = some (.slice pg lg cg) := by rw [hW0]; go_simp
  have HW := Lib.hid hW0
  have HB0 := Lib.hid hB0
  clear hR h hf hW0 hB0
  by_cases g1 : 8 < lb
  · have d1 : decide ((8 : Int) < (lb : Int)) = true := decide_eq_true (by omega)
    rw [decide_eq_true g1, Bool.true_or] at hR2
    subst hR2
    clear g1
    go_enter Tryd.func47, Tryd.ntmps47
    go_upto_region 1 with fail
    rw [← HW.out]
    go_wp2_with fail
    go_ret
    exact ⟨rfl, HB0.out⟩
  · have d1 : decide ((8 : Int) < (lb : Int)) = false := decide_eq_false (by omega)
    rw [decide_eq_false g1, Bool.false_or] at hR2
    by_cases g2 : 16 < lg
    · have d2 : decide ((16 : Int) < (lg : Int)) = true := decide_eq_true (by omega)
      rw [decide_eq_true g2, Bool.true_or] at hR2
      subst hR2
      go_enter Tryd.func47, Tryd.ntmps47
      go_upto_region 1 with fail
      rw [← HW.out]
      go_wp2_with fail
      go_ret
      exact ⟨rfl, HB0.out⟩
    · have d2 : decide ((16 : Int) < (lg : Int)) = false := decide_eq_false (by omega)
      rw [decide_eq_false g2, Bool.false_or] at hR2
      have HS := Lib.hid (show R = ((m.blocks.drop 0).any fW || decide (16 < (varsL m.blocks).length)) ∧ 0 = (varsL (m.blocks.take 0)).length ∧ 0 ≤ 0 * 1000 by exact ⟨by rw [hR2]; simp, by simp [varsL], by omega⟩)
      clear hR2
      go_enter Tryd.func47, Tryd.ntmps47
      go_upto_region 1 with fail
      rw [← HW.out]
      go_wp2_with fail
      go_loopw [3, 22] (fun t i wr => ∃ k n : Nat, k ≤ lb ∧ i = .int .i64 k ∧ t = .int .i64 n ∧ (R = ((m.blocks.drop k).any fW || decide (16 < (varsL m.blocks).length)) ∧ n = (varsL (m.blocks.take k)).length ∧ n ≤ k * 1000) ∧ Below w.heap.size w wr) (fun _ i _ => lb - (intOf i).toNat)
      case atStart => exact ⟨0, 0, by omega, rfl, rfl, HS.out, HB0.out⟩
      case round =>
        obtain ⟨k, n, hk, rfl, rfl, ⟨hrel, hn, hn2⟩, hB⟩ := hrel
        by_cases hlt : k < lb
        · obtain rfl := hp (by omega)
          obtain ⟨x, v1, v2, ex, ed, a0, a1, a2, sv, sc⟩ := block_at (HM.out.mod.below hB).blocks hlt
          have hstep := hrel.trans (by rw [any_at fW ex])
          have htot := totals ex
          obtain ⟨p1, l1, c1, rfl, hl1⟩ := slc_long sv
          obtain ⟨p2, l2, c2, rfl, hl2⟩ := slc_long sc
          have hxv := HF.out.vars x (List.mem_of_getElem? ex)
          have hxc := (HF.out.wheres x (List.mem_of_getElem? ex)).1
          rw [← hl1] at hxv htot
          rw [← hl2] at hxc
          have hfw : fW x = decide (16 < l2) := by rw [fW, ← hl2]
          rw [hfw] at hstep
          rw [← hn] at htot
          generalize x.all = xa at a0
          have HB := Lib.hid (hB.alloc hB.size (.cells #[.bool xa, .slice p1 l1 c1, .slice p2 l2 c2] 44))
          have HT := Lib.hid htot
          clear hrel hB ex ed sv sc hl1 hl2 hfw htot hn
          by_cases g3 : 16 < l2
          · have d3 : decide ((16 : Int) < (l2 : Int)) = true := decide_eq_true (by omega)
            rw [decide_eq_true g3, Bool.true_or, Bool.true_or] at hstep
            subst hstep
            go_wp2_with fail
            go_ret
            exact ⟨rfl, HB.out⟩
          · have d3 : decide ((16 : Int) < (l2 : Int)) = false := decide_eq_false (by omega)
            rw [decide_eq_false g3, Bool.false_or] at hstep
            have NX := Lib.hid hstep
            clear hstep
            go_wp2_with fail
            go_roundw
            case rel => exact ⟨k + 1, n + l1, by omega, by go_num, by go_num, ⟨NX.out, HT.out.symm, by omega⟩, HB.out⟩
            case measure => simp [intOf]; omega
        · have key : R = decide (16 < n) := by
            rw [hrel, any_end fW (by rw [← HLB.out]; omega), Bool.false_or, hn, List.take_of_length_le (by rw [← HLB.out]; omega)]
          have HB := Lib.hid hB
          have hk2 : n ≤ 1000000 := by omega
          clear hrel hB hn
          by_cases g4 : 16 < n
          · have d4 : decide ((16 : Int) < (n : Int)) = true := decide_eq_true (by omega)
            rw [decide_eq_true g4] at key
            subst key
            go_wp2_with fail
            go_ret
            exact ⟨rfl, HB.out⟩
          · have d4 : decide ((16 : Int) < (n : Int)) = false := decide_eq_false (by omega)
            rw [decide_eq_false g4] at key
            subst key
            go_wp2_with fail
            go_ret
            exact ⟨rfl, HB.out⟩

def fV (b : PBlock) : Bool := decide (b.vars.length = 0)
set_option maxHeartbeats 400000 in
theorem form1_any (u : World) (x : PBlock) (v1 v2 : Value) (h : rBlock u [.bool x.all, v1, v2] x) : Calls Tryd.prog 63 (#[.agg #[.bool x.all, v1, v2]] ++ #[]) u fun e w' => e = .returned (.bool (fV x)) ∧ Below u.heap.size u w' := by
  obtain ⟨u1, u2, e, h1, h2⟩ := h
  simp only [List.cons.injEq, and_true, true_and] at e
  obtain ⟨rfl, rfl⟩ := e
  obtain ⟨p1, l1, c1, rfl, hl1⟩ := slc_long h1
  obtain ⟨p2, l2, c2, rfl⟩ := slc_shape h2
  have hv : fV x = decide (l1 = 0) := by rw [fV, ← hl1]
  rw [hv]
  generalize x.all = xa
  have HB := Lib.hid ((Below.refl _ u).alloc (Nat.le_refl _) (.cells #[.bool xa, .slice p1 l1 c1, .slice p2 l2 c2] 44))
  clear hv h1 h2 hl1
  simp only [Array.append_empty]
  by_cases g : l1 = 0
  · have e : ((l1 : Int) == 0) = true := beq_iff_eq.2 (by omega)
    rw [decide_eq_true g]
    clear g
    go_enter Tryd.func63, Tryd.ntmps63
    go_wp2_with fail
    go_ret
    exact ⟨rfl, HB.out⟩
  · have e : ((l1 : Int) == 0) = false := beq_eq_false_iff_ne.2 (by omega)
    rw [decide_eq_false g]
    go_enter Tryd.func63, Tryd.ntmps63
    go_wp2_with fail
    go_ret
    exact ⟨rfl, HB.out⟩
theorem enters61 : Enters Tryd.prog 63 := enters_of Tryd.func63 (by kernel_rfl) rfl
theorem enters63 : Enters Tryd.prog 65 := enters_of Tryd.func65 (by kernel_rfl) rfl
theorem enters64 : Enters Tryd.prog 67 := enters_of Tryd.func67 (by kernel_rfl) rfl
theorem enters71 : Enters Tryd.prog 80 := enters_of Tryd.func80 (by kernel_rfl) rfl

set_option maxRecDepth 100000 in
set_option maxHeartbeats 1000000 in
theorem form_cells (pb : Option Addr) (bb ob cb lb : Nat) (pg : Option Addr) (lg cg : Nat) (m : PModel) (w : World) (h : Mo w pb bb ob cb lb pg lg cg m) (hc : (pb = none → cb = 0) ∧ lb ≤ cb) (hf : Few m) :
    Calls Tryd.prog 48 #[.agg #[.slice pb lb cb, .slice pg lg cg]] w fun e w' => e = .returned (.bool (formM m)) ∧ Below w.heap.size w w' := by
  obtain ⟨R, hR⟩ : ∃ R, R = formM m := ⟨_, rfl⟩
  rw [← hR]
  have hR2 : R = (decide (lb = 0) || m.blocks.any fV) := by rw [hR, formM, ← h.mod.blocks.long]; rfl
  have hlb : lb ≤ 1000 := by rw [h.mod.blocks.long]; exact hf.blocks
  obtain ⟨W0, hW0⟩ : ∃ W0, W0 = w.alloc (.cells #[.slice pb lb cb, .slice pg lg cg] 71) := ⟨_, rfl⟩
  have hB0 : Below w.heap.size w W0 := by rw [hW0]; exact (Below.refl _ w).alloc (Nat.le_refl _) _
  have m0 : W0.cell? ⟨w.heap.size, 0, none⟩ = some (.slice pb lb cb) := by rw [hW0]; go_simp
  have C := Lib.hid (hasB_any 63 enters61 #[] fV (show Slc rBlock 3 W0 (.slice pb lb cb) m.blocks from ⟨pb, bb, ob, cb, lb, rfl, hc, (h.mod.below hB0).blocks⟩) (by have := hf.blocks; omega) fun u x v1 v2 _ _ hx => form1_any u x v1 v2 hx)
  have HW := Lib.hid hW0
  have HB0 := Lib.hid hB0
  clear hR h hf hW0 hB0 hc
  by_cases g1 : lb = 0
  · have d1 : ((lb : Int) == 0) = true := beq_iff_eq.2 (by omega)
    rw [decide_eq_true g1, Bool.true_or] at hR2
    subst hR2
    clear g1
    go_enter Tryd.func48, Tryd.ntmps48
    go_upto_region 1 with fail
    rw [← HW.out]
    go_wp2_with fail
    go_ret
    exact ⟨rfl, HB0.out⟩
  · have d1 : ((lb : Int) == 0) = false := beq_eq_false_iff_ne.2 (by omega)
    rw [decide_eq_false g1, Bool.false_or] at hR2
    rw [← hR2] at C
    clear hR2
    go_enter Tryd.func48, Tryd.ntmps48
    go_upto_region 1 with fail
    rw [← HW.out]
    go_wp2_with fail
    refine C.out.mono ?_
    rintro e w2 ⟨rfl, hB⟩
    have HB := Lib.hid (HB0.out.trans (hB.mono HB0.out.size))
    clear hB
    go_wp2_with fail
    go_ret
    exact ⟨rfl, HB.out⟩

theorem rDecl_open {w : World} {s : ByteArray} {v : Value} {d : PDecl} (h : rDecl w [.string s, v] d) : txt s = d.name ∧ Slc rSpan 2 w v d.dom := by
  obtain ⟨s', v', e, h1, h2⟩ := h
  simp only [List.cons.injEq, and_true, Value.string.injEq] at e
  obtain ⟨rfl, rfl⟩ := e
  exact ⟨h1, h2⟩
def fN (d : PDecl) : Bool := !nameL d.name
set_option maxHeartbeats 400000 in
theorem name1_any (u : World) (x : PDecl) (s : ByteArray) (v1 : Value) (h : rDecl u [.string s, v1] x) (hl : x.name.length ≤ 1000) : Calls Tryd.prog 65 (#[.agg #[.string s, v1]] ++ #[]) u fun e w' => e = .returned (.bool (fN x)) ∧ Below u.heap.size u w' := by
  obtain ⟨h1, h2⟩ := rDecl_open h
  obtain ⟨p1, l1, c1, rfl⟩ := slc_shape h2
  obtain ⟨B, hB⟩ : ∃ B, B = nameL x.name := ⟨_, rfl⟩
  have hv : fN x = !B := by rw [fN, hB]
  rw [hv]
  have HB := Lib.hid ((Below.refl _ u).alloc (Nat.le_refl _) (.cells #[.string s, .slice p1 l1 c1] 47))
  have C := Lib.hid (fun W => pname_any s W (by rw [txt_size, h1]; omega))
  rw [h1, ← hB] at C
  clear hv h h1 h2 hB hl
  simp only [Array.append_empty]
  cases B
  · skip
    go_enter Tryd.func65, Tryd.ntmps65
    go_wp2_with fail
    refine (C.out _).mono ?_
    rintro e w2 ⟨rfl, rfl⟩
    go_wp2_with fail
    go_ret
    exact ⟨rfl, HB.out⟩
  · skip
    go_enter Tryd.func65, Tryd.ntmps65
    go_wp2_with fail
    refine (C.out _).mono ?_
    rintro e w2 ⟨rfl, rfl⟩
    go_wp2_with fail
    go_ret
    exact ⟨rfl, HB.out⟩
set_option maxHeartbeats 400000 in
theorem dom1_any (u : World) (x : PDecl) (s : ByteArray) (v1 : Value) (h : rDecl u [.string s, v1] x) (hl : x.dom.length ≤ 1000) : Calls Tryd.prog 67 (#[.agg #[.string s, v1]] ++ #[]) u fun e w' => e = .returned (.bool (domD x)) ∧ Below u.heap.size u w' := by
  obtain ⟨h1, h2⟩ := rDecl_open h
  have HBa := Lib.hid (fun o => (Below.refl _ u).alloc (Nat.le_refl _) o)
  have C := Lib.hid (fun o => psize_any (h2.below rSpan_stays (HBa.out o)) (by omega))
  obtain ⟨p1, l1, c1, rfl⟩ := slc_shape h2
  rw [dom_is]
  obtain ⟨z, hz⟩ : ∃ z, z = szL x.dom := ⟨_, rfl⟩
  obtain ⟨z0, z1⟩ := sz_low x.dom
  rw [← hz] at C z0 z1 ⊢
  clear h h1 h2 hz
  simp only [Array.append_empty]
  by_cases g1 : z = 0
  · have e1 : (z == 0) = true := beq_iff_eq.2 g1
    have u1 : z ≤ 0 := by omega
    rw [decide_eq_true g1]
    clear g1
    go_enter Tryd.func67, Tryd.ntmps67
    go_wp2_with fail
    refine (C.out _).mono ?_
    rintro e w2 ⟨rfl, hB2⟩
    have HB2 := Lib.hid ((HBa.out _).trans (hB2.mono (HBa.out _).size))
    clear hB2
    go_wp2_with fail
    all_goals try (exfalso; omega)
    go_ret
    exact ⟨rfl, HB2.out⟩
  · have e1 : (z == 0) = false := beq_eq_false_iff_ne.2 g1
    rw [decide_eq_false g1, Bool.false_or]
    by_cases g2 : 64 < z
    · have e2 : decide ((64 : Int) < z) = true := decide_eq_true g2
      rw [e2]
      go_enter Tryd.func67, Tryd.ntmps67
      go_wp2_with fail
      refine (C.out _).mono ?_
      rintro e w2 ⟨rfl, hB2⟩
      have HB2 := Lib.hid ((HBa.out _).trans (hB2.mono (HBa.out _).size))
      clear hB2
      go_wp2_with fail
      all_goals try (exfalso; omega)
      go_ret
      exact ⟨rfl, HB2.out⟩
    · have e2 : decide ((64 : Int) < z) = false := decide_eq_false g2
      rw [e2]
      go_enter Tryd.func67, Tryd.ntmps67
      go_wp2_with fail
      refine (C.out _).mono ?_
      rintro e w2 ⟨rfl, hB2⟩
      have HB2 := Lib.hid ((HBa.out _).trans (hB2.mono (HBa.out _).size))
      clear hB2
      go_wp2_with fail
      all_goals try (exfalso; omega)
      go_ret
      exact ⟨rfl, HB2.out⟩

set_option maxRecDepth 100000 in
set_option maxHeartbeats 1000000 in
theorem name_cells (pb : Option Addr) (bb ob cb lb : Nat) (pg : Option Addr) (lg cg : Nat) (m : PModel) (w : World) (h : Mo w pb bb ob cb lb pg lg cg m) (hc : (pb = none → cb = 0) ∧ lb ≤ cb) (hf : Few m) :
    Calls Tryd.prog 49 #[.agg #[.slice pb lb cb, .slice pg lg cg]] w fun e w' => e = .returned (.bool (nameM m)) ∧ Below w.heap.size w w' := by
  obtain ⟨R, hR⟩ : ∃ R, R = nameM m := ⟨_, rfl⟩
  rw [← hR]
  have hR2 : (varsL m.blocks).any fN = R := by rw [hR]; rfl
  obtain ⟨W0, hW0⟩ : ∃ W0, W0 = w.alloc (.cells #[.slice pb lb cb, .slice pg lg cg] 71) := ⟨_, rfl⟩
  have hB0 : Below w.heap.size w W0 := by rw [hW0]; exact (Below.refl _ w).alloc (Nat.le_refl _) _
  have m0 : W0.cell? ⟨w.heap.size, 0, none⟩ = some (.slice pb lb cb) := by rw [hW0]; go_simp
  have m1 : W0.cell? ⟨w.heap.size, 1, none⟩ = some (.slice pg lg cg) := by rw [hW0]; go_simp
  have D := Lib.hid (pdecls_any ((h.below hB0).model hc) hf)
  have C := Lib.hid (fun (v : Value) (u : World) (hs : Slc rDecl 2 u v (varsL m.blocks)) => hasD_any 65 enters63 #[] fN hs (by have := hf.few; omega) fun u x s v1 _ hm hx => name1_any u x s v1 hx (hf.decl x hm).1)
  rw [hR2] at C
  have HW := Lib.hid hW0
  have HB0 := Lib.hid hB0
  clear hR h hf hW0 hB0 hc hR2
  go_enter Tryd.func49, Tryd.ntmps49
  go_upto_region 1 with fail
  rw [← HW.out]
  go_wp2_with fail
  refine D.out.mono ?_
  rintro e w1 ⟨v, rfl, hown, hB1⟩
  have CC := Lib.hid (C.out v w1 (hown.slc rDecl_stays hB1))
  have HB1 := Lib.hid (HB0.out.trans (hB1.mono HB0.out.size))
  clear hown hB1
  go_wp2_with fail
  refine CC.out.mono ?_
  rintro e w2 ⟨rfl, hB2⟩
  have HB2 := Lib.hid (HB1.out.trans (hB2.mono HB1.out.size))
  clear hB2
  go_wp2_with fail
  go_ret
  exact ⟨rfl, HB2.out⟩

set_option maxRecDepth 100000 in
set_option maxHeartbeats 1000000 in
theorem dom_cells (pb : Option Addr) (bb ob cb lb : Nat) (pg : Option Addr) (lg cg : Nat) (m : PModel) (w : World) (h : Mo w pb bb ob cb lb pg lg cg m) (hc : (pb = none → cb = 0) ∧ lb ≤ cb) (hf : Few m) :
    Calls Tryd.prog 51 #[.agg #[.slice pb lb cb, .slice pg lg cg]] w fun e w' => e = .returned (.bool (domM m)) ∧ Below w.heap.size w w' := by
  obtain ⟨R, hR⟩ : ∃ R, R = domM m := ⟨_, rfl⟩
  rw [← hR]
  have hR2 : (varsL m.blocks).any domD = R := by rw [hR]; rfl
  obtain ⟨W0, hW0⟩ : ∃ W0, W0 = w.alloc (.cells #[.slice pb lb cb, .slice pg lg cg] 71) := ⟨_, rfl⟩
  have hB0 : Below w.heap.size w W0 := by rw [hW0]; exact (Below.refl _ w).alloc (Nat.le_refl _) _
  have m0 : W0.cell? ⟨w.heap.size, 0, none⟩ = some (.slice pb lb cb) := by rw [hW0]; go_simp
  have m1 : W0.cell? ⟨w.heap.size, 1, none⟩ = some (.slice pg lg cg) := by rw [hW0]; go_simp
  have D := Lib.hid (pdecls_any ((h.below hB0).model hc) hf)
  have C := Lib.hid (fun (v : Value) (u : World) (hs : Slc rDecl 2 u v (varsL m.blocks)) => hasD_any 67 enters64 #[] domD hs (by have := hf.few; omega) fun u x s v1 _ hm hx => dom1_any u x s v1 hx (hf.decl x hm).2)
  rw [hR2] at C
  have HW := Lib.hid hW0
  have HB0 := Lib.hid hB0
  clear hR h hf hW0 hB0 hc hR2
  go_enter Tryd.func51, Tryd.ntmps51
  go_upto_region 1 with fail
  rw [← HW.out]
  go_wp2_with fail
  refine D.out.mono ?_
  rintro e w1 ⟨v, rfl, hown, hB1⟩
  have CC := Lib.hid (C.out v w1 (hown.slc rDecl_stays hB1))
  have HB1 := Lib.hid (HB0.out.trans (hB1.mono HB0.out.size))
  clear hown hB1
  go_wp2_with fail
  refine CC.out.mono ?_
  rintro e w2 ⟨rfl, hB2⟩
  have HB2 := Lib.hid (HB1.out.trans (hB2.mono HB1.out.size))
  clear hB2
  go_wp2_with fail
  go_ret
  exact ⟨rfl, HB2.out⟩
end Go.Proofs.YtkgieaoahijheaaDoor
namespace Go.Proofs.YtkgieaoahijheaaDoor
open Go.RowKit
set_option maxRecDepth 100000

theorem short_150 {c : PCon} (h : Short 1000 c) : Short 1000 c := h
set_option maxRecDepth 100000 in
set_option maxHeartbeats 1000000 in
theorem wrong1_any (u : World) (x : PCon) (v1 v2 v3 : Value) (b : Nat) (n : Int) (h : rCon u [.int .i64 x.kind, v1, v2, .int .i64 x.rel, .int .i64 x.const, v3] x) (hs : Short 1000 x) (hc : u.cell? ⟨b, 0, none⟩ = some (.int .i64 n)) :
    Calls Tryd.prog 80 (#[.agg #[.int .i64 x.kind, v1, v2, .int .i64 x.rel, .int .i64 x.const, v3]] ++ #[.pointer (some ⟨b, 0, none⟩)]) u fun e w' => e = .returned (.bool (!rightC x n)) ∧ Below u.heap.size u w' := by
  obtain ⟨⟨p1, l1, c1, rfl⟩, ⟨p2, l2, c2, rfl⟩, ⟨p3, l3, c3, rfl⟩⟩ := rCon_shape h
  obtain ⟨W0, hW0⟩ : ∃ W0, W0 = u.alloc (.cells #[.int .i64 x.kind, .slice p1 l1 c1, .slice p2 l2 c2, .int .i64 x.rel, .int .i64 x.const, .slice p3 l3 c3] 28) := ⟨_, rfl⟩
  have hB0 : Below u.heap.size u W0 := by rw [hW0]; exact (Below.refl _ u).alloc (Nat.le_refl _) _
  have h6 : At6 W0 u.heap.size (.int .i64 x.kind) (.slice p1 l1 c1) (.slice p2 l2 c2) (.int .i64 x.rel) (.int .i64 x.const) (.slice p3 l3 c3) := by rw [hW0]; exact six_new _ _ _ _ _ _ _ _
  obtain ⟨m0, m1, m2, m3, m4, m5⟩ := h6
  have hc := cell_stays hB0 hc
  have C := Lib.hid (pright_any n (rCon_stays _ _ _ _ hB0 h) (short_150 hs))
  have HW := Lib.hid hW0
  have HB0 := Lib.hid hB0
  obtain ⟨B, hB⟩ : ∃ B, B = rightC x n := ⟨_, rfl⟩
  rw [← hB] at C ⊢
  generalize x.kind = xk at m0 C HW ⊢
  generalize x.rel = xr at m3 C HW ⊢
  generalize x.const = xt at m4 C HW ⊢
  clear h hs hW0 hB0 hB
  have e : (#[.agg #[.int .i64 xk, .slice p1 l1 c1, .slice p2 l2 c2, .int .i64 xr, .int .i64 xt, .slice p3 l3 c3]] ++ #[.pointer (some ⟨b, 0, none⟩)] : Array Value) = #[.agg #[.int .i64 xk, .slice p1 l1 c1, .slice p2 l2 c2, .int .i64 xr, .int .i64 xt, .slice p3 l3 c3], .pointer (some ⟨b, 0, none⟩)] := by simp
  rw [e]
  clear e
  go_enter Tryd.func80, Tryd.ntmps80
  go_upto_region 1 with fail
  rw [← HW.out]
  go_wp2_with fail
  refine C.out.mono ?_
  rintro e w2 ⟨rfl, hB2⟩
  have HB2 := Lib.hid (HB0.out.trans (hB2.mono HB0.out.size))
  clear hB2
  cases B
  · skip
    go_wp2_with fail
    go_ret
    exact ⟨rfl, HB2.out⟩
  · skip
    go_wp2_with fail
    go_ret
    exact ⟨rfl, HB2.out⟩

set_option maxRecDepth 100000 in
set_option maxHeartbeats 1000000 in
theorem wrong_any {w : World} {v : Value} {L : List PCon} (n : Nat) (h : Slc rCon 6 w v L) (hl : L.length ≤ 1000) (hs : ∀ c ∈ L, Short 1000 c) :
    Calls Tryd.prog 69 #[v, .int .i64 (n : Int)] w fun e w' => e = .returned (.bool (wrongL L n)) ∧ Below w.heap.size w w' := by
  obtain ⟨R, hR⟩ : ∃ R, R = wrongL L n := ⟨_, rfl⟩
  rw [← hR]
  have hR2 : L.any (fun c => !rightC c (n : Int)) = R := by rw [hR]; rfl
  obtain ⟨W0, hW0⟩ : ∃ W0, W0 = w.alloc (.cells #[.int .i64 (n : Int)] 3) := ⟨_, rfl⟩
  have hB0 : Below w.heap.size w W0 := by rw [hW0]; exact (Below.refl _ w).alloc (Nat.le_refl _) _
  have m0 : W0.cell? ⟨w.heap.size, 0, none⟩ = some (.int .i64 (n : Int)) := by rw [hW0]; go_simp
  have C := Lib.hid (hasC_any 80 enters71 #[.pointer (some ⟨w.heap.size, 0, none⟩)] (fun c => !rightC c (n : Int)) (h.below rCon_stays hB0) (by omega) fun u x v1 v2 v3 hb hm hx => wrong1_any u x v1 v2 v3 w.heap.size n hx (hs x hm) (cell_stays hb m0))
  rw [hR2] at C
  obtain ⟨p, l, c, rfl⟩ := slc_shape h
  have HW := Lib.hid hW0
  have HB0 := Lib.hid hB0
  clear hR h hs hW0 hB0 hR2 m0
  go_enter Tryd.func69, Tryd.ntmps69
  go_upto_region 1 with fail
  rw [← HW.out]
  go_wp2_with fail
  refine C.out.mono ?_
  rintro e w2 ⟨rfl, hB2⟩
  have HB2 := Lib.hid (HB0.out.trans (hB2.mono HB0.out.size))
  clear hB2
  go_wp2_with fail
  go_ret
  exact ⟨rfl, HB2.out⟩

set_option maxRecDepth 100000 in
set_option maxHeartbeats 2000000 in
theorem con_cells (pb : Option Addr) (bb ob cb lb : Nat) (pg : Option Addr) (lg cg : Nat) (m : PModel) (w : World) (h : Mo w pb bb ob cb lb pg lg cg m) (hf : Few m) :
    Calls Tryd.prog 52 #[.agg #[.slice pb lb cb, .slice pg lg cg]] w fun e w' => e = .returned (.bool (conM m)) ∧ Below w.heap.size w w' := by
  obtain ⟨R, hR⟩ : ∃ R, R = conM m := ⟨_, rfl⟩
  rw [← hR]
  obtain ⟨T, hT⟩ : ∃ T, T = (varsL m.blocks).length := ⟨_, rfl⟩
  have hR2 : R = (conF 0 m.blocks || wrongL m.goal T) := by rw [hR, conM, hT]
  have hp := h.mod.blocks.at_
  have hlb : lb ≤ 1000 := by rw [h.mod.blocks.long]; exact hf.blocks
  have HLB := Lib.hid h.mod.blocks.long
  have HF := Lib.hid hf
  obtain ⟨W0, hW0⟩ : ∃ W0, W0 = w.alloc (.cells #[.slice pb lb cb, .slice pg lg cg] 71) := ⟨_, rfl⟩
  have hB0 : Below w.heap.size w W0 := by rw [hW0]; exact (Below.refl _ w).alloc (Nat.le_refl _) _
  have m0 : W0.cell? ⟨w.heap.size, 0, none⟩ = some (.slice pb lb cb) := by rw [hW0]; go_simp
  have m1 : W0.cell? ⟨w.heap.size, 1, none⟩ = some (.slice pg lg cg) := by rw [hW0]; go_simp
  have HM := Lib.hid (h.below hB0)
  have HW := Lib.hid hW0
  have HB0 := Lib.hid hB0
  have HM1 := Lib.hid m1
  have HT := Lib.hid hT
  have HS := Lib.hid (show R = (conF 0 (m.blocks.drop 0) || wrongL m.goal T) ∧ 0 = (varsL (m.blocks.take 0)).length ∧ 0 ≤ 0 * 1000 by exact ⟨by rw [hR2]; simp, by simp [varsL], by omega⟩)
  clear hR h hf hW0 hB0 hR2 hT
  go_enter Tryd.func52, Tryd.ntmps52
  go_upto_region 1 with fail
  rw [← HW.out]
  go_wp2_with fail
  go_loopw [3, 10] (fun t i wr => ∃ k n : Nat, k ≤ lb ∧ i = .int .i64 k ∧ t = .int .i64 n ∧ (R = (conF n (m.blocks.drop k) || wrongL m.goal T) ∧ n = (varsL (m.blocks.take k)).length ∧ n ≤ k * 1000) ∧ Below W0.heap.size W0 wr) (fun _ i _ => lb - (intOf i).toNat)
  case atStart => exact ⟨0, 0, by omega, rfl, rfl, HS.out, Below.refl _ _⟩
  case round =>
    obtain ⟨k, n, hk, rfl, rfl, ⟨hrel, hn, hn2⟩, hB⟩ := hrel
    by_cases hlt : k < lb
    · obtain rfl := hp (by omega)
      obtain ⟨x, v1, v2, ex, ed, a0, a1, a2, sv, sc⟩ := block_at (HM.out.mod.below hB).blocks hlt
      have hstep := hrel.trans (by rw [con_at_k ex])
      have htot := totals ex
      obtain ⟨p1, l1, c1, rfl, hl1⟩ := slc_long sv
      have hxv := HF.out.vars x (List.mem_of_getElem? ex)
      have hxc := HF.out.wheres x (List.mem_of_getElem? ex)
      rw [← hl1] at hxv htot hstep
      rw [← hn] at htot
      generalize x.all = xa at a0
      obtain ⟨p2, l2, c2, hv2⟩ := slc_shape sc
      have CW := Lib.hid (fun o => wrong_any (n + l1) (sc.below rCon_stays (w' := wr.alloc o) ((Below.refl _ wr).alloc (Nat.le_refl _) _)) hxc.1 hxc.2)
      subst hv2
      have HB := Lib.hid (fun o => hB.alloc hB.size o)
      have HT := Lib.hid htot
      obtain ⟨B, eB⟩ : ∃ B, B = wrongL x.cons (n + l1) := ⟨_, rfl⟩
      rw [← eB] at CW hstep
      clear hrel hB ex ed sv sc hl1 htot hn eB hxc
      have en : (n : Int) + (l1 : Int) = ((n + l1 : Nat) : Int) := by omega
      cases B
      · rw [Bool.false_or] at hstep
        have NX := Lib.hid hstep
        clear hstep
        have CW2 : Hid (∀ o, Calls Tryd.prog 69 #[.slice p2 l2 c2, .int .i64 ((n : Int) + (l1 : Int))] (wr.alloc o) fun e w' => e = .returned (.bool false) ∧ Below (wr.alloc o).heap.size (wr.alloc o) w') := Lib.hid (by rw [en]; exact CW.out)
        clear en CW
        go_wp2_with fail
        refine (CW2.out _).mono ?_
        rintro e w2 ⟨rfl, hB2⟩
        have HB2 := Lib.hid ((HB.out _).trans (hB2.mono (HB.out _).size))
        clear hB2
        go_wp2_with fail
        go_roundw
        case rel => exact ⟨k + 1, n + l1, by omega, by go_num, by go_num, ⟨NX.out, HT.out.symm, by omega⟩, HB2.out⟩
        case measure => simp [intOf]; omega
      · rw [Bool.true_or, Bool.true_or] at hstep
        subst hstep
        have CW2 : Hid (∀ o, Calls Tryd.prog 69 #[.slice p2 l2 c2, .int .i64 ((n : Int) + (l1 : Int))] (wr.alloc o) fun e w' => e = .returned (.bool true) ∧ Below (wr.alloc o).heap.size (wr.alloc o) w') := Lib.hid (by rw [en]; exact CW.out)
        clear en CW
        go_wp2_with fail
        refine (CW2.out _).mono ?_
        rintro e w2 ⟨rfl, hB2⟩
        have HB2 := Lib.hid ((HB.out _).trans (hB2.mono (HB.out _).size))
        clear hB2
        go_wp2_with fail
        go_ret
        exact ⟨rfl, HB0.out.trans (HB2.out.mono HB0.out.size)⟩
    · have key : R = wrongL m.goal n := by
        have e : n = T := by rw [hn, HT.out, List.take_of_length_le (by rw [← HLB.out]; omega)]
        rw [hrel, List.drop_of_length_le (by rw [← HLB.out]; omega), conF, Bool.false_or, ← e]
      have m1 := cell_stays hB HM1.out
      have CW := Lib.hid (wrong_any n (HM.out.mod.below hB).goal HF.out.goal.1 HF.out.goal.2)
      rw [← key] at CW
      have HB := Lib.hid hB
      clear hrel hB hn key
      go_wp2_with fail
      refine CW.out.mono ?_
      rintro e w2 ⟨rfl, hB2⟩
      have HB2 := Lib.hid (HB.out.trans (hB2.mono HB.out.size))
      clear hB2
      go_wp2_with fail
      go_ret
      exact ⟨rfl, HB0.out.trans (HB2.out.mono HB0.out.size)⟩
end Go.Proofs.YtkgieaoahijheaaDoor
