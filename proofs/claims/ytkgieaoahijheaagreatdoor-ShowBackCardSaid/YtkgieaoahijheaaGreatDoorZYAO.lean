/-
  What the looks of package model (big, form, name, dom, con) answer, at every model that can be read and whose lists are short.
  What wrong of package model answers, and its look con, at every model that can be read and whose lists are short.
  Sets of texts that a call keeps in a map; what twice, a look of package model, answers, at every model that can be read and whose lists are short.
-/
import Derived.Test.YtkgieaoahijheaaGreatDoorZYAN
import Derived.Maps.RangeWalk
import Derived.StringKeys
import Derived.Carry
namespace Go.Proofs.YtkgieaoahijheaaGreatDoor
open Go.RowKit
set_option maxRecDepth 100000

theorem Slc.open_ {α : Type} {R : Reader α} {n : Nat} {w : World} {v : Value} {L : List α} (h : Slc R n w v L) : ∃ (p : Option Addr) (b off c len : Nat), v = .slice p len c ∧ SliceOf R n w p b off len L := by
  obtain ⟨p, b, off, c, len, h1, _, h2⟩ := h
  exact ⟨p, b, off, c, len, h1, h2⟩

/-- a model's value, its two slices open -/
structure Mo (w : World) (pb : Option Addr) (bb ob cb lb : Nat) (pg : Option Addr) (lg cg : Nat) (m : PModel) : Prop where
  mod : Mod w pb bb ob cb lb (.slice pg lg cg) m
  goal : lg = m.goal.length
theorem mo_of {w : World} {bv gv : Value} {m : PModel} (h : rModel w [bv, gv] m) : ∃ (pb : Option Addr) (bb ob cb lb : Nat) (pg : Option Addr) (lg cg : Nat), bv = .slice pb lb cb ∧ gv = .slice pg lg cg ∧ Mo w pb bb ob cb lb pg lg cg m := by
  obtain ⟨pb, bb, ob, cb, lb, rfl, hm⟩ := mod_of h
  obtain ⟨pg, bg, og, cg, lg, rfl, hg⟩ := Slc.open_ hm.goal
  exact ⟨pb, bb, ob, cb, lb, pg, lg, cg, rfl, rfl, hm, hg.long⟩
theorem Mo.model {w : World} {pb : Option Addr} {bb ob cb lb : Nat} {pg : Option Addr} {lg cg : Nat} {m : PModel} (h : Mo w pb bb ob cb lb pg lg cg m) (hc : (pb = none → cb = 0) ∧ lb ≤ cb) : rModel w [.slice pb lb cb, .slice pg lg cg] m :=
  ⟨_, _, rfl, ⟨pb, bb, ob, cb, lb, rfl, hc, h.mod.blocks⟩, h.mod.goal⟩
theorem Mo.below {w w' : World} {pb : Option Addr} {bb ob cb lb : Nat} {pg : Option Addr} {lg cg : Nat} {m : PModel} (h : Mo w pb bb ob cb lb pg lg cg m) (hB : Below w.heap.size w w') : Mo w' pb bb ob cb lb pg lg cg m :=
  ⟨h.mod.below hB, h.goal⟩

def fW (b : PBlock) : Bool := decide (16 < b.cons.length)
set_option maxRecDepth 100000 in
set_option maxHeartbeats 2000000 in
theorem big_cells (pb : Option Addr) (bb ob cb lb : Nat) (pg : Option Addr) (lg cg : Nat) (m : PModel) (w : World) (h : Mo w pb bb ob cb lb pg lg cg m) (hf : Few m) :
    Calls Tryz.prog 45 #[.agg #[.slice pb lb cb, .slice pg lg cg]] w fun e w' => e = .returned (.bool (bigM m)) ∧ Below w.heap.size w w' := by
  obtain ⟨R, hR⟩ : ∃ R, R = bigM m := ⟨_, rfl⟩
  rw [← hR]
  have hR2 : R = (decide (8 < lb) || (decide (16 < lg) || (m.blocks.any fW || decide (16 < (varsL m.blocks).length)))) := by rw [hR, bigM, ← h.mod.blocks.long, ← h.goal]; rfl
  have hp := h.mod.blocks.at_
  have hlb : lb ≤ 1000 := by rw [h.mod.blocks.long]; exact hf.blocks
  have hlg : lg ≤ 1000 := by rw [h.goal]; exact hf.goal.1
  have HLB := Lib.hid h.mod.blocks.long
  have HM := Lib.hid h
  have HF := Lib.hid hf
  obtain ⟨W0, hW0⟩ : ∃ W0, W0 = w.alloc (.cells #[.slice pb lb cb, .slice pg lg cg] 75) := ⟨_, rfl⟩
  have hB0 : Below w.heap.size w W0 := by rw [hW0]; exact (Below.refl _ w).alloc (Nat.le_refl _) _
  have m0 : W0.cell? ⟨w.heap.size, 0, none⟩ = some (.slice pb lb cb) := by rw [hW0]; go_simp
  have m1 : W0.cell? ⟨w.heap.size, 1, none⟩ = some (.slice pg lg cg) := by rw [hW0]; go_simp
  have HW := Lib.hid hW0
  have HB0 := Lib.hid hB0
  clear hR h hf hW0 hB0
  by_cases g1 : 8 < lb
  · have d1 : decide ((8 : Int) < (lb : Int)) = true := decide_eq_true (by omega)
    rw [decide_eq_true g1, Bool.true_or] at hR2
    subst hR2
    clear g1
    go_enter Tryz.func45, Tryz.ntmps45
    go_upto_region 1 with fail
    rw [← HW.out]
    go_wp2_with fail
    go_ret
    exact ⟨rfl, HB0.out⟩
  · have d1 : decide ((8 : Int) < (lb : Int)) = false := decide_eq_false (by omega)
    rw [decide_eq_false g1, Bool.false_or] at hR2
    by_cases g2 : 16 < lg
    · have d2 : decide ((16 : Int) < (lg : Int)) = true := decide_eq_true (by omega)
      rw [decide_eq_true g2, Bool.true_or] at hR2
      subst hR2
      go_enter Tryz.func45, Tryz.ntmps45
      go_upto_region 1 with fail
      rw [← HW.out]
      go_wp2_with fail
      go_ret
      exact ⟨rfl, HB0.out⟩
    · have d2 : decide ((16 : Int) < (lg : Int)) = false := decide_eq_false (by omega)
      rw [decide_eq_false g2, Bool.false_or] at hR2
      have HS := Lib.hid (show R = ((m.blocks.drop 0).any fW || decide (16 < (varsL m.blocks).length)) ∧ 0 = (varsL (m.blocks.take 0)).length ∧ 0 ≤ 0 * 1000 by exact ⟨by rw [hR2]; simp, by simp [varsL], by omega⟩)
      clear hR2
      go_enter Tryz.func45, Tryz.ntmps45
      go_upto_region 1 with fail
      rw [← HW.out]
      go_wp2_with fail
      go_loopw [3, 22] (fun t i wr => ∃ k n : Nat, k ≤ lb ∧ i = .int .i64 k ∧ t = .int .i64 n ∧ (R = ((m.blocks.drop k).any fW || decide (16 < (varsL m.blocks).length)) ∧ n = (varsL (m.blocks.take k)).length ∧ n ≤ k * 1000) ∧ Below w.heap.size w wr) (fun _ i _ => lb - (intOf i).toNat)
      case atStart => exact ⟨0, 0, by omega, rfl, rfl, HS.out, HB0.out⟩
      case round =>
        obtain ⟨k, n, hk, rfl, rfl, ⟨hrel, hn, hn2⟩, hB⟩ := hrel
        by_cases hlt : k < lb
        · obtain rfl := hp (by omega)
          obtain ⟨x, v1, v2, ex, ed, a0, a1, a2, sv, sc⟩ := block_at (HM.out.mod.below hB).blocks hlt
          have hstep := hrel.trans (by rw [any_at fW ex])
          have htot := totals ex
          obtain ⟨p1, l1, c1, rfl, hl1⟩ := slc_long sv
          obtain ⟨p2, l2, c2, rfl, hl2⟩ := slc_long sc
          have hxv := HF.out.vars x (List.mem_of_getElem? ex)
          have hxc := (HF.out.wheres x (List.mem_of_getElem? ex)).1
          rw [← hl1] at hxv htot
          rw [← hl2] at hxc
          have hfw : fW x = decide (16 < l2) := by rw [fW, ← hl2]
          rw [hfw] at hstep
          rw [← hn] at htot
          generalize x.all = xa at a0
          have HB := Lib.hid (hB.alloc hB.size (.cells #[.bool xa, .slice p1 l1 c1, .slice p2 l2 c2] 42))
          have HT := Lib.hid htot
          clear hrel hB ex ed sv sc hl1 hl2 hfw htot hn
          by_cases g3 : 16 < l2
          · have d3 : decide ((16 : Int) < (l2 : Int)) = true := decide_eq_true (by omega)
            rw [decide_eq_true g3, Bool.true_or, Bool.true_or] at hstep
            subst hstep
            go_wp2_with fail
            go_ret
            exact ⟨rfl, HB.out⟩
          · have d3 : decide ((16 : Int) < (l2 : Int)) = false := decide_eq_false (by omega)
            rw [decide_eq_false g3, Bool.false_or] at hstep
            have NX := Lib.hid hstep
            clear hstep
            go_wp2_with fail
            go_roundw
            case rel => exact ⟨k + 1, n + l1, by omega, by go_num, by go_num, ⟨NX.out, HT.out.symm, by omega⟩, HB.out⟩
            case measure => simp [intOf]; omega
        · have key : R = decide (16 < n) := by
            rw [hrel, any_end fW (by rw [← HLB.out]; omega), Bool.false_or, hn, List.take_of_length_le (by rw [← HLB.out]; omega)]
          have HB := Lib.hid hB
          have hk2 : n ≤ 1000000 := by omega
          clear hrel hB hn
          by_cases g4 : 16 < n
          · have d4 : decide ((16 : Int) < (n : Int)) = true := decide_eq_true (by omega)
            rw [decide_eq_true g4] at key
            subst key
            go_wp2_with fail
            go_ret
            exact ⟨rfl, HB.out⟩
          · have d4 : decide ((16 : Int) < (n : Int)) = false := decide_eq_false (by omega)
            rw [decide_eq_false g4] at key
            subst key
            go_wp2_with fail
            go_ret
            exact ⟨rfl, HB.out⟩

def fV (b : PBlock) : Bool := decide (b.vars.length = 0)
set_option maxHeartbeats 400000 in
theorem form1_any (u : World) (x : PBlock) (v1 v2 : Value) (h : rBlock u [.bool x.all, v1, v2] x) : Calls Tryz.prog 71 (#[.agg #[.bool x.all, v1, v2]] ++ #[]) u fun e w' => e = .returned (.bool (fV x)) ∧ Below u.heap.size u w' := by
  obtain ⟨u1, u2, e, h1, h2⟩ := h
  simp only [List.cons.injEq, and_true, true_and] at e
  obtain ⟨rfl, rfl⟩ := e
  obtain ⟨p1, l1, c1, rfl, hl1⟩ := slc_long h1
  obtain ⟨p2, l2, c2, rfl⟩ := slc_shape h2
  have hv : fV x = decide (l1 = 0) := by rw [fV, ← hl1]
  rw [hv]
  generalize x.all = xa
  have HB := Lib.hid ((Below.refl _ u).alloc (Nat.le_refl _) (.cells #[.bool xa, .slice p1 l1 c1, .slice p2 l2 c2] 42))
  clear hv h1 h2 hl1
  simp only [Array.append_empty]
  by_cases g : l1 = 0
  · have e : ((l1 : Int) == 0) = true := beq_iff_eq.2 (by omega)
    rw [decide_eq_true g]
    clear g
    go_enter Tryz.func71, Tryz.ntmps71
    go_wp2_with fail
    go_ret
    exact ⟨rfl, HB.out⟩
  · have e : ((l1 : Int) == 0) = false := beq_eq_false_iff_ne.2 (by omega)
    rw [decide_eq_false g]
    go_enter Tryz.func71, Tryz.ntmps71
    go_wp2_with fail
    go_ret
    exact ⟨rfl, HB.out⟩
theorem enters61 : Enters Tryz.prog 71 := enters_of Tryz.func71 (by kernel_rfl) rfl
theorem enters63 : Enters Tryz.prog 73 := enters_of Tryz.func73 (by kernel_rfl) rfl
theorem enters64 : Enters Tryz.prog 75 := enters_of Tryz.func75 (by kernel_rfl) rfl
theorem enters71 : Enters Tryz.prog 93 := enters_of Tryz.func93 (by kernel_rfl) rfl

set_option maxRecDepth 100000 in
set_option maxHeartbeats 1000000 in
theorem form_cells (pb : Option Addr) (bb ob cb lb : Nat) (pg : Option Addr) (lg cg : Nat) (m : PModel) (w : World) (h : Mo w pb bb ob cb lb pg lg cg m) (hc : (pb = none → cb = 0) ∧ lb ≤ cb) (hf : Few m) :
    Calls Tryz.prog 46 #[.agg #[.slice pb lb cb, .slice pg lg cg]] w fun e w' => e = .returned (.bool (formM m)) ∧ Below w.heap.size w w' := by
  obtain ⟨R, hR⟩ : ∃ R, R = formM m := ⟨_, rfl⟩
  rw [← hR]
  have hR2 : R = (decide (lb = 0) || m.blocks.any fV) := by rw [hR, formM, ← h.mod.blocks.long]; rfl
  have hlb : lb ≤ 1000 := by rw [h.mod.blocks.long]; exact hf.blocks
  obtain ⟨W0, hW0⟩ : ∃ W0, W0 = w.alloc (.cells #[.slice pb lb cb, .slice pg lg cg] 75) := ⟨_, rfl⟩
  have hB0 : Below w.heap.size w W0 := by rw [hW0]; exact (Below.refl _ w).alloc (Nat.le_refl _) _
  have m0 : W0.cell? ⟨w.heap.size, 0, none⟩ = some (.slice pb lb cb) := by rw [hW0]; go_simp
  have C := Lib.hid (hasB_any 71 enters61 #[] fV (show Slc rBlock 3 W0 (.slice pb lb cb) m.blocks from ⟨pb, bb, ob, cb, lb, rfl, hc, (h.mod.below hB0).blocks⟩) (by have := hf.blocks; omega) fun u x v1 v2 _ _ hx => form1_any u x v1 v2 hx)
  have HW := Lib.hid hW0
  have HB0 := Lib.hid hB0
  clear hR h hf hW0 hB0 hc
  by_cases g1 : lb = 0
  · have d1 : ((lb : Int) == 0) = true := beq_iff_eq.2 (by omega)
    rw [decide_eq_true g1, Bool.true_or] at hR2
    subst hR2
    clear g1
    go_enter Tryz.func46, Tryz.ntmps46
    go_upto_region 1 with fail
    rw [← HW.out]
    go_wp2_with fail
    go_ret
    exact ⟨rfl, HB0.out⟩
  · have d1 : ((lb : Int) == 0) = false := beq_eq_false_iff_ne.2 (by omega)
    rw [decide_eq_false g1, Bool.false_or] at hR2
    rw [← hR2] at C
    clear hR2
    go_enter Tryz.func46, Tryz.ntmps46
    go_upto_region 1 with fail
    rw [← HW.out]
    go_wp2_with fail
    refine C.out.mono ?_
    rintro e w2 ⟨rfl, hB⟩
    have HB := Lib.hid (HB0.out.trans (hB.mono HB0.out.size))
    clear hB
    go_wp2_with fail
    go_ret
    exact ⟨rfl, HB.out⟩

theorem rDecl_open {w : World} {s : ByteArray} {v : Value} {d : PDecl} (h : rDecl w [.string s, v] d) : txt s = d.name ∧ Slc rSpan 2 w v d.dom := by
  obtain ⟨s', v', e, h1, h2⟩ := h
  simp only [List.cons.injEq, and_true, Value.string.injEq] at e
  obtain ⟨rfl, rfl⟩ := e
  exact ⟨h1, h2⟩
def fN (d : PDecl) : Bool := !nameL d.name
set_option maxHeartbeats 400000 in
theorem name1_any (u : World) (x : PDecl) (s : ByteArray) (v1 : Value) (h : rDecl u [.string s, v1] x) (hl : x.name.length ≤ 1000) : Calls Tryz.prog 73 (#[.agg #[.string s, v1]] ++ #[]) u fun e w' => e = .returned (.bool (fN x)) ∧ Below u.heap.size u w' := by
  obtain ⟨h1, h2⟩ := rDecl_open h
  obtain ⟨p1, l1, c1, rfl⟩ := slc_shape h2
  obtain ⟨B, hB⟩ : ∃ B, B = nameL x.name := ⟨_, rfl⟩
  have hv : fN x = !B := by rw [fN, hB]
  rw [hv]
  have HB := Lib.hid ((Below.refl _ u).alloc (Nat.le_refl _) (.cells #[.string s, .slice p1 l1 c1] 45))
  have C := Lib.hid (fun W => pname_any s W (by rw [txt_size, h1]; omega))
  rw [h1, ← hB] at C
  clear hv h h1 h2 hB hl
  simp only [Array.append_empty]
  cases B
  · skip
    go_enter Tryz.func73, Tryz.ntmps73
    go_wp2_with fail
    refine (C.out _).mono ?_
    rintro e w2 ⟨rfl, rfl⟩
    go_wp2_with fail
    go_ret
    exact ⟨rfl, HB.out⟩
  · skip
    go_enter Tryz.func73, Tryz.ntmps73
    go_wp2_with fail
    refine (C.out _).mono ?_
    rintro e w2 ⟨rfl, rfl⟩
    go_wp2_with fail
    go_ret
    exact ⟨rfl, HB.out⟩
set_option maxHeartbeats 400000 in
theorem dom1_any (u : World) (x : PDecl) (s : ByteArray) (v1 : Value) (h : rDecl u [.string s, v1] x) (hl : x.dom.length ≤ 1000) : Calls Tryz.prog 75 (#[.agg #[.string s, v1]] ++ #[]) u fun e w' => e = .returned (.bool (domD x)) ∧ Below u.heap.size u w' := by
  obtain ⟨h1, h2⟩ := rDecl_open h
  have HBa := Lib.hid (fun o => (Below.refl _ u).alloc (Nat.le_refl _) o)
  have C := Lib.hid (fun o => psize_any (h2.below rSpan_stays (HBa.out o)) (by omega))
  obtain ⟨p1, l1, c1, rfl⟩ := slc_shape h2
  rw [dom_is]
  obtain ⟨z, hz⟩ : ∃ z, z = szL x.dom := ⟨_, rfl⟩
  obtain ⟨z0, z1⟩ := sz_low x.dom
  rw [← hz] at C z0 z1 ⊢
  clear h h1 h2 hz
  simp only [Array.append_empty]
  by_cases g1 : z = 0
  · have e1 : (z == 0) = true := beq_iff_eq.2 g1
    have u1 : z ≤ 0 := by omega
    rw [decide_eq_true g1]
    clear g1
    go_enter Tryz.func75, Tryz.ntmps75
    go_wp2_with fail
    refine (C.out _).mono ?_
    rintro e w2 ⟨rfl, hB2⟩
    have HB2 := Lib.hid ((HBa.out _).trans (hB2.mono (HBa.out _).size))
    clear hB2
    go_wp2_with fail
    all_goals try (exfalso; omega)
    go_ret
    exact ⟨rfl, HB2.out⟩
  · have e1 : (z == 0) = false := beq_eq_false_iff_ne.2 g1
    rw [decide_eq_false g1, Bool.false_or]
    by_cases g2 : 64 < z
    · have e2 : decide ((64 : Int) < z) = true := decide_eq_true g2
      rw [e2]
      go_enter Tryz.func75, Tryz.ntmps75
      go_wp2_with fail
      refine (C.out _).mono ?_
      rintro e w2 ⟨rfl, hB2⟩
      have HB2 := Lib.hid ((HBa.out _).trans (hB2.mono (HBa.out _).size))
      clear hB2
      go_wp2_with fail
      all_goals try (exfalso; omega)
      go_ret
      exact ⟨rfl, HB2.out⟩
    · have e2 : decide ((64 : Int) < z) = false := decide_eq_false g2
      rw [e2]
      go_enter Tryz.func75, Tryz.ntmps75
      go_wp2_with fail
      refine (C.out _).mono ?_
      rintro e w2 ⟨rfl, hB2⟩
      have HB2 := Lib.hid ((HBa.out _).trans (hB2.mono (HBa.out _).size))
      clear hB2
      go_wp2_with fail
      all_goals try (exfalso; omega)
      go_ret
      exact ⟨rfl, HB2.out⟩

set_option maxRecDepth 100000 in
set_option maxHeartbeats 1000000 in
theorem name_cells (pb : Option Addr) (bb ob cb lb : Nat) (pg : Option Addr) (lg cg : Nat) (m : PModel) (w : World) (h : Mo w pb bb ob cb lb pg lg cg m) (hc : (pb = none → cb = 0) ∧ lb ≤ cb) (hf : Few m) :
    Calls Tryz.prog 47 #[.agg #[.slice pb lb cb, .slice pg lg cg]] w fun e w' => e = .returned (.bool (nameM m)) ∧ Below w.heap.size w w' := by
  obtain ⟨R, hR⟩ : ∃ R, R = nameM m := ⟨_, rfl⟩
  rw [← hR]
  have hR2 : (varsL m.blocks).any fN = R := by rw [hR]; rfl
  obtain ⟨W0, hW0⟩ : ∃ W0, W0 = w.alloc (.cells #[.slice pb lb cb, .slice pg lg cg] 75) := ⟨_, rfl⟩
  have hB0 : Below w.heap.size w W0 := by rw [hW0]; exact (Below.refl _ w).alloc (Nat.le_refl _) _
  have m0 : W0.cell? ⟨w.heap.size, 0, none⟩ = some (.slice pb lb cb) := by rw [hW0]; go_simp
  have m1 : W0.cell? ⟨w.heap.size, 1, none⟩ = some (.slice pg lg cg) := by rw [hW0]; go_simp
  have D := Lib.hid (pdecls_any ((h.below hB0).model hc) hf)
  have C := Lib.hid (fun (v : Value) (u : World) (hs : Slc rDecl 2 u v (varsL m.blocks)) => hasD_any 73 enters63 #[] fN hs (by have := hf.few; omega) fun u x s v1 _ hm hx => name1_any u x s v1 hx (hf.decl x hm).1)
  rw [hR2] at C
  have HW := Lib.hid hW0
  have HB0 := Lib.hid hB0
  clear hR h hf hW0 hB0 hc hR2
  go_enter Tryz.func47, Tryz.ntmps47
  go_upto_region 1 with fail
  rw [← HW.out]
  go_wp2_with fail
  refine D.out.mono ?_
  rintro e w1 ⟨v, rfl, hown, hB1⟩
  have CC := Lib.hid (C.out v w1 (hown.slc rDecl_stays hB1))
  have HB1 := Lib.hid (HB0.out.trans (hB1.mono HB0.out.size))
  clear hown hB1
  go_wp2_with fail
  refine CC.out.mono ?_
  rintro e w2 ⟨rfl, hB2⟩
  have HB2 := Lib.hid (HB1.out.trans (hB2.mono HB1.out.size))
  clear hB2
  go_wp2_with fail
  go_ret
  exact ⟨rfl, HB2.out⟩

set_option maxRecDepth 100000 in
set_option maxHeartbeats 1000000 in
theorem dom_cells (pb : Option Addr) (bb ob cb lb : Nat) (pg : Option Addr) (lg cg : Nat) (m : PModel) (w : World) (h : Mo w pb bb ob cb lb pg lg cg m) (hc : (pb = none → cb = 0) ∧ lb ≤ cb) (hf : Few m) :
    Calls Tryz.prog 49 #[.agg #[.slice pb lb cb, .slice pg lg cg]] w fun e w' => e = .returned (.bool (domM m)) ∧ Below w.heap.size w w' := by
  obtain ⟨R, hR⟩ : ∃ R, R = domM m := ⟨_, rfl⟩
  rw [← hR]
  have hR2 : (varsL m.blocks).any domD = R := by rw [hR]; rfl
  obtain ⟨W0, hW0⟩ : ∃ W0, W0 = w.alloc (.cells #[.slice pb lb cb, .slice pg lg cg] 75) := ⟨_, rfl⟩
  have hB0 : Below w.heap.size w W0 := by rw [hW0]; exact (Below.refl _ w).alloc (Nat.le_refl _) _
  have m0 : W0.cell? ⟨w.heap.size, 0, none⟩ = some (.slice pb lb cb) := by rw [hW0]; go_simp
  have m1 : W0.cell? ⟨w.heap.size, 1, none⟩ = some (.slice pg lg cg) := by rw [hW0]; go_simp
  have D := Lib.hid (pdecls_any ((h.below hB0).model hc) hf)
  have C := Lib.hid (fun (v : Value) (u : World) (hs : Slc rDecl 2 u v (varsL m.blocks)) => hasD_any 75 enters64 #[] domD hs (by have := hf.few; omega) fun u x s v1 _ hm hx => dom1_any u x s v1 hx (hf.decl x hm).2)
  rw [hR2] at C
  have HW := Lib.hid hW0
  have HB0 := Lib.hid hB0
  clear hR h hf hW0 hB0 hc hR2
  go_enter Tryz.func49, Tryz.ntmps49
  go_upto_region 1 with fail
  rw [← HW.out]
  go_wp2_with fail
  refine D.out.mono ?_
  rintro e w1 ⟨v, rfl, hown, hB1⟩
  have CC := Lib.hid (C.out v w1 (hown.slc rDecl_stays hB1))
  have HB1 := Lib.hid (HB0.out.trans (hB1.mono HB0.out.size))
  clear hown hB1
  go_wp2_with fail
  refine CC.out.mono ?_
  rintro e w2 ⟨rfl, hB2⟩
  have HB2 := Lib.hid (HB1.out.trans (hB2.mono HB1.out.size))
  clear hB2
  go_wp2_with fail
  go_ret
  exact ⟨rfl, HB2.out⟩
end Go.Proofs.YtkgieaoahijheaaGreatDoor
namespace Go.Proofs.YtkgieaoahijheaaGreatDoor
open Go.RowKit
set_option maxRecDepth 100000

theorem short_150 {c : PCon} (h : Short 1000 c) : Short 1000 c := h
set_option maxRecDepth 100000 in
set_option maxHeartbeats 1000000 in
theorem wrong1_any (u : World) (x : PCon) (v1 v2 v3 : Value) (b : Nat) (n : Int) (h : rCon u [.int .i64 x.kind, v1, v2, .int .i64 x.rel, .int .i64 x.const, v3] x) (hs : Short 1000 x) (hc : u.cell? ⟨b, 0, none⟩ = some (.int .i64 n)) :
    Calls Tryz.prog 93 (#[.agg #[.int .i64 x.kind, v1, v2, .int .i64 x.rel, .int .i64 x.const, v3]] ++ #[.pointer (some ⟨b, 0, none⟩)]) u fun e w' => e = .returned (.bool (!rightC x n)) ∧ Below u.heap.size u w' := by
  obtain ⟨⟨p1, l1, c1, rfl⟩, ⟨p2, l2, c2, rfl⟩, ⟨p3, l3, c3, rfl⟩⟩ := rCon_shape h
  obtain ⟨W0, hW0⟩ : ∃ W0, W0 = u.alloc (.cells #[.int .i64 x.kind, .slice p1 l1 c1, .slice p2 l2 c2, .int .i64 x.rel, .int .i64 x.const, .slice p3 l3 c3] 38) := ⟨_, rfl⟩
  have hB0 : Below u.heap.size u W0 := by rw [hW0]; exact (Below.refl _ u).alloc (Nat.le_refl _) _
  have h6 : At6 W0 u.heap.size (.int .i64 x.kind) (.slice p1 l1 c1) (.slice p2 l2 c2) (.int .i64 x.rel) (.int .i64 x.const) (.slice p3 l3 c3) := by rw [hW0]; exact six_new _ _ _ _ _ _ _ _
  obtain ⟨m0, m1, m2, m3, m4, m5⟩ := h6
  have hc := cell_stays hB0 hc
  have C := Lib.hid (pright_any n (rCon_stays _ _ _ _ hB0 h) (short_150 hs))
  have HW := Lib.hid hW0
  have HB0 := Lib.hid hB0
  obtain ⟨B, hB⟩ : ∃ B, B = rightC x n := ⟨_, rfl⟩
  rw [← hB] at C ⊢
  generalize x.kind = xk at m0 C HW ⊢
  generalize x.rel = xr at m3 C HW ⊢
  generalize x.const = xt at m4 C HW ⊢
  clear h hs hW0 hB0 hB
  have e : (#[.agg #[.int .i64 xk, .slice p1 l1 c1, .slice p2 l2 c2, .int .i64 xr, .int .i64 xt, .slice p3 l3 c3]] ++ #[.pointer (some ⟨b, 0, none⟩)] : Array Value) = #[.agg #[.int .i64 xk, .slice p1 l1 c1, .slice p2 l2 c2, .int .i64 xr, .int .i64 xt, .slice p3 l3 c3], .pointer (some ⟨b, 0, none⟩)] := by simp
  rw [e]
  clear e
  go_enter Tryz.func93, Tryz.ntmps93
  go_upto_region 1 with fail
  rw [← HW.out]
  go_wp2_with fail
  refine C.out.mono ?_
  rintro e w2 ⟨rfl, hB2⟩
  have HB2 := Lib.hid (HB0.out.trans (hB2.mono HB0.out.size))
  clear hB2
  cases B
  · skip
    go_wp2_with fail
    go_ret
    exact ⟨rfl, HB2.out⟩
  · skip
    go_wp2_with fail
    go_ret
    exact ⟨rfl, HB2.out⟩

set_option maxRecDepth 100000 in
set_option maxHeartbeats 1000000 in
theorem wrong_any {w : World} {v : Value} {L : List PCon} (n : Nat) (h : Slc rCon 6 w v L) (hl : L.length ≤ 1000) (hs : ∀ c ∈ L, Short 1000 c) :
    Calls Tryz.prog 77 #[v, .int .i64 (n : Int)] w fun e w' => e = .returned (.bool (wrongL L n)) ∧ Below w.heap.size w w' := by
  obtain ⟨R, hR⟩ : ∃ R, R = wrongL L n := ⟨_, rfl⟩
  rw [← hR]
  have hR2 : L.any (fun c => !rightC c (n : Int)) = R := by rw [hR]; rfl
  obtain ⟨W0, hW0⟩ : ∃ W0, W0 = w.alloc (.cells #[.int .i64 (n : Int)] 3) := ⟨_, rfl⟩
  have hB0 : Below w.heap.size w W0 := by rw [hW0]; exact (Below.refl _ w).alloc (Nat.le_refl _) _
  have m0 : W0.cell? ⟨w.heap.size, 0, none⟩ = some (.int .i64 (n : Int)) := by rw [hW0]; go_simp
  have C := Lib.hid (hasC_any 93 enters71 #[.pointer (some ⟨w.heap.size, 0, none⟩)] (fun c => !rightC c (n : Int)) (h.below rCon_stays hB0) (by omega) fun u x v1 v2 v3 hb hm hx => wrong1_any u x v1 v2 v3 w.heap.size n hx (hs x hm) (cell_stays hb m0))
  rw [hR2] at C
  obtain ⟨p, l, c, rfl⟩ := slc_shape h
  have HW := Lib.hid hW0
  have HB0 := Lib.hid hB0
  clear hR h hs hW0 hB0 hR2 m0
  go_enter Tryz.func77, Tryz.ntmps77
  go_upto_region 1 with fail
  rw [← HW.out]
  go_wp2_with fail
  refine C.out.mono ?_
  rintro e w2 ⟨rfl, hB2⟩
  have HB2 := Lib.hid (HB0.out.trans (hB2.mono HB0.out.size))
  clear hB2
  go_wp2_with fail
  go_ret
  exact ⟨rfl, HB2.out⟩

set_option maxRecDepth 100000 in
set_option maxHeartbeats 2000000 in
theorem con_cells (pb : Option Addr) (bb ob cb lb : Nat) (pg : Option Addr) (lg cg : Nat) (m : PModel) (w : World) (h : Mo w pb bb ob cb lb pg lg cg m) (hf : Few m) :
    Calls Tryz.prog 50 #[.agg #[.slice pb lb cb, .slice pg lg cg]] w fun e w' => e = .returned (.bool (conM m)) ∧ Below w.heap.size w w' := by
  obtain ⟨R, hR⟩ : ∃ R, R = conM m := ⟨_, rfl⟩
  rw [← hR]
  obtain ⟨T, hT⟩ : ∃ T, T = (varsL m.blocks).length := ⟨_, rfl⟩
  have hR2 : R = (conF 0 m.blocks || wrongL m.goal T) := by rw [hR, conM, hT]
  have hp := h.mod.blocks.at_
  have hlb : lb ≤ 1000 := by rw [h.mod.blocks.long]; exact hf.blocks
  have HLB := Lib.hid h.mod.blocks.long
  have HF := Lib.hid hf
  obtain ⟨W0, hW0⟩ : ∃ W0, W0 = w.alloc (.cells #[.slice pb lb cb, .slice pg lg cg] 75) := ⟨_, rfl⟩
  have hB0 : Below w.heap.size w W0 := by rw [hW0]; exact (Below.refl _ w).alloc (Nat.le_refl _) _
  have m0 : W0.cell? ⟨w.heap.size, 0, none⟩ = some (.slice pb lb cb) := by rw [hW0]; go_simp
  have m1 : W0.cell? ⟨w.heap.size, 1, none⟩ = some (.slice pg lg cg) := by rw [hW0]; go_simp
  have HM := Lib.hid (h.below hB0)
  have HW := Lib.hid hW0
  have HB0 := Lib.hid hB0
  have HM1 := Lib.hid m1
  have HT := Lib.hid hT
  have HS := Lib.hid (show R = (conF 0 (m.blocks.drop 0) || wrongL m.goal T) ∧ 0 = (varsL (m.blocks.take 0)).length ∧ 0 ≤ 0 * 1000 by exact ⟨by rw [hR2]; simp, by simp [varsL], by omega⟩)
  clear hR h hf hW0 hB0 hR2 hT
  go_enter Tryz.func50, Tryz.ntmps50
  go_upto_region 1 with fail
  rw [← HW.out]
  go_wp2_with fail
  go_loopw [3, 10] (fun t i wr => ∃ k n : Nat, k ≤ lb ∧ i = .int .i64 k ∧ t = .int .i64 n ∧ (R = (conF n (m.blocks.drop k) || wrongL m.goal T) ∧ n = (varsL (m.blocks.take k)).length ∧ n ≤ k * 1000) ∧ Below W0.heap.size W0 wr) (fun _ i _ => lb - (intOf i).toNat)
  case atStart => exact ⟨0, 0, by omega, rfl, rfl, HS.out, Below.refl _ _⟩
  case round =>
    obtain ⟨k, n, hk, rfl, rfl, ⟨hrel, hn, hn2⟩, hB⟩ := hrel
    by_cases hlt : k < lb
    · obtain rfl := hp (by omega)
      obtain ⟨x, v1, v2, ex, ed, a0, a1, a2, sv, sc⟩ := block_at (HM.out.mod.below hB).blocks hlt
      have hstep := hrel.trans (by rw [con_at_k ex])
      have htot := totals ex
      obtain ⟨p1, l1, c1, rfl, hl1⟩ := slc_long sv
      have hxv := HF.out.vars x (List.mem_of_getElem? ex)
      have hxc := HF.out.wheres x (List.mem_of_getElem? ex)
      rw [← hl1] at hxv htot hstep
      rw [← hn] at htot
      generalize x.all = xa at a0
      obtain ⟨p2, l2, c2, hv2⟩ := slc_shape sc
      have CW := Lib.hid (fun o => wrong_any (n + l1) (sc.below rCon_stays (w' := wr.alloc o) ((Below.refl _ wr).alloc (Nat.le_refl _) _)) hxc.1 hxc.2)
      subst hv2
      have HB := Lib.hid (fun o => hB.alloc hB.size o)
      have HT := Lib.hid htot
      obtain ⟨B, eB⟩ : ∃ B, B = wrongL x.cons (n + l1) := ⟨_, rfl⟩
      rw [← eB] at CW hstep
      clear hrel hB ex ed sv sc hl1 htot hn eB hxc
      have en : (n : Int) + (l1 : Int) = ((n + l1 : Nat) : Int) := by omega
      cases B
      · rw [Bool.false_or] at hstep
        have NX := Lib.hid hstep
        clear hstep
        have CW2 : Hid (∀ o, Calls Tryz.prog 77 #[.slice p2 l2 c2, .int .i64 ((n : Int) + (l1 : Int))] (wr.alloc o) fun e w' => e = .returned (.bool false) ∧ Below (wr.alloc o).heap.size (wr.alloc o) w') := Lib.hid (by rw [en]; exact CW.out)
        clear en CW
        go_wp2_with fail
        refine (CW2.out _).mono ?_
        rintro e w2 ⟨rfl, hB2⟩
        have HB2 := Lib.hid ((HB.out _).trans (hB2.mono (HB.out _).size))
        clear hB2
        go_wp2_with fail
        go_roundw
        case rel => exact ⟨k + 1, n + l1, by omega, by go_num, by go_num, ⟨NX.out, HT.out.symm, by omega⟩, HB2.out⟩
        case measure => simp [intOf]; omega
      · rw [Bool.true_or, Bool.true_or] at hstep
        subst hstep
        have CW2 : Hid (∀ o, Calls Tryz.prog 77 #[.slice p2 l2 c2, .int .i64 ((n : Int) + (l1 : Int))] (wr.alloc o) fun e w' => e = .returned (.bool true) ∧ Below (wr.alloc o).heap.size (wr.alloc o) w') := Lib.hid (by rw [en]; exact CW.out)
        clear en CW
        go_wp2_with fail
        refine (CW2.out _).mono ?_
        rintro e w2 ⟨rfl, hB2⟩
        have HB2 := Lib.hid ((HB.out _).trans (hB2.mono (HB.out _).size))
        clear hB2
        go_wp2_with fail
        go_ret
        exact ⟨rfl, HB0.out.trans (HB2.out.mono HB0.out.size)⟩
    · have key : R = wrongL m.goal n := by
        have e : n = T := by rw [hn, HT.out, List.take_of_length_le (by rw [← HLB.out]; omega)]
        rw [hrel, List.drop_of_length_le (by rw [← HLB.out]; omega), conF, Bool.false_or, ← e]
      have m1 := cell_stays hB HM1.out
      have CW := Lib.hid (wrong_any n (HM.out.mod.below hB).goal HF.out.goal.1 HF.out.goal.2)
      rw [← key] at CW
      have HB := Lib.hid hB
      clear hrel hB hn key
      go_wp2_with fail
      refine CW.out.mono ?_
      rintro e w2 ⟨rfl, hB2⟩
      have HB2 := Lib.hid (HB.out.trans (hB2.mono HB.out.size))
      clear hB2
      go_wp2_with fail
      go_ret
      exact ⟨rfl, HB0.out.trans (HB2.out.mono HB0.out.size)⟩
end Go.Proofs.YtkgieaoahijheaaGreatDoor
namespace Go.Proofs.YtkgieaoahijheaaGreatDoor
open Go.RowKit Go.MapKept Go.WideShapes
set_option maxRecDepth 100000

/-- of the blocks that were there none has turned but those of S -/
structure Turn (S : List Nat) (w w' : World) : Prop where
  os : w'.os = w.os
  tape : w'.tape = w.tape
  output : w'.output = w.output
  size : w.heap.size ≤ w'.heap.size
  block : ∀ k, k < w.heap.size → k ∉ S → w'.heap[k]? = w.heap[k]?
theorem Turn.refl (S : List Nat) (w : World) : Turn S w w := ⟨rfl, rfl, rfl, Nat.le_refl _, fun _ _ _ => rfl⟩
theorem Turn.below {S : List Nat} {B : Nat} {W a b : World} (hB : Below B W a) (h : Turn S a b) (hle : B ≤ a.heap.size) (hs : ∀ x, x ∈ S → B ≤ x) : Below B W b :=
  hB.trans ⟨h.os, h.tape, h.output, h.size, fun k hk => h.block k (by omega) (fun hm => by have := hs k hm; omega)⟩
theorem Turn.alloc {S : List Nat} {a w : World} (h : Turn S a w) (o : Obj) : Turn S a (w.alloc o) :=
  ⟨h.os, h.tape, h.output, by have := h.size; simp; omega, fun k hk hn => (Below.heap_alloc _ _ _ (Nat.lt_of_lt_of_le hk h.size)).trans (h.block k hk hn)⟩
theorem Turn.grown {S : List Nat} {a w w' : World} {row : Option Nat} (h : Turn S a w) (hg : w.grownBy w' row) (hr : ∀ k, row = some k → k ∈ S) : Turn S a w' :=
  ⟨hg.os.trans h.os, hg.tape.trans h.tape, hg.output.trans h.output, Nat.le_trans h.size hg.size, fun k hk hn => (hg.block k (Nat.lt_of_lt_of_le hk h.size) (fun e => hn (hr k e.symm))).trans (h.block k hk hn)⟩
theorem Turn.cell {S : List Nat} {w w' : World} (h : Turn S w w') {p : Addr} {v : Value} (hc : w.cell? p = some v) (hn : p.block ∉ S) : w'.cell? p = some v :=
  (World.cell?_of_block (h.block _ (World.block_lt_of_cell? w p hc) hn)).trans hc

/-- how a bool in a map is read -/
def boolRd (v : Value) : Option (DataW Bool × List MemPlace) := match v with | .bool b => some (.held b, []) | _ => none
theorem boolRd_inv {v : Value} {b : Bool} {ps : List MemPlace} (h : boolRd v = some (.held b, ps)) : v = .bool b := by
  unfold boolRd at h
  split at h
  · simp only [Option.some.injEq, Prod.mk.injEq, DataW.held.injEq] at h
    rw [h.1]
  · cases h
/-- block b is a map from texts to bools, of which those of ns are true, and no other one -/
def SeenAt (w : World) (b : Nat) (ns : List (List UInt8)) : Prop :=
  ∃ (n : Nat) (D : DataW Bool), w.ownsMap Tryz.prog 9 boolRd b n D ∧ n ≤ ns.length ∧ ∀ x : List UInt8, D.atKey (.string x) (.held false) = .held (decide (x ∈ ns))
theorem seen_made (w : World) : SeenAt (w.alloc (.map #[] 0)) w.heap.size [] :=
  ⟨0, .map [], World.ownsMap_made w Tryz.prog 9 boolRd, Nat.le_refl _, fun x => by simp [DataW.atKey]⟩
theorem SeenAt.of_block {w w' : World} {b : Nat} {ns : List (List UInt8)} (h : SeenAt w b ns) (e : w'.heap[b]? = w.heap[b]?) : SeenAt w' b ns := by
  obtain ⟨n, D, ⟨es, clock, hb, r⟩, h2⟩ := h
  exact ⟨n, D, ⟨es, clock, e.trans hb, r⟩, h2⟩
theorem SeenAt.lt {w : World} {b : Nat} {ns : List (List UInt8)} (h : SeenAt w b ns) : b < w.heap.size := by
  obtain ⟨n, D, h1, _⟩ := h
  exact h1.lt
theorem SeenAt.below {w w' : World} {b : Nat} {ns : List (List UInt8)} (h : SeenAt w b ns) (hB : Below w.heap.size w w') : SeenAt w' b ns := h.of_block (hB.block b h.lt)
theorem SeenAt.not_cell {w : World} {b : Nat} {ns : List (List UInt8)} (h : SeenAt w b ns) {p : Addr} {v : Value} (hc : w.cell? p = some v) : p.block ≠ b := by
  rintro rfl
  obtain ⟨n, D, ⟨es, clock, hb, r⟩, h2⟩ := h
  unfold World.cell? at hc
  rw [hb] at hc
  cases hc
theorem zero_bool (w : World) : (zeroValue 4).run Tryz.prog w = .ok (.bool false) w := by kernel_rfl
theorem SeenAt.look {w : World} {b : Nat} {ns : List (List UInt8)} (h : SeenAt w b ns) (s : ByteArray) (hs : s.size ≤ 1000) :
    (Instr.lookup 118 (.map (some b)) (.string s) false).run Tryz.prog w = .ok (.bool (decide (txt s ∈ ns))) w := by
  obtain ⟨n, D, h1, h2, h3⟩ := h
  obtain ⟨v, ps, hrun, hv⟩ := h1.lookup (Maps.string_keyed Tryz.underlying9) Tryz.underlying118 (zero_bool w) (zd := .held false) (zp := []) rfl (key := .string s) (WideMaps.keyOf_string_mk Tryz.underlying9 (by unfold maxLen; omega))
  rw [h3] at hv
  rw [hrun, boolRd_inv hv]
theorem SeenAt.store {w : World} {b : Nat} {ns : List (List UInt8)} (h : SeenAt w b ns) (s : ByteArray) (hs : s.size ≤ 1000) (hn : ns.length ≤ 1000) :
    ∃ w', (Instr.mapUpdate 118 (.map (some b)) (.string s) (.bool true)).run Tryz.prog w = .ok () w' ∧ SeenAt w' b (ns ++ [txt s]) ∧ w.grownBy w' (some b) := by
  obtain ⟨n, D, h1, h2, h3⟩ := h
  obtain ⟨w', hrun, hown, hg⟩ := h1.update (Maps.string_keyed Tryz.underlying9) Tryz.underlying118 (by unfold maxLen; omega) (key := .string s) (val := .bool true) (d := .held true) (ps := []) (WideMaps.keyOf_string_mk Tryz.underlying9 (by unfold maxLen; omega)) rfl
  refine ⟨w', hrun, ⟨n + 1, _, hown, by simp; omega, fun x => ?_⟩, hg⟩
  by_cases e : x = txt s
  · subst e
    rw [Maps.atKey_put_same h1.isMap (by simp [WideAt.IsKeyLit])]
    simp
  · have hne : (Lit.string x) ≠ .string (txt s) := by
      intro h
      injection h with h
      exact e h
    rw [Maps.atKey_put_other hne, h3]
    simp [e]

theorem twice_next {ns : List (List UInt8)} {k : Nat} {x : List UInt8} (h : ¬ TwiceTo ns k) (hx : ns[k]? = some x) (hn : ¬ x ∈ ns.take k) : ¬ TwiceTo ns (k + 1) := by
  rintro ⟨i, j, hj, hi, e⟩
  obtain ⟨hk, ex⟩ := List.getElem?_eq_some_iff.1 hx
  by_cases hik : i < k
  · exact h ⟨i, j, hj, hik, e⟩
  · obtain rfl : i = k := by omega
    have e2 : ns.getD i [] = x := by simp [hx]
    rw [e2] at e
    refine hn (List.mem_iff_getElem?.2 ⟨j, ?_⟩)
    rw [List.getElem?_take, if_pos hj, e]
    have : j < ns.length := by omega
    simp [this]
theorem twice_hit {ns : List (List UInt8)} {k : Nat} {x : List UInt8} (hx : ns[k]? = some x) (hn : x ∈ ns.take k) : TwiceTo ns ns.length := by
  obtain ⟨j, hj⟩ := List.mem_iff_getElem?.1 hn
  rw [List.getElem?_take] at hj
  by_cases hjk : j < k
  · rw [if_pos hjk] at hj
    refine ⟨k, j, hjk, (List.getElem?_eq_some_iff.1 hx).1, ?_⟩
    simp [hx, hj]
  · rw [if_neg hjk] at hj
    cases hj
theorem take_next {α : Type} {L : List α} {k : Nat} {x : α} (hx : L[k]? = some x) : L.take (k + 1) = L.take k ++ [x] := by
  rw [List.take_add_one, hx]
  rfl
theorem names_at {L : List PDecl} {k : Nat} {d : PDecl} (h : L[k]? = some d) : (names L)[k]? = some d.name := by
  simp [names, h]
theorem names_len (L : List PDecl) : (names L).length = L.length := by simp [names]

open Classical in
theorem twice_true {m : PModel} {L : List PDecl} (hL : L = varsL m.blocks) (h : TwiceTo (names L) (names L).length) : twiceM m = true := by rw [twiceM, ← hL]; exact decide_eq_true h
open Classical in
theorem twice_false {m : PModel} {L : List PDecl} (hL : L = varsL m.blocks) (h : ¬ TwiceTo (names L) (names L).length) : twiceM m = false := by rw [twiceM, ← hL]; exact decide_eq_false h
set_option maxRecDepth 100000 in
set_option maxHeartbeats 2000000 in
theorem twice_cells (pb : Option Addr) (bb ob cb lb : Nat) (pg : Option Addr) (lg cg : Nat) (m : PModel) (w : World) (h : Mo w pb bb ob cb lb pg lg cg m) (hc : (pb = none → cb = 0) ∧ lb ≤ cb) (hf : Few m) :
    Calls Tryz.prog 48 #[.agg #[.slice pb lb cb, .slice pg lg cg]] w fun e w' => e = .returned (.bool (twiceM m)) ∧ Below w.heap.size w w' := by
  obtain ⟨R, hR⟩ : ∃ R, R = twiceM m := ⟨_, rfl⟩
  rw [← hR]
  obtain ⟨L, hL⟩ : ∃ L, L = varsL m.blocks := ⟨_, rfl⟩
  have hyes : TwiceTo (names L) (names L).length → R = true := fun q => hR.trans (twice_true hL q)
  have hno : ¬ TwiceTo (names L) (names L).length → R = false := fun q => hR.trans (twice_false hL q)
  have hdl : ∀ d ∈ L, d.name.length ≤ 1000 := fun d hd => (hf.decl d (by rw [← hL]; exact hd)).1
  have hLn : L.length ≤ 1000 := by rw [hL]; exact hf.few
  obtain ⟨W0, hW0⟩ : ∃ W0, W0 = w.alloc (.cells #[.slice pb lb cb, .slice pg lg cg] 75) := ⟨_, rfl⟩
  have hB0 : Below w.heap.size w W0 := by rw [hW0]; exact (Below.refl _ w).alloc (Nat.le_refl _) _
  have m0 : W0.cell? ⟨w.heap.size, 0, none⟩ = some (.slice pb lb cb) := by rw [hW0]; go_simp
  have m1 : W0.cell? ⟨w.heap.size, 1, none⟩ = some (.slice pg lg cg) := by rw [hW0]; go_simp
  obtain ⟨W1, hW1⟩ : ∃ W1, W1 = W0.alloc (.map #[] 0) := ⟨_, rfl⟩
  have hB1 : Below W0.heap.size W0 W1 := by rw [hW1]; exact (Below.refl _ W0).alloc (Nat.le_refl _) _
  have m0 := cell_stays hB1 m0
  have m1 := cell_stays hB1 m1
  have hseen : SeenAt W1 W0.heap.size [] := by rw [hW1]; exact seen_made W0
  have D := Lib.hid (pdecls_any (((h.below hB0).below hB1).model hc) hf)
  rw [← hL] at D
  have HW := Lib.hid hW0
  have HW1 := Lib.hid hW1
  have HB0 := Lib.hid hB0
  have HB1 := Lib.hid (hB0.trans (hB1.mono hB0.size))
  have HSN := Lib.hid hseen
  have HY := Lib.hid hyes
  have HNO := Lib.hid hno
  have HDL := Lib.hid hdl
  have hge : w.heap.size ≤ W0.heap.size := hB0.size
  clear hR h hf hW0 hB0 hc hL hW1 hB1 hseen hyes hno hdl
  have hmm := @run_makeMap Tryz.prog
  go_enter Tryz.func48, Tryz.ntmps48
  go_upto_region 1 with fail
  rw [← HW.out]
  go_upto_region 2 with fail
  rw [← HW1.out]
  go_wp2_with fail
  refine D.out.mono ?_
  rintro e w1 ⟨v, rfl, hown, hB2⟩
  obtain ⟨p, b, off, c, len, rfl, hs⟩ := (hown.slc rDecl_stays hB2).open_
  have hp := hs.at_
  have hlen := hs.long
  have HLN := Lib.hid hlen
  have HS := Lib.hid hs
  have HSN2 := Lib.hid (HSN.out.below hB2)
  have HB2 := Lib.hid (HB1.out.trans (hB2.mono HB1.out.size))
  have h900 : len ≤ 1000 := by omega
  obtain ⟨B, hBB⟩ : ∃ B, B = W0.heap.size := ⟨_, rfl⟩
  rw [← hBB] at HSN2 hge
  have HSZ := Lib.hid (show w.heap.size ≤ w1.heap.size from HB2.out.size)
  have hZ : ¬ TwiceTo (names L) 0 := fun ⟨i, j, _, h2, _⟩ => by omega
  have HZ := Lib.hid hZ
  obtain ⟨W2, hW2⟩ : ∃ W2, W2 = w1 := ⟨_, rfl⟩
  rw [← hW2] at HSN2 HB2 HS HSZ ⊢
  rw [show (.map (some W0.heap.size) : Value) = .map (some B) by rw [hBB]]
  clear hown hB2 hs hlen hZ m0 m1 hW2 hBB hmm
  go_wp2_with fail
  go_loopw [11] (fun i wr => ∃ k : Nat, k ≤ len ∧ i = .int .i64 k ∧ SeenAt wr B ((names L).take k) ∧ ¬ TwiceTo (names L) k ∧ Turn [B] W2 wr) (fun i _ => len - (intOf i).toNat)
  case atStart => exact ⟨0, by omega, rfl, by rw [List.take_zero]; exact HSN2.out, HZ.out, Turn.refl _ _⟩
  case round =>
    obtain ⟨k, hk, rfl, hseen, hnt, ht⟩ := hrel
    have HB := Lib.hid (ht.below HB2.out HSZ.out (by simp; omega))
    by_cases hlt : k < len
    · obtain rfl := hp (by omega)
      obtain ⟨d, s, v, ex, a0, a1, hsn, sd⟩ := decl_at HS.out hlt
      have a0 := ht.cell a0 (by simp; exact HSN2.out.not_cell a0)
      have a1 := ht.cell a1 (by simp; exact HSN2.out.not_cell a1)
      obtain ⟨pd, ld, cd, rfl⟩ := slc_shape sd
      have hnx := names_at ex
      rw [← hsn] at hnx
      have hss : s.size ≤ 1000 := by
        rw [txt_size, hsn]
        have := HDL.out d (List.mem_of_getElem? ex)
        omega
      obtain ⟨W3, hW3⟩ : ∃ W3, W3 = wr.alloc (.cells #[.string s, .slice pd ld cd] 45) := ⟨_, rfl⟩
      have hB3 : Below wr.heap.size wr W3 := by rw [hW3]; exact (Below.refl _ wr).alloc (Nat.le_refl _) _
      have q0 : W3.cell? ⟨wr.heap.size, 0, none⟩ = some (.string s) := by rw [hW3]; go_simp
      have hs3 := hseen.below hB3
      have hlook := hs3.look s hss
      have HW3 := Lib.hid hW3
      have HB3 := Lib.hid (HB.out.trans (hB3.mono HB.out.size))
      have HT3 := Lib.hid (show Turn [B] W2 W3 by rw [hW3]; exact ht.alloc _)
      by_cases hm : txt s ∈ (names L).take k
      · rw [decide_eq_true hm] at hlook
        have key : R = true := HY.out (twice_hit hnx hm)
        subst key
        clear hseen hnt ht ex hsn sd hnx hW3 hB3 hs3 hm
        go_upto_region 5 with fail
        rw [← HW3.out]
        clear a0 a1
        go_wp2_with fail
        go_ret
        exact ⟨rfl, HB3.out⟩
      · rw [decide_eq_false hm] at hlook
        obtain ⟨W4, hrun, hs4, hg4⟩ := hs3.store s hss (by simp [names_len]; omega)
        rw [← take_next hnx] at hs4
        have HS4 := Lib.hid hs4
        have HNT := Lib.hid (twice_next hnt hnx hm)
        have HT4 := Lib.hid (HT3.out.grown hg4 (by simp))
        clear hseen hnt ht ex hsn sd hnx hW3 hB3 hs3 hm hs4 hg4
        go_upto_region 5 with fail
        rw [← HW3.out]
        clear a0 a1
        go_wp2_with fail
        go_roundw
        case rel => exact ⟨k + 1, by omega, by go_num, HS4.out, HNT.out, HT4.out⟩
        case measure => simp [intOf]; omega
    · have key : R = false := by
        refine HNO.out ?_
        have e : (names L).length = k := by rw [names_len, ← HLN.out]; omega
        rw [e]
        exact hnt
      subst key
      clear hseen hnt ht
      go_wp2_with fail
      go_ret
      exact ⟨rfl, HB.out⟩
end Go.Proofs.YtkgieaoahijheaaGreatDoor
