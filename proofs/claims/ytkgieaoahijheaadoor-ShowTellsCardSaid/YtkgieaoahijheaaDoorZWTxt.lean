/-
  The text of a model, of the document's answers.
-/
import Derived.Test.YtkgieaoahijheaaDoorZYAX
import Derived.Test.YtkgieaoahijheaaDoorZQCheck
import Derived.Test.YtkgieaoahijheaaDoorZYAC
import Derived.Deep.DeepCutAuto
import Derived.Deep.CutBlock
namespace Go.Proofs.YtkgieaoahijheaaDoor.Wt
open Go.RowKit
open Sc (Tok)
set_option maxRecDepth 100000

section
variable {nm : Int → Tok} {w w' : World} {pn : Option Addr} {bn on_ ln cn : Nat} {L : List PDecl}
theorem rblock_at {p : Option Addr} {b off len : Nat} {l : List PBlock} (h : SliceOf rBlock 3 w p b off len l) {k : Nat} (hk : k < len) :
    ∃ (x : PBlock) (v1 v2 : Value), l[k]? = some x ∧ w.cell? ⟨b, off + k * 3, none⟩ = some (.bool x.all) ∧ w.cell? ⟨b, off + k * 3 + 1, none⟩ = some v1 ∧ w.cell? ⟨b, off + k * 3 + 2, none⟩ = some v2 ∧ Slc rDecl 2 w v1 x.vars ∧ Slc rCon 6 w v2 x.cons := by
  have hx : k < l.length := by rw [← h.long]; exact hk
  have e : l[k]? = some l[k] := List.getElem?_eq_getElem hx
  obtain ⟨cs, h1, h2, v1, v2, e3, s1, s2⟩ := h.cell k _ e
  subst e3
  exact ⟨_, v1, v2, e, h2 0 (by omega), h2 1 (by omega), h2 2 (by omega), s1, s2⟩
theorem rspan_at {p : Option Addr} {b off len : Nat} {l : List (Int × Int)} (h : SliceOf rSpan 2 w p b off len l) {k : Nat} (hk : k < len) :
    ∃ (x : Int × Int), l[k]? = some x ∧ w.cell? ⟨b, off + k * 2, none⟩ = some (.int .i64 x.1) ∧ w.cell? ⟨b, off + k * 2 + 1, none⟩ = some (.int .i64 x.2) := by
  have hx : k < l.length := by rw [← h.long]; exact hk
  have e : l[k]? = some l[k] := List.getElem?_eq_getElem hx
  obtain ⟨cs, h1, h2, h3⟩ := h.cell k _ e
  have h4 : cs = [.int .i64 l[k].1, .int .i64 l[k].2] := h3.1
  subst h4
  exact ⟨_, e, h2 0 (by omega), h2 1 (by omega)⟩
theorem slc_parts {α : Type} {R : Reader α} {n : Nat} {v : Value} {l : List α} (h : Slc R n w v l) : ∃ (p : Option Addr) (b off len c : Nat), v = .slice p len c ∧ len = l.length ∧ SliceOf R n w p b off len l := by
  obtain ⟨p, b, off, c, len, e, _, h2⟩ := h
  exact ⟨p, b, off, len, c, e, h2.long, h2⟩
theorem list_long (hd : ∀ d ∈ L, d.name.length ≤ 1000) : ∀ (l : List PCon), (∀ c ∈ l, ConM nm L c) → (spT (listT nm l)).length ≤ 3000010 * l.length + 10
  | [], _ => by simp [listT, spT, tW, Pa.tTrue]
  | c :: l, h => by
    have h1 := con_long (h c (by simp)) hd
    have h2 : ∀ (l : List PCon), (∀ c ∈ l, ConM nm L c) → (spT (l.flatMap fun c => tW Pa.tAnd :: conT nm c)).length ≤ 3000010 * l.length := by
      intro l
      induction l with
      | nil => intro _; simp [spT]
      | cons d l ih =>
        intro hh
        have q1 := con_long (hh d (by simp)) hd
        have q2 := ih (fun x hx => hh x (by simp [hx]))
        have e : spT ((d :: l).flatMap fun c => tW Pa.tAnd :: conT nm c) = [32, 97, 110, 100] ++ (spT (conT nm d) ++ spT (l.flatMap fun c => tW Pa.tAnd :: conT nm c)) := by simp [spT, tW, Pa.tAnd, List.flatMap_append]
        rw [e]
        simp only [List.length_append, List.length_cons, List.length_nil]
        omega
    have h3 := h2 l (fun x hx => h x (by simp [hx]))
    show (spT (conT nm c ++ l.flatMap fun c => tW Pa.tAnd :: conT nm c)).length ≤ _
    rw [sp_app, List.length_append, List.length_cons]
    omega
theorem span_long {p : Int × Int} (h : Num p.1 ∧ Num p.2) : (spT (spanT p)).length ≤ 50 := by
  have h1 := numT_long (z := p.1) (by have := h.1; unfold Num Sc.mostV at this; omega)
  have h2 := numT_long (z := p.2) (by have := h.2; unfold Num Sc.mostV at this; omega)
  unfold spanT
  split
  · rw [sp_app, List.length_append]
    simp [spT] at *
    omega
  · have e : spT (numT p.1 ++ tM Pa.tDots :: numT p.2) = spT (numT p.1) ++ ([32, 46, 46] ++ spT (numT p.2)) := by simp [spT, tM, Pa.tDots]
    rw [e]
    simp only [List.length_append, List.length_cons, List.length_nil]
    omega
/-- the answer of Text -/
noncomputable def textA (m : PModel) : List UInt8 × Int := if checkM m = 0 then (if 4000 < (textL (nmT (namesM m)) m).length then ([], 5) else (textL (nmT (namesM m)) m, 0)) else ([], checkM m)
set_option maxHeartbeats 8000000 in
theorem text_bad {bv gv : Value} {m : PModel} (hm : rModel w [bv, gv] m) (hf : Few m) (hc : checkM m ≠ 0) :
    Calls Tryd.prog 7 #[.agg #[bv, gv]] w fun e w' => e = .returned (.tuple #[.string ⟨([] : List UInt8).toArray⟩, .int .i64 (checkM m)]) ∧ Below w.heap.size w w' := by
  obtain ⟨W, hW⟩ : ∃ W, W = w.alloc (.cells #[bv, gv] 25) := ⟨_, rfl⟩
  have k1 : Below w.heap.size w W := by rw [hW]; exact (Below.refl _ w).alloc (Nat.le_refl _) _
  have y1 : W.heap[w.heap.size]? = some (.cells #[bv, gv] 25) := by rw [hW]; exact heap_alloc_new w _
  have HM := Lib.hid (rModel_stays _ _ _ _ k1 hm)
  have C1 := Lib.hid (rcheck_any HM.out hf)
  have x0 : W.cell? ⟨w.heap.size, 0, none⟩ = some bv := cell_of_row W _ 0 _ 25 (0, 0) y1
  have x1 : W.cell? ⟨w.heap.size, 1, none⟩ = some gv := cell_of_row W _ 1 _ 25 (0, 0) y1
  obtain ⟨p0, b0, o0, l0, c0, rfl, ez0, _⟩ := slc_parts (w := w) (show Slc rBlock 3 w bv m.blocks by obtain ⟨v1, v2, e, h1, _⟩ := hm; simp only [List.cons.injEq, and_true] at e; rw [e.1]; exact h1)
  obtain ⟨p9, b9, o9, l9, c9, rfl, ez9, _⟩ := slc_parts (w := w) (show Slc rCon 6 w gv m.goal by obtain ⟨v1, v2, e, _, h1⟩ := hm; simp only [List.cons.injEq, and_true] at e; rw [e.2]; exact h1)
  obtain ⟨ck, hck⟩ : ∃ ck, ck = checkM m := ⟨_, rfl⟩
  rw [← hck] at C1 hc ⊢
  have hb0 : (ck == 0) = false := beq_eq_false_iff_ne.2 hc
  have hb1 : (ck != 0) = true := by rw [bne, hb0]; rfl
  have HK := Lib.hid hck
  have HB1 := Lib.hid k1
  have HWW := Lib.hid hW
  have HF := Lib.hid hf
  clear hm hc hck k1 hW hf y1 ez0 ez9
  go_enter Tryd.func7, Tryd.ntmps7
  go_upto_region 1 with (simp only [show w.alloc (.cells #[.slice p0 l0 c0, .slice p9 l9 c9] 25) = W from HWW.out.symm])
  go_wp2_with fail
  refine C1.out.mono ?_
  rintro e w1 ⟨rfl, hB⟩
  have z0 := cell_stays hB x0
  have z1 := cell_stays hB x1
  have C2 := Lib.hid (rcheck_any (rModel_stays _ _ _ _ hB HM.out) HF.out)
  rw [← HK.out] at C2
  have HB2 := Lib.hid (below_two HB1.out hB)
  clear hB x0 x1
  go_wp2_with fail
  refine C2.out.mono ?_
  rintro e w2 ⟨rfl, hB⟩
  have HB3 := Lib.hid (below_two HB2.out hB)
  clear hB
  go_wp2_with fail
  go_ret2
  exact ⟨rfl, HB3.out⟩
set_option maxHeartbeats 8000000 in
theorem text_good {bv gv : Value} {m : PModel} (hm : rModel w [bv, gv] m) (hf : Few m) (hc : checkM m = 0) :
    Calls Tryd.prog 7 #[.agg #[bv, gv]] w fun e w' => e = .returned (.tuple #[.string ⟨(if 4000 < (textL (nmT (namesM m)) m).length then [] else textL (nmT (namesM m)) m).toArray⟩, .int .i64 (if 4000 < (textL (nmT (namesM m)) m).length then 5 else 0)]) ∧ Below w.heap.size w w' := by
  obtain ⟨W, hW⟩ : ∃ W, W = w.alloc (.cells #[bv, gv] 25) := ⟨_, rfl⟩
  have k1 : Below w.heap.size w W := by rw [hW]; exact (Below.refl _ w).alloc (Nat.le_refl _) _
  have y1 : W.heap[w.heap.size]? = some (.cells #[bv, gv] 25) := by rw [hW]; exact heap_alloc_new w _
  have hmW := rModel_stays _ _ _ _ k1 hm
  have HM := Lib.hid hmW
  have C1 := Lib.hid (rcheck_any HM.out hf)
  rw [hc] at C1
  have V1 := Lib.hid (fun (U : World) (hU : rModel U [bv, gv] m) => vars_any hU (by have := hf.blocks; omega) (fun x hx => hf.vars x hx) (by have := hf.few; omega))
  have TM := Lib.hid (text_may hc)
  have hfin := text_eq (nmT (namesM m)) m
  obtain ⟨nm, hnm⟩ : ∃ nm, nm = nmT (namesM m) := ⟨_, rfl⟩
  have HCB := Lib.hid (text_may hc).cons
  have HCG := Lib.hid (text_may hc).goal
  rw [← hnm] at HCB HCG hfin ⊢
  have HFIN := Lib.hid hfin
  obtain ⟨R1, hR1⟩ : ∃ R1, R1 = (if 4000 < (textL nm m).length then [] else textL nm m) := ⟨_, rfl⟩
  obtain ⟨R2, hR2⟩ : ∃ R2 : Int, R2 = (if 4000 < (textL nm m).length then 5 else 0) := ⟨_, rfl⟩
  rw [← hR1, ← hR2]
  have HR1 := Lib.hid hR1
  have HR2 := Lib.hid hR2
  clear hR1 hR2
  have x0 : W.cell? ⟨w.heap.size, 0, none⟩ = some bv := cell_of_row W _ 0 _ 25 (0, 0) y1
  have x1 : W.cell? ⟨w.heap.size, 1, none⟩ = some gv := cell_of_row W _ 1 _ 25 (0, 0) y1
  have hs : Slc rBlock 3 W bv m.blocks ∧ Slc rCon 6 W gv m.goal := by
    obtain ⟨v1, v2, e, h1, h2⟩ := hmW
    simp only [List.cons.injEq, and_true] at e
    rw [e.1, e.2]
    exact ⟨h1, h2⟩
  obtain ⟨pb, bb, ob, lb, cb, rfl, ez0, sb⟩ := slc_parts hs.1
  obtain ⟨pg, bg, og, lg, cg, rfl, ez9, sg⟩ := slc_parts hs.2
  have SB := Lib.hid sb
  have SG := Lib.hid sg
  have HLB := Lib.hid ez0
  have hlb : lb ≤ 8 := by have := TM.out.fewb; omega
  have hd1000 : Hid (∀ d ∈ varsL m.blocks, d.name.length ≤ 1000) := Lib.hid (fun d hd => Nat.le_trans (TM.out.name d hd) (by decide))
  have HB1 := Lib.hid k1
  have HWW := Lib.hid hW
  have hmlt : w.heap.size < W.heap.size := (Array.getElem?_eq_some_iff.1 y1).1
  have HY := Lib.hid y1
  clear hm hmW hc hfin hnm k1 hW hf ez0 ez9 sb sg hs
  go_enter Tryd.func7, Tryd.ntmps7
  go_upto_region 1 with (simp only [show w.alloc (.cells #[.slice pb lb cb, .slice pg lg cg] 25) = W from HWW.out.symm])
  go_wp2_with fail
  refine C1.out.mono ?_
  rintro e w1 ⟨rfl, hB⟩
  have K1 := Lib.hid hB
  have z0 := cell_stays hB x0
  have z1 := cell_stays hB x1
  have VX := Lib.hid (V1.out w1 (rModel_stays _ _ _ _ hB HM.out))
  clear hB x0 x1 y1
  go_wp2_with fail
  refine VX.out.mono ?_
  rintro e w2 ⟨v, rfl, hv, hB⟩
  obtain ⟨pn, bn, on_, ln, cn, rfl, ezn, sn⟩ := slc_parts hv
  have K2 := Lib.hid (below_two K1.out hB)
  have SN := Lib.hid sn
  clear hB z0 z1 hv ezn sn
  go_wp2_with fail
  go_loopw [6, 4] (fun i o wr => ∃ (k : Nat) (O : List UInt8), k ≤ lb ∧ i = .int .i64 k ∧ o = .string ⟨O.toArray⟩ ∧ O = (m.blocks.take k).flatMap (blockL nm) ∧ O.length ≤ 50000000 * k ∧ Below w2.heap.size w2 wr) (fun i _ _ => lb - (intOf i).toNat)
  case atStart => exact ⟨0, [], by omega, rfl, rfl, by simp, by simp, Below.refl _ _⟩
  case round =>
    obtain ⟨k, O, hk, rfl, rfl, hO, hOl, hB⟩ := hrel
    obtain ⟨wo, rfl⟩ : ∃ wo, wo = wr := ⟨_, rfl⟩
    have KO := Lib.hid hB
    have KW := Lib.hid (below_two K2.out hB)
    have yy := (KW.out.block _ hmlt).trans HY.out
    have x0 : wo.cell? ⟨w.heap.size, 0, none⟩ = some (.slice pb lb cb) := cell_of_row wo _ 0 _ 25 (0, 0) yy
    have x1 : wo.cell? ⟨w.heap.size, 1, none⟩ = some (.slice pg lg cg) := cell_of_row wo _ 1 _ 25 (0, 0) yy
    by_cases hlt : k < lb
    · obtain ⟨b, v1, v2, e1, d0, d1, d2, s1, s2⟩ := rblock_at (SB.out.below rBlock_stays KW.out) hlt
      have hbm := List.mem_of_getElem? e1
      obtain rfl := SB.out.at_ (by omega)
      obtain ⟨pv, bv, ov, lv, cv, rfl, ev, sv⟩ := slc_parts s1
      obtain ⟨pc, bc, oc, lc, cc, rfl, ec, sc⟩ := slc_parts s2
      have hlv : lv ≤ 16 := by have := TM.out.fewv b hbm; omega
      have hlc : lc ≤ 16 := by have := TM.out.fewc b hbm; omega
      have HLV := Lib.hid ev
      have HLC := Lib.hid ec
      have htk : m.blocks.take (k + 1) = m.blocks.take k ++ [b] := by rw [List.take_add_one, e1]; rfl
      have hnew : (m.blocks.take (k + 1)).flatMap (blockL nm) = O ++ blockL nm b := by rw [htk, List.flatMap_append, ← hO]; simp
      have HNEW := Lib.hid hnew
      have HBM := Lib.hid hbm
      have hbb : bb < wo.heap.size := World.block_lt_of_cell? _ _ d0
      have hws : w.heap.size < wo.heap.size := Nat.lt_of_lt_of_le hmlt KW.out.size
      obtain ⟨W3, hW3⟩ : ∃ W3, W3 = wo.alloc (.cells #[.bool b.all, .slice pv lv cv, .slice pc lc cc] 44) := ⟨_, rfl⟩
      have k3 : Below wo.heap.size wo W3 := by rw [hW3]; exact (Below.refl _ wo).alloc (Nat.le_refl _) _
      have y3 : W3.heap[wo.heap.size]? = some (.cells #[.bool b.all, .slice pv lv cv, .slice pc lc cc] 44) := by rw [hW3]; exact heap_alloc_new wo _
      have HW3 := Lib.hid hW3
      have K3 := Lib.hid k3
      have Y3 := Lib.hid y3
      have SV := Lib.hid (sv.below rDecl_stays k3)
      have SC := Lib.hid (sc.below rCon_stays k3)
      have SN3 := Lib.hid (SN.out.below rDecl_stays (below_two KO.out k3))
      obtain ⟨ba, hba⟩ : ∃ ba, ba = b.all := ⟨_, rfl⟩
      rw [← hba] at d0 hW3 HW3 y3 Y3
      have HBA := Lib.hid hba
      clear e1 ev ec s1 s2 sv sc htk hnew hO hB hbm yy hW3 k3 y3 hba
      go_upto_region 9 with fail
      rw [← HW3.out]
      have hdl : wo.heap.size < W3.heap.size := (Array.getElem?_eq_some_iff.1 Y3.out).1
      have q0 : W3.cell? ⟨wo.heap.size, 0, none⟩ = some (.bool ba) := cell_of_row W3 _ 0 _ 44 (0, 0) Y3.out
      go_upto_if 31 with (fail)
      have cF := cat_str O [102, 111, 114, 97, 108, 108] (by simp; omega)
      have cE := cat_str O [101, 120, 105, 115, 116, 115] (by simp; omega)
      obtain ⟨O1, hO1⟩ : ∃ O1, O1 = O ++ (if ba = true then Pa.tForall else Pa.tExists) := ⟨_, rfl⟩
      have hO1l : O1.length ≤ O.length + 6 := by rw [hO1, List.length_append]; cases ba <;> simp [Pa.tForall, Pa.tExists]
      have HO1 := Lib.hid hO1
      clear hO1
      go_cut [4] (fun o wx => o = .string ⟨O1.toArray⟩ ∧ wx = W3)
      case first =>
        cases ba
        · go_wp2_with fail
          go_meet
          case rel => exact ⟨by rw [HO1.out]; rfl, rfl⟩
        · go_wp2_with fail
          go_meet
          case rel => exact ⟨by rw [HO1.out]; rfl, rfl⟩
      case rest =>
        obtain ⟨rfl, hwc⟩ := hcut
        rw [hwc]
        clear hwc cF cE q0
        go_wp2_with fail
        go_loopw [8, 4] (fun i o wr => ∃ (j : Nat) (P : List UInt8), j ≤ lv ∧ i = .int .i64 j ∧ o = .string ⟨P.toArray⟩ ∧ P = O1 ++ spT (declsT (b.vars.take j)) ∧ P.length ≤ O1.length + 4000 * j ∧ Below W3.heap.size W3 wr) (fun i _ _ => lv - (intOf i).toNat)
        case atStart => exact ⟨0, O1, by omega, rfl, rfl, by simp [declsT, spT], by omega, Below.refl _ _⟩
        case round =>
          obtain ⟨j, P, hj, rfl, rfl, hP, hPl, hB⟩ := hrel
          obtain ⟨wp, rfl⟩ : ∃ wp, wp = wr := ⟨_, rfl⟩
          have KP := Lib.hid hB
          have yp := (hB.block _ hdl).trans Y3.out
          have YP := Lib.hid yp
          have q0 : wp.cell? ⟨wo.heap.size, 0, none⟩ = some (.bool ba) := cell_of_row wp _ 0 _ 44 (0, 0) yp
          have q1 : wp.cell? ⟨wo.heap.size, 1, none⟩ = some (.slice pv lv cv) := cell_of_row wp _ 1 _ 44 (0, 0) yp
          have q2 : wp.cell? ⟨wo.heap.size, 2, none⟩ = some (.slice pc lc cc) := cell_of_row wp _ 2 _ 44 (0, 0) yp
          have hdp : wo.heap.size < wp.heap.size := Nat.lt_of_lt_of_le hdl hB.size
          by_cases hlt2 : j < lv
          · obtain ⟨d, s, u, e1, n0, n1, en, sdom⟩ := decl_at (SV.out.below rDecl_stays hB) hlt2
            have hdm := List.mem_of_getElem? e1
            have hdL : d ∈ varsL m.blocks := List.mem_flatMap.2 ⟨b, HBM.out, hdm⟩
            obtain ⟨hnum, hdl64⟩ := TM.out.doms b HBM.out d hdm
            have hdn := TM.out.name d hdL
            have hs : s = ⟨d.name.toArray⟩ := by rw [← en]
            rw [hs] at n0
            obtain rfl := SV.out.at_ (by omega)
            obtain ⟨pd, bd, od, ld, cd, rfl, ed, sd⟩ := slc_parts sdom
            have hbv : bv < wp.heap.size := World.block_lt_of_cell? _ _ n0
            have hld : ld ≤ 64 := by omega
            have HLD := Lib.hid ed
            have SD := Lib.hid sd
            have HNUM := Lib.hid hnum
            have htk : b.vars.take (j + 1) = b.vars.take j ++ [d] := by rw [List.take_add_one, e1]; rfl
            have hj0e : b.vars.take j = [] ↔ j = 0 := by
              rw [List.take_eq_nil_iff]
              constructor
              · rintro (q | q)
                · exact q
                · rw [q] at e1; simp at e1
              · exact fun q => .inl q
            have hnew : O1 ++ spT (declsT (b.vars.take (j + 1))) = (P ++ (if j = 0 then [] else [32, 44])) ++ (((32 :: d.name) ++ [32, 105, 110]) ++ spT (d.dom.flatMap spanT)) := by
              rw [htk, hP]
              by_cases h0 : j = 0
              · rw [if_pos h0, hj0e.2 h0]
                simp [declsT, declT, spT, tW, Pa.tIn]
              · rw [if_neg h0, decls_snoc _ _ (fun e => h0 (hj0e.1 e))]
                simp [declT, spT, tW, tM, Pa.tIn, Pa.tComma]
            have HNW := Lib.hid hnew
            clear e1 hdm hdL hnum en hs sdom ed sd htk hj0e hnew hP hB
            go_upto_if 44 with (fail)
            have cC := cat_str P [32, 44] (by simp; omega)
            obtain ⟨P1, hP1⟩ : ∃ P1, P1 = P ++ (if j = 0 then [] else [32, 44]) := ⟨_, rfl⟩
            have hP1l : P1.length ≤ P.length + 2 := by rw [hP1, List.length_append]; split <;> simp
            have HP1 := Lib.hid hP1
            have HJ := Lib.hid hj
            clear hP1
            go_cut [4] (fun o wx => o = .string ⟨P1.toArray⟩ ∧ wx = wp)
            case first =>
              by_cases h0 : j = 0
              · have h1 : ¬ (0 : Int) < (j : Int) := by omega
                have h2 : (j : Int) ≤ 0 := by omega
                have h3 : P1 = P := by rw [HP1.out, if_pos h0, List.append_nil]
                have H3 := Lib.hid h3
                clear h0 h3
                go_wp2_with fail
                go_meet
                case rel => exact ⟨by rw [H3.out], rfl⟩
              · have h1 : (0 : Int) < (j : Int) := by omega
                have h3 : P1 = P ++ [32, 44] := by rw [HP1.out, if_neg h0]
                have H3 := Lib.hid h3
                clear h0 h3
                go_wp2_with fail
                go_meet
                case rel => exact ⟨by rw [H3.out], rfl⟩
            case rest =>
              obtain ⟨rfl, hwc⟩ := hcut
              rw [hwc]
              clear hwc cC
              have c2 := cat_str P1 [32] (by first | omega | (simp only [List.length_append, List.length_cons, List.length_nil] at *; omega))
              obtain ⟨P2, o2⟩ : ∃ x, x = P1 ++ [32] := ⟨_, rfl⟩
              have l2 : P2.length = P1.length + ([32] : List UInt8).length := by rw [o2, List.length_append]
              rw [← o2] at c2
              have c3 := cat_str P2 d.name (by first | omega | (simp only [List.length_append, List.length_cons, List.length_nil] at *; omega))
              obtain ⟨P3, o3⟩ : ∃ x, x = P2 ++ d.name := ⟨_, rfl⟩
              have l3 : P3.length = P2.length + (d.name : List UInt8).length := by rw [o3, List.length_append]
              rw [← o3] at c3
              have c4 := cat_str P3 [32, 105, 110] (by first | omega | (simp only [List.length_append, List.length_cons, List.length_nil] at *; omega))
              obtain ⟨P4, o4⟩ : ∃ x, x = P3 ++ [32, 105, 110] := ⟨_, rfl⟩
              have l4 : P4.length = P3.length + ([32, 105, 110] : List UInt8).length := by rw [o4, List.length_append]
              rw [← o4] at c4
              have HP4 := Lib.hid (show P4 = P1 ++ ((32 :: d.name) ++ [32, 105, 110]) by rw [o4, o3, o2]; simp)
              have hP4l : P4.length ≤ P1.length + 20 := by simp only [List.length_append, List.length_cons, List.length_nil] at *; omega
              clear o2 o3 o4 l2 l3 l4
              go_wp2_with fail
              go_loopw [9, 4] (fun i o wr => ∃ (q : Nat) (Q : List UInt8), q ≤ ld ∧ i = .int .i64 q ∧ o = .string ⟨Q.toArray⟩ ∧ Q = P4 ++ spT ((d.dom.take q).flatMap spanT) ∧ Q.length ≤ P4.length + 50 * q ∧ Below wp.heap.size wp wr) (fun i _ _ => ld - (intOf i).toNat)
              case atStart => exact ⟨0, P4, by omega, rfl, rfl, by simp [spT], by omega, Below.refl _ _⟩
              case round =>
                obtain ⟨q, Q, hq, rfl, rfl, hQ, hQl, hB⟩ := hrel
                obtain ⟨wq, rfl⟩ : ∃ wq, wq = wr := ⟨_, rfl⟩
                have KQ := Lib.hid hB
                have yq := (hB.block _ hdp).trans YP.out
                have g0 : wq.cell? ⟨wo.heap.size, 0, none⟩ = some (.bool ba) := cell_of_row wq _ 0 _ 44 (0, 0) yq
                have g1 : wq.cell? ⟨wo.heap.size, 1, none⟩ = some (.slice (some ⟨bv, ov, none⟩) lv cv) := cell_of_row wq _ 1 _ 44 (0, 0) yq
                have g2 : wq.cell? ⟨wo.heap.size, 2, none⟩ = some (.slice pc lc cc) := cell_of_row wq _ 2 _ 44 (0, 0) yq
                have m0 := cell_stays hB n0
                have m1 := cell_stays hB n1
                have hdq : wo.heap.size < wq.heap.size := Nat.lt_of_lt_of_le hdp hB.size
                have hbq : bv < wq.heap.size := Nat.lt_of_lt_of_le hbv hB.size
                by_cases hlt3 : q < ld
                · obtain ⟨p, e1, s0, s1⟩ := rspan_at (SD.out.below rSpan_stays hB) hlt3
                  have hpn := HNUM.out p (List.mem_of_getElem? e1)
                  have htk : d.dom.take (q + 1) = d.dom.take q ++ [p] := by rw [List.take_add_one, e1]; rfl
                  obtain rfl := SD.out.at_ (by omega)
                  obtain ⟨lo, hi⟩ := p
                  simp only at s0 s1 hpn
                  have b1 : lo.natAbs ≤ 1000000000000000000 := by have := hpn.1; unfold Num Sc.mostV at this; omega
                  have b2 : hi.natAbs ≤ 1000000000000000000 := by have := hpn.2; unfold Num Sc.mostV at this; omega
                  have NX1 := Lib.hid (fun U => number_any lo U (by omega))
                  have NX2 := Lib.hid (fun U => number_any hi U (by omega))
                  have t1 := numT_long b1
                  have t2 := numT_long b2
                  have hnew : P4 ++ spT ((d.dom.take (q + 1)).flatMap spanT) = (Q ++ spT (numT lo)) ++ (if hi = lo then [] else [32, 46, 46] ++ spT (numT hi)) := by
                    rw [htk, List.flatMap_append, sp_app, hQ]
                    by_cases h : hi = lo
                    · simp [spanT, h, spT]
                    · simp [spanT, h, spT, tM, Pa.tDots]
                  have HNS := Lib.hid hnew
                  obtain ⟨N1, hN1⟩ : ∃ x, x = spT (numT lo) := ⟨_, rfl⟩
                  obtain ⟨N2, hN2⟩ : ∃ x, x = spT (numT hi) := ⟨_, rfl⟩
                  rw [← hN1] at NX1 t1 HNS
                  rw [← hN2] at NX2 t2 HNS
                  clear hnew hN1 hN2 htk e1 hpn hQ yq
                  have c5 := cat_str Q N1 (by first | omega | (simp only [List.length_append, List.length_cons, List.length_nil] at *; omega))
                  obtain ⟨Q5, o5⟩ : ∃ x, x = Q ++ N1 := ⟨_, rfl⟩
                  have l5 : Q5.length = Q.length + (N1 : List UInt8).length := by rw [o5, List.length_append]
                  rw [← o5] at c5
                  by_cases heq : hi = lo
                  · have hq1 : (hi == lo) = true := beq_iff_eq.2 heq
                    have hq2 : (hi != lo) = false := by rw [bne, hq1]; rfl
                    have HEQ := Lib.hid (show Q5 = P4 ++ spT ((d.dom.take (q + 1)).flatMap spanT) by rw [HNS.out, if_pos heq, o5, List.append_nil])
                    have HLN := Lib.hid (show Q5.length ≤ P4.length + 50 * (q + 1) by omega)
                    clear o5 l5 heq hB hQl
                    go_wp2_with fail
                    refine (NX1.out _).mono ?_
                    rintro e w6 ⟨rfl, hB6⟩
                    have y6 := (hB6.block wq.heap.size (by simp)).trans (heap_alloc_new wq _)
                    have s2 : w6.cell? ⟨wq.heap.size, 0, none⟩ = some (.int .i64 lo) := cell_of_row w6 _ 0 _ 60 (0, 0) y6
                    have s3 : w6.cell? ⟨wq.heap.size, 1, none⟩ = some (.int .i64 hi) := cell_of_row w6 _ 1 _ 60 (0, 0) y6
                    have KB := Lib.hid (below_two (below_two KQ.out ((Below.refl _ wq).alloc (Nat.le_refl _) _)) hB6)
                    clear hB6 y6
                    go_wp2_with fail
                    go_roundw
                    case rel => exact ⟨q + 1, Q5, by omega, by go_num, rfl, HEQ.out, HLN.out, KB.out⟩
                    case measure => simp [intOf]; omega
                  · have hq1 : (hi == lo) = false := beq_eq_false_iff_ne.2 heq
                    have hq2 : (hi != lo) = true := by rw [bne, hq1]; rfl
                    have c6 := cat_str Q5 [32, 46, 46] (by first | omega | (simp only [List.length_append, List.length_cons, List.length_nil] at *; omega))
                    obtain ⟨Q6, o6⟩ : ∃ x, x = Q5 ++ [32, 46, 46] := ⟨_, rfl⟩
                    have l6 : Q6.length = Q5.length + ([32, 46, 46] : List UInt8).length := by rw [o6, List.length_append]
                    rw [← o6] at c6
                    have c7 := cat_str Q6 N2 (by first | omega | (simp only [List.length_append, List.length_cons, List.length_nil] at *; omega))
                    obtain ⟨Q7, o7⟩ : ∃ x, x = Q6 ++ N2 := ⟨_, rfl⟩
                    have l7 : Q7.length = Q6.length + (N2 : List UInt8).length := by rw [o7, List.length_append]
                    rw [← o7] at c7
                    have HEQ := Lib.hid (show Q7 = P4 ++ spT ((d.dom.take (q + 1)).flatMap spanT) by rw [HNS.out, if_neg heq, o7, o6, o5]; simp)
                    have HLN := Lib.hid (show Q7.length ≤ P4.length + 50 * (q + 1) by first | omega | (simp only [List.length_append, List.length_cons, List.length_nil] at *; omega))
                    clear o5 l5 o6 l6 o7 l7 heq hB hQl
                    go_wp2_with fail
                    refine (NX1.out _).mono ?_
                    rintro e w6 ⟨rfl, hB6⟩
                    have y6 := (hB6.block wq.heap.size (by simp)).trans (heap_alloc_new wq _)
                    have s2 : w6.cell? ⟨wq.heap.size, 0, none⟩ = some (.int .i64 lo) := cell_of_row w6 _ 0 _ 60 (0, 0) y6
                    have s3 : w6.cell? ⟨wq.heap.size, 1, none⟩ = some (.int .i64 hi) := cell_of_row w6 _ 1 _ 60 (0, 0) y6
                    have KB := Lib.hid (below_two (below_two KQ.out ((Below.refl _ wq).alloc (Nat.le_refl _) _)) hB6)
                    clear hB6 y6
                    go_wp2_with fail
                    refine (NX2.out _).mono ?_
                    rintro e w7 ⟨rfl, hB7⟩
                    have KB7 := Lib.hid (below_two KB.out hB7)
                    clear hB7
                    go_wp2_with fail
                    go_roundw
                    case rel => exact ⟨q + 1, Q7, by omega, by go_num, rfl, HEQ.out, HLN.out, KB7.out⟩
                    case measure => simp [intOf]; omega
                · obtain rfl : q = ld := by omega
                  have hfull : d.dom.take q = d.dom := List.take_of_length_le (by have := HLD.out; omega)
                  rw [hfull] at hQ
                  have HEQ := Lib.hid (show Q = O1 ++ spT (declsT (b.vars.take (j + 1))) by rw [HNW.out, hQ, HP4.out, HP1.out]; simp)
                  have HLN := Lib.hid (show Q.length ≤ O1.length + 4000 * (j + 1) by omega)
                  have HBN := Lib.hid (below_two KP.out KQ.out)
                  clear hQ hQl hB hfull yq
                  go_wp2_with fail
                  go_roundw
                  case rel => exact ⟨j + 1, Q, by omega, by go_num, rfl, HEQ.out, HLN.out, HBN.out⟩
                  case measure => simp [intOf]; omega
          · obtain rfl : j = lv := by omega
            have hfull : b.vars.take j = b.vars := List.take_of_length_le (by have := HLV.out; omega)
            rw [hfull] at hP
            by_cases hlc0 : lc = 0
            · have hcn : b.cons = [] := List.eq_nil_of_length_eq_zero (by have := HLC.out; omega)
              have h1 : ¬ (0 : Int) < (lc : Int) := by omega
              have h2 : (lc : Int) ≤ 0 := by omega
              have c5 := cat_str P [32, 59, 10] (by first | omega | (simp only [List.length_append, List.length_cons, List.length_nil] at *; omega))
              obtain ⟨P5, o5⟩ : ∃ x, x = P ++ [32, 59, 10] := ⟨_, rfl⟩
              have l5 : P5.length = P.length + ([32, 59, 10] : List UInt8).length := by rw [o5, List.length_append]
              rw [← o5] at c5
              have HEQ := Lib.hid (show P5 = (m.blocks.take (k + 1)).flatMap (blockL nm) by rw [HNEW.out, o5, hP, HO1.out]; unfold blockL; rw [if_pos hcn, HBA.out]; simp)
              have HLN := Lib.hid (show P5.length ≤ 50000000 * (k + 1) by first | omega | (simp only [List.length_append, List.length_cons, List.length_nil] at *; omega))
              have HBN := Lib.hid (below_two KO.out (below_two K3.out KP.out))
              clear o5 l5 hlc0 hcn hP hPl hOl hB hfull yp
              go_wp2_with fail
              go_roundw
              case rel => exact ⟨k + 1, P5, by omega, by go_num, rfl, HEQ.out, HLN.out, HBN.out⟩
              case measure => simp [intOf]; omega
            · have hcn : b.cons ≠ [] := fun e => hlc0 (by rw [HLC.out, e]; rfl)
              have h1 : (0 : Int) < (lc : Int) := by omega
              have LX := Lib.hid (list_any (cl := cc) (cn := cn) (SC.out.below rCon_stays hB) (SN3.out.below rDecl_stays hB) hd1000.out (HCB.out b HBM.out) (by have := TM.out.fewc b HBM.out; omega))
              have hll := list_long hd1000.out b.cons (HCB.out b HBM.out)
              have hcl := TM.out.fewc b HBM.out
              obtain ⟨A, hA⟩ : ∃ A, A = spT (listT nm b.cons) := ⟨_, rfl⟩
              rw [← hA] at LX hll
              have c5 := cat_str P [32, 119, 104, 101, 114, 101] (by first | omega | (simp only [List.length_append, List.length_cons, List.length_nil] at *; omega))
              obtain ⟨P5, o5⟩ : ∃ x, x = P ++ [32, 119, 104, 101, 114, 101] := ⟨_, rfl⟩
              have l5 : P5.length = P.length + ([32, 119, 104, 101, 114, 101] : List UInt8).length := by rw [o5, List.length_append]
              rw [← o5] at c5
              have c6 := cat_str P5 A (by first | omega | (simp only [List.length_append, List.length_cons, List.length_nil] at *; omega))
              obtain ⟨P6, o6⟩ : ∃ x, x = P5 ++ A := ⟨_, rfl⟩
              have l6 : P6.length = P5.length + (A : List UInt8).length := by rw [o6, List.length_append]
              rw [← o6] at c6
              have c7 := cat_str P6 [32, 59, 10] (by first | omega | (simp only [List.length_append, List.length_cons, List.length_nil] at *; omega))
              obtain ⟨P7, o7⟩ : ∃ x, x = P6 ++ [32, 59, 10] := ⟨_, rfl⟩
              have l7 : P7.length = P6.length + ([32, 59, 10] : List UInt8).length := by rw [o7, List.length_append]
              rw [← o7] at c7
              have HEQ := Lib.hid (show P7 = (m.blocks.take (k + 1)).flatMap (blockL nm) by rw [HNEW.out, o7, o6, o5, hP, HO1.out, hA]; unfold blockL; rw [if_neg hcn, HBA.out]; simp)
              have HLN := Lib.hid (show P7.length ≤ 50000000 * (k + 1) by first | omega | (simp only [List.length_append, List.length_cons, List.length_nil] at *; omega))
              have HBN := Lib.hid (below_two KO.out (below_two K3.out KP.out))
              clear o5 l5 o6 l6 o7 l7 hlc0 hcn hP hPl hOl hB hfull yp hll hcl hA
              go_wp2_with fail
              refine LX.out.mono ?_
              rintro e w5 ⟨rfl, hB⟩
              have HB5 := Lib.hid (below_two HBN.out hB)
              clear hB
              go_wp2_with fail
              go_roundw
              case rel => exact ⟨k + 1, P7, by omega, by go_num, rfl, HEQ.out, HLN.out, HB5.out⟩
              case measure => simp [intOf]; omega
    · obtain rfl : k = lb := by omega
      have hfull : m.blocks.take k = m.blocks := List.take_of_length_le (by have := HLB.out; omega)
      rw [hfull] at hO
      have LX := Lib.hid (list_any (cl := cg) (cn := cn) (SG.out.below rCon_stays KW.out) (SN.out.below rDecl_stays KO.out) hd1000.out HCG.out (Nat.le_trans TM.out.fewg (by decide)))
      have hll := list_long hd1000.out m.goal HCG.out
      have hgl := TM.out.fewg
      obtain ⟨A, hA⟩ : ∃ A, A = spT (listT nm m.goal) := ⟨_, rfl⟩
      rw [← hA] at LX hll
      have c1 := cat_str O [103, 111, 97, 108] (by first | omega | (simp only [List.length_append, List.length_cons, List.length_nil] at *; omega))
      obtain ⟨O1, o1⟩ : ∃ x, x = O ++ [103, 111, 97, 108] := ⟨_, rfl⟩
      have l1 : O1.length = O.length + ([103, 111, 97, 108] : List UInt8).length := by rw [o1, List.length_append]
      rw [← o1] at c1
      have c2 := cat_str O1 A (by first | omega | (simp only [List.length_append, List.length_cons, List.length_nil] at *; omega))
      obtain ⟨O2, o2⟩ : ∃ x, x = O1 ++ A := ⟨_, rfl⟩
      have l2 : O2.length = O1.length + (A : List UInt8).length := by rw [o2, List.length_append]
      rw [← o2] at c2
      have c3 := cat_str O2 [32, 59, 10] (by first | omega | (simp only [List.length_append, List.length_cons, List.length_nil] at *; omega))
      obtain ⟨O3, o3⟩ : ∃ x, x = O2 ++ [32, 59, 10] := ⟨_, rfl⟩
      have l3 : O3.length = O2.length + ([32, 59, 10] : List UInt8).length := by rw [o3, List.length_append]
      rw [← o3] at c3
      have HO3 := Lib.hid (show O3 = textL nm m by rw [HFIN.out, o3, o2, o1, hO, hA]; simp)
      have hbnd : O3.length ≤ 1000000000 := by simp only [List.length_append, List.length_cons, List.length_nil] at *; omega
      clear o1 o2 o3 l1 l2 l3 hO hOl hB hfull hA hll hgl yy
      go_wp2_with fail
      refine LX.out.mono ?_
      rintro e w5 ⟨rfl, hB⟩
      have HB5 := Lib.hid (below_two (below_two HB1.out KW.out) hB)
      clear hB
      have hsz : (((⟨O3.toArray⟩ : ByteArray).size : Nat) : Int) = (O3.length : Int) := by simp [ByteArray.size]
      by_cases hbig : 4000 < O3.length
      · have hb1 : (4000 : Int) < (O3.length : Int) := by omega
        go_wp2_with fail
        go_ret2
        have q1 : R1 = [] := by rw [HR1.out, ← HO3.out, if_pos hbig]
        have q2 : R2 = 5 := by rw [HR2.out, ← HO3.out, if_pos hbig]
        rw [q1, q2]
        exact ⟨rfl, HB5.out⟩
      · have hb1 : ¬ (4000 : Int) < (O3.length : Int) := by omega
        go_wp2_with fail
        go_ret2
        have q1 : R1 = O3 := by rw [HR1.out, ← HO3.out, if_neg hbig]
        have q2 : R2 = 0 := by rw [HR2.out, ← HO3.out, if_neg hbig]
        rw [q1, q2]
        exact ⟨rfl, HB5.out⟩
theorem rtext_any {bv gv : Value} {m : PModel} (hm : rModel w [bv, gv] m) (hf : Few m) :
    Calls Tryd.prog 7 #[.agg #[bv, gv]] w fun e w' => e = .returned (.tuple #[.string ⟨(textA m).1.toArray⟩, .int .i64 (textA m).2]) ∧ Below w.heap.size w w' := by
  unfold textA
  by_cases h : checkM m = 0
  · simp only [if_pos h]
    have := text_good hm hf h
    by_cases hb : 4000 < (textL (nmT (namesM m)) m).length
    · simp only [if_pos hb] at this ⊢
      exact this
    · simp only [if_neg hb] at this ⊢
      exact this
  · simp only [if_neg h]
    exact text_bad hm hf h
end
end Go.Proofs.YtkgieaoahijheaaDoor.Wt
