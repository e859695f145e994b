/-
  Constraints of names and of numbers in brackets, of the document's answers for texts of models.
  A constraint's tokens, of the document's answers for texts of models: every kind.
-/
import Derived.Test.YtkgieaoahijheaaDoorZWConR
namespace Go.Proofs.YtkgieaoahijheaaDoor.Wt
open Go.RowKit
open Sc (Tok)
set_option maxRecDepth 100000

section
variable {nm : Int → Tok} {w w' : World} {pv : Option Addr} {bv ov lv cv : Nat} {po : Option Addr} {bo oo lo co : Nat} {pn : Option Addr} {bn on_ ln cn : Nat} {vs ns : List Int} {L : List PDecl}
/-- names of variables, and numbers, in memory -/
structure RestArgs (w : World) (nm : Int → Tok) (pv : Option Addr) (bv ov lv : Nat) (po : Option Addr) (bo oo lo : Nat) (pn : Option Addr) (bn on_ ln : Nat) (vs ns : List Int) (L : List PDecl) : Prop where
  vars : Nums w pv bv ov lv vs
  nums : Nums w po bo oo lo ns
  names : SliceOf rDecl 2 w pn bn on_ ln L
  few : vs.length ≤ 1000
  fewn : ns.length ≤ 1000
  low : ∀ v ∈ vs, 0 ≤ v ∧ v.toNat < L.length
  nm_ : ∀ v ∈ vs, (nm v).text = (L.getD v.toNat ⟨[], []⟩).name
  name : ∀ d ∈ L, d.name.length ≤ 1000
  num : ∀ k ∈ ns, k.natAbs ≤ 1000000000000000000
theorem RestArgs.below (h : RestArgs w nm pv bv ov lv po bo oo lo pn bn on_ ln vs ns L) (hB : Below w.heap.size w w') : RestArgs w' nm pv bv ov lv po bo oo lo pn bn on_ ln vs ns L :=
  ⟨h.vars.below hB, h.nums.below hB, h.names.below rDecl_stays hB, h.few, h.fewn, h.low, h.nm_, h.name, h.num⟩
/-- the variable at hand -/
theorem RestArgs.at_ (h : RestArgs w nm pv bv ov lv po bo oo lo pn bn on_ ln vs ns L) {k : Nat} (hk : k < lv) : ∃ (vi : Nat) (d : PDecl), pv = some ⟨bv, ov, none⟩ ∧ pn = some ⟨bn, on_, none⟩ ∧ w.cell? ⟨bv, ov + k, none⟩ = some (.int .i64 (vi : Int)) ∧ w.cell? ⟨bn, on_ + vi * 2, none⟩ = some (.string ⟨d.name.toArray⟩) ∧ vi < ln ∧ d.name.length ≤ 1000 ∧ spT ((vs.take (k + 1)).map nm) = spT ((vs.take k).map nm) ++ (32 :: d.name) := by
  have hkv : k < vs.length := by have := h.vars.long; omega
  obtain ⟨v, hv⟩ : ∃ v, v = vs.getD k 0 := ⟨_, rfl⟩
  have hv2 : vs[k]? = some v := by rw [hv, List.getD_eq_getElem?_getD, List.getElem?_eq_getElem hkv]; rfl
  have hvm : v ∈ vs := List.mem_of_getElem? hv2
  have vc := h.vars.cell k hk
  rw [← hv] at vc
  obtain ⟨vl0, vl1⟩ := h.low v hvm
  have hll := h.names.long
  obtain ⟨d, s, x, e1, e2, e3, e4, e5⟩ := decl_at h.names (k := v.toNat) (by omega)
  have hs : s = ⟨d.name.toArray⟩ := by rw [← e4]
  rw [hs] at e2
  have hnt : (nm v).text = d.name := by rw [h.nm_ v hvm, List.getD_eq_getElem?_getD, e1]; rfl
  refine ⟨v.toNat, d, h.vars.at_ (by omega), h.names.at_ (by omega), ?_, e2, by omega, h.name d (List.mem_of_getElem? e1), ?_⟩
  · rw [vc, show ((v.toNat : Nat) : Int) = v by omega]
  · rw [List.take_add_one, hv2, List.map_append, sp_app, ← hnt]
    simp [spT]
set_option maxHeartbeats 8000000 in
theorem con_product (h : RestArgs w nm pv bv ov lv po bo oo lo pn bn on_ ln vs ns L) (v2 : Value) :
    Calls Tryd.prog 12 #[.agg #[.int .i64 2, .slice pv lv cv, v2, .int .i64 0, .int .i64 0, .slice po lo co], .slice pn ln cn] w fun e w' => e = .returned (.string ⟨(spT (tW Pa.tProduct :: (vs.map nm ++ []))).toArray⟩) ∧ Below w.heap.size w w' := by
  have HW := Lib.hid (conW_is w 2 (.slice pv lv cv) v2 0 0 (.slice po lo co))
  obtain ⟨W, hW⟩ : ∃ W, W = conW w 2 (.slice pv lv cv) v2 0 0 (.slice po lo co) := ⟨_, rfl⟩
  rw [← hW] at HW
  obtain ⟨x0, x1, x2, x3, x4, x5⟩ := HW.out.cell
  have y0 := (HW.out.rel (r := 0) (by decide)).1
  rw [show (⟨w.heap.size + 1, ((0 : Nat) : Nat), none⟩ : Addr) = ⟨w.heap.size + 1, 0, none⟩ from rfl] at y0
  have H := Lib.hid (h.below HW.out.low)
  have hbs : w.heap.size < W.heap.size := (Array.getElem?_eq_some_iff.1 HW.out.box).1
  have HWW := Lib.hid hW
  have hfew := h.few
  have hlv := h.vars.long
  have hl1000 : lv ≤ 1000 := by omega
  have HL := Lib.hid hlv
  have hlo : lo ≤ 1000 := by have := h.nums.long; have := h.fewn; omega
  clear h hW hlv hfew
  go_enter Tryd.func12, Tryd.ntmps12
  go_upto_region 2 with (simp only [show ((w.alloc (.cells #[.int .i64 2, .slice pv lv cv, v2, .int .i64 0, .int .i64 0, .slice po lo co] 28)).alloc (.cells #[.string ⟨#[32, 61]⟩, .string ⟨#[32, 33, 61]⟩, .string ⟨#[32, 60]⟩, .string ⟨#[32, 60, 61]⟩, .string ⟨#[32, 62]⟩, .string ⟨#[32, 62, 61]⟩] 9)) = W from HWW.out.symm])
  clear HWW
  go_upto_region 7 with fail
  obtain ⟨W2, hW2⟩ : ∃ W2, W2 = W.alloc (.cells #[.string ⟨#[]⟩, .string ⟨#[]⟩, .string ⟨#[32, 112, 114, 111, 100, 117, 99, 116]⟩, .string ⟨#[]⟩, .string ⟨#[32, 101, 108, 101, 109, 101, 110, 116]⟩, .string ⟨#[32, 100, 105, 102, 102, 101, 114, 101, 110, 116]⟩, .string ⟨#[32, 116, 97, 98, 108, 101]⟩] 9) := ⟨_, rfl⟩
  have k2 : Below W.heap.size W W2 := by rw [hW2]; exact (Below.refl _ W).alloc (Nat.le_refl _) _
  rw [← hW2]
  have H2 := Lib.hid (H.out.below k2)
  have HC := Lib.hid (HW.out.on k2)
  clear x0 x1 x2 x3 x4 x5 y0 H k2 hW2 HW
  go_wp2_with fail
  go_loopw [7, 6] (fun i o wr => ∃ (j : Nat) (O : List UInt8), j ≤ lv ∧ i = .int .i64 j ∧ o = .string ⟨O.toArray⟩ ∧ O = [32, 112, 114, 111, 100, 117, 99, 116] ++ spT ((vs.take j).map nm) ∧ O.length ≤ 20 + 1010 * j ∧ wr = W2) (fun i _ _ => lv - (intOf i).toNat)
  case atStart => exact ⟨0, [32, 112, 114, 111, 100, 117, 99, 116], by omega, rfl, rfl, by simp [spT], by simp, rfl⟩
  case round =>
    obtain ⟨j, O, hj, rfl, rfl, hO, hOl, rfl⟩ := hrel
    obtain ⟨wo, rfl⟩ : ∃ wo, wo = wr := ⟨_, rfl⟩
    obtain ⟨x0, x1, x2, x3, x4, x5⟩ := HC.out.cell
    by_cases hlt : j < lv
    · obtain ⟨vi, d, rfl, rfl, e1, e2, e3, e4, e5⟩ := H2.out.at_ hlt
      have c1 := cat_str O [32] (by simp; omega)
      obtain ⟨O1, o1⟩ : ∃ x, x = O ++ [32] := ⟨_, rfl⟩
      have l1 : O1.length = O.length + 1 := by rw [o1, List.length_append]; rfl
      rw [← o1] at c1
      have c2 := cat_str O1 d.name (by omega)
      obtain ⟨O2, o2⟩ : ∃ x, x = O1 ++ d.name := ⟨_, rfl⟩
      have l2 : O2.length ≤ 20 + 1010 * (j + 1) := by rw [o2, List.length_append]; omega
      rw [← o2] at c2
      have HEQ := Lib.hid (show O2 = [32, 112, 114, 111, 100, 117, 99, 116] ++ spT ((vs.take (j + 1)).map nm) by rw [e5, o2, o1, hO]; simp)
      have HLN := Lib.hid l2
      clear o1 o2 l1 l2 hO hOl e4 e5
      go_wp2_with fail
      go_roundw
      case rel => exact ⟨j + 1, O2, by omega, by go_num, rfl, HEQ.out, HLN.out, trivial⟩
      case measure => simp [intOf]; omega
    · obtain rfl : j = lv := by omega
      have hfull : vs.take j = vs := List.take_of_length_le (by have := HL.out; omega)
      rw [hfull] at hO
      have HO := Lib.hid hO
      clear hO hOl hfull
      go_wp2_with fail
      go_ret
      refine ⟨?_, HC.out.low⟩
      rw [HO.out]
      simp [spT, tW, Pa.tProduct]
set_option maxHeartbeats 8000000 in
theorem con_element (h : RestArgs w nm pv bv ov lv po bo oo lo pn bn on_ ln vs ns L) (v2 : Value) :
    Calls Tryd.prog 12 #[.agg #[.int .i64 4, .slice pv lv cv, v2, .int .i64 0, .int .i64 0, .slice po lo co], .slice pn ln cn] w fun e w' => e = .returned (.string ⟨(spT (tW Pa.tElement :: (vs.map nm ++ numsT ns))).toArray⟩) ∧ Below w.heap.size w w' := by
  have HW := Lib.hid (conW_is w 4 (.slice pv lv cv) v2 0 0 (.slice po lo co))
  obtain ⟨W, hW⟩ : ∃ W, W = conW w 4 (.slice pv lv cv) v2 0 0 (.slice po lo co) := ⟨_, rfl⟩
  rw [← hW] at HW
  obtain ⟨x0, x1, x2, x3, x4, x5⟩ := HW.out.cell
  have y0 := (HW.out.rel (r := 0) (by decide)).1
  rw [show (⟨w.heap.size + 1, ((0 : Nat) : Nat), none⟩ : Addr) = ⟨w.heap.size + 1, 0, none⟩ from rfl] at y0
  have H := Lib.hid (h.below HW.out.low)
  have hbs : w.heap.size < W.heap.size := (Array.getElem?_eq_some_iff.1 HW.out.box).1
  have HWW := Lib.hid hW
  have hfew := h.few
  have hlv := h.vars.long
  have hl1000 : lv ≤ 1000 := by omega
  have HL := Lib.hid hlv
  have hlo : lo ≤ 1000 := by have := h.nums.long; have := h.fewn; omega
  clear h hW hlv hfew
  go_enter Tryd.func12, Tryd.ntmps12
  go_upto_region 2 with (simp only [show ((w.alloc (.cells #[.int .i64 4, .slice pv lv cv, v2, .int .i64 0, .int .i64 0, .slice po lo co] 28)).alloc (.cells #[.string ⟨#[32, 61]⟩, .string ⟨#[32, 33, 61]⟩, .string ⟨#[32, 60]⟩, .string ⟨#[32, 60, 61]⟩, .string ⟨#[32, 62]⟩, .string ⟨#[32, 62, 61]⟩] 9)) = W from HWW.out.symm])
  clear HWW
  go_upto_region 7 with fail
  obtain ⟨W2, hW2⟩ : ∃ W2, W2 = W.alloc (.cells #[.string ⟨#[]⟩, .string ⟨#[]⟩, .string ⟨#[32, 112, 114, 111, 100, 117, 99, 116]⟩, .string ⟨#[]⟩, .string ⟨#[32, 101, 108, 101, 109, 101, 110, 116]⟩, .string ⟨#[32, 100, 105, 102, 102, 101, 114, 101, 110, 116]⟩, .string ⟨#[32, 116, 97, 98, 108, 101]⟩] 9) := ⟨_, rfl⟩
  have k2 : Below W.heap.size W W2 := by rw [hW2]; exact (Below.refl _ W).alloc (Nat.le_refl _) _
  rw [← hW2]
  have H2 := Lib.hid (H.out.below k2)
  have HC := Lib.hid (HW.out.on k2)
  clear x0 x1 x2 x3 x4 x5 y0 H k2 hW2 HW
  go_wp2_with fail
  go_loopw [7, 6] (fun i o wr => ∃ (j : Nat) (O : List UInt8), j ≤ lv ∧ i = .int .i64 j ∧ o = .string ⟨O.toArray⟩ ∧ O = [32, 101, 108, 101, 109, 101, 110, 116] ++ spT ((vs.take j).map nm) ∧ O.length ≤ 20 + 1010 * j ∧ wr = W2) (fun i _ _ => lv - (intOf i).toNat)
  case atStart => exact ⟨0, [32, 101, 108, 101, 109, 101, 110, 116], by omega, rfl, rfl, by simp [spT], by simp, rfl⟩
  case round =>
    obtain ⟨j, O, hj, rfl, rfl, hO, hOl, rfl⟩ := hrel
    obtain ⟨wo, rfl⟩ : ∃ wo, wo = wr := ⟨_, rfl⟩
    obtain ⟨x0, x1, x2, x3, x4, x5⟩ := HC.out.cell
    by_cases hlt : j < lv
    · obtain ⟨vi, d, rfl, rfl, e1, e2, e3, e4, e5⟩ := H2.out.at_ hlt
      have c1 := cat_str O [32] (by simp; omega)
      obtain ⟨O1, o1⟩ : ∃ x, x = O ++ [32] := ⟨_, rfl⟩
      have l1 : O1.length = O.length + 1 := by rw [o1, List.length_append]; rfl
      rw [← o1] at c1
      have c2 := cat_str O1 d.name (by omega)
      obtain ⟨O2, o2⟩ : ∃ x, x = O1 ++ d.name := ⟨_, rfl⟩
      have l2 : O2.length ≤ 20 + 1010 * (j + 1) := by rw [o2, List.length_append]; omega
      rw [← o2] at c2
      have HEQ := Lib.hid (show O2 = [32, 101, 108, 101, 109, 101, 110, 116] ++ spT ((vs.take (j + 1)).map nm) by rw [e5, o2, o1, hO]; simp)
      have HLN := Lib.hid l2
      clear o1 o2 l1 l2 hO hOl e4 e5
      go_wp2_with fail
      go_roundw
      case rel => exact ⟨j + 1, O2, by omega, by go_num, rfl, HEQ.out, HLN.out, trivial⟩
      case measure => simp [intOf]; omega
    · obtain rfl : j = lv := by omega
      have hfull : vs.take j = vs := List.take_of_length_le (by have := HL.out; omega)
      rw [hfull] at hO
      have HO := Lib.hid hO
      have c1 := cat_str O [32, 91] (by simp; omega)
      obtain ⟨O1, o1⟩ : ∃ x, x = O ++ [32, 91] := ⟨_, rfl⟩
      have l1 : O1.length ≤ 2000000 := by rw [o1, List.length_append]; simp; omega
      rw [← o1] at c1
      have HO1 := Lib.hid (show O1 = ([32, 101, 108, 101, 109, 101, 110, 116] ++ spT (vs.map nm)) ++ [32, 91] by rw [o1, hO])
      have HNL := Lib.hid H2.out.nums.long
      clear hO hOl hfull o1
      go_wp2_with fail
      go_loopw [8, 6] (fun i o wr => ∃ (j : Nat) (O : List UInt8), j ≤ lo ∧ i = .int .i64 j ∧ o = .string ⟨O.toArray⟩ ∧ O = O1 ++ spT ((ns.take j).flatMap numT) ∧ O.length ≤ 2000000 + 30 * j ∧ Below wo.heap.size wo wr) (fun i _ _ => lo - (intOf i).toNat)
      case atStart => exact ⟨0, O1, by omega, rfl, rfl, by simp [spT], by omega, Below.refl _ _⟩
      case round =>
        obtain ⟨q, Q, hq, rfl, rfl, hQ, hQl, hB⟩ := hrel
        have HB := Lib.hid hB
        obtain ⟨x0, x1, x2, x3, x4, x5⟩ := (HC.out.on HB.out).cell
        by_cases hlt : q < lo
        · have hqn : q < ns.length := by have := HNL.out; omega
          obtain ⟨z, hz⟩ : ∃ z, z = ns.getD q 0 := ⟨_, rfl⟩
          have hz2 : ns[q]? = some z := by rw [hz, List.getD_eq_getElem?_getD, List.getElem?_eq_getElem hqn]; rfl
          have zc := cell_stays hB (H2.out.nums.cell q hlt)
          rw [← hz] at zc
          have hzn := H2.out.num z (List.mem_of_getElem? hz2)
          obtain rfl := H2.out.nums.at_ (by omega)
          have NX := Lib.hid (fun U => number_any z U (by omega))
          have hnl := numT_long hzn
          obtain ⟨N, hN⟩ : ∃ N, N = spT (numT z) := ⟨_, rfl⟩
          rw [← hN] at NX hnl
          have c2 := cat_str Q N (by omega)
          obtain ⟨Q2, o2⟩ : ∃ x, x = Q ++ N := ⟨_, rfl⟩
          have l2 : Q2.length ≤ 2000000 + 30 * (q + 1) := by rw [o2, List.length_append]; omega
          rw [← o2] at c2
          have HEQ := Lib.hid (show Q2 = O1 ++ spT ((ns.take (q + 1)).flatMap numT) by
            rw [List.take_add_one, hz2, List.flatMap_append, sp_app, o2, hQ, hN]
            simp)
          have HLN := Lib.hid l2
          clear o2 l2 hQ hQl hB hz hz2 hzn hnl hN hqn
          go_wp2_with fail
          refine (NX.out _).mono ?_
          rintro e w3 ⟨rfl, hB3⟩
          have HB3 := Lib.hid (below_two HB.out hB3)
          clear hB3
          go_wp2_with fail
          go_roundw
          case rel => exact ⟨q + 1, Q2, by omega, by go_num, rfl, HEQ.out, HLN.out, HB3.out⟩
          case measure => simp [intOf]; omega
        · obtain rfl : q = lo := by omega
          have hfull : ns.take q = ns := List.take_of_length_le (by have := HNL.out; omega)
          rw [hfull] at hQ
          have c3 := cat_str Q [32, 93] (by simp; omega)
          obtain ⟨Q3, o3⟩ : ∃ x, x = Q ++ [32, 93] := ⟨_, rfl⟩
          rw [← o3] at c3
          have HQ3 := Lib.hid (show Q3 = spT (tW Pa.tElement :: (vs.map nm ++ numsT ns)) by
            rw [o3, hQ, HO1.out]
            simp [spT, tW, tM, numsT, Pa.tElement, Pa.tOpen, Pa.tShut, List.flatMap_append])
          clear o3 hQ hQl hfull hB
          go_wp2_with fail
          go_ret
          rw [← HQ3.out]
          exact ⟨rfl, below_two HC.out.low HB.out⟩
set_option maxHeartbeats 8000000 in
theorem con_different (h : RestArgs w nm pv bv ov lv po bo oo lo pn bn on_ ln vs ns L) (v2 : Value) :
    Calls Tryd.prog 12 #[.agg #[.int .i64 5, .slice pv lv cv, v2, .int .i64 0, .int .i64 0, .slice po lo co], .slice pn ln cn] w fun e w' => e = .returned (.string ⟨(spT (tW Pa.tDifferent :: (vs.map nm ++ []))).toArray⟩) ∧ Below w.heap.size w w' := by
  have HW := Lib.hid (conW_is w 5 (.slice pv lv cv) v2 0 0 (.slice po lo co))
  obtain ⟨W, hW⟩ : ∃ W, W = conW w 5 (.slice pv lv cv) v2 0 0 (.slice po lo co) := ⟨_, rfl⟩
  rw [← hW] at HW
  obtain ⟨x0, x1, x2, x3, x4, x5⟩ := HW.out.cell
  have y0 := (HW.out.rel (r := 0) (by decide)).1
  rw [show (⟨w.heap.size + 1, ((0 : Nat) : Nat), none⟩ : Addr) = ⟨w.heap.size + 1, 0, none⟩ from rfl] at y0
  have H := Lib.hid (h.below HW.out.low)
  have hbs : w.heap.size < W.heap.size := (Array.getElem?_eq_some_iff.1 HW.out.box).1
  have HWW := Lib.hid hW
  have hfew := h.few
  have hlv := h.vars.long
  have hl1000 : lv ≤ 1000 := by omega
  have HL := Lib.hid hlv
  have hlo : lo ≤ 1000 := by have := h.nums.long; have := h.fewn; omega
  clear h hW hlv hfew
  go_enter Tryd.func12, Tryd.ntmps12
  go_upto_region 2 with (simp only [show ((w.alloc (.cells #[.int .i64 5, .slice pv lv cv, v2, .int .i64 0, .int .i64 0, .slice po lo co] 28)).alloc (.cells #[.string ⟨#[32, 61]⟩, .string ⟨#[32, 33, 61]⟩, .string ⟨#[32, 60]⟩, .string ⟨#[32, 60, 61]⟩, .string ⟨#[32, 62]⟩, .string ⟨#[32, 62, 61]⟩] 9)) = W from HWW.out.symm])
  clear HWW
  go_upto_region 7 with fail
  obtain ⟨W2, hW2⟩ : ∃ W2, W2 = W.alloc (.cells #[.string ⟨#[]⟩, .string ⟨#[]⟩, .string ⟨#[32, 112, 114, 111, 100, 117, 99, 116]⟩, .string ⟨#[]⟩, .string ⟨#[32, 101, 108, 101, 109, 101, 110, 116]⟩, .string ⟨#[32, 100, 105, 102, 102, 101, 114, 101, 110, 116]⟩, .string ⟨#[32, 116, 97, 98, 108, 101]⟩] 9) := ⟨_, rfl⟩
  have k2 : Below W.heap.size W W2 := by rw [hW2]; exact (Below.refl _ W).alloc (Nat.le_refl _) _
  rw [← hW2]
  have H2 := Lib.hid (H.out.below k2)
  have HC := Lib.hid (HW.out.on k2)
  clear x0 x1 x2 x3 x4 x5 y0 H k2 hW2 HW
  go_wp2_with fail
  go_loopw [7, 6] (fun i o wr => ∃ (j : Nat) (O : List UInt8), j ≤ lv ∧ i = .int .i64 j ∧ o = .string ⟨O.toArray⟩ ∧ O = [32, 100, 105, 102, 102, 101, 114, 101, 110, 116] ++ spT ((vs.take j).map nm) ∧ O.length ≤ 20 + 1010 * j ∧ wr = W2) (fun i _ _ => lv - (intOf i).toNat)
  case atStart => exact ⟨0, [32, 100, 105, 102, 102, 101, 114, 101, 110, 116], by omega, rfl, rfl, by simp [spT], by simp, rfl⟩
  case round =>
    obtain ⟨j, O, hj, rfl, rfl, hO, hOl, rfl⟩ := hrel
    obtain ⟨wo, rfl⟩ : ∃ wo, wo = wr := ⟨_, rfl⟩
    obtain ⟨x0, x1, x2, x3, x4, x5⟩ := HC.out.cell
    by_cases hlt : j < lv
    · obtain ⟨vi, d, rfl, rfl, e1, e2, e3, e4, e5⟩ := H2.out.at_ hlt
      have c1 := cat_str O [32] (by simp; omega)
      obtain ⟨O1, o1⟩ : ∃ x, x = O ++ [32] := ⟨_, rfl⟩
      have l1 : O1.length = O.length + 1 := by rw [o1, List.length_append]; rfl
      rw [← o1] at c1
      have c2 := cat_str O1 d.name (by omega)
      obtain ⟨O2, o2⟩ : ∃ x, x = O1 ++ d.name := ⟨_, rfl⟩
      have l2 : O2.length ≤ 20 + 1010 * (j + 1) := by rw [o2, List.length_append]; omega
      rw [← o2] at c2
      have HEQ := Lib.hid (show O2 = [32, 100, 105, 102, 102, 101, 114, 101, 110, 116] ++ spT ((vs.take (j + 1)).map nm) by rw [e5, o2, o1, hO]; simp)
      have HLN := Lib.hid l2
      clear o1 o2 l1 l2 hO hOl e4 e5
      go_wp2_with fail
      go_roundw
      case rel => exact ⟨j + 1, O2, by omega, by go_num, rfl, HEQ.out, HLN.out, trivial⟩
      case measure => simp [intOf]; omega
    · obtain rfl : j = lv := by omega
      have hfull : vs.take j = vs := List.take_of_length_le (by have := HL.out; omega)
      rw [hfull] at hO
      have HO := Lib.hid hO
      clear hO hOl hfull
      go_wp2_with fail
      go_ret
      refine ⟨?_, HC.out.low⟩
      rw [HO.out]
      simp [spT, tW, Pa.tDifferent]
set_option maxHeartbeats 8000000 in
theorem con_table (h : RestArgs w nm pv bv ov lv po bo oo lo pn bn on_ ln vs ns L) (v2 : Value) :
    Calls Tryd.prog 12 #[.agg #[.int .i64 6, .slice pv lv cv, v2, .int .i64 0, .int .i64 0, .slice po lo co], .slice pn ln cn] w fun e w' => e = .returned (.string ⟨(spT (tW Pa.tTable :: (vs.map nm ++ numsT ns))).toArray⟩) ∧ Below w.heap.size w w' := by
  have HW := Lib.hid (conW_is w 6 (.slice pv lv cv) v2 0 0 (.slice po lo co))
  obtain ⟨W, hW⟩ : ∃ W, W = conW w 6 (.slice pv lv cv) v2 0 0 (.slice po lo co) := ⟨_, rfl⟩
  rw [← hW] at HW
  obtain ⟨x0, x1, x2, x3, x4, x5⟩ := HW.out.cell
  have y0 := (HW.out.rel (r := 0) (by decide)).1
  rw [show (⟨w.heap.size + 1, ((0 : Nat) : Nat), none⟩ : Addr) = ⟨w.heap.size + 1, 0, none⟩ from rfl] at y0
  have H := Lib.hid (h.below HW.out.low)
  have hbs : w.heap.size < W.heap.size := (Array.getElem?_eq_some_iff.1 HW.out.box).1
  have HWW := Lib.hid hW
  have hfew := h.few
  have hlv := h.vars.long
  have hl1000 : lv ≤ 1000 := by omega
  have HL := Lib.hid hlv
  have hlo : lo ≤ 1000 := by have := h.nums.long; have := h.fewn; omega
  clear h hW hlv hfew
  go_enter Tryd.func12, Tryd.ntmps12
  go_upto_region 2 with (simp only [show ((w.alloc (.cells #[.int .i64 6, .slice pv lv cv, v2, .int .i64 0, .int .i64 0, .slice po lo co] 28)).alloc (.cells #[.string ⟨#[32, 61]⟩, .string ⟨#[32, 33, 61]⟩, .string ⟨#[32, 60]⟩, .string ⟨#[32, 60, 61]⟩, .string ⟨#[32, 62]⟩, .string ⟨#[32, 62, 61]⟩] 9)) = W from HWW.out.symm])
  clear HWW
  go_upto_region 7 with fail
  obtain ⟨W2, hW2⟩ : ∃ W2, W2 = W.alloc (.cells #[.string ⟨#[]⟩, .string ⟨#[]⟩, .string ⟨#[32, 112, 114, 111, 100, 117, 99, 116]⟩, .string ⟨#[]⟩, .string ⟨#[32, 101, 108, 101, 109, 101, 110, 116]⟩, .string ⟨#[32, 100, 105, 102, 102, 101, 114, 101, 110, 116]⟩, .string ⟨#[32, 116, 97, 98, 108, 101]⟩] 9) := ⟨_, rfl⟩
  have k2 : Below W.heap.size W W2 := by rw [hW2]; exact (Below.refl _ W).alloc (Nat.le_refl _) _
  rw [← hW2]
  have H2 := Lib.hid (H.out.below k2)
  have HC := Lib.hid (HW.out.on k2)
  clear x0 x1 x2 x3 x4 x5 y0 H k2 hW2 HW
  go_wp2_with fail
  go_loopw [7, 6] (fun i o wr => ∃ (j : Nat) (O : List UInt8), j ≤ lv ∧ i = .int .i64 j ∧ o = .string ⟨O.toArray⟩ ∧ O = [32, 116, 97, 98, 108, 101] ++ spT ((vs.take j).map nm) ∧ O.length ≤ 20 + 1010 * j ∧ wr = W2) (fun i _ _ => lv - (intOf i).toNat)
  case atStart => exact ⟨0, [32, 116, 97, 98, 108, 101], by omega, rfl, rfl, by simp [spT], by simp, rfl⟩
  case round =>
    obtain ⟨j, O, hj, rfl, rfl, hO, hOl, rfl⟩ := hrel
    obtain ⟨wo, rfl⟩ : ∃ wo, wo = wr := ⟨_, rfl⟩
    obtain ⟨x0, x1, x2, x3, x4, x5⟩ := HC.out.cell
    by_cases hlt : j < lv
    · obtain ⟨vi, d, rfl, rfl, e1, e2, e3, e4, e5⟩ := H2.out.at_ hlt
      have c1 := cat_str O [32] (by simp; omega)
      obtain ⟨O1, o1⟩ : ∃ x, x = O ++ [32] := ⟨_, rfl⟩
      have l1 : O1.length = O.length + 1 := by rw [o1, List.length_append]; rfl
      rw [← o1] at c1
      have c2 := cat_str O1 d.name (by omega)
      obtain ⟨O2, o2⟩ : ∃ x, x = O1 ++ d.name := ⟨_, rfl⟩
      have l2 : O2.length ≤ 20 + 1010 * (j + 1) := by rw [o2, List.length_append]; omega
      rw [← o2] at c2
      have HEQ := Lib.hid (show O2 = [32, 116, 97, 98, 108, 101] ++ spT ((vs.take (j + 1)).map nm) by rw [e5, o2, o1, hO]; simp)
      have HLN := Lib.hid l2
      clear o1 o2 l1 l2 hO hOl e4 e5
      go_wp2_with fail
      go_roundw
      case rel => exact ⟨j + 1, O2, by omega, by go_num, rfl, HEQ.out, HLN.out, trivial⟩
      case measure => simp [intOf]; omega
    · obtain rfl : j = lv := by omega
      have hfull : vs.take j = vs := List.take_of_length_le (by have := HL.out; omega)
      rw [hfull] at hO
      have HO := Lib.hid hO
      have c1 := cat_str O [32, 91] (by simp; omega)
      obtain ⟨O1, o1⟩ : ∃ x, x = O ++ [32, 91] := ⟨_, rfl⟩
      have l1 : O1.length ≤ 2000000 := by rw [o1, List.length_append]; simp; omega
      rw [← o1] at c1
      have HO1 := Lib.hid (show O1 = ([32, 116, 97, 98, 108, 101] ++ spT (vs.map nm)) ++ [32, 91] by rw [o1, hO])
      have HNL := Lib.hid H2.out.nums.long
      clear hO hOl hfull o1
      go_wp2_with fail
      go_loopw [8, 6] (fun i o wr => ∃ (j : Nat) (O : List UInt8), j ≤ lo ∧ i = .int .i64 j ∧ o = .string ⟨O.toArray⟩ ∧ O = O1 ++ spT ((ns.take j).flatMap numT) ∧ O.length ≤ 2000000 + 30 * j ∧ Below wo.heap.size wo wr) (fun i _ _ => lo - (intOf i).toNat)
      case atStart => exact ⟨0, O1, by omega, rfl, rfl, by simp [spT], by omega, Below.refl _ _⟩
      case round =>
        obtain ⟨q, Q, hq, rfl, rfl, hQ, hQl, hB⟩ := hrel
        have HB := Lib.hid hB
        obtain ⟨x0, x1, x2, x3, x4, x5⟩ := (HC.out.on HB.out).cell
        by_cases hlt : q < lo
        · have hqn : q < ns.length := by have := HNL.out; omega
          obtain ⟨z, hz⟩ : ∃ z, z = ns.getD q 0 := ⟨_, rfl⟩
          have hz2 : ns[q]? = some z := by rw [hz, List.getD_eq_getElem?_getD, List.getElem?_eq_getElem hqn]; rfl
          have zc := cell_stays hB (H2.out.nums.cell q hlt)
          rw [← hz] at zc
          have hzn := H2.out.num z (List.mem_of_getElem? hz2)
          obtain rfl := H2.out.nums.at_ (by omega)
          have NX := Lib.hid (fun U => number_any z U (by omega))
          have hnl := numT_long hzn
          obtain ⟨N, hN⟩ : ∃ N, N = spT (numT z) := ⟨_, rfl⟩
          rw [← hN] at NX hnl
          have c2 := cat_str Q N (by omega)
          obtain ⟨Q2, o2⟩ : ∃ x, x = Q ++ N := ⟨_, rfl⟩
          have l2 : Q2.length ≤ 2000000 + 30 * (q + 1) := by rw [o2, List.length_append]; omega
          rw [← o2] at c2
          have HEQ := Lib.hid (show Q2 = O1 ++ spT ((ns.take (q + 1)).flatMap numT) by
            rw [List.take_add_one, hz2, List.flatMap_append, sp_app, o2, hQ, hN]
            simp)
          have HLN := Lib.hid l2
          clear o2 l2 hQ hQl hB hz hz2 hzn hnl hN hqn
          go_wp2_with fail
          refine (NX.out _).mono ?_
          rintro e w3 ⟨rfl, hB3⟩
          have HB3 := Lib.hid (below_two HB.out hB3)
          clear hB3
          go_wp2_with fail
          go_roundw
          case rel => exact ⟨q + 1, Q2, by omega, by go_num, rfl, HEQ.out, HLN.out, HB3.out⟩
          case measure => simp [intOf]; omega
        · obtain rfl : q = lo := by omega
          have hfull : ns.take q = ns := List.take_of_length_le (by have := HNL.out; omega)
          rw [hfull] at hQ
          have c3 := cat_str Q [32, 93] (by simp; omega)
          obtain ⟨Q3, o3⟩ : ∃ x, x = Q ++ [32, 93] := ⟨_, rfl⟩
          rw [← o3] at c3
          have HQ3 := Lib.hid (show Q3 = spT (tW Pa.tTable :: (vs.map nm ++ numsT ns)) by
            rw [o3, hQ, HO1.out]
            simp [spT, tW, tM, numsT, Pa.tTable, Pa.tOpen, Pa.tShut, List.flatMap_append])
          clear o3 hQ hQl hfull hB
          go_wp2_with fail
          go_ret
          rw [← HQ3.out]
          exact ⟨rfl, below_two HC.out.low HB.out⟩
end
end Go.Proofs.YtkgieaoahijheaaDoor.Wt
namespace Go.Proofs.YtkgieaoahijheaaDoor.Wt
open Go.RowKit
open Sc (Tok)
set_option maxRecDepth 100000

section
variable {nm : Int → Tok} {w w' : World} {pn : Option Addr} {bn on_ ln cn : Nat} {L : List PDecl} {c : PCon}
/-- a constraint that may be written, of variables whose names are known -/
structure ConM (nm : Int → Tok) (L : List PDecl) (c : PCon) : Prop where
  shape : Shape c
  few : c.vars.length ≤ 1000
  fewn : c.nums.length ≤ 1000
  low : ∀ v ∈ c.vars, 0 ≤ v ∧ v.toNat < L.length
  nm_ : ∀ v ∈ c.vars, (nm v).text = (L.getD v.toNat ⟨[], []⟩).name
  coefs : ∀ k ∈ c.coefs, k.natAbs ≤ 1000000000000000000
  const : c.const.natAbs ≤ 1000000000000000000
  nums : ∀ k ∈ c.nums, k.natAbs ≤ 1000000000000000000
theorem nums_slc {v : Value} {xs : List Int} (h : Slc rNum 1 w v xs) : ∃ (p : Option Addr) (b off c len : Nat), v = .slice p len c ∧ len ≤ c ∧ Nums w p b off len xs := by
  obtain ⟨p, b, off, c, len, e, ⟨_, h1⟩, h2⟩ := h
  exact ⟨p, b, off, c, len, e, h1, nums_of h2⟩
theorem rcon_any {u1 u2 u3 : Value} (hr : rCon w [.int .i64 c.kind, u1, u2, .int .i64 c.rel, .int .i64 c.const, u3] c) (hn : SliceOf rDecl 2 w pn bn on_ ln L) (hd : ∀ d ∈ L, d.name.length ≤ 1000) (hc : ConM nm L c) :
    Calls Tryd.prog 12 #[.agg #[.int .i64 c.kind, u1, u2, .int .i64 c.rel, .int .i64 c.const, u3], .slice pn ln cn] w fun e w' => e = .returned (.string ⟨(spT (conT nm c)).toArray⟩) ∧ Below w.heap.size w w' := by
  obtain ⟨w1, w2, w3, e, _, s1, s2, s3⟩ := hr
  simp only [List.cons.injEq, and_true, true_and] at e
  obtain ⟨rfl, rfl, rfl⟩ := e
  obtain ⟨h1, h2, h3, h4, h5, h6, h7, h8⟩ := hc
  obtain ⟨p1, b1, o1, c1, l1, rfl, q1, n1⟩ := nums_slc s1
  obtain ⟨p2, b2, o2, c2, l2, rfl, q2, n2⟩ := nums_slc s2
  obtain ⟨p3, b3, o3, c3, l3, rfl, q3, n3⟩ := nums_slc s3
  have R : RestArgs w nm p1 b1 o1 l1 p3 b3 o3 l3 pn bn on_ ln c.vars c.nums L := ⟨n1, n3, hn, h2, h3, h4, h5, hd, h8⟩
  cases h1 with
  | lin vs cs rel const h h0 hr =>
    have hl : l2 = l1 := by rw [n1.long, n2.long]; exact h.symm
    subst hl
    obtain ⟨r, rfl⟩ : ∃ r : Nat, rel = (r : Int) := ⟨rel.toNat, by omega⟩
    exact con_lin ⟨n1, n2, hn, h, h2, h4, h5, hd, h6⟩ (by omega) h7 _
  | iff v vs cs rel const h h0 hr =>
    obtain ⟨r, rfl⟩ : ∃ r : Nat, rel = (r : Int) := ⟨rel.toNat, by omega⟩
    have hl1 : l1 = vs.length + 1 := n1.long
    have hl2 : l2 = vs.length := by rw [n2.long]; exact h.symm
    obtain ⟨m, rfl⟩ : ∃ m, c1 = m + 1 := ⟨c1 - 1, by omega⟩
    subst hl1 hl2
    obtain rfl := n1.at_ (by omega)
    have hz := n1.cell 0 (by omega)
    have hvl : 0 < vs.length := List.length_pos_iff.2 h0
    have T : Nums w (some ⟨b1, o1 + 1, none⟩) b1 (o1 + 1) vs.length vs := ⟨rfl, fun _ => rfl, fun k hk => by
      have := n1.cell (k + 1) (by omega)
      rw [show o1 + (k + 1) = o1 + 1 + k by omega] at this
      exact this, fun k hk => n1.fit (k + 1) (by omega)⟩
    exact con_iff (m := m) hz (h4 v (by simp)) (h5 v (by simp)) ⟨T, n2, hn, h, by simp at h2; omega, fun x hx => h4 x (List.mem_cons_of_mem _ hx), fun x hx => h5 x (List.mem_cons_of_mem _ hx), hd, h6⟩ hvl (by omega) (by omega) h7 _
  | product vs h => exact con_product R _
  | element vs ns h hn' => exact con_element R _
  | differ vs h => exact con_different R _
  | table vs ns h => exact con_table R _
end
end Go.Proofs.YtkgieaoahijheaaDoor.Wt
