/-
  Numbers and sums, of the document's answers for texts of models.
-/
import Derived.Test.YtkgieaoahijheaaDoorZYAG
import Derived.Test.YtkgieaoahijheaaDoorZWOk
namespace Go.Proofs.YtkgieaoahijheaaDoor.Wt
open Go.RowKit
open Sc (Tok)
set_option maxRecDepth 100000

/-- tokens, a space ahead of each -/
def spT (ts : List Tok) : List UInt8 := ts.flatMap fun t => 32 :: t.text
theorem sp_app (a b : List Tok) : spT (a ++ b) = spT a ++ spT b := by simp [spT]
set_option maxHeartbeats 4000000 in
theorem number_any (z : Int) (w : World) (hz : z.natAbs ≤ 9000000000000000000) :
    Calls Tryd.prog 21 #[.int .i64 z] w fun e w' => e = .returned (.string ⟨(spT (numT z)).toArray⟩) ∧ Below w.heap.size w w' := by
  have HD := Lib.hid (fun W => digits_any z.natAbs W hz)
  have hl := digs_long z.natAbs 18 (by omega)
  unfold numT
  by_cases h : z < 0
  · rw [if_pos h]
    have e : spT [tM Pa.tMinus, tN z.natAbs] = [32, 45, 32] ++ digs z.natAbs := by simp [spT, tM, tN, Pa.tMinus]
    rw [e]
    have hc := cat_str [32, 45, 32] (digs z.natAbs) (by simp; omega)
    have hn : IntKind.i64.wrap (-z) = ((z.natAbs : Nat) : Int) := by
      have := IntWalk.i64_in ((z.natAbs : Nat) : Int) (by omega)
      rw [show ((z.natAbs : Nat) : Int) = -z by omega] at this ⊢
      exact this
    have hn2 : -z = ((z.natAbs : Nat) : Int) := by omega
    obtain ⟨A, hA⟩ : ∃ A, A = digs z.natAbs := ⟨_, rfl⟩
    rw [← hA] at HD hc ⊢
    obtain ⟨m, hm⟩ : ∃ m, m = z.natAbs := ⟨_, rfl⟩
    rw [← hm] at HD hn
    clear hA hl hm e hn2
    go_enter Tryd.func21, Tryd.ntmps21
    go_wp2_with fail
    refine (HD.out _).mono ?_
    rintro e w1 ⟨rfl, hB⟩
    have B := Lib.hid hB
    clear hB
    go_wp2_with fail
    go_ret
    exact ⟨rfl, B.out⟩
  · rw [if_neg h]
    have e : spT [tN z.natAbs] = [32] ++ digs z.natAbs := by simp [spT, tN]
    rw [e]
    have hc := cat_str [32] (digs z.natAbs) (by simp; omega)
    obtain ⟨A, hA⟩ : ∃ A, A = digs z.natAbs := ⟨_, rfl⟩
    rw [← hA] at HD hc ⊢
    obtain ⟨m, rfl⟩ : ∃ m : Nat, z = (m : Int) := ⟨z.natAbs, by omega⟩
    rw [Int.natAbs_natCast] at HD
    have h0 : ¬ ((m : Int) < 0) := by omega
    clear hA hl e
    go_enter Tryd.func21, Tryd.ntmps21
    go_wp2_with fail
    refine (HD.out _).mono ?_
    rintro e w1 ⟨rfl, hB⟩
    have B := Lib.hid hB
    clear hB
    go_wp2_with fail
    go_ret
    exact ⟨rfl, B.out⟩
variable {nm : Int → Tok}
theorem sum_snoc : ∀ (l : List (Int × Int)) (first : Bool) (v k : Int), sumT nm first (l ++ [(v, k)]) = sumT nm first l ++ (signT (if l = [] then first else false) k ++ (coefT k ++ [nm v]))
  | [], first, v, k => by simp [sumT]
  | (x, y) :: l, first, v, k => by
    have IH := sum_snoc l false v k
    show signT first y ++ (coefT y ++ ([nm x] ++ sumT nm false (l ++ [(v, k)]))) = (signT first y ++ (coefT y ++ ([nm x] ++ sumT nm false l))) ++ _
    rw [IH]
    simp
theorem zip_at {vs ks : List Int} {k : Nat} {v c : Int} (hv : vs[k]? = some v) (hc : ks[k]? = some c) : (vs.zip ks)[k]? = some (v, c) := by
  rw [List.getElem?_zip_eq_some]
  exact ⟨hv, hc⟩
/-- names of variables, and numbers, in memory -/
structure SumArgs (w : World) (nm : Int → Tok) (pv : Option Addr) (bv ov lv cv : Nat) (pc : Option Addr) (bc oc lc cc : Nat) (pn : Option Addr) (bn on_ ln cn : Nat) (vs ks : List Int) (L : List PDecl) : Prop where
  vars : Nums w pv bv ov lv vs
  coefs : Nums w pc bc oc lc ks
  names : SliceOf rDecl 2 w pn bn on_ ln L
  same : vs.length = ks.length
  few : vs.length ≤ 1000
  low : ∀ v ∈ vs, 0 ≤ v ∧ v.toNat < L.length
  nm_ : ∀ v ∈ vs, (nm v).text = (L.getD v.toNat ⟨[], []⟩).name
  name : ∀ d ∈ L, d.name.length ≤ 1000
  num : ∀ k ∈ ks, k.natAbs ≤ 1000000000000000000
set_option maxHeartbeats 8000000 in
theorem sum_any {w : World} {pv : Option Addr} {bv ov lv cv : Nat} {pc : Option Addr} {bc oc lc cc : Nat} {pn : Option Addr} {bn on_ ln cn : Nat} {vs ks : List Int} {L : List PDecl} (h : SumArgs w nm pv bv ov lv cv pc bc oc lc cc pn bn on_ ln cn vs ks L) :
    Calls Tryd.prog 29 #[.slice pv lv cv, .slice pc lc cc, .slice pn ln cn] w fun e w' => e = .returned (.string ⟨(spT (sumT nm true (vs.zip ks))).toArray⟩) ∧ Below w.heap.size w w' := by
  have H := Lib.hid h
  have hlv := h.vars.long
  have hlc := h.coefs.long
  have hsm := h.same
  have hfew := h.few
  have hll : lc = lv := by omega
  have HL := Lib.hid hlv
  clear h hlc hsm
  subst hll
  have hl1000 : lc ≤ 1000 := by omega
  clear hlv
  go_enter Tryd.func29, Tryd.ntmps29
  go_wp2_with fail
  go_loopw [8, 7] (fun i o wr => ∃ (k : Nat) (O : List UInt8), k ≤ lc ∧ i = .int .i64 k ∧ o = .string ⟨O.toArray⟩ ∧ O = spT (sumT nm true ((vs.zip ks).take k)) ∧ O.length ≤ 2000 * k ∧ Below w.heap.size w wr) (fun i _ _ => lc - (intOf i).toNat)
  case atStart => exact ⟨0, [], by omega, rfl, rfl, by simp [sumT, spT], by simp, Below.refl _ _⟩
  case round =>
    obtain ⟨k, O, hk, rfl, rfl, hO, hOl, hB⟩ := hrel
    have Cc := Lib.hid hB
    by_cases hlt : k < lc
    · have hkv : k < vs.length := by have := HL.out; omega
      have hkk : k < ks.length := by have := H.out.same; omega
      obtain ⟨v, hv⟩ : ∃ v, v = vs.getD k 0 := ⟨_, rfl⟩
      obtain ⟨c, hc⟩ : ∃ c, c = ks.getD k 0 := ⟨_, rfl⟩
      have hvm : v ∈ vs := by rw [hv, List.getD_eq_getElem?_getD, List.getElem?_eq_getElem hkv]; exact List.getElem_mem hkv
      have hcm : c ∈ ks := by rw [hc, List.getD_eq_getElem?_getD, List.getElem?_eq_getElem hkk]; exact List.getElem_mem hkk
      have vc := cell_stays hB (H.out.vars.cell k hlt)
      have cc0 := cell_stays hB (H.out.coefs.cell k hlt)
      rw [← hv] at vc
      rw [← hc] at cc0
      obtain ⟨vl0, vl1⟩ := H.out.low v hvm
      have hll := H.out.names.long
      obtain ⟨d, s, x, e1, e2, e3, e4, e5⟩ := decl_at H.out.names (k := v.toNat) (by omega)
      have d0 := cell_stays hB e2
      have hdm : d ∈ L := List.mem_of_getElem? e1
      have hnl := H.out.name d hdm
      have hnt : (nm v).text = d.name := by rw [H.out.nm_ v hvm, List.getD_eq_getElem?_getD, e1]; rfl
      have hs : s = ⟨d.name.toArray⟩ := by rw [← e4]
      rw [hs] at d0
      obtain rfl := H.out.vars.at_ (by omega)
      obtain rfl := H.out.coefs.at_ (by omega)
      obtain rfl := H.out.names.at_ (by omega)
      obtain ⟨vi, hvi⟩ : ∃ vi : Nat, v = (vi : Int) := ⟨v.toNat, by omega⟩
      rw [hvi, Int.toNat_natCast] at d0
      rw [hvi] at vc
      have hln : vi < ln := by rw [hll]; omega
      have hnum := H.out.num c hcm
      have hztk : (vs.zip ks).take (k + 1) = (vs.zip ks).take k ++ [(v, c)] := by
        rw [List.take_add_one, zip_at (v := v) (c := c) (by rw [hv, List.getD_eq_getElem?_getD, List.getElem?_eq_getElem hkv]; rfl) (by rw [hc, List.getD_eq_getElem?_getD, List.getElem?_eq_getElem hkk]; rfl)]
        rfl
      have hempty : (vs.zip ks).take k = [] ↔ k = 0 := by
        rw [List.take_eq_nil_iff]
        constructor
        · rintro (q | q)
          · exact q
          · have : (vs.zip ks).length = 0 := by rw [q]; rfl
            rw [List.length_zip] at this
            omega
        · exact fun q => .inl q
      have hnew : spT (sumT nm true ((vs.zip ks).take (k + 1))) = ((O ++ spT (signT (if k = 0 then true else false) c)) ++ spT (coefT c)) ++ (32 :: d.name) := by
        rw [hztk, sum_snoc, sp_app, sp_app, sp_app, ← hO, ← hnt]
        simp only [hempty]
        simp [spT]
      have HNEW := Lib.hid hnew
      have hdl := digs_long c.natAbs 18 (by omega)
      have HD := Lib.hid (fun W => digits_any c.natAbs W (by omega))
      clear hnew hztk hempty hO e1 e2 e3 e4 e5 hs hnt hdm vl0 vl1 hvm hcm hkv hkk hll
      by_cases hneg : c < 0
      · obtain ⟨m, rfl⟩ : ∃ m : Nat, c = -(m : Int) := ⟨c.natAbs, by omega⟩
        have hm0 : 0 < m := by omega
        have hmb : m ≤ 1000000000000000000 := by omega
        have hm1 : (0 : Int) < (m : Int) := by omega
        have hk0 := hneg
        rw [show (-(m : Int)).natAbs = m by omega] at HD hdl
        have hw : IntKind.i64.wrap (m : Int) = (m : Int) := IntWalk.i64_in _ (by omega)
        obtain ⟨D, hDd⟩ : ∃ D, D = digs m := ⟨_, rfl⟩
        rw [← hDd] at HD hdl
        have HDd := Lib.hid hDd
        clear hc hDd
        by_cases h1 : m = 1
        · have hb : ((m : Int) == 1) = true := beq_iff_eq.2 (by omega)
          have hb2 : ((m : Int) != 1) = false := by rw [bne, hb]; rfl
          have hS : spT (signT (if k = 0 then true else false) (-(m : Int))) = [32, 45] := by simp [signT, spT, tM, Pa.tMinus, Pa.tPlus, hm0, hk0]
          have hC : spT (coefT (-(m : Int))) = [] := by simp [coefT, spT, h1]
          have hnew := HNEW.out
          rw [hS, hC] at hnew
          have c1 := cat_str O [32, 45] (by simp only [List.length_append, List.length_cons, List.length_nil] at *; omega)
          obtain ⟨O1, o1⟩ : ∃ x, x = O ++ [32, 45] := ⟨_, rfl⟩
          have l1 : O1.length = O.length + ([32, 45] : List UInt8).length := by rw [o1, List.length_append]
          rw [← o1] at c1
          have c2 := cat_str O1 [32] (by simp only [List.length_append, List.length_cons, List.length_nil] at *; omega)
          obtain ⟨O2, o2⟩ : ∃ x, x = O1 ++ [32] := ⟨_, rfl⟩
          have l2 : O2.length = O1.length + ([32] : List UInt8).length := by rw [o2, List.length_append]
          rw [← o2] at c2
          have c3 := cat_str O2 d.name (by simp only [List.length_append, List.length_cons, List.length_nil] at *; omega)
          obtain ⟨O3, o3⟩ : ∃ x, x = O2 ++ d.name := ⟨_, rfl⟩
          have l3 : O3.length = O2.length + (d.name : List UInt8).length := by rw [o3, List.length_append]
          rw [← o3] at c3
          have HEQ := Lib.hid (show O3 = spT (sumT nm true ((vs.zip ks).take (k + 1))) by rw [hnew, o3, o2, o1]; simp)
          have HLN := Lib.hid (show O3.length ≤ 2000 * (k + 1) by simp only [List.length_append, List.length_cons, List.length_nil] at *; omega)
          clear o1 l1 o2 l2 o3 l3 hS hC hnew hOl hk0 hneg
          go_wp2_with fail
          go_roundw
          case rel => exact ⟨k + 1, O3, by omega, by go_num, rfl, HEQ.out, HLN.out, Cc.out⟩
          case measure => simp [intOf]; omega
        · have hb : ((m : Int) == 1) = false := beq_eq_false_iff_ne.2 (by omega)
          have hb2 : ((m : Int) != 1) = true := by rw [bne, hb]; rfl
          have hS : spT (signT (if k = 0 then true else false) (-(m : Int))) = [32, 45] := by simp [signT, spT, tM, Pa.tMinus, Pa.tPlus, hm0, hk0]
          have hC : spT (coefT (-(m : Int))) = 32 :: (digs m ++ [32, 42]) := by simp [coefT, spT, tM, tN, Pa.tStar, h1]
          have hnew := HNEW.out
          rw [hS, hC] at hnew
          have c1 := cat_str O [32, 45] (by simp only [List.length_append, List.length_cons, List.length_nil] at *; omega)
          obtain ⟨O1, o1⟩ : ∃ x, x = O ++ [32, 45] := ⟨_, rfl⟩
          have l1 : O1.length = O.length + ([32, 45] : List UInt8).length := by rw [o1, List.length_append]
          rw [← o1] at c1
          have c2 := cat_str O1 [32] (by simp only [List.length_append, List.length_cons, List.length_nil] at *; omega)
          obtain ⟨O2, o2⟩ : ∃ x, x = O1 ++ [32] := ⟨_, rfl⟩
          have l2 : O2.length = O1.length + ([32] : List UInt8).length := by rw [o2, List.length_append]
          rw [← o2] at c2
          have c3 := cat_str O2 D (by simp only [List.length_append, List.length_cons, List.length_nil] at *; omega)
          obtain ⟨O3, o3⟩ : ∃ x, x = O2 ++ D := ⟨_, rfl⟩
          have l3 : O3.length = O2.length + (D : List UInt8).length := by rw [o3, List.length_append]
          rw [← o3] at c3
          have c4 := cat_str O3 [32, 42] (by simp only [List.length_append, List.length_cons, List.length_nil] at *; omega)
          obtain ⟨O4, o4⟩ : ∃ x, x = O3 ++ [32, 42] := ⟨_, rfl⟩
          have l4 : O4.length = O3.length + ([32, 42] : List UInt8).length := by rw [o4, List.length_append]
          rw [← o4] at c4
          have c5 := cat_str O4 [32] (by simp only [List.length_append, List.length_cons, List.length_nil] at *; omega)
          obtain ⟨O5, o5⟩ : ∃ x, x = O4 ++ [32] := ⟨_, rfl⟩
          have l5 : O5.length = O4.length + ([32] : List UInt8).length := by rw [o5, List.length_append]
          rw [← o5] at c5
          have c6 := cat_str O5 d.name (by simp only [List.length_append, List.length_cons, List.length_nil] at *; omega)
          obtain ⟨O6, o6⟩ : ∃ x, x = O5 ++ d.name := ⟨_, rfl⟩
          have l6 : O6.length = O5.length + (d.name : List UInt8).length := by rw [o6, List.length_append]
          rw [← o6] at c6
          have HEQ := Lib.hid (show O6 = spT (sumT nm true ((vs.zip ks).take (k + 1))) by rw [hnew, o6, o5, o4, o3, o2, o1]; simp [HDd.out])
          have HLN := Lib.hid (show O6.length ≤ 2000 * (k + 1) by simp only [List.length_append, List.length_cons, List.length_nil] at *; omega)
          clear o1 l1 o2 l2 o3 l3 o4 l4 o5 l5 o6 l6 hS hC hnew hOl hk0 hneg
          go_wp2_with fail
          refine (HD.out _).mono ?_
          rintro e w1 ⟨rfl, hB1⟩
          have C1 := Lib.hid (Cc.out.trans (hB1.mono Cc.out.size))
          have d1 := cell_stays hB1 d0
          have v1 := cell_stays hB1 vc
          clear hB1
          go_wp2_with fail
          go_roundw
          case rel => exact ⟨k + 1, O6, by omega, by go_num, rfl, HEQ.out, HLN.out, C1.out⟩
          case measure => simp [intOf]; omega
      · obtain ⟨m, rfl⟩ : ∃ m : Nat, c = (m : Int) := ⟨c.natAbs, by omega⟩
        have hm0 : ¬ ((m : Int) < 0) := hneg
        rw [Int.natAbs_natCast] at HD hdl
        obtain ⟨D, hDd⟩ : ∃ D, D = digs m := ⟨_, rfl⟩
        rw [← hDd] at HD hdl
        have HDd := Lib.hid hDd
        clear hc hDd
        by_cases hk0 : k = 0
        · have hk1 : ¬ (0 : Int) < (k : Int) := by omega
          have hk2 : (k : Int) ≤ 0 := by omega
          by_cases h1 : m = 1
          · have hb : ((m : Int) == 1) = true := beq_iff_eq.2 (by omega)
            have hb2 : ((m : Int) != 1) = false := by rw [bne, hb]; rfl
            have hS : spT (signT (if k = 0 then true else false) (m : Int)) = [] := by simp [signT, spT, tM, Pa.tMinus, Pa.tPlus, hm0, hk0]
            have hC : spT (coefT (m : Int)) = [] := by simp [coefT, spT, h1]
            have hnew := HNEW.out
            rw [hS, hC] at hnew
            have c1 := cat_str O [32] (by simp only [List.length_append, List.length_cons, List.length_nil] at *; omega)
            obtain ⟨O1, o1⟩ : ∃ x, x = O ++ [32] := ⟨_, rfl⟩
            have l1 : O1.length = O.length + ([32] : List UInt8).length := by rw [o1, List.length_append]
            rw [← o1] at c1
            have c2 := cat_str O1 d.name (by simp only [List.length_append, List.length_cons, List.length_nil] at *; omega)
            obtain ⟨O2, o2⟩ : ∃ x, x = O1 ++ d.name := ⟨_, rfl⟩
            have l2 : O2.length = O1.length + (d.name : List UInt8).length := by rw [o2, List.length_append]
            rw [← o2] at c2
            have HEQ := Lib.hid (show O2 = spT (sumT nm true ((vs.zip ks).take (k + 1))) by rw [hnew, o2, o1]; simp)
            have HLN := Lib.hid (show O2.length ≤ 2000 * (k + 1) by simp only [List.length_append, List.length_cons, List.length_nil] at *; omega)
            clear o1 l1 o2 l2 hS hC hnew hOl hk0 hneg
            go_wp2_with fail
            go_roundw
            case rel => exact ⟨k + 1, O2, by omega, by go_num, rfl, HEQ.out, HLN.out, Cc.out⟩
            case measure => simp [intOf]; omega
          · have hb : ((m : Int) == 1) = false := beq_eq_false_iff_ne.2 (by omega)
            have hb2 : ((m : Int) != 1) = true := by rw [bne, hb]; rfl
            have hS : spT (signT (if k = 0 then true else false) (m : Int)) = [] := by simp [signT, spT, tM, Pa.tMinus, Pa.tPlus, hm0, hk0]
            have hC : spT (coefT (m : Int)) = 32 :: (digs m ++ [32, 42]) := by simp [coefT, spT, tM, tN, Pa.tStar, h1]
            have hnew := HNEW.out
            rw [hS, hC] at hnew
            have c1 := cat_str O [32] (by simp only [List.length_append, List.length_cons, List.length_nil] at *; omega)
            obtain ⟨O1, o1⟩ : ∃ x, x = O ++ [32] := ⟨_, rfl⟩
            have l1 : O1.length = O.length + ([32] : List UInt8).length := by rw [o1, List.length_append]
            rw [← o1] at c1
            have c2 := cat_str O1 D (by simp only [List.length_append, List.length_cons, List.length_nil] at *; omega)
            obtain ⟨O2, o2⟩ : ∃ x, x = O1 ++ D := ⟨_, rfl⟩
            have l2 : O2.length = O1.length + (D : List UInt8).length := by rw [o2, List.length_append]
            rw [← o2] at c2
            have c3 := cat_str O2 [32, 42] (by simp only [List.length_append, List.length_cons, List.length_nil] at *; omega)
            obtain ⟨O3, o3⟩ : ∃ x, x = O2 ++ [32, 42] := ⟨_, rfl⟩
            have l3 : O3.length = O2.length + ([32, 42] : List UInt8).length := by rw [o3, List.length_append]
            rw [← o3] at c3
            have c4 := cat_str O3 [32] (by simp only [List.length_append, List.length_cons, List.length_nil] at *; omega)
            obtain ⟨O4, o4⟩ : ∃ x, x = O3 ++ [32] := ⟨_, rfl⟩
            have l4 : O4.length = O3.length + ([32] : List UInt8).length := by rw [o4, List.length_append]
            rw [← o4] at c4
            have c5 := cat_str O4 d.name (by simp only [List.length_append, List.length_cons, List.length_nil] at *; omega)
            obtain ⟨O5, o5⟩ : ∃ x, x = O4 ++ d.name := ⟨_, rfl⟩
            have l5 : O5.length = O4.length + (d.name : List UInt8).length := by rw [o5, List.length_append]
            rw [← o5] at c5
            have HEQ := Lib.hid (show O5 = spT (sumT nm true ((vs.zip ks).take (k + 1))) by rw [hnew, o5, o4, o3, o2, o1]; simp [HDd.out])
            have HLN := Lib.hid (show O5.length ≤ 2000 * (k + 1) by simp only [List.length_append, List.length_cons, List.length_nil] at *; omega)
            clear o1 l1 o2 l2 o3 l3 o4 l4 o5 l5 hS hC hnew hOl hk0 hneg
            go_wp2_with fail
            refine (HD.out _).mono ?_
            rintro e w1 ⟨rfl, hB1⟩
            have C1 := Lib.hid (Cc.out.trans (hB1.mono Cc.out.size))
            have d1 := cell_stays hB1 d0
            have v1 := cell_stays hB1 vc
            clear hB1
            go_wp2_with fail
            go_roundw
            case rel => exact ⟨k + 1, O5, by omega, by go_num, rfl, HEQ.out, HLN.out, C1.out⟩
            case measure => simp [intOf]; omega
        · have hk1 : (0 : Int) < (k : Int) := by omega
          by_cases h1 : m = 1
          · have hb : ((m : Int) == 1) = true := beq_iff_eq.2 (by omega)
            have hb2 : ((m : Int) != 1) = false := by rw [bne, hb]; rfl
            have hS : spT (signT (if k = 0 then true else false) (m : Int)) = [32, 43] := by simp [signT, spT, tM, Pa.tMinus, Pa.tPlus, hm0, hk0]
            have hC : spT (coefT (m : Int)) = [] := by simp [coefT, spT, h1]
            have hnew := HNEW.out
            rw [hS, hC] at hnew
            have c1 := cat_str O [32, 43] (by simp only [List.length_append, List.length_cons, List.length_nil] at *; omega)
            obtain ⟨O1, o1⟩ : ∃ x, x = O ++ [32, 43] := ⟨_, rfl⟩
            have l1 : O1.length = O.length + ([32, 43] : List UInt8).length := by rw [o1, List.length_append]
            rw [← o1] at c1
            have c2 := cat_str O1 [32] (by simp only [List.length_append, List.length_cons, List.length_nil] at *; omega)
            obtain ⟨O2, o2⟩ : ∃ x, x = O1 ++ [32] := ⟨_, rfl⟩
            have l2 : O2.length = O1.length + ([32] : List UInt8).length := by rw [o2, List.length_append]
            rw [← o2] at c2
            have c3 := cat_str O2 d.name (by simp only [List.length_append, List.length_cons, List.length_nil] at *; omega)
            obtain ⟨O3, o3⟩ : ∃ x, x = O2 ++ d.name := ⟨_, rfl⟩
            have l3 : O3.length = O2.length + (d.name : List UInt8).length := by rw [o3, List.length_append]
            rw [← o3] at c3
            have HEQ := Lib.hid (show O3 = spT (sumT nm true ((vs.zip ks).take (k + 1))) by rw [hnew, o3, o2, o1]; simp)
            have HLN := Lib.hid (show O3.length ≤ 2000 * (k + 1) by simp only [List.length_append, List.length_cons, List.length_nil] at *; omega)
            clear o1 l1 o2 l2 o3 l3 hS hC hnew hOl hk0 hneg
            go_wp2_with fail
            go_roundw
            case rel => exact ⟨k + 1, O3, by omega, by go_num, rfl, HEQ.out, HLN.out, Cc.out⟩
            case measure => simp [intOf]; omega
          · have hb : ((m : Int) == 1) = false := beq_eq_false_iff_ne.2 (by omega)
            have hb2 : ((m : Int) != 1) = true := by rw [bne, hb]; rfl
            have hS : spT (signT (if k = 0 then true else false) (m : Int)) = [32, 43] := by simp [signT, spT, tM, Pa.tMinus, Pa.tPlus, hm0, hk0]
            have hC : spT (coefT (m : Int)) = 32 :: (digs m ++ [32, 42]) := by simp [coefT, spT, tM, tN, Pa.tStar, h1]
            have hnew := HNEW.out
            rw [hS, hC] at hnew
            have c1 := cat_str O [32, 43] (by simp only [List.length_append, List.length_cons, List.length_nil] at *; omega)
            obtain ⟨O1, o1⟩ : ∃ x, x = O ++ [32, 43] := ⟨_, rfl⟩
            have l1 : O1.length = O.length + ([32, 43] : List UInt8).length := by rw [o1, List.length_append]
            rw [← o1] at c1
            have c2 := cat_str O1 [32] (by simp only [List.length_append, List.length_cons, List.length_nil] at *; omega)
            obtain ⟨O2, o2⟩ : ∃ x, x = O1 ++ [32] := ⟨_, rfl⟩
            have l2 : O2.length = O1.length + ([32] : List UInt8).length := by rw [o2, List.length_append]
            rw [← o2] at c2
            have c3 := cat_str O2 D (by simp only [List.length_append, List.length_cons, List.length_nil] at *; omega)
            obtain ⟨O3, o3⟩ : ∃ x, x = O2 ++ D := ⟨_, rfl⟩
            have l3 : O3.length = O2.length + (D : List UInt8).length := by rw [o3, List.length_append]
            rw [← o3] at c3
            have c4 := cat_str O3 [32, 42] (by simp only [List.length_append, List.length_cons, List.length_nil] at *; omega)
            obtain ⟨O4, o4⟩ : ∃ x, x = O3 ++ [32, 42] := ⟨_, rfl⟩
            have l4 : O4.length = O3.length + ([32, 42] : List UInt8).length := by rw [o4, List.length_append]
            rw [← o4] at c4
            have c5 := cat_str O4 [32] (by simp only [List.length_append, List.length_cons, List.length_nil] at *; omega)
            obtain ⟨O5, o5⟩ : ∃ x, x = O4 ++ [32] := ⟨_, rfl⟩
            have l5 : O5.length = O4.length + ([32] : List UInt8).length := by rw [o5, List.length_append]
            rw [← o5] at c5
            have c6 := cat_str O5 d.name (by simp only [List.length_append, List.length_cons, List.length_nil] at *; omega)
            obtain ⟨O6, o6⟩ : ∃ x, x = O5 ++ d.name := ⟨_, rfl⟩
            have l6 : O6.length = O5.length + (d.name : List UInt8).length := by rw [o6, List.length_append]
            rw [← o6] at c6
            have HEQ := Lib.hid (show O6 = spT (sumT nm true ((vs.zip ks).take (k + 1))) by rw [hnew, o6, o5, o4, o3, o2, o1]; simp [HDd.out])
            have HLN := Lib.hid (show O6.length ≤ 2000 * (k + 1) by simp only [List.length_append, List.length_cons, List.length_nil] at *; omega)
            clear o1 l1 o2 l2 o3 l3 o4 l4 o5 l5 o6 l6 hS hC hnew hOl hk0 hneg
            go_wp2_with fail
            refine (HD.out _).mono ?_
            rintro e w1 ⟨rfl, hB1⟩
            have C1 := Lib.hid (Cc.out.trans (hB1.mono Cc.out.size))
            have d1 := cell_stays hB1 d0
            have v1 := cell_stays hB1 vc
            clear hB1
            go_wp2_with fail
            go_roundw
            case rel => exact ⟨k + 1, O6, by omega, by go_num, rfl, HEQ.out, HLN.out, C1.out⟩
            case measure => simp [intOf]; omega
    · obtain rfl : k = lc := by omega
      have hfull : (vs.zip ks).take k = vs.zip ks := List.take_of_length_le (by rw [List.length_zip]; have := HL.out; have := H.out.same; omega)
      rw [hfull] at hO
      have HO := Lib.hid hO
      clear hO hB
      go_wp2_with fail
      go_ret
      rw [← HO.out]
      exact ⟨rfl, Cc.out⟩
end Go.Proofs.YtkgieaoahijheaaDoor.Wt
