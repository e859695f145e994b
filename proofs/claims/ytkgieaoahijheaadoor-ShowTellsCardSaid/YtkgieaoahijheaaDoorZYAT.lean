/-
  A sum, as the writer puts it out.
  A sum, and what it compares to, as the writer puts them out.
-/
import Derived.Test.YtkgieaoahijheaaDoorZYAS
import Derived.Deep.DeepCutAuto
import Derived.Deep.CutBlock
namespace Go.Proofs.YtkgieaoahijheaaDoor.Wt
open Go.RowKit
open Sc (Tok)
set_option maxRecDepth 100000

section
variable {B b tb pb k kc : Nat} {W w u u' : World} {X : List UInt8} {pn : Option Addr} {bn on_ ln cn : Nat} {L : List PDecl} {nm : Int → Tok}
/-- the writer's own variable, and one more of a type that is not the bytes' -/
structure Bc (B b tb pb k kc : Nat) (pn : Option Addr) (ln cn : Nat) (cs : Array Value) (t : TypeId) (W w : World) : Prop where
  bx : Bx B b tb pb k pn ln cn W w
  row : w.heap[kc]? = some (.cells cs t)
  ty : t ≠ TU
  kb : kc ≠ b
  kp : kc ≠ pb
theorem Bc.move {cs : Array Value} {t : TypeId} (h : Bc B b tb pb k kc pn ln cn cs t W u) (hK : Kp B b pb u u') : Bc B b tb pb k kc pn ln cn cs t W u' := ⟨h.bx.move hK, hK.row h.row h.kb h.kp h.ty, h.ty, h.kb, h.kp⟩
theorem Bc.cell {cs : Array Value} {t : TypeId} (h : Bc B b tb pb k kc pn ln cn cs t W u) (j : Nat) : u.cell? ⟨kc, j, none⟩ = cs[j]? := cell_of_row u kc j cs t (0, 0) h.row
theorem bc_start (H : PutAt B b tb pb X W) (cs : Array Value) (t : TypeId) (ht : t ≠ TU) : Bc B b tb pb W.heap.size (W.heap.size + 1) pn ln cn cs t W ((W.alloc (.cells #[.slice pn ln cn, putV tb pb] 55)).alloc (.cells cs t)) := by
  have h := bx_start (pn := pn) (ln := ln) (cn := cn) H
  have s1 : (W.alloc (.cells #[.slice pn ln cn, putV tb pb] 55)).heap.size = W.heap.size + 1 := by simp
  have h1 := heap_alloc_new (W.alloc (.cells #[.slice pn ln cn, putV tb pb] 55)) (.cells cs t)
  rw [s1] at h1
  exact ⟨h.move (kp_alloc (H.alloc _).size _), h1, ht, by have := H.lt; omega, by have := H.ltp; omega⟩
/-- what stands in a region: the writer's variable, one cell more -/
theorem bcm {cs : Array Value} {t : TypeId} {a : Addr} {x : Value} (h : u.cell? ⟨k, 0, none⟩ = some (.slice pn ln cn) ∧ u.cell? ⟨k, 1, none⟩ = some (putV tb pb) ∧ u.cell? a = some x ∧ Bc B b tb pb k kc pn ln cn cs t W u) (hx : ∀ v, Bc B b tb pb k kc pn ln cn cs t W v → v.cell? a = some x) (hK : Kp B b pb u u') :
    u'.cell? ⟨k, 0, none⟩ = some (.slice pn ln cn) ∧ u'.cell? ⟨k, 1, none⟩ = some (putV tb pb) ∧ u'.cell? a = some x ∧ Bc B b tb pb k kc pn ln cn cs t W u' := by
  have h2 := h.2.2.2.move hK
  obtain ⟨h0, h1, _⟩ := h2.bx.cells
  exact ⟨h0, h1, hx u' h2, h2⟩
theorem one_num (H : PutAt B b tb pb X w) (z : Int) (hf : Fit z) : ∀ u, Kp B b pb (w.alloc (.cells #[.int .i64 z] 3)) u → Nums u (some ⟨w.heap.size, 0, none⟩) w.heap.size 0 1 [z] := fun u hK => by
  have h1 := hK.row (heap_alloc_new w (.cells #[.int .i64 z] 3)) (by have := H.lt; omega) (by have := H.ltp; omega) (by decide)
  refine ⟨rfl, fun _ => rfl, fun k hk => ?_, fun k hk => ?_⟩
  · obtain rfl : k = 0 := by omega
    exact cell_of_row u w.heap.size 0 _ 3 (0, 0) h1
  · obtain rfl : k = 0 := by omega
    exact hf
/-- what stands ahead of a term -/
def plusT (k : Nat) (c : Int) : List Tok := if 0 < k ∧ 0 < c then [tM Pa.tPlus] else []
theorem sign_plus (k : Nat) (c : Int) (hc : c ≠ 0) : signT (if k = 0 then true else false) c = plusT k c ++ signN c := by
  unfold signT plusT signN
  by_cases h : c < 0
  · rw [if_pos h, if_pos h, if_neg (by omega)]
    rfl
  · rw [if_neg h, if_neg h]
    by_cases h0 : k = 0
    · rw [if_pos h0, if_pos rfl, if_neg (by omega)]
      rfl
    · rw [if_neg h0, if_neg (by decide), if_pos ⟨by omega, by omega⟩]
      rfl
theorem take_nil (l : List (Int × Int)) (k : Nat) (hk : k < l.length) : (l.take k = []) = (k = 0) := by
  rw [List.take_eq_nil_iff, eq_iff_iff]
  constructor
  · rintro (h | h)
    · exact h
    · rw [h] at hk; simp at hk
  · exact .inl
theorem term_put {vs ks : List Int} {k : Nat} {v c : Int} (hv : vs[k]? = some v) (hc : ks[k]? = some c) (h0 : c ≠ 0) :
    putT (sumT nm true ((vs.zip ks).take (k + 1))) = putT (sumT nm true ((vs.zip ks).take k)) ++ (putT (plusT k c) ++ (putT (signN c) ++ (putT (coefT c) ++ sepO (nm v).text))) := by
  have hz := zip_at hv hc
  have hk := (List.getElem?_eq_some_iff.1 hz).1
  rw [List.take_add_one, hz]
  simp only [Option.toList_some]
  rw [sum_snoc]
  simp only [take_nil _ _ hk]
  rw [sign_plus k c h0]
  simp only [putT_app, putT_one, List.append_assoc]
theorem sum_drop : ∀ (l : List (Int × Int)) (first : Bool) (k : Nat), ∃ s, sumT nm first l = sumT nm first (l.take k) ++ s
  | l, first, 0 => ⟨sumT nm first l, by simp [sumT]⟩
  | [], first, k + 1 => ⟨[], by simp [sumT]⟩
  | (x, y) :: l, first, k + 1 => by
    obtain ⟨s, hs⟩ := sum_drop l false k
    refine ⟨s, ?_⟩
    show signT first y ++ (coefT y ++ ([nm x] ++ sumT nm false l)) = (signT first y ++ (coefT y ++ ([nm x] ++ sumT nm false (l.take k)))) ++ s
    rw [hs]
    simp
theorem sump_long (l : List (Int × Int)) (k : Nat) : (putT (sumT nm true (l.take k))).length ≤ (putT (sumT nm true l)).length := by
  obtain ⟨s, hs⟩ := sum_drop (nm := nm) l true k
  rw [hs, putT_app, List.length_append]
  omega
/-- a sum of a constraint, and what is known of it -/
structure SumK (L : List PDecl) (nm : Int → Tok) (vs ks : List Int) : Prop where
  same : vs.length = ks.length
  vars : VarK L nm vs
  coefs : ∀ k ∈ ks, k ≠ 0 ∧ k.natAbs ≤ 1000000000000000000
  few : ks.length ≤ 1000000
end
end Go.Proofs.YtkgieaoahijheaaDoor.Wt
namespace Go.Proofs.YtkgieaoahijheaaDoor.Wt
open Go.RowKit
open Sc (Tok)
set_option maxRecDepth 100000

section
variable {B b tb pb : Nat} {W : World} {X : List UInt8} {pn : Option Addr} {bn on_ ln cn : Nat} {L : List PDecl} {nm : Int → Tok}
set_option maxHeartbeats 16000000 in
theorem sum_put (H : PutAt B b tb pb X W) (K : NmK B b pb W pn bn on_ ln L nm) (vs ks : List Int) (kind r const : Int) (p1 pc p3 pv : Option Addr) (l1 c1 bc oc nc cc l3 c3 bv ov nv cv : Nat)
    (HV : ∀ u, Kp B b pb W u → Nums u pv bv ov nv vs) (HC : ∀ u, Kp B b pb W u → Nums u pc bc oc nc ks) (S : SumK L nm vs ks) (hr : 0 ≤ r ∧ r ≤ 5) (ht : const.natAbs ≤ 1000000000000000000)
    (hX : X.length + (putT (sumsT nm (vs.zip ks) r const)).length ≤ 100000000000) :
    Calls Tryd.prog 43 #[.agg #[.slice pn ln cn, putV tb pb], .agg #[.int .i64 kind, .slice p1 l1 c1, .slice pc nc cc, .int .i64 r, .int .i64 const, .slice p3 l3 c3], .slice pv nv cv] W fun e w' => e = .returned (.tuple #[]) ∧ PutAt B b tb pb (X ++ putT (sumsT nm (vs.zip ks) r const)) w' ∧ Kp B b pb W w' := by
  obtain ⟨rr, rfl⟩ : ∃ rr : Nat, r = (rr : Int) := ⟨r.toNat, by omega⟩
  have hr5 : rr ≤ 5 := by omega
  obtain ⟨cs, hcs⟩ : ∃ cs : Array Value, cs = #[.int .i64 kind, .slice p1 l1 c1, .slice pc nc cc, .int .i64 (rr : Int), .int .i64 const, .slice p3 l3 c3] := ⟨_, rfl⟩
  have hbc := bc_start (pn := pn) (ln := ln) (cn := cn) H cs 28 (by decide)
  have hP0 := (H.alloc (.cells #[.slice pn ln cn, putV tb pb] 55)).alloc (.cells cs 28)
  have BC := Lib.hid (hcs ▸ hbc)
  have HP := Lib.hid (hcs ▸ hP0)
  have NV := Lib.hid HV
  have NC := Lib.hid HC
  have hlv := (HV W (Kp.refl W)).long
  have hlc := (HC W (Kp.refl W)).long
  have HLV := Lib.hid hlv
  have HLC := Lib.hid hlc
  have hatv := (HV W (Kp.refl W)).at_
  have hatc := (HC W (Kp.refl W)).at_
  have hsame : nv = nc := by have := S.same; omega
  subst hsame
  have hfew : nv ≤ 1000000 := by have := S.few; omega
  have KK := Lib.hid K
  have SS := Lib.hid S
  have HX := Lib.hid hX
  have HT := Lib.hid ht
  clear hcs hbc hP0 H HV HC hlv hlc K S hX ht hr cs
  unfold putV at *
  go_enter Tryd.func43, Tryd.ntmps43
  go_wp2_with fail
  go_loopw [11] (fun i wr => ∃ k : Nat, k ≤ nv ∧ i = .int .i64 k ∧ PutAt B b tb pb (X ++ putT (sumT nm true ((vs.zip ks).take k))) wr ∧ Bc B b tb pb W.heap.size (W.heap.size + 1) pn ln cn #[.int .i64 kind, .slice p1 l1 c1, .slice pc nv cc, .int .i64 (rr : Int), .int .i64 const, .slice p3 l3 c3] 28 W wr) (fun i _ => nv - (intOf i).toNat)
  case atStart =>
    refine ⟨0, by omega, rfl, ?_, BC.out⟩
    simpa [putT, putX, sumT] using HP.out
  case round =>
    obtain ⟨k, hk, rfl, hP, hB⟩ := hrel
    obtain ⟨wo, rfl⟩ : ∃ wo, wo = wr := ⟨_, rfl⟩
    by_cases hlt : k < nv
    · obtain rfl := hatc (by omega)
      obtain rfl := hatv (by omega)
      have hkv : k < vs.length := by have := HLV.out; omega
      have hkc : k < ks.length := by have := HLC.out; omega
      obtain ⟨v, hv⟩ : ∃ v, v = vs.getD k 0 := ⟨_, rfl⟩
      obtain ⟨c, hc⟩ : ∃ c, c = ks.getD k 0 := ⟨_, rfl⟩
      have hve : vs[k]? = some v := by rw [hv, List.getD_eq_getElem?_getD, List.getElem?_eq_getElem hkv]; rfl
      have hce : ks[k]? = some c := by rw [hc, List.getD_eq_getElem?_getD, List.getElem?_eq_getElem hkc]; rfl
      have hfv := (NV.out wo hB.bx.kept).fit k hlt
      rw [← hv] at hfv
      have hcc := (NC.out wo hB.bx.kept).cell k hlt
      rw [← hc] at hcc
      have HCV := Lib.hid (fun u (hu : Kp B b pb W u) => (NV.out u hu).cell k hlt)
      rw [← hv] at HCV
      obtain ⟨hc0, hc1⟩ := SS.out.coefs c (List.mem_of_getElem? hce)
      have hvk : VarK L nm [v] := fun x hx => by rw [List.mem_singleton.1 hx]; exact SS.out.vars v (List.mem_of_getElem? hve)
      obtain ⟨Y, eY⟩ : ∃ Y, Y = X ++ putT (sumT nm true ((vs.zip ks).take k)) := ⟨_, rfl⟩
      rw [← eY] at hP
      have hlen : Y.length + ((putT (plusT k c)).length + ((putT (signN c)).length + ((putT (coefT c)).length + (sepO (nm v).text).length))) ≤ 100000000000 := by
        have q := sump_long (nm := nm) (vs.zip ks) (k + 1)
        rw [term_put hve hce hc0] at q
        have := HX.out
        unfold sumsT at this
        rw [putT_app] at this
        simp only [List.length_append] at q this
        rw [eY, List.length_append]
        omega
      have HLEN := Lib.hid hlen
      have HE := Lib.hid (show X ++ putT (sumT nm true ((vs.zip ks).take (k + 1))) = (((Y ++ putT (plusT k c)) ++ putT (signN c)) ++ putT (coefT c)) ++ sepO (nm v).text by rw [term_put hve hce hc0, eY]; simp only [List.append_assoc])
      have HPY := Lib.hid hP
      have HB := Lib.hid hB
      have HC0 := Lib.hid hc0
      have HC1 := Lib.hid hc1
      have HVK := Lib.hid hvk
      have HFV := Lib.hid hfv
      obtain ⟨x0, x1, _⟩ := hB.bx.cells
      unfold putV at x1
      have D1 := Lib.hid (put_one hP [43])
      clear hP hB hkv hkc hv hc hve hce hfv hc0 hc1 hvk eY hlen
      go_upto_region 4 with fail
      obtain ⟨q, hq⟩ : ∃ q, q = decide (0 < k ∧ 0 < c) := ⟨_, rfl⟩
      have HQ := Lib.hid hq
      clear hq
      go_cut [21] (fun v wx => v = .bool q ∧ wx = wo)
      case first =>
        by_cases h2 : k = 0
        · have i0 : ¬ (0 : Int) < (k : Int) := by omega
          have i1 : (k : Int) ≤ 0 := by omega
          have hq : q = false := by rw [HQ.out]; simp [h2]
          have QQ := Lib.hid hq
          clear hq h2
          go_wp2_with fail
          go_meet
          case rel => exact ⟨by rw [QQ.out], rfl⟩
        · have i0 : (0 : Int) < (k : Int) := by omega
          have n0 : 0 < k := by omega
          by_cases h3 : 0 < c
          · have i1 : (0 : Int) < c := h3
            have hq : q = true := by rw [HQ.out]; simp [h3]; omega
            have QQ := Lib.hid hq
            clear hq h2 h3
            go_wp2_with fail
            go_meet
            case rel => exact ⟨by rw [QQ.out], rfl⟩
          · have i1 : ¬ (0 : Int) < c := h3
            have i2 : c ≤ 0 := by omega
            have hq : q = false := by rw [HQ.out]; simp [h3]
            have QQ := Lib.hid hq
            clear hq h2 h3
            go_wp2_with fail
            go_meet
            case rel => exact ⟨by rw [QQ.out], rfl⟩
      case rest =>
      obtain ⟨rfl, hwc⟩ := hcut
      rw [hwc]
      clear hwc
      go_upto_if 21 with (fail)
      go_cut [] (fun wx => PutAt B b tb pb (Y ++ putT (plusT k c)) wx ∧ Bc B b tb pb W.heap.size (W.heap.size + 1) pn ln cn #[.int .i64 kind, .slice p1 l1 c1, .slice (some ⟨bc, oc, none⟩) nv cc, .int .i64 (rr : Int), .int .i64 const, .slice p3 l3 c3] 28 W wx)
      case first =>
        cases q
        · have hn : ¬ (0 < k ∧ 0 < c) := of_decide_eq_false HQ.out.symm
          have e : Y ++ putT (plusT k c) = Y := by unfold plusT; rw [if_neg hn]; simp [putT, putX]
          have EE := Lib.hid e
          have HPB := Lib.hid (And.intro HPY.out HB.out)
          clear e hn
          go_wp2_with fail
          go_meet
          case rel => rw [EE.out]; exact HPB.out
        · have hn : 0 < k ∧ 0 < c := of_decide_eq_true HQ.out.symm
          have e : putT (plusT k c) = sepO [43] := by unfold plusT; rw [if_pos hn, putT_one]; rfl
          have EE := Lib.hid e
          have hl : Y.length + (sepO [43]).length ≤ 100000000000 := by have := HLEN.out; rw [e] at this; omega
          clear e hn
          go_wp2_with fail
          refine (D1.out hl).mono ?_
          rintro e u1 ⟨rfl, hP1, hK1⟩
          have hB1 := HB.out.move ((kp_alloc HPY.out.size _).trans hK1)
          have HP1 := Lib.hid (And.intro hP1 hB1)
          clear hP1 hK1 hB1
          go_wp2_with fail
          go_meet
          case rel => rw [EE.out]; exact HP1.out
      case rest =>
        obtain ⟨hP1, hB1⟩ := hcut
        obtain ⟨Y1, eY1⟩ : ∃ Y1, Y1 = Y ++ putT (plusT k c) := ⟨_, rfl⟩
        have HE1 := Lib.hid eY1
        rw [← eY1] at hP1
        obtain ⟨m, hm⟩ : ∃ m : Nat, m = c.natAbs := ⟨_, rfl⟩
        have HMM := Lib.hid hm
        have hm0 : m ≤ 1000000000000000000 := by have := HC1.out; omega
        have hl1 : Y1.length + (putT (signN c)).length ≤ 100000000000 := by
          have := HLEN.out
          rw [eY1, List.length_append]
          omega
        have HM := Lib.hid (minus_any (pn := pn) (ln := ln) (cn := cn) hP1 c (by omega) hl1)
        rw [← hm] at HM
        unfold putV at HM
        obtain ⟨y0, y1, _⟩ := hB1.bx.cells
        unfold putV at y1
        have HB1 := Lib.hid hB1
        clear hP1 hB1 eY1 hm hl1 x0 x1
        go_wp2_with fail
        refine HM.out.mono ?_
        rintro e u2 ⟨rfl, hP2, hK2⟩
        obtain ⟨Y2, eY2⟩ : ∃ Y2, Y2 = Y1 ++ putT (signN c) := ⟨_, rfl⟩
        have HE2 := Lib.hid eY2
        rw [← eY2] at hP2
        have HP2 := Lib.hid hP2
        have HB2 := Lib.hid (HB1.out.move hK2)
        clear hP2 hK2 eY2 y0 y1
        go_upto_region 7 with fail
        obtain ⟨q, hq⟩ : ∃ q, q = decide (m ≠ 1) := ⟨_, rfl⟩
        have HQ := Lib.hid hq
        clear hq
        go_cut [30] (fun v wx => v = .bool q ∧ wx = u2)
        case first =>
          have hb2 : ((m : Int) != 1) = q := by
            rw [HQ.out, bne]
            by_cases h : m = 1
            · rw [h]; rfl
            · rw [beq_eq_false_iff_ne.2 (by omega)]; simp [h]
          have hb3 : (!((m : Int) == 1)) = q := hb2
          go_wp2_with fail
          go_meet
          case rel => exact ⟨by first | rfl | (rw [hb2]) | (simp only [hb3]), rfl⟩
        case rest =>
        obtain ⟨rfl, hwc⟩ := hcut
        rw [hwc]
        clear hwc
        go_upto_if 30 with (fail)
        go_cut [] (fun wx => PutAt B b tb pb (Y2 ++ putT (coefT c)) wx ∧ Bc B b tb pb W.heap.size (W.heap.size + 1) pn ln cn #[.int .i64 kind, .slice p1 l1 c1, .slice (some ⟨bc, oc, none⟩) nv cc, .int .i64 (rr : Int), .int .i64 const, .slice p3 l3 c3] 28 W wx)
        case first =>
          cases q
          · have h1 : m = 1 := by have := of_decide_eq_false HQ.out.symm; omega
            have e : Y2 ++ putT (coefT c) = Y2 := by unfold coefT; rw [if_pos (by rw [← HMM.out]; exact h1)]; simp [putT, putX]
            have EE := Lib.hid e
            have HPB := Lib.hid (And.intro HP2.out HB2.out)
            clear e h1
            go_wp2_with fail
            go_meet
            case rel => rw [EE.out]; exact HPB.out
          · have h1 : m ≠ 1 := of_decide_eq_true HQ.out.symm
            have e : putT (coefT c) = sepO (digs m) ++ sepO [42] := by
              unfold coefT
              rw [if_neg (by rw [← HMM.out]; exact h1), ← HMM.out]
              simp [putT, putX, tN, tM, Pa.tStar]
            have EE := Lib.hid e
            have hl : Y2.length + ((sepO (digs m)).length + (sepO [42]).length) ≤ 100000000000 := by
              have := HLEN.out
              rw [e] at this
              simp only [HE2.out, HE1.out, List.length_append] at this ⊢
              omega
            have HI := Lib.hid (fun (v : World) (h : PutAt B b tb pb Y2 v) => itoa_any h m (by omega))
            have HO := Lib.hid (fun (v : World) (h : PutAt B b tb pb Y2 v) => put_two h (digs m) [42] hl)
            have hcx := HB2.out.cell 3
            obtain ⟨z0, z1, _⟩ := HB2.out.bx.cells
            have H0 := Lib.hid (And.intro z0 (And.intro z1 (And.intro hcx HB2.out)))
            have HCX := Lib.hid (fun v (h : Bc B b tb pb W.heap.size (W.heap.size + 1) pn ln cn #[.int .i64 kind, .slice p1 l1 c1, .slice (some ⟨bc, oc, none⟩) nv cc, .int .i64 (rr : Int), .int .i64 const, .slice p3 l3 c3] 28 W v) => h.cell 3)
            unfold putV at H0
            clear e h1 hl hcx z0 z1
            go_wp2_with fail
            go_region_held3 (fun w' => w'.cell? ⟨W.heap.size, 0, none⟩ = some (.slice pn ln cn) ∧ w'.cell? ⟨W.heap.size, 1, none⟩ = some (.func (.func 34) #[] #[.pointer (some ⟨tb, 0, none⟩), .pointer (some ⟨pb, 0, none⟩)]) ∧ w'.cell? ⟨W.heap.size + 1, 3, none⟩ = some (.int .i64 (rr : Int)) ∧ Bc B b tb pb W.heap.size (W.heap.size + 1) pn ln cn #[.int .i64 kind, .slice p1 l1 c1, .slice (some ⟨bc, oc, none⟩) nv cc, .int .i64 (rr : Int), .int .i64 const, .slice p3 l3 c3] 28 W w')
              (first | exact bcm (by assumption) HCX.out (by assumption) | exact bcm H0.out HCX.out (kp_drewN 1) | exact bcm (by assumption) HCX.out (kp_alloc HP3.out.size _))
              (first
                | (go_at_call 59; refine (HI.out _ (HP2.out.drewN 1)).mono ?_; rintro e u3 ⟨rfl, hP3, hK3⟩; have HP3 := Lib.hid hP3; clear hP3)
                | (go_at_call 34; refine (HO.out _ HP3.out).mono ?_; rintro e u4 ⟨rfl, hP4, hK4⟩; have HP4 := Lib.hid hP4; clear hP4))
            have HB4 := Lib.hid (And.right (And.right (And.right (by assumption : u4.cell? ⟨W.heap.size, 0, none⟩ = some (.slice pn ln cn) ∧ u4.cell? ⟨W.heap.size, 1, none⟩ = some (.func (.func 34) #[] #[.pointer (some ⟨tb, 0, none⟩), .pointer (some ⟨pb, 0, none⟩)]) ∧ u4.cell? ⟨W.heap.size + 1, 3, none⟩ = some (.int .i64 (rr : Int)) ∧ Bc B b tb pb W.heap.size (W.heap.size + 1) pn ln cn #[.int .i64 kind, .slice p1 l1 c1, .slice (some ⟨bc, oc, none⟩) nv cc, .int .i64 (rr : Int), .int .i64 const, .slice p3 l3 c3] 28 W u4))))
            have HPB := Lib.hid (And.intro HP4.out HB4.out)
            go_wp2_with fail
            go_meet
            case rel => rw [EE.out]; exact HPB.out
        case rest =>
          obtain ⟨hP5, hB5⟩ := hcut
          obtain ⟨Y3, eY3⟩ : ∃ Y3, Y3 = Y2 ++ putT (coefT c) := ⟨_, rfl⟩
          rw [← eY3] at hP5
          have hl5 : Y3.length + (putT ([v].map nm)).length ≤ 100000000000 := by
            have := HLEN.out
            have q : putT ([v].map nm) = sepO (nm v).text := putT_one _
            rw [q, eY3]
            simp only [HE2.out, HE1.out, List.length_append] at this ⊢
            omega
          have HN := Lib.hid (fun (u : World) (hP : PutAt B b tb pb Y3 u) (hK : Kp B b pb W u) => names_any (pn := pn) (ln := ln) (cn := cn) (hP.alloc (.cells #[.int .i64 v] 3)) (KK.out.move (hK.trans (kp_alloc hP.size _))) [v] (some ⟨u.heap.size, 0, none⟩) u.heap.size 0 1 1 (by omega) (one_num hP v HFV.out) HVK.out hl5)
          unfold putV at HN
          have HP5 := Lib.hid hP5
          have HCV2 := Lib.hid (fun u (h : Bc B b tb pb W.heap.size (W.heap.size + 1) pn ln cn #[.int .i64 kind, .slice p1 l1 c1, .slice (some ⟨bc, oc, none⟩) nv cc, .int .i64 (rr : Int), .int .i64 const, .slice p3 l3 c3] 28 W u) => HCV.out u h.bx.kept)
          obtain ⟨z0, z1, _⟩ := hB5.bx.cells
          have H0 := Lib.hid (And.intro z0 (And.intro z1 (And.intro (HCV.out _ hB5.bx.kept) hB5)))
          unfold putV at H0
          have HE3 := Lib.hid eY3
          have HK5 := Lib.hid hB5.bx.kept
          clear hP5 hB5 eY3 hl5 z0 z1
          go_wp2_with fail
          go_region_held3 (fun w' => w'.cell? ⟨W.heap.size, 0, none⟩ = some (.slice pn ln cn) ∧ w'.cell? ⟨W.heap.size, 1, none⟩ = some (.func (.func 34) #[] #[.pointer (some ⟨tb, 0, none⟩), .pointer (some ⟨pb, 0, none⟩)]) ∧ w'.cell? ⟨bv, ov + k, none⟩ = some (.int .i64 v) ∧ Bc B b tb pb W.heap.size (W.heap.size + 1) pn ln cn #[.int .i64 kind, .slice p1 l1 c1, .slice (some ⟨bc, oc, none⟩) nv cc, .int .i64 (rr : Int), .int .i64 const, .slice p3 l3 c3] 28 W w')
            (first | exact bcm (by assumption) HCV2.out (by assumption) | exact bcm H0.out HCV2.out (kp_drewN 1) | exact bcm (by assumption) HCV2.out (kp_alloc (HP5.out.drewN 1).size _))
            (first
              | (go_at_call 44; refine (HN.out _ (HP5.out.drewN 1) (HK5.out.drewN 1)).mono ?_; rintro e u6 ⟨rfl, hP6, hK6⟩; have HP6 := Lib.hid hP6; clear hP6))
          have HB6 := Lib.hid (And.right (And.right (And.right (by assumption : u6.cell? ⟨W.heap.size, 0, none⟩ = some (.slice pn ln cn) ∧ u6.cell? ⟨W.heap.size, 1, none⟩ = some (.func (.func 34) #[] #[.pointer (some ⟨tb, 0, none⟩), .pointer (some ⟨pb, 0, none⟩)]) ∧ u6.cell? ⟨bv, ov + k, none⟩ = some (.int .i64 v) ∧ Bc B b tb pb W.heap.size (W.heap.size + 1) pn ln cn #[.int .i64 kind, .slice p1 l1 c1, .slice (some ⟨bc, oc, none⟩) nv cc, .int .i64 (rr : Int), .int .i64 const, .slice p3 l3 c3] 28 W u6))))
          go_wp2_with fail
          go_roundw
          case rel =>
            refine ⟨k + 1, by omega, rfl, ?_, HB6.out⟩
            have q : putT ([v].map nm) = sepO (nm v).text := putT_one _
            have := HP6.out
            rw [q, HE3.out, HE2.out, HE1.out] at this
            rw [HE.out]
            exact this
          case measure =>
            simp [intOf]
            omega
    · obtain rfl : k = nv := by omega
      have e : (vs.zip ks).take k = vs.zip ks := by
        refine List.take_of_length_le ?_
        rw [List.length_zip]
        have := HLV.out
        omega
      rw [e] at hP
      obtain ⟨Y, eY⟩ : ∃ Y, Y = X ++ putT (sumT nm true (vs.zip ks)) := ⟨_, rfl⟩
      rw [← eY] at hP
      have hE : X ++ putT (sumsT nm (vs.zip ks) (rr : Int) const) = (Y ++ sepO (Pa.relsL.getD rr [])) ++ putT (numT const) := by
        unfold sumsT
        rw [putT_app, putT_app, putT_one, eY]
        simp only [List.append_assoc]
        rfl
      have hlen : Y.length + ((sepO (Pa.relsL.getD rr [])).length + (putT (numT const)).length) ≤ 100000000000 := by
        have h1 := congrArg List.length hE
        have := HX.out
        simp only [List.length_append] at h1 this
        omega
      have HE := Lib.hid hE
      have HR := Lib.hid (fun v => rel_any rr hr5 v)
      have HO := Lib.hid (fun (v : World) (h : PutAt B b tb pb Y v) => put_one h (Pa.relsL.getD rr []) (by omega))
      have HN := Lib.hid (fun (u : World) (hu : PutAt B b tb pb (Y ++ sepO (Pa.relsL.getD rr [])) u) => nums_any (pn := pn) (ln := ln) (cn := cn) (hu.alloc (.cells #[.int .i64 const] 3)) [const] (some ⟨u.heap.size, 0, none⟩) u.heap.size 0 1 1 (by omega) (one_num hu const (by have := HT.out; unfold Fit; omega)) (fun z hz => by rw [List.mem_singleton.1 hz]; have := HT.out; omega) (by simp only [List.flatMap_cons, List.flatMap_nil, List.append_nil, List.length_append]; omega))
      unfold putV at HN
      have HPY := Lib.hid hP
      obtain ⟨z0, z1, _⟩ := hB.bx.cells
      have H0 := Lib.hid (And.intro z0 (And.intro z1 (And.intro (hB.cell 3) hB)))
      have HCX := Lib.hid (fun v (h : Bc B b tb pb W.heap.size (W.heap.size + 1) pn ln cn #[.int .i64 kind, .slice p1 l1 c1, .slice pc k cc, .int .i64 (rr : Int), .int .i64 const, .slice p3 l3 c3] 28 W v) => h.cell 3)
      unfold putV at H0
      clear hP hB e eY hE hlen z0 z1 HLV HLC SS HX BC HP NV NC hatv hatc hlt hk
      go_wp2_with fail
      go_region_held3 (fun w' => w'.cell? ⟨W.heap.size, 0, none⟩ = some (.slice pn ln cn) ∧ w'.cell? ⟨W.heap.size, 1, none⟩ = some (.func (.func 34) #[] #[.pointer (some ⟨tb, 0, none⟩), .pointer (some ⟨pb, 0, none⟩)]) ∧ w'.cell? ⟨W.heap.size + 1, 3, none⟩ = some (.int .i64 (rr : Int)) ∧ Bc B b tb pb W.heap.size (W.heap.size + 1) pn ln cn #[.int .i64 kind, .slice p1 l1 c1, .slice pc k cc, .int .i64 (rr : Int), .int .i64 const, .slice p3 l3 c3] 28 W w')
        (first | exact bcm (by assumption) HCX.out (by assumption) | exact bcm H0.out HCX.out (kp_drewN 1) | exact bcm (by assumption) HCX.out (kp_alloc HP3.out.size _))
        (first
          | (go_at_call 60; refine (HR.out _).mono ?_; rintro e u3 ⟨rfl, hB3⟩; have HP3 := Lib.hid ((HPY.out.drewN 1).ext hB3); have hK3 := Kp.ext (b := b) (pb := pb) hB3 (HPY.out.drewN 1).size; clear hB3)
          | (go_at_call 34; refine (HO.out _ HP3.out).mono ?_; rintro e u4 ⟨rfl, hP4, hK4⟩; have HP4 := Lib.hid hP4; clear hP4))
      have h4 := (by assumption : u4.cell? ⟨W.heap.size, 0, none⟩ = some (.slice pn ln cn) ∧ u4.cell? ⟨W.heap.size, 1, none⟩ = some (.func (.func 34) #[] #[.pointer (some ⟨tb, 0, none⟩), .pointer (some ⟨pb, 0, none⟩)]) ∧ u4.cell? ⟨W.heap.size + 1, 3, none⟩ = some (.int .i64 (rr : Int)) ∧ Bc B b tb pb W.heap.size (W.heap.size + 1) pn ln cn #[.int .i64 kind, .slice p1 l1 c1, .slice pc k cc, .int .i64 (rr : Int), .int .i64 const, .slice p3 l3 c3] 28 W u4)
      obtain ⟨z0, z1, z2, h5⟩ := h4
      have z3 := h5.cell 4
      have HB4 := Lib.hid h5
      clear h5
      go_wp2_with fail
      refine (HN.out _ HP4.out).mono ?_
      rintro e u6 ⟨rfl, hP6, hK6⟩
      have HK6 := Lib.hid (HB4.out.bx.kept.trans ((kp_alloc HP4.out.size _).trans hK6))
      have HP6 := Lib.hid hP6
      clear hP6 hK6
      go_wp2_with fail
      go_end0
      refine ⟨rfl, ?_, HK6.out⟩
      rw [HE.out]
      simpa using HP6.out
end
end Go.Proofs.YtkgieaoahijheaaDoor.Wt
