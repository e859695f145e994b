/-
  A sum, and what it compares to, as the writer puts them out.
  Constraints, of the document's answers for texts of models.
  Constraints of names and of numbers in brackets, of the document's answers for texts of models.
  A constraint's tokens, of the document's answers for texts of models: every kind.
-/
import Derived.Test.YtkgieaoahijheaaGreatDoorZYAL
import Derived.Test.YtkgieaoahijheaaGreatDoorZYAK
import Derived.Deep.RegionHeld3
import Derived.Deep.RegionLaw
namespace Go.Proofs.YtkgieaoahijheaaGreatDoor.Wt
open Go.RowKit
open Sc (Tok)
set_option maxRecDepth 100000

section
variable {B b tb pb : Nat} {W : World} {X : List UInt8} {pn : Option Addr} {bn on_ ln cn : Nat} {L : List PDecl} {nm : Int → Tok}
set_option maxHeartbeats 16000000 in
theorem sum_put (H : PutAt B b tb pb X W) (K : NmK B b pb W pn bn on_ ln L nm) (vs ks : List Int) (kind r const : Int) (p1 pc p3 pv : Option Addr) (l1 c1 bc oc nc cc l3 c3 bv ov nv cv : Nat)
    (HV : ∀ u, Kp B b pb W u → Nums u pv bv ov nv vs) (HC : ∀ u, Kp B b pb W u → Nums u pc bc oc nc ks) (S : SumK L nm vs ks) (hr : 0 ≤ r ∧ r ≤ 5) (ht : const.natAbs ≤ 1000000000000000000)
    (hX : X.length + (putT (sumsT nm (vs.zip ks) r const)).length ≤ 100000000000) :
    Calls Tryz.prog 42 #[.agg #[.slice pn ln cn, putV tb pb], .agg #[.int .i64 kind, .slice p1 l1 c1, .slice pc nc cc, .int .i64 r, .int .i64 const, .slice p3 l3 c3], .slice pv nv cv] W fun e w' => e = .returned (.tuple #[]) ∧ PutAt B b tb pb (X ++ putT (sumsT nm (vs.zip ks) r const)) w' ∧ Kp B b pb W w' := by
  obtain ⟨rr, rfl⟩ : ∃ rr : Nat, r = (rr : Int) := ⟨r.toNat, by omega⟩
  have hr5 : rr ≤ 5 := by omega
  obtain ⟨cs, hcs⟩ : ∃ cs : Array Value, cs = #[.int .i64 kind, .slice p1 l1 c1, .slice pc nc cc, .int .i64 (rr : Int), .int .i64 const, .slice p3 l3 c3] := ⟨_, rfl⟩
  have hbc := bc_start (pn := pn) (ln := ln) (cn := cn) H cs 38 (by decide)
  have hP0 := (H.alloc (.cells #[.slice pn ln cn, putV tb pb] 55)).alloc (.cells cs 38)
  have BC := Lib.hid (hcs ▸ hbc)
  have HP := Lib.hid (hcs ▸ hP0)
  have NV := Lib.hid HV
  have NC := Lib.hid HC
  have hlv := (HV W (Kp.refl W)).long
  have hlc := (HC W (Kp.refl W)).long
  have HLV := Lib.hid hlv
  have HLC := Lib.hid hlc
  have hatv := (HV W (Kp.refl W)).at_
  have hatc := (HC W (Kp.refl W)).at_
  have hsame : nv = nc := by have := S.same; omega
  subst hsame
  have hfew : nv ≤ 1000000 := by have := S.few; omega
  have KK := Lib.hid K
  have SS := Lib.hid S
  have HX := Lib.hid hX
  have HT := Lib.hid ht
  clear hcs hbc hP0 H HV HC hlv hlc K S hX ht hr cs
  unfold putV at *
  go_enter Tryz.func42, Tryz.ntmps42
  go_wp2_with fail
  go_loopw [11] (fun i wr => ∃ k : Nat, k ≤ nv ∧ i = .int .i64 k ∧ PutAt B b tb pb (X ++ putT (sumT nm true ((vs.zip ks).take k))) wr ∧ Bc B b tb pb W.heap.size (W.heap.size + 1) pn ln cn #[.int .i64 kind, .slice p1 l1 c1, .slice pc nv cc, .int .i64 (rr : Int), .int .i64 const, .slice p3 l3 c3] 38 W wr) (fun i _ => nv - (intOf i).toNat)
  case atStart =>
    refine ⟨0, by omega, rfl, ?_, BC.out⟩
    simpa [putT, putX, sumT] using HP.out
  case round =>
    obtain ⟨k, hk, rfl, hP, hB⟩ := hrel
    obtain ⟨wo, rfl⟩ : ∃ wo, wo = wr := ⟨_, rfl⟩
    by_cases hlt : k < nv
    · obtain rfl := hatc (by omega)
      obtain rfl := hatv (by omega)
      have hkv : k < vs.length := by have := HLV.out; omega
      have hkc : k < ks.length := by have := HLC.out; omega
      obtain ⟨v, hv⟩ : ∃ v, v = vs.getD k 0 := ⟨_, rfl⟩
      obtain ⟨c, hc⟩ : ∃ c, c = ks.getD k 0 := ⟨_, rfl⟩
      have hve : vs[k]? = some v := by rw [hv, List.getD_eq_getElem?_getD, List.getElem?_eq_getElem hkv]; rfl
      have hce : ks[k]? = some c := by rw [hc, List.getD_eq_getElem?_getD, List.getElem?_eq_getElem hkc]; rfl
      have hfv := (NV.out wo hB.bx.kept).fit k hlt
      rw [← hv] at hfv
      have hcc := (NC.out wo hB.bx.kept).cell k hlt
      rw [← hc] at hcc
      have HCV := Lib.hid (fun u (hu : Kp B b pb W u) => (NV.out u hu).cell k hlt)
      rw [← hv] at HCV
      obtain ⟨hc0, hc1⟩ := SS.out.coefs c (List.mem_of_getElem? hce)
      have hvk : VarK L nm [v] := fun x hx => by rw [List.mem_singleton.1 hx]; exact SS.out.vars v (List.mem_of_getElem? hve)
      obtain ⟨Y, eY⟩ : ∃ Y, Y = X ++ putT (sumT nm true ((vs.zip ks).take k)) := ⟨_, rfl⟩
      rw [← eY] at hP
      have hlen : Y.length + ((putT (plusT k c)).length + ((putT (signN c)).length + ((putT (coefT c)).length + (sepO (nm v).text).length))) ≤ 100000000000 := by
        have q := sump_long (nm := nm) (vs.zip ks) (k + 1)
        rw [term_put hve hce hc0] at q
        have := HX.out
        unfold sumsT at this
        rw [putT_app] at this
        simp only [List.length_append] at q this
        rw [eY, List.length_append]
        omega
      have HLEN := Lib.hid hlen
      have HE := Lib.hid (show X ++ putT (sumT nm true ((vs.zip ks).take (k + 1))) = (((Y ++ putT (plusT k c)) ++ putT (signN c)) ++ putT (coefT c)) ++ sepO (nm v).text by rw [term_put hve hce hc0, eY]; simp only [List.append_assoc])
      have HPY := Lib.hid hP
      have HB := Lib.hid hB
      have HC0 := Lib.hid hc0
      have HC1 := Lib.hid hc1
      have HVK := Lib.hid hvk
      have HFV := Lib.hid hfv
      obtain ⟨x0, x1, _⟩ := hB.bx.cells
      unfold putV at x1
      have D1 := Lib.hid (put_one hP [43])
      clear hP hB hkv hkc hv hc hve hce hfv hc0 hc1 hvk eY hlen
      go_upto_region 4 with fail
      obtain ⟨q, hq⟩ : ∃ q, q = decide (0 < k ∧ 0 < c) := ⟨_, rfl⟩
      have HQ := Lib.hid hq
      clear hq
      go_cut [21] (fun v wx => v = .bool q ∧ wx = wo)
      case first =>
        by_cases h2 : k = 0
        · have i0 : ¬ (0 : Int) < (k : Int) := by omega
          have i1 : (k : Int) ≤ 0 := by omega
          have hq : q = false := by rw [HQ.out]; simp [h2]
          have QQ := Lib.hid hq
          clear hq h2
          go_wp2_with fail
          go_meet
          case rel => exact ⟨by rw [QQ.out], rfl⟩
        · have i0 : (0 : Int) < (k : Int) := by omega
          have n0 : 0 < k := by omega
          by_cases h3 : 0 < c
          · have i1 : (0 : Int) < c := h3
            have hq : q = true := by rw [HQ.out]; simp [h3]; omega
            have QQ := Lib.hid hq
            clear hq h2 h3
            go_wp2_with fail
            go_meet
            case rel => exact ⟨by rw [QQ.out], rfl⟩
          · have i1 : ¬ (0 : Int) < c := h3
            have i2 : c ≤ 0 := by omega
            have hq : q = false := by rw [HQ.out]; simp [h3]
            have QQ := Lib.hid hq
            clear hq h2 h3
            go_wp2_with fail
            go_meet
            case rel => exact ⟨by rw [QQ.out], rfl⟩
      case rest =>
      obtain ⟨rfl, hwc⟩ := hcut
      rw [hwc]
      clear hwc
      go_upto_if 21 with (fail)
      go_cut [] (fun wx => PutAt B b tb pb (Y ++ putT (plusT k c)) wx ∧ Bc B b tb pb W.heap.size (W.heap.size + 1) pn ln cn #[.int .i64 kind, .slice p1 l1 c1, .slice (some ⟨bc, oc, none⟩) nv cc, .int .i64 (rr : Int), .int .i64 const, .slice p3 l3 c3] 38 W wx)
      case first =>
        cases q
        · have hn : ¬ (0 < k ∧ 0 < c) := of_decide_eq_false HQ.out.symm
          have e : Y ++ putT (plusT k c) = Y := by unfold plusT; rw [if_neg hn]; simp [putT, putX]
          have EE := Lib.hid e
          have HPB := Lib.hid (And.intro HPY.out HB.out)
          clear e hn
          go_wp2_with fail
          go_meet
          case rel => rw [EE.out]; exact HPB.out
        · have hn : 0 < k ∧ 0 < c := of_decide_eq_true HQ.out.symm
          have e : putT (plusT k c) = sepO [43] := by unfold plusT; rw [if_pos hn, putT_one]; rfl
          have EE := Lib.hid e
          have hl : Y.length + (sepO [43]).length ≤ 100000000000 := by have := HLEN.out; rw [e] at this; omega
          clear e hn
          go_wp2_with fail
          refine (D1.out hl).mono ?_
          rintro e u1 ⟨rfl, hP1, hK1⟩
          have hB1 := HB.out.move ((kp_alloc HPY.out.size _).trans hK1)
          have HP1 := Lib.hid (And.intro hP1 hB1)
          clear hP1 hK1 hB1
          go_wp2_with fail
          go_meet
          case rel => rw [EE.out]; exact HP1.out
      case rest =>
        obtain ⟨hP1, hB1⟩ := hcut
        obtain ⟨Y1, eY1⟩ : ∃ Y1, Y1 = Y ++ putT (plusT k c) := ⟨_, rfl⟩
        have HE1 := Lib.hid eY1
        rw [← eY1] at hP1
        obtain ⟨m, hm⟩ : ∃ m : Nat, m = c.natAbs := ⟨_, rfl⟩
        have HMM := Lib.hid hm
        have hm0 : m ≤ 1000000000000000000 := by have := HC1.out; omega
        have hl1 : Y1.length + (putT (signN c)).length ≤ 100000000000 := by
          have := HLEN.out
          rw [eY1, List.length_append]
          omega
        have HM := Lib.hid (minus_any (pn := pn) (ln := ln) (cn := cn) hP1 c (by omega) hl1)
        rw [← hm] at HM
        unfold putV at HM
        obtain ⟨y0, y1, _⟩ := hB1.bx.cells
        unfold putV at y1
        have HB1 := Lib.hid hB1
        clear hP1 hB1 eY1 hm hl1 x0 x1
        go_wp2_with fail
        refine HM.out.mono ?_
        rintro e u2 ⟨rfl, hP2, hK2⟩
        obtain ⟨Y2, eY2⟩ : ∃ Y2, Y2 = Y1 ++ putT (signN c) := ⟨_, rfl⟩
        have HE2 := Lib.hid eY2
        rw [← eY2] at hP2
        have HP2 := Lib.hid hP2
        have HB2 := Lib.hid (HB1.out.move hK2)
        clear hP2 hK2 eY2 y0 y1
        go_upto_region 7 with fail
        obtain ⟨q, hq⟩ : ∃ q, q = decide (m ≠ 1) := ⟨_, rfl⟩
        have HQ := Lib.hid hq
        clear hq
        go_cut [30] (fun v wx => v = .bool q ∧ wx = u2)
        case first =>
          have hb2 : ((m : Int) != 1) = q := by
            rw [HQ.out, bne]
            by_cases h : m = 1
            · rw [h]; rfl
            · rw [beq_eq_false_iff_ne.2 (by omega)]; simp [h]
          have hb3 : (!((m : Int) == 1)) = q := hb2
          go_wp2_with fail
          go_meet
          case rel => exact ⟨by first | rfl | (rw [hb2]) | (simp only [hb3]), rfl⟩
        case rest =>
        obtain ⟨rfl, hwc⟩ := hcut
        rw [hwc]
        clear hwc
        go_upto_if 30 with (fail)
        go_cut [] (fun wx => PutAt B b tb pb (Y2 ++ putT (coefT c)) wx ∧ Bc B b tb pb W.heap.size (W.heap.size + 1) pn ln cn #[.int .i64 kind, .slice p1 l1 c1, .slice (some ⟨bc, oc, none⟩) nv cc, .int .i64 (rr : Int), .int .i64 const, .slice p3 l3 c3] 38 W wx)
        case first =>
          cases q
          · have h1 : m = 1 := by have := of_decide_eq_false HQ.out.symm; omega
            have e : Y2 ++ putT (coefT c) = Y2 := by unfold coefT; rw [if_pos (by rw [← HMM.out]; exact h1)]; simp [putT, putX]
            have EE := Lib.hid e
            have HPB := Lib.hid (And.intro HP2.out HB2.out)
            clear e h1
            go_wp2_with fail
            go_meet
            case rel => rw [EE.out]; exact HPB.out
          · have h1 : m ≠ 1 := of_decide_eq_true HQ.out.symm
            have e : putT (coefT c) = sepO (digs m) ++ sepO [42] := by
              unfold coefT
              rw [if_neg (by rw [← HMM.out]; exact h1), ← HMM.out]
              simp [putT, putX, tN, tM, Pa.tStar]
            have EE := Lib.hid e
            have hl : Y2.length + ((sepO (digs m)).length + (sepO [42]).length) ≤ 100000000000 := by
              have := HLEN.out
              rw [e] at this
              simp only [HE2.out, HE1.out, List.length_append] at this ⊢
              omega
            have HI := Lib.hid (fun (v : World) (h : PutAt B b tb pb Y2 v) => itoa_any h m (by omega))
            have HO := Lib.hid (fun (v : World) (h : PutAt B b tb pb Y2 v) => put_two h (digs m) [42] hl)
            have hcx := HB2.out.cell 3
            obtain ⟨z0, z1, _⟩ := HB2.out.bx.cells
            have H0 := Lib.hid (And.intro z0 (And.intro z1 (And.intro hcx HB2.out)))
            have HCX := Lib.hid (fun v (h : Bc B b tb pb W.heap.size (W.heap.size + 1) pn ln cn #[.int .i64 kind, .slice p1 l1 c1, .slice (some ⟨bc, oc, none⟩) nv cc, .int .i64 (rr : Int), .int .i64 const, .slice p3 l3 c3] 38 W v) => h.cell 3)
            unfold putV at H0
            clear e h1 hl hcx z0 z1
            go_wp2_with fail
            go_region_held3 (fun w' => w'.cell? ⟨W.heap.size, 0, none⟩ = some (.slice pn ln cn) ∧ w'.cell? ⟨W.heap.size, 1, none⟩ = some (.func (.func 28) #[] #[.pointer (some ⟨tb, 0, none⟩), .pointer (some ⟨pb, 0, none⟩)]) ∧ w'.cell? ⟨W.heap.size + 1, 3, none⟩ = some (.int .i64 (rr : Int)) ∧ Bc B b tb pb W.heap.size (W.heap.size + 1) pn ln cn #[.int .i64 kind, .slice p1 l1 c1, .slice (some ⟨bc, oc, none⟩) nv cc, .int .i64 (rr : Int), .int .i64 const, .slice p3 l3 c3] 38 W w')
              (first | exact bcm (by assumption) HCX.out (by assumption) | exact bcm H0.out HCX.out (kp_drewN 1) | exact bcm (by assumption) HCX.out (kp_alloc HP3.out.size _))
              (first
                | (go_at_call 67; refine (HI.out _ (HP2.out.drewN 1)).mono ?_; rintro e u3 ⟨rfl, hP3, hK3⟩; have HP3 := Lib.hid hP3; clear hP3)
                | (go_at_call 28; refine (HO.out _ HP3.out).mono ?_; rintro e u4 ⟨rfl, hP4, hK4⟩; have HP4 := Lib.hid hP4; clear hP4))
            have HB4 := Lib.hid (And.right (And.right (And.right (by assumption : u4.cell? ⟨W.heap.size, 0, none⟩ = some (.slice pn ln cn) ∧ u4.cell? ⟨W.heap.size, 1, none⟩ = some (.func (.func 28) #[] #[.pointer (some ⟨tb, 0, none⟩), .pointer (some ⟨pb, 0, none⟩)]) ∧ u4.cell? ⟨W.heap.size + 1, 3, none⟩ = some (.int .i64 (rr : Int)) ∧ Bc B b tb pb W.heap.size (W.heap.size + 1) pn ln cn #[.int .i64 kind, .slice p1 l1 c1, .slice (some ⟨bc, oc, none⟩) nv cc, .int .i64 (rr : Int), .int .i64 const, .slice p3 l3 c3] 38 W u4))))
            have HPB := Lib.hid (And.intro HP4.out HB4.out)
            go_wp2_with fail
            go_meet
            case rel => rw [EE.out]; exact HPB.out
        case rest =>
          obtain ⟨hP5, hB5⟩ := hcut
          obtain ⟨Y3, eY3⟩ : ∃ Y3, Y3 = Y2 ++ putT (coefT c) := ⟨_, rfl⟩
          rw [← eY3] at hP5
          have hl5 : Y3.length + (putT ([v].map nm)).length ≤ 100000000000 := by
            have := HLEN.out
            have q : putT ([v].map nm) = sepO (nm v).text := putT_one _
            rw [q, eY3]
            simp only [HE2.out, HE1.out, List.length_append] at this ⊢
            omega
          have HN := Lib.hid (fun (u : World) (hP : PutAt B b tb pb Y3 u) (hK : Kp B b pb W u) => names_any (pn := pn) (ln := ln) (cn := cn) (hP.alloc (.cells #[.int .i64 v] 3)) (KK.out.move (hK.trans (kp_alloc hP.size _))) [v] (some ⟨u.heap.size, 0, none⟩) u.heap.size 0 1 1 (by omega) (one_num hP v HFV.out) HVK.out hl5)
          unfold putV at HN
          have HP5 := Lib.hid hP5
          have HCV2 := Lib.hid (fun u (h : Bc B b tb pb W.heap.size (W.heap.size + 1) pn ln cn #[.int .i64 kind, .slice p1 l1 c1, .slice (some ⟨bc, oc, none⟩) nv cc, .int .i64 (rr : Int), .int .i64 const, .slice p3 l3 c3] 38 W u) => HCV.out u h.bx.kept)
          obtain ⟨z0, z1, _⟩ := hB5.bx.cells
          have H0 := Lib.hid (And.intro z0 (And.intro z1 (And.intro (HCV.out _ hB5.bx.kept) hB5)))
          unfold putV at H0
          have HE3 := Lib.hid eY3
          have HK5 := Lib.hid hB5.bx.kept
          clear hP5 hB5 eY3 hl5 z0 z1
          go_wp2_with fail
          go_region_held3 (fun w' => w'.cell? ⟨W.heap.size, 0, none⟩ = some (.slice pn ln cn) ∧ w'.cell? ⟨W.heap.size, 1, none⟩ = some (.func (.func 28) #[] #[.pointer (some ⟨tb, 0, none⟩), .pointer (some ⟨pb, 0, none⟩)]) ∧ w'.cell? ⟨bv, ov + k, none⟩ = some (.int .i64 v) ∧ Bc B b tb pb W.heap.size (W.heap.size + 1) pn ln cn #[.int .i64 kind, .slice p1 l1 c1, .slice (some ⟨bc, oc, none⟩) nv cc, .int .i64 (rr : Int), .int .i64 const, .slice p3 l3 c3] 38 W w')
            (first | exact bcm (by assumption) HCV2.out (by assumption) | exact bcm H0.out HCV2.out (kp_drewN 1) | exact bcm (by assumption) HCV2.out (kp_alloc (HP5.out.drewN 1).size _))
            (first
              | (go_at_call 43; refine (HN.out _ (HP5.out.drewN 1) (HK5.out.drewN 1)).mono ?_; rintro e u6 ⟨rfl, hP6, hK6⟩; have HP6 := Lib.hid hP6; clear hP6))
          have HB6 := Lib.hid (And.right (And.right (And.right (by assumption : u6.cell? ⟨W.heap.size, 0, none⟩ = some (.slice pn ln cn) ∧ u6.cell? ⟨W.heap.size, 1, none⟩ = some (.func (.func 28) #[] #[.pointer (some ⟨tb, 0, none⟩), .pointer (some ⟨pb, 0, none⟩)]) ∧ u6.cell? ⟨bv, ov + k, none⟩ = some (.int .i64 v) ∧ Bc B b tb pb W.heap.size (W.heap.size + 1) pn ln cn #[.int .i64 kind, .slice p1 l1 c1, .slice (some ⟨bc, oc, none⟩) nv cc, .int .i64 (rr : Int), .int .i64 const, .slice p3 l3 c3] 38 W u6))))
          go_wp2_with fail
          go_roundw
          case rel =>
            refine ⟨k + 1, by omega, rfl, ?_, HB6.out⟩
            have q : putT ([v].map nm) = sepO (nm v).text := putT_one _
            have := HP6.out
            rw [q, HE3.out, HE2.out, HE1.out] at this
            rw [HE.out]
            exact this
          case measure =>
            simp [intOf]
            omega
    · obtain rfl : k = nv := by omega
      have e : (vs.zip ks).take k = vs.zip ks := by
        refine List.take_of_length_le ?_
        rw [List.length_zip]
        have := HLV.out
        omega
      rw [e] at hP
      obtain ⟨Y, eY⟩ : ∃ Y, Y = X ++ putT (sumT nm true (vs.zip ks)) := ⟨_, rfl⟩
      rw [← eY] at hP
      have hE : X ++ putT (sumsT nm (vs.zip ks) (rr : Int) const) = (Y ++ sepO (Pa.relsL.getD rr [])) ++ putT (numT const) := by
        unfold sumsT
        rw [putT_app, putT_app, putT_one, eY]
        simp only [List.append_assoc]
        rfl
      have hlen : Y.length + ((sepO (Pa.relsL.getD rr [])).length + (putT (numT const)).length) ≤ 100000000000 := by
        have h1 := congrArg List.length hE
        have := HX.out
        simp only [List.length_append] at h1 this
        omega
      have HE := Lib.hid hE
      have HR := Lib.hid (fun v => rel_any rr hr5 v)
      have HO := Lib.hid (fun (v : World) (h : PutAt B b tb pb Y v) => put_one h (Pa.relsL.getD rr []) (by omega))
      have HN := Lib.hid (fun (u : World) (hu : PutAt B b tb pb (Y ++ sepO (Pa.relsL.getD rr [])) u) => nums_any (pn := pn) (ln := ln) (cn := cn) (hu.alloc (.cells #[.int .i64 const] 3)) [const] (some ⟨u.heap.size, 0, none⟩) u.heap.size 0 1 1 (by omega) (one_num hu const (by have := HT.out; unfold Fit; omega)) (fun z hz => by rw [List.mem_singleton.1 hz]; have := HT.out; omega) (by simp only [List.flatMap_cons, List.flatMap_nil, List.append_nil, List.length_append]; omega))
      unfold putV at HN
      have HPY := Lib.hid hP
      obtain ⟨z0, z1, _⟩ := hB.bx.cells
      have H0 := Lib.hid (And.intro z0 (And.intro z1 (And.intro (hB.cell 3) hB)))
      have HCX := Lib.hid (fun v (h : Bc B b tb pb W.heap.size (W.heap.size + 1) pn ln cn #[.int .i64 kind, .slice p1 l1 c1, .slice pc k cc, .int .i64 (rr : Int), .int .i64 const, .slice p3 l3 c3] 38 W v) => h.cell 3)
      unfold putV at H0
      clear hP hB e eY hE hlen z0 z1 HLV HLC SS HX BC HP NV NC hatv hatc hlt hk
      go_wp2_with fail
      go_region_held3 (fun w' => w'.cell? ⟨W.heap.size, 0, none⟩ = some (.slice pn ln cn) ∧ w'.cell? ⟨W.heap.size, 1, none⟩ = some (.func (.func 28) #[] #[.pointer (some ⟨tb, 0, none⟩), .pointer (some ⟨pb, 0, none⟩)]) ∧ w'.cell? ⟨W.heap.size + 1, 3, none⟩ = some (.int .i64 (rr : Int)) ∧ Bc B b tb pb W.heap.size (W.heap.size + 1) pn ln cn #[.int .i64 kind, .slice p1 l1 c1, .slice pc k cc, .int .i64 (rr : Int), .int .i64 const, .slice p3 l3 c3] 38 W w')
        (first | exact bcm (by assumption) HCX.out (by assumption) | exact bcm H0.out HCX.out (kp_drewN 1) | exact bcm (by assumption) HCX.out (kp_alloc HP3.out.size _))
        (first
          | (go_at_call 68; refine (HR.out _).mono ?_; rintro e u3 ⟨rfl, hB3⟩; have HP3 := Lib.hid ((HPY.out.drewN 1).ext hB3); have hK3 := Kp.ext (b := b) (pb := pb) hB3 (HPY.out.drewN 1).size; clear hB3)
          | (go_at_call 28; refine (HO.out _ HP3.out).mono ?_; rintro e u4 ⟨rfl, hP4, hK4⟩; have HP4 := Lib.hid hP4; clear hP4))
      have h4 := (by assumption : u4.cell? ⟨W.heap.size, 0, none⟩ = some (.slice pn ln cn) ∧ u4.cell? ⟨W.heap.size, 1, none⟩ = some (.func (.func 28) #[] #[.pointer (some ⟨tb, 0, none⟩), .pointer (some ⟨pb, 0, none⟩)]) ∧ u4.cell? ⟨W.heap.size + 1, 3, none⟩ = some (.int .i64 (rr : Int)) ∧ Bc B b tb pb W.heap.size (W.heap.size + 1) pn ln cn #[.int .i64 kind, .slice p1 l1 c1, .slice pc k cc, .int .i64 (rr : Int), .int .i64 const, .slice p3 l3 c3] 38 W u4)
      obtain ⟨z0, z1, z2, h5⟩ := h4
      have z3 := h5.cell 4
      have HB4 := Lib.hid h5
      clear h5
      go_wp2_with fail
      refine (HN.out _ HP4.out).mono ?_
      rintro e u6 ⟨rfl, hP6, hK6⟩
      have HK6 := Lib.hid (HB4.out.bx.kept.trans ((kp_alloc HP4.out.size _).trans hK6))
      have HP6 := Lib.hid hP6
      clear hP6 hK6
      go_wp2_with fail
      go_end0
      refine ⟨rfl, ?_, HK6.out⟩
      rw [HE.out]
      simpa using HP6.out
end
end Go.Proofs.YtkgieaoahijheaaGreatDoor.Wt
namespace Go.Proofs.YtkgieaoahijheaaGreatDoor.Wt
open Go.RowKit
open Sc (Tok)
set_option maxRecDepth 100000

section
variable {nm : Int → Tok} {w w' : World} {pv : Option Addr} {bv ov lv cv : Nat} {pc : Option Addr} {bc oc lc cc : Nat} {pn : Option Addr} {bn on_ ln cn : Nat} {vs ks : List Int} {L : List PDecl}
theorem _root_.Go.Proofs.YtkgieaoahijheaaGreatDoor.Nums.below {p : Option Addr} {b off len : Nat} {xs : List Int} (h : Nums w p b off len xs) (hB : Below w.heap.size w w') : Nums w' p b off len xs := ⟨h.long, h.at_, fun k hk => cell_stays hB (h.cell k hk), h.fit⟩
theorem SumArgs.below (h : SumArgs w nm pv bv ov lv cv pc bc oc lc cc pn bn on_ ln cn vs ks L) (hB : Below w.heap.size w w') : SumArgs w' nm pv bv ov lv cv pc bc oc lc cc pn bn on_ ln cn vs ks L :=
  ⟨h.vars.below hB, h.coefs.below hB, h.names.below rDecl_stays hB, h.same, h.few, h.low, h.nm_, h.name, h.num⟩
theorem digs_short {k : Int} (h : k.natAbs ≤ 1000000000000000000) : (digs k.natAbs).length ≤ 19 := digs_long _ 18 (by omega)
theorem numT_long {z : Int} (h : z.natAbs ≤ 1000000000000000000) : (spT (numT z)).length ≤ 22 := by
  have := digs_short h
  unfold numT
  split <;> simp [spT, tM, tN, Pa.tMinus] <;> omega
theorem term_long {f : Bool} {v k : Int} (h1 : (nm v).text.length ≤ 1000) (h2 : k.natAbs ≤ 1000000000000000000) : (spT (signT f k ++ (coefT k ++ [nm v]))).length ≤ 2000 := by
  have := digs_short h2
  unfold signT coefT
  split <;> (try split) <;> (try split) <;> simp [spT, tM, tN, Pa.tMinus, Pa.tPlus, Pa.tStar] <;> omega
theorem sum_long : ∀ (l : List (Int × Int)) (f : Bool), (∀ x ∈ l, (nm x.1).text.length ≤ 1000 ∧ x.2.natAbs ≤ 1000000000000000000) → (spT (sumT nm f l)).length ≤ 2000 * l.length
  | [], _, _ => by simp [sumT, spT]
  | (v, k) :: l, f, h => by
    have h1 := term_long (f := f) (h (v, k) (by simp)).1 (h (v, k) (by simp)).2
    have h2 := sum_long l false (fun x hx => h x (by simp [hx]))
    have e : sumT nm f ((v, k) :: l) = (signT f k ++ (coefT k ++ [nm v])) ++ sumT nm false l := by simp [sumT]
    simp only at h1
    rw [e, sp_app, List.length_append, List.length_cons]
    omega
theorem SumArgs.long (h : SumArgs w nm pv bv ov lv cv pc bc oc lc cc pn bn on_ ln cn vs ks L) : (spT (sumT nm true (vs.zip ks))).length ≤ 2000000 := by
  have h1 := sum_long (nm := nm) (vs.zip ks) true (fun x hx => by
    have hv := (List.of_mem_zip hx).1
    have hc := (List.of_mem_zip hx).2
    refine ⟨?_, h.num _ hc⟩
    rw [h.nm_ _ hv]
    have hl := h.low _ hv
    rw [List.getD_eq_getElem?_getD, List.getElem?_eq_getElem hl.2]
    exact h.name _ (List.getElem_mem hl.2))
  have h2 := h.few
  have h3 : (vs.zip ks).length ≤ vs.length := by rw [List.length_zip]; omega
  omega
theorem below_two {w w' w'' : World} (h : Below w.heap.size w w') (k : Below w'.heap.size w' w'') : Below w.heap.size w w'' := h.trans (k.mono h.size)
theorem held3 {W0 u u' : World} {p0 p1 p2 : Addr} {a0 a1 a2 : Value} (h : u.cell? p0 = some a0 ∧ u.cell? p1 = some a1 ∧ u.cell? p2 = some a2 ∧ Below W0.heap.size W0 u) (hb : Below u.heap.size u u') :
    u'.cell? p0 = some a0 ∧ u'.cell? p1 = some a1 ∧ u'.cell? p2 = some a2 ∧ Below W0.heap.size W0 u' :=
  ⟨cell_stays hb h.1, cell_stays hb h.2.1, cell_stays hb h.2.2.1, below_two h.2.2.2 hb⟩
theorem held3b {W0 u : World} {p0 p1 p2 : Addr} {a0 a1 a2 : Value} (h : u.cell? p0 = some a0 ∧ u.cell? p1 = some a1 ∧ u.cell? p2 = some a2 ∧ Below W0.heap.size W0 u) : Below W0.heap.size W0 u := h.2.2.2
/-- a constraint's variable, and the texts of rels, as a call of Con makes them -/
def conW (w : World) (k : Int) (v1 v2 : Value) (r c : Int) (v3 : Value) : World := (w.alloc (.cells #[.int .i64 k, v1, v2, .int .i64 r, .int .i64 c, v3] 38)).alloc (.cells #[.string ⟨#[32, 61]⟩, .string ⟨#[32, 33, 61]⟩, .string ⟨#[32, 60]⟩, .string ⟨#[32, 60, 61]⟩, .string ⟨#[32, 62]⟩, .string ⟨#[32, 62, 61]⟩] 9)
structure ConW (w W : World) (k : Int) (v1 v2 : Value) (r c : Int) (v3 : Value) : Prop where
  low : Below w.heap.size w W
  box : W.heap[w.heap.size]? = some (.cells #[.int .i64 k, v1, v2, .int .i64 r, .int .i64 c, v3] 38)
  rels : W.heap[w.heap.size + 1]? = some (.cells #[.string ⟨#[32, 61]⟩, .string ⟨#[32, 33, 61]⟩, .string ⟨#[32, 60]⟩, .string ⟨#[32, 60, 61]⟩, .string ⟨#[32, 62]⟩, .string ⟨#[32, 62, 61]⟩] 9)
theorem conW_is (w : World) (k : Int) (v1 v2 : Value) (r c : Int) (v3 : Value) : ConW w (conW w k v1 v2 r c v3) k v1 v2 r c v3 := by
  have k1 := (Below.refl _ w).alloc (Nat.le_refl _) (.cells #[.int .i64 k, v1, v2, .int .i64 r, .int .i64 c, v3] 38)
  have n1 := heap_alloc_new w (.cells #[.int .i64 k, v1, v2, .int .i64 r, .int .i64 c, v3] 38)
  obtain ⟨W1, h1⟩ : ∃ W1, W1 = w.alloc (.cells #[.int .i64 k, v1, v2, .int .i64 r, .int .i64 c, v3] 38) := ⟨_, rfl⟩
  have s1 : W1.heap.size = w.heap.size + 1 := by rw [h1]; simp
  have n2 := heap_alloc_new W1 (.cells #[.string ⟨#[32, 61]⟩, .string ⟨#[32, 33, 61]⟩, .string ⟨#[32, 60]⟩, .string ⟨#[32, 60, 61]⟩, .string ⟨#[32, 62]⟩, .string ⟨#[32, 62, 61]⟩] 9)
  have k2 := (Below.refl _ W1).alloc (Nat.le_refl _) (.cells #[.string ⟨#[32, 61]⟩, .string ⟨#[32, 33, 61]⟩, .string ⟨#[32, 60]⟩, .string ⟨#[32, 60, 61]⟩, .string ⟨#[32, 62]⟩, .string ⟨#[32, 62, 61]⟩] 9)
  unfold conW
  rw [← h1] at k1 n1 ⊢
  rw [s1] at n2
  exact ⟨k1.trans (k2.mono k1.size), (k2.block _ (by omega)).trans n1, n2⟩
theorem ConW.on {W W' : World} {k : Int} {v1 v2 : Value} {r c : Int} {v3 : Value} (h : ConW w W k v1 v2 r c v3) (hB : Below W.heap.size W W') : ConW w W' k v1 v2 r c v3 :=
  ⟨h.low.trans (hB.mono h.low.size), (hB.block _ (Array.getElem?_eq_some_iff.1 h.box).1).trans h.box, (hB.block _ (Array.getElem?_eq_some_iff.1 h.rels).1).trans h.rels⟩
theorem ConW.cell {W : World} {k : Int} {v1 v2 : Value} {r c : Int} {v3 : Value} (h : ConW w W k v1 v2 r c v3) : W.cell? ⟨w.heap.size, 0, none⟩ = some (.int .i64 k) ∧ W.cell? ⟨w.heap.size, 1, none⟩ = some v1 ∧ W.cell? ⟨w.heap.size, 2, none⟩ = some v2 ∧ W.cell? ⟨w.heap.size, 3, none⟩ = some (.int .i64 r) ∧ W.cell? ⟨w.heap.size, 4, none⟩ = some (.int .i64 c) ∧ W.cell? ⟨w.heap.size, 5, none⟩ = some v3 :=
  ⟨cell_of_row W _ 0 _ 38 (0, 0) h.box, cell_of_row W _ 1 _ 38 (0, 0) h.box, cell_of_row W _ 2 _ 38 (0, 0) h.box, cell_of_row W _ 3 _ 38 (0, 0) h.box, cell_of_row W _ 4 _ 38 (0, 0) h.box, cell_of_row W _ 5 _ 38 (0, 0) h.box⟩
/-- the text of a rel -/
theorem ConW.rel {W : World} {k : Int} {v1 v2 : Value} {c : Int} {v3 : Value} {r : Nat} (h : ConW w W k v1 v2 (r : Int) c v3) (hr : r ≤ 5) : W.cell? ⟨w.heap.size + 1, r, none⟩ = some (.string ⟨(spT [relT (r : Int)]).toArray⟩) ∧ (spT [relT (r : Int)]).length ≤ 3 := by
  have e := cell_of_row W (w.heap.size + 1) r _ 9 (0, 0) h.rels
  rw [e]
  match r, hr with
  | 0, _ => exact ⟨rfl, by decide⟩
  | 1, _ => exact ⟨rfl, by decide⟩
  | 2, _ => exact ⟨rfl, by decide⟩
  | 3, _ => exact ⟨rfl, by decide⟩
  | 4, _ => exact ⟨rfl, by decide⟩
  | 5, _ => exact ⟨rfl, by decide⟩
theorem slice_one (b o l m : Nat) (h : l ≤ m) (h0 : 0 < l) (W : World) : (Instr.slice 36 (.slice (some ⟨b, o, none⟩) (l + 1) (m + 1)) (some (.int .i64 1)) none none).run Tryz.prog W = .ok (.slice (some ⟨b, o + 1, none⟩) l m) W := by
  have hc : m + 1 ≠ 1 := by omega
  have g1 : (1 : Int) ≤ ((l + 1 : Nat) : Int) := by omega
  rw [run_slice_l W 36 (some ⟨b, o, none⟩) (l + 1) (m + 1) Tryz.underlying36 .i64 1 (by decide) g1]
  simp only [Result.andThen]
  go_simp
  all_goals omega
theorem held5 {W0 u u' : World} {p0 p1 p2 p3 p4 : Addr} {a0 a1 a2 a3 a4 : Value} (h : u.cell? p0 = some a0 ∧ u.cell? p1 = some a1 ∧ u.cell? p2 = some a2 ∧ u.cell? p3 = some a3 ∧ u.cell? p4 = some a4 ∧ Below W0.heap.size W0 u) (hb : Below u.heap.size u u') :
    u'.cell? p0 = some a0 ∧ u'.cell? p1 = some a1 ∧ u'.cell? p2 = some a2 ∧ u'.cell? p3 = some a3 ∧ u'.cell? p4 = some a4 ∧ Below W0.heap.size W0 u' :=
  ⟨cell_stays hb h.1, cell_stays hb h.2.1, cell_stays hb h.2.2.1, cell_stays hb h.2.2.2.1, cell_stays hb h.2.2.2.2.1, below_two h.2.2.2.2.2 hb⟩
theorem held5b {W0 u : World} {p0 p1 p2 p3 p4 : Addr} {a0 a1 a2 a3 a4 : Value} (h : u.cell? p0 = some a0 ∧ u.cell? p1 = some a1 ∧ u.cell? p2 = some a2 ∧ u.cell? p3 = some a3 ∧ u.cell? p4 = some a4 ∧ Below W0.heap.size W0 u) : Below W0.heap.size W0 u := h.2.2.2.2.2
end
end Go.Proofs.YtkgieaoahijheaaGreatDoor.Wt
namespace Go.Proofs.YtkgieaoahijheaaGreatDoor.Wt
open Go.RowKit
open Sc (Tok)
set_option maxRecDepth 100000

section
variable {nm : Int → Tok} {w w' : World} {pv : Option Addr} {bv ov lv cv : Nat} {po : Option Addr} {bo oo lo co : Nat} {pn : Option Addr} {bn on_ ln cn : Nat} {vs ns : List Int} {L : List PDecl}
/-- names of variables, and numbers, in memory -/
structure RestArgs (w : World) (nm : Int → Tok) (pv : Option Addr) (bv ov lv : Nat) (po : Option Addr) (bo oo lo : Nat) (pn : Option Addr) (bn on_ ln : Nat) (vs ns : List Int) (L : List PDecl) : Prop where
  vars : Nums w pv bv ov lv vs
  nums : Nums w po bo oo lo ns
  names : SliceOf rDecl 2 w pn bn on_ ln L
  few : vs.length ≤ 1000
  fewn : ns.length ≤ 1000
  low : ∀ v ∈ vs, 0 ≤ v ∧ v.toNat < L.length
  nm_ : ∀ v ∈ vs, (nm v).text = (L.getD v.toNat ⟨[], []⟩).name
  name : ∀ d ∈ L, d.name.length ≤ 1000
  num : ∀ k ∈ ns, k.natAbs ≤ 1000000000000000000
theorem RestArgs.below (h : RestArgs w nm pv bv ov lv po bo oo lo pn bn on_ ln vs ns L) (hB : Below w.heap.size w w') : RestArgs w' nm pv bv ov lv po bo oo lo pn bn on_ ln vs ns L :=
  ⟨h.vars.below hB, h.nums.below hB, h.names.below rDecl_stays hB, h.few, h.fewn, h.low, h.nm_, h.name, h.num⟩
/-- the variable at hand -/
theorem RestArgs.at_ (h : RestArgs w nm pv bv ov lv po bo oo lo pn bn on_ ln vs ns L) {k : Nat} (hk : k < lv) : ∃ (vi : Nat) (d : PDecl), pv = some ⟨bv, ov, none⟩ ∧ pn = some ⟨bn, on_, none⟩ ∧ w.cell? ⟨bv, ov + k, none⟩ = some (.int .i64 (vi : Int)) ∧ w.cell? ⟨bn, on_ + vi * 2, none⟩ = some (.string ⟨d.name.toArray⟩) ∧ vi < ln ∧ d.name.length ≤ 1000 ∧ spT ((vs.take (k + 1)).map nm) = spT ((vs.take k).map nm) ++ (32 :: d.name) := by
  have hkv : k < vs.length := by have := h.vars.long; omega
  obtain ⟨v, hv⟩ : ∃ v, v = vs.getD k 0 := ⟨_, rfl⟩
  have hv2 : vs[k]? = some v := by rw [hv, List.getD_eq_getElem?_getD, List.getElem?_eq_getElem hkv]; rfl
  have hvm : v ∈ vs := List.mem_of_getElem? hv2
  have vc := h.vars.cell k hk
  rw [← hv] at vc
  obtain ⟨vl0, vl1⟩ := h.low v hvm
  have hll := h.names.long
  obtain ⟨d, s, x, e1, e2, e3, e4, e5⟩ := decl_at h.names (k := v.toNat) (by omega)
  have hs : s = ⟨d.name.toArray⟩ := by rw [← e4]
  rw [hs] at e2
  have hnt : (nm v).text = d.name := by rw [h.nm_ v hvm, List.getD_eq_getElem?_getD, e1]; rfl
  refine ⟨v.toNat, d, h.vars.at_ (by omega), h.names.at_ (by omega), ?_, e2, by omega, h.name d (List.mem_of_getElem? e1), ?_⟩
  · rw [vc, show ((v.toNat : Nat) : Int) = v by omega]
  · rw [List.take_add_one, hv2, List.map_append, sp_app, ← hnt]
    simp [spT]
end
end Go.Proofs.YtkgieaoahijheaaGreatDoor.Wt
namespace Go.Proofs.YtkgieaoahijheaaGreatDoor.Wt
open Go.RowKit
open Sc (Tok)
set_option maxRecDepth 100000

section
variable {nm : Int → Tok} {w w' : World} {pn : Option Addr} {bn on_ ln cn : Nat} {L : List PDecl} {c : PCon}
/-- a constraint that may be written, of variables whose names are known -/
structure ConM (nm : Int → Tok) (L : List PDecl) (c : PCon) : Prop where
  shape : Shape c
  few : c.vars.length ≤ 1000
  fewn : c.nums.length ≤ 1000
  low : ∀ v ∈ c.vars, 0 ≤ v ∧ v.toNat < L.length
  nm_ : ∀ v ∈ c.vars, (nm v).text = (L.getD v.toNat ⟨[], []⟩).name
  coefs : ∀ k ∈ c.coefs, k.natAbs ≤ 1000000000000000000
  const : c.const.natAbs ≤ 1000000000000000000
  nums : ∀ k ∈ c.nums, k.natAbs ≤ 1000000000000000000
theorem nums_slc {v : Value} {xs : List Int} (h : Slc rNum 1 w v xs) : ∃ (p : Option Addr) (b off c len : Nat), v = .slice p len c ∧ len ≤ c ∧ Nums w p b off len xs := by
  obtain ⟨p, b, off, c, len, e, ⟨_, h1⟩, h2⟩ := h
  exact ⟨p, b, off, c, len, e, h1, nums_of h2⟩
end
end Go.Proofs.YtkgieaoahijheaaGreatDoor.Wt
