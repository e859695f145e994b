/-
  A block, as the writer puts it out.
  A model, as the writer puts it out.
-/
import Derived.Test.YtkgieaoahijheaaDoorZYBD
namespace Go.Proofs.YtkgieaoahijheaaDoor.Wt
open Go.RowKit
open Sc (Tok)
set_option maxRecDepth 100000

section
variable {B b tb pb k kc : Nat} {W w0 u u' : World} {X : List UInt8} {pn : Option Addr} {bn on_ ln cn : Nat} {L : List PDecl} {nm : Int → Tok}
theorem decls_step (l : List PDecl) (k : Nat) (d : PDecl) (h : l[k]? = some d) : declsT (l.take (k + 1)) = declsT (l.take k) ++ ((if k = 0 then [] else [tM Pa.tComma]) ++ declT d) := by
  cases l with
  | nil => simp at h
  | cons x l =>
    cases k with
    | zero =>
      simp only [List.getElem?_cons_zero, Option.some.injEq] at h
      subst h
      simp [declsT]
    | succ k =>
      have hk : l[k]? = some d := by simpa using h
      have e1 : declsT ((x :: l).take (k + 1 + 1)) = declT x ++ (l.take (k + 1)).flatMap fun c => tM Pa.tComma :: declT c := rfl
      have e2 : declsT ((x :: l).take (k + 1)) = declT x ++ (l.take k).flatMap fun c => tM Pa.tComma :: declT c := rfl
      rw [e1, e2, List.take_add_one, hk]
      simp
theorem decls_long (l : List PDecl) (k : Nat) : (putT (declsT (l.take k))).length ≤ (putT (declsT l)).length := by
  by_cases hk : k < l.length
  · have ih : ∀ n j, l.length - j = n → k ≤ j → (putT (declsT (l.take k))).length ≤ (putT (declsT (l.take j))).length → (putT (declsT (l.take k))).length ≤ (putT (declsT l)).length := by
      intro n
      induction n with
      | zero =>
        intro j hj _ h
        rwa [List.take_of_length_le (by omega : l.length ≤ j)] at h
      | succ n ihn =>
        intro j hj hkj h
        refine ihn (j + 1) (by omega) (by omega) ?_
        rw [decls_step l j l[j] (List.getElem?_eq_getElem (by omega)), putT_app, List.length_append]
        omega
    exact ih _ k rfl (Nat.le_refl _) (Nat.le_refl _)
  · rw [List.take_of_length_le (by omega)]
    exact Nat.le_refl _
/-- a variable that may be put out -/
structure DeclOut (d : PDecl) : Prop where
  few : d.dom.length ≤ 1000000
  nums : ∀ p ∈ d.dom, p.1.natAbs ≤ 1000000000000000000 ∧ p.2.natAbs ≤ 1000000000000000000
structure BlockOut (nm : Int → Tok) (L : List PDecl) (x : PBlock) : Prop where
  few : x.vars.length ≤ 1000000
  fewc : x.cons.length ≤ 1000000
  decls : ∀ d ∈ x.vars, DeclOut d
  cons : ∀ c ∈ x.cons, ConOut nm L c
def headB (all : Bool) : List UInt8 := if all = true then [102, 111, 114, 97, 108, 108] else [101, 120, 105, 115, 116, 115]
def whereB (nm : Int → Tok) (l : List PCon) : List UInt8 := if l = [] then [] else sepO [119, 104, 101, 114, 101] ++ putT (listQ nm l)
theorem block_bytes (x : PBlock) : putT (blockT nm x) = sepO (headB x.all) ++ (putT (declsT x.vars) ++ (whereB nm x.cons ++ sepO [59])) := by
  unfold blockT blockH whereB headB
  rw [putT_app, show (tW (if x.all = true then Pa.tForall else Pa.tExists) :: (declsT x.vars ++ (if x.cons = [] then [] else tW Pa.tWhere :: listT nm x.cons))) = [tW (if x.all = true then Pa.tForall else Pa.tExists)] ++ (declsT x.vars ++ (if x.cons = [] then [] else tW Pa.tWhere :: listT nm x.cons)) from rfl, putT_app, putT_app, putT_one, putT_one]
  have e1 : (tW (if x.all = true then Pa.tForall else Pa.tExists)).text = (if x.all = true then [102, 111, 114, 97, 108, 108] else [101, 120, 105, 115, 116, 115]) := rfl
  have e2 : (tM Pa.tSemi).text = [59] := rfl
  rw [e1, e2]
  simp only [List.append_assoc]
  congr 3
  unfold listQ
  split
  · rfl
  · rw [show (tW Pa.tWhere :: listT nm x.cons) = [tW Pa.tWhere] ++ listT nm x.cons from rfl, putT_app, putT_one]
    rfl
theorem Bc.on {cs : Array Value} {t : TypeId} (h : Bc B b tb pb k kc pn ln cn cs t W u) (hK : Kp B b pb u u') : Bc B b tb pb k kc pn ln cn cs t W u' ∧ Bx B b tb pb k pn ln cn W u' := ⟨h.move hK, (h.move hK).bx⟩
set_option maxHeartbeats 16000000 in
theorem block_put (H : PutAt B b tb pb X W) (K : NmK B b pb W pn bn on_ ln L nm) (hb : Base B w0 W) {v1 v2 : Value} {x : PBlock} (hr : rBlock w0 [.bool x.all, v1, v2] x) (ho : BlockOut nm L x) (hX : X.length + (putT (blockT nm x)).length ≤ 100000000000) :
    Calls Tryd.prog 36 #[.agg #[.slice pn ln cn, putV tb pb], .agg #[.bool x.all, v1, v2]] W fun e w' => e = .returned (.tuple #[]) ∧ PutAt B b tb pb (X ++ putT (blockT nm x)) w' ∧ Kp B b pb W w' := by
  obtain ⟨x1, x2, e, hv1, hv2⟩ := hr
  simp only [List.cons.injEq, and_true, true_and] at e
  obtain ⟨rfl, rfl⟩ := e
  obtain ⟨pv, bv, ov, cv, nv, rfl, _, hs⟩ := hv1
  have hsc := hv2
  obtain ⟨pc, bc, oc, cc, nc, rfl, _, hs2⟩ := hv2
  rw [block_bytes] at hX ⊢
  simp only [List.length_append] at hX
  obtain ⟨all, hall⟩ : ∃ all, all = x.all := ⟨_, rfl⟩
  obtain ⟨l, hl⟩ : ∃ l, l = x.vars := ⟨_, rfl⟩
  obtain ⟨cl, hcl⟩ : ∃ cl, cl = x.cons := ⟨_, rfl⟩
  obtain ⟨o1, o2, o3, o4⟩ := ho
  rw [← hall, ← hl, ← hcl] at hX ⊢
  rw [← hl] at o1 o3 hs
  rw [← hcl] at o2 o4 hsc hs2
  clear hall hl hcl
  have hbc := bc_start (pn := pn) (ln := ln) (cn := cn) H #[.bool all, .slice pv nv cv, .slice pc nc cc] 44 (by decide)
  have hP0 := (H.alloc (.cells #[.slice pn ln cn, putV tb pb] 55)).alloc (.cells #[.bool all, .slice pv nv cv, .slice pc nc cc] 44)
  have BC := Lib.hid hbc
  have HP := Lib.hid hP0
  have CH := Lib.hid (put_one hP0 (headB all) (by omega))
  simp only [World.size_alloc] at CH
  have hlen := hs.long
  have hat := hs.at_
  have hn : nv ≤ 1000000 := by omega
  have hlen2 := hs2.long
  have hn2 : nc ≤ 1000000 := by omega
  have HS := Lib.hid hs
  have HL := Lib.hid hlen
  have HL2 := Lib.hid hlen2
  have HSC := Lib.hid hsc
  have KK := Lib.hid K
  have HBB := Lib.hid hb
  have O2 := Lib.hid o2
  have O3 := Lib.hid o3
  have O4 := Lib.hid o4
  have HX := Lib.hid hX
  clear H K hb hs hlen hlen2 hs2 hsc hX hbc hP0 o1 o2 o3 o4
  unfold putV at *
  go_enter Tryd.func36, Tryd.ntmps36
  go_upto_if 7 with (fail)
  go_cut [] (fun wx => PutAt B b tb pb (X ++ sepO (headB all)) wx ∧ Bc B b tb pb W.heap.size (W.heap.size + 1) pn ln cn #[.bool all, .slice pv nv cv, .slice pc nc cc] 44 W wx)
  case first =>
    cases all
    · go_wp2_with fail
      refine CH.out.mono ?_
      rintro e u1 ⟨rfl, hP1, hK1⟩
      have HPB := Lib.hid (And.intro hP1 (BC.out.move ((kp_alloc HP.out.size _).trans hK1)))
      clear hP1 hK1
      go_wp2_with fail
      go_meet
      case rel => exact HPB.out
    · go_wp2_with fail
      refine CH.out.mono ?_
      rintro e u1 ⟨rfl, hP1, hK1⟩
      have HPB := Lib.hid (And.intro hP1 (BC.out.move ((kp_alloc HP.out.size _).trans hK1)))
      clear hP1 hK1
      go_wp2_with fail
      go_meet
      case rel => exact HPB.out
  case rest =>
    obtain ⟨hP1, hB1⟩ := hcut
    have z1 := hB1.cell 1
    have BC1 := Lib.hid hB1
    obtain ⟨Z, eZ⟩ : ∃ Z, Z = X ++ sepO (headB all) := ⟨_, rfl⟩
    rw [← eZ] at hP1
    have EZ := Lib.hid eZ
    have HP1 := Lib.hid hP1
    clear hP1 hB1 eZ
    go_wp2_with fail
    go_loopw [19] (fun i wr => ∃ k : Nat, k ≤ nv ∧ i = .int .i64 k ∧ PutAt B b tb pb (Z ++ putT (declsT (l.take k))) wr ∧ Bc B b tb pb W.heap.size (W.heap.size + 1) pn ln cn #[.bool all, .slice pv nv cv, .slice pc nc cc] 44 W wr) (fun i _ => nv - (intOf i).toNat)
    case atStart =>
      refine ⟨0, by omega, rfl, ?_, BC1.out⟩
      simpa [putT, putX, declsT] using HP1.out
    case round =>
      obtain ⟨k, hk, rfl, hP, hB⟩ := hrel
      obtain ⟨wo, rfl⟩ : ∃ wo, wo = wr := ⟨_, rfl⟩
      by_cases hlt : k < nv
      · obtain rfl := hat (by omega)
        obtain ⟨d, s, v, hd, ⟨k0, k1⟩, hrd⟩ := decl_at2 HS.out hlt
        obtain ⟨q, m, c, rfl⟩ := rDecl_shape hrd
        have hbw := HBB.out.move hB.bx.kept
        have j0 := cell_stays (by rw [hbw.eq]; exact hbw.low) k0
        have j1 := cell_stays (by rw [hbw.eq]; exact hbw.low) k1
        obtain ⟨Y, eY⟩ : ∃ Y, Y = Z ++ putT (declsT (l.take k)) := ⟨_, rfl⟩
        rw [← eY] at hP
        have hstep : Z ++ putT (declsT (l.take (k + 1))) = Y ++ (putT (if k = 0 then [] else [tM Pa.tComma]) ++ putT (declT d)) := by rw [decls_step l k d hd, eY]; simp only [putT_app, List.append_assoc]
        have hlen : Y.length + ((putT (if k = 0 then [] else [tM Pa.tComma])).length + (putT (declT d)).length) ≤ 100000000000 := by
          have q := decls_long l (k + 1)
          have q2 := congrArg List.length hstep
          have := HX.out
          have q3 := congrArg List.length EZ.out
          simp only [List.length_append] at q2 q3
          omega
        obtain ⟨f1, f2⟩ := O3.out d (List.mem_of_getElem? hd)
        have hN := bc_new hP hB.bx #[.string s, .slice q m c] 47 (by decide)
        have y0 := hN.bx.cells.1
        have y1 := hN.bx.cells.2.1
        have x0 := hN.cell 0
        have x1 := hN.cell 1
        unfold putV at y1
        have hP2 := hP.alloc (.cells #[.string s, .slice q m c] 47)
        have BO := Lib.hid (hB.move (kp_alloc hP.size (.cells #[.string s, .slice q m c] 47)))
        have BN := Lib.hid hN
        have HP2 := Lib.hid hP2
        have HST := Lib.hid hstep
        have HLEN := Lib.hid hlen
        have CP := Lib.hid (fun (u : World) (V : List UInt8) (hP : PutAt B b tb pb V u) (hK : Kp B b pb W u) (hZ : V.length + (putT (declT d)).length ≤ 100000000000) => decl_put (pn := pn) (ln := ln) (cn := cn) hP (HBB.out.move hK) hrd f1 f2 hZ)
        unfold putV at CP
        clear hP hB hrd hbw k0 k1 eY hstep hlen hN hP2 hd f1 f2
        by_cases h0 : k = 0
        · have i0 : ¬ (0 : Int) < (k : Int) := by omega
          have i1 : (k : Int) ≤ 0 := by omega
          have n0 : ¬ 0 < k := by omega
          have e0 : putT (if k = 0 then [] else [tM Pa.tComma]) = [] := by rw [if_pos h0]; rfl
          have C := Lib.hid (CP.out _ Y HP2.out BN.out.bx.kept (by have := HLEN.out; omega))
          have E0 := Lib.hid e0
          clear h0 e0
          go_wp2_with fail
          refine C.out.mono ?_
          rintro e u2 ⟨rfl, hP3, hK3⟩
          have HP3 := Lib.hid hP3
          have BO3 := Lib.hid (BO.out.move hK3)
          clear hP3 hK3
          go_wp2_with fail
          go_roundw
          case rel =>
            refine ⟨k + 1, by omega, rfl, ?_, BO3.out⟩
            rw [HST.out, E0.out]
            exact HP3.out
          case measure =>
            simp [intOf]
            omega
        · have i0 : (0 : Int) < (k : Int) := by omega
          have n0 : 0 < k := by omega
          have e0 : putT (if k = 0 then [] else [tM Pa.tComma]) = sepO [44] := by rw [if_neg h0, putT_one]; rfl
          have E0 := Lib.hid e0
          have PA := Lib.hid (put_one HP2.out [44] (by have := HLEN.out; rw [e0] at this; omega))
          simp only [World.size_alloc] at PA
          clear h0 e0
          go_wp2_with fail
          refine PA.out.mono ?_
          rintro e u1 ⟨rfl, hP3, hK3⟩
          have hK3' := (kp_alloc (b := b) (pb := pb) HP2.out.size _).trans hK3
          have hb3 := BN.out.move hK3'
          clear y0 y1 x0 x1
          have y0 := hb3.bx.cells.1
          have y1 := hb3.bx.cells.2.1
          have x0 := hb3.cell 0
          have x1 := hb3.cell 1
          unfold putV at y1
          have HP3 := Lib.hid hP3
          have BN3 := Lib.hid hb3
          have BO3 := Lib.hid (BO.out.move hK3')
          have C := Lib.hid (CP.out _ _ HP3.out BN3.out.bx.kept (by have := HLEN.out; rw [E0.out] at this; rw [List.length_append]; omega))
          clear hP3 hK3 hb3 hK3'
          go_wp2_with fail
          refine C.out.mono ?_
          rintro e u2 ⟨rfl, hP4, hK4⟩
          have HP4 := Lib.hid hP4
          have BO4 := Lib.hid (BO3.out.move hK4)
          clear hP4 hK4
          go_wp2_with fail
          go_roundw
          case rel =>
            refine ⟨k + 1, by omega, rfl, ?_, BO4.out⟩
            rw [HST.out, E0.out, ← List.append_assoc]
            exact HP4.out
          case measure =>
            simp [intOf]
            omega
      · obtain rfl : k = nv := by omega
        have e : l.take k = l := by rw [HL.out]; simp
        rw [e] at hP
        have y0 := hB.bx.cells.1
        have y1 := hB.bx.cells.2.1
        have z2 := hB.cell 2
        unfold putV at y1
        obtain ⟨V, eV⟩ : ∃ V, V = Z ++ putT (declsT l) := ⟨_, rfl⟩
        rw [← eV] at hP
        have EV := Lib.hid eV
        have BD := Lib.hid hB
        have HPV := Lib.hid hP
        have hlv : V.length + ((whereB nm cl).length + (sepO [59]).length) ≤ 100000000000 := by
          have := HX.out
          have q3 := congrArg List.length EZ.out
          have q4 := congrArg List.length eV
          simp only [List.length_append] at q3 q4
          omega
        have HLV := Lib.hid hlv
        clear hP hB e eV hlv hlt hk HL O3 HS
        go_upto_if 37 with (fail)
        go_cut [] (fun wx => PutAt B b tb pb (V ++ whereB nm cl) wx ∧ Bc B b tb pb W.heap.size (W.heap.size + 1) pn ln cn #[.bool all, .slice pv k cv, .slice pc nc cc] 44 W wx)
        case first =>
          by_cases hq : 0 < nc
          · have hne : cl ≠ [] := fun h => by have := HL2.out; rw [h] at this; simp at this; omega
            have ew : whereB nm cl = sepO [119, 104, 101, 114, 101] ++ putT (listQ nm cl) := by unfold whereB; rw [if_neg hne]
            have hlv := HLV.out
            rw [ew] at hlv
            simp only [List.length_append] at hlv
            have PA := Lib.hid (put_one HPV.out [119, 104, 101, 114, 101] (by omega))
            have LP := Lib.hid (fun (u : World) (hP : PutAt B b tb pb (V ++ sepO [119, 104, 101, 114, 101]) u) (hK : Kp B b pb W u) => list_put (pn := pn) (ln := ln) (cn := cn) hP (KK.out.move hK) (HBB.out.move hK) HSC.out (by have := HL2.out; omega) O4.out (by simp only [List.length_append]; omega))
            unfold putV at LP
            have EW := Lib.hid ew
            clear hne ew hlv
            go_wp2_with fail
            refine PA.out.mono ?_
            rintro e u1 ⟨rfl, hP3, hK3⟩
            have hb3 := BD.out.move ((kp_alloc HPV.out.size _).trans hK3)
            clear y0 y1 z2
            have y0 := hb3.bx.cells.1
            have y1 := hb3.bx.cells.2.1
            have z2 := hb3.cell 2
            unfold putV at y1
            have HP3 := Lib.hid hP3
            have BD3 := Lib.hid hb3
            clear hP3 hK3 hb3
            go_wp2_with fail
            refine (LP.out _ HP3.out BD3.out.bx.kept).mono ?_
            rintro e u2 ⟨rfl, hP4, hK4⟩
            have HPB := Lib.hid (And.intro hP4 (BD3.out.move hK4))
            clear hP4 hK4
            go_wp2_with fail
            go_meet
            case rel =>
              rw [EW.out, ← List.append_assoc]
              exact HPB.out
          · have hne : cl = [] := List.eq_nil_of_length_eq_zero (by have := HL2.out; omega)
            have ew : V ++ whereB nm cl = V := by unfold whereB; rw [if_pos hne, List.append_nil]
            have EW := Lib.hid ew
            have HPB := Lib.hid (And.intro HPV.out BD.out)
            have hq2 : nc ≤ 0 := by omega
            clear hne ew
            go_wp2_with fail
            go_meet
            case rel =>
              rw [EW.out]
              exact HPB.out
        case rest =>
          obtain ⟨hP5, hB5⟩ := hcut
          clear y0 y1 z2
          have y0 := hB5.bx.cells.1
          have y1 := hB5.bx.cells.2.1
          unfold putV at y1
          have PA := Lib.hid (put_one hP5 [59] (by have := HLV.out; simp only [List.length_append]; omega))
          have HP5 := Lib.hid hP5
          have HK5 := Lib.hid hB5.bx.kept
          clear hP5 hB5
          go_wp2_with fail
          refine PA.out.mono ?_
          rintro e u6 ⟨rfl, hP6, hK6⟩
          have HK6 := Lib.hid (HK5.out.trans ((kp_alloc HP5.out.size _).trans hK6))
          have HP6 := Lib.hid hP6
          clear hP6 hK6
          go_wp2_with fail
          go_end0
          refine ⟨rfl, ?_, HK6.out⟩
          have := HP6.out
          rw [EV.out, EZ.out] at this
          simp only [List.append_assoc] at this ⊢
          exact this
end
end Go.Proofs.YtkgieaoahijheaaDoor.Wt
namespace Go.Proofs.YtkgieaoahijheaaDoor.Wt
open Go.RowKit
open Sc (Tok)
set_option maxRecDepth 100000

section
variable {B b tb pb k kc : Nat} {W w0 u u' : World} {X : List UInt8} {pn : Option Addr} {bn on_ ln cn : Nat} {L : List PDecl} {nm : Int → Tok}
structure ModelOut (nm : Int → Tok) (L : List PDecl) (m : PModel) : Prop where
  few : m.blocks.length ≤ 1000000
  fewg : m.goal.length ≤ 1000000
  blocks : ∀ x ∈ m.blocks, BlockOut nm L x
  goal : ∀ c ∈ m.goal, ConOut nm L c
theorem blocks_step {l : List PBlock} {k : Nat} {x : PBlock} (h : l[k]? = some x) : putT ((l.take (k + 1)).flatMap (blockT nm)) = putT ((l.take k).flatMap (blockT nm)) ++ putT (blockT nm x) := by
  rw [List.take_add_one, h, List.flatMap_append, putT_app]
  simp
theorem blocks_long (l : List PBlock) (k : Nat) : (putT ((l.take k).flatMap (blockT nm))).length ≤ (putT (l.flatMap (blockT nm))).length := by
  have : putT (l.flatMap (blockT nm)) = putT ((l.take k).flatMap (blockT nm)) ++ putT ((l.drop k).flatMap (blockT nm)) := by rw [← putT_app, ← List.flatMap_append, List.take_append_drop]
  rw [this, List.length_append]
  omega
def trueB (l : List PCon) : List UInt8 := if l = [] then sepO [116, 114, 117, 101] else []
theorem model_bytes (m : PModel) : putT (modelT nm m) = putT (m.blocks.flatMap (blockT nm)) ++ (sepO [103, 111, 97, 108] ++ (trueB m.goal ++ (putT (listQ nm m.goal) ++ sepO [59]))) := by
  unfold modelT goalH trueB listQ
  rw [putT_app, putT_app, show (tW Pa.tGoal :: listT nm m.goal) = [tW Pa.tGoal] ++ listT nm m.goal from rfl, putT_app, putT_one, putT_one]
  have e1 : (tW Pa.tGoal).text = [103, 111, 97, 108] := rfl
  have e2 : (tM Pa.tSemi).text = [59] := rfl
  rw [e1, e2]
  simp only [List.append_assoc]
  congr 2
  split
  · rename_i h
    rw [h]
    rfl
  · rfl
set_option maxHeartbeats 16000000 in
theorem model_put (H : PutAt B b tb pb X W) (K : NmK B b pb W pn bn on_ ln L nm) (hb : Base B w0 W) {v1 v2 : Value} {m : PModel} (hr : rModel w0 [v1, v2] m) (ho : ModelOut nm L m) (hX : X.length + (putT (modelT nm m)).length ≤ 100000000000) :
    Calls Tryd.prog 18 #[.agg #[.slice pn ln cn, putV tb pb], .agg #[v1, v2]] W fun e w' => e = .returned (.tuple #[]) ∧ PutAt B b tb pb (X ++ putT (modelT nm m)) w' ∧ Kp B b pb W w' := by
  obtain ⟨x1, x2, e, hv1, hv2⟩ := hr
  simp only [List.cons.injEq, and_true] at e
  obtain ⟨rfl, rfl⟩ := e
  obtain ⟨pv, bv, ov, cv, nv, rfl, _, hs⟩ := hv1
  have hsc := hv2
  obtain ⟨pc, bc, oc, cc, nc, rfl, _, hs2⟩ := hv2
  rw [model_bytes] at hX ⊢
  simp only [List.length_append] at hX
  obtain ⟨l, hl⟩ : ∃ l, l = m.blocks := ⟨_, rfl⟩
  obtain ⟨cl, hcl⟩ : ∃ cl, cl = m.goal := ⟨_, rfl⟩
  obtain ⟨o1, o2, o3, o4⟩ := ho
  rw [← hl, ← hcl] at hX ⊢
  rw [← hl] at o1 o3 hs
  rw [← hcl] at o2 o4 hsc hs2
  clear hl hcl
  have hbc := bc_start (pn := pn) (ln := ln) (cn := cn) H #[.slice pv nv cv, .slice pc nc cc] 25 (by decide)
  have hP0 := (H.alloc (.cells #[.slice pn ln cn, putV tb pb] 55)).alloc (.cells #[.slice pv nv cv, .slice pc nc cc] 25)
  have BC := Lib.hid hbc
  have HP := Lib.hid hP0
  have hlen := hs.long
  have hat := hs.at_
  have hn : nv ≤ 1000000 := by omega
  have hlen2 := hs2.long
  have hn2 : nc ≤ 1000000 := by omega
  have HS := Lib.hid hs
  have HL := Lib.hid hlen
  have HL2 := Lib.hid hlen2
  have HSC := Lib.hid hsc
  have KK := Lib.hid K
  have HBB := Lib.hid hb
  have O2 := Lib.hid o2
  have O3 := Lib.hid o3
  have O4 := Lib.hid o4
  have HX := Lib.hid hX
  clear H K hb hs hlen hlen2 hs2 hsc hX hbc hP0 o1 o2 o3 o4
  unfold putV at *
  go_enter Tryd.func18, Tryd.ntmps18
  go_wp2_with fail
  go_loopw [9] (fun i wr => ∃ k : Nat, k ≤ nv ∧ i = .int .i64 k ∧ PutAt B b tb pb (X ++ putT ((l.take k).flatMap (blockT nm))) wr ∧ Bc B b tb pb W.heap.size (W.heap.size + 1) pn ln cn #[.slice pv nv cv, .slice pc nc cc] 25 W wr) (fun i _ => nv - (intOf i).toNat)
  case atStart =>
    refine ⟨0, by omega, rfl, ?_, BC.out⟩
    simpa [putT, putX] using HP.out
  case round =>
    obtain ⟨k, hk, rfl, hP, hB⟩ := hrel
    obtain ⟨wo, rfl⟩ : ∃ wo, wo = wr := ⟨_, rfl⟩
    by_cases hlt : k < nv
    · obtain rfl := hat (by omega)
      obtain ⟨x, v1, v2, hd, ⟨k0, k1, k2⟩, hrd⟩ := block_at2 HS.out hlt
      obtain ⟨⟨q1, m1, d1, rfl⟩, ⟨q2, m2, d2, rfl⟩⟩ := rBlock_shape hrd
      have hbw := HBB.out.move hB.bx.kept
      have j0 := cell_stays (by rw [hbw.eq]; exact hbw.low) k0
      have j1 := cell_stays (by rw [hbw.eq]; exact hbw.low) k1
      have j2 := cell_stays (by rw [hbw.eq]; exact hbw.low) k2
      obtain ⟨Y, eY⟩ : ∃ Y, Y = X ++ putT ((l.take k).flatMap (blockT nm)) := ⟨_, rfl⟩
      rw [← eY] at hP
      have hstep : X ++ putT ((l.take (k + 1)).flatMap (blockT nm)) = Y ++ putT (blockT nm x) := by rw [blocks_step hd, eY]; simp only [List.append_assoc]
      have hlen : Y.length + (putT (blockT nm x)).length ≤ 100000000000 := by
        have q := blocks_long (nm := nm) l (k + 1)
        have q2 := congrArg List.length hstep
        have := HX.out
        simp only [List.length_append] at q2
        omega
      have hN := bc_new hP hB.bx #[.bool x.all, .slice q1 m1 d1, .slice q2 m2 d2] 44 (by decide)
      have y0 := hN.bx.cells.1
      have y1 := hN.bx.cells.2.1
      have x0 := hN.cell 0
      have x1 := hN.cell 1
      have x2 := hN.cell 2
      unfold putV at y1
      have hP2 := hP.alloc (.cells #[.bool x.all, .slice q1 m1 d1, .slice q2 m2 d2] 44)
      have BO := Lib.hid (hB.move (kp_alloc hP.size (.cells #[.bool x.all, .slice q1 m1 d1, .slice q2 m2 d2] 44)))
      have HST := Lib.hid hstep
      have C := Lib.hid (block_put (pn := pn) (ln := ln) (cn := cn) hP2 (KK.out.move hN.bx.kept) (HBB.out.move hN.bx.kept) hrd (O3.out x (List.mem_of_getElem? hd)) hlen)
      unfold putV at C
      clear hP hB hrd hbw k0 k1 k2 eY hstep hlen hN hP2 hd
      go_wp2_with fail
      refine C.out.mono ?_
      rintro e u2 ⟨rfl, hP3, hK3⟩
      have HP3 := Lib.hid hP3
      have BO3 := Lib.hid (BO.out.move hK3)
      clear hP3 hK3
      go_wp2_with fail
      go_roundw
      case rel =>
        refine ⟨k + 1, by omega, rfl, ?_, BO3.out⟩
        rw [HST.out]
        exact HP3.out
      case measure =>
        simp [intOf]
        omega
    · obtain rfl : k = nv := by omega
      have e : l.take k = l := by rw [HL.out]; simp
      rw [e] at hP
      have y0 := hB.bx.cells.1
      have y1 := hB.bx.cells.2.1
      have z1 := hB.cell 1
      unfold putV at y1
      obtain ⟨V, eV⟩ : ∃ V, V = X ++ putT (l.flatMap (blockT nm)) := ⟨_, rfl⟩
      rw [← eV] at hP
      have EV := Lib.hid eV
      have BD := Lib.hid hB
      have HPV := Lib.hid hP
      have hlv : V.length + ((sepO [103, 111, 97, 108]).length + ((trueB cl).length + ((putT (listQ nm cl)).length + (sepO [59]).length))) ≤ 100000000000 := by
        have := HX.out
        have q4 := congrArg List.length eV
        simp only [List.length_append] at q4
        omega
      have HLV := Lib.hid hlv
      have PG := Lib.hid (put_one hP [103, 111, 97, 108] (by omega))
      clear hP hB e eV hlv hlt hk HL O3 HS
      go_wp2_with fail
      refine PG.out.mono ?_
      rintro e u1 ⟨rfl, hP1, hK1⟩
      have hb1 := BD.out.move ((kp_alloc HPV.out.size _).trans hK1)
      clear y0 y1 z1
      have y0 := hb1.bx.cells.1
      have y1 := hb1.bx.cells.2.1
      have z1 := hb1.cell 1
      unfold putV at y1
      have HP1 := Lib.hid hP1
      have BD1 := Lib.hid hb1
      clear hP1 hK1 hb1
      go_upto_if 24 with (fail)
      go_cut [] (fun wx => PutAt B b tb pb ((V ++ sepO [103, 111, 97, 108]) ++ trueB cl) wx ∧ Bc B b tb pb W.heap.size (W.heap.size + 1) pn ln cn #[.slice pv k cv, .slice pc nc cc] 25 W wx)
      case first =>
        by_cases hq : nc = 0
        · have hne : cl = [] := List.eq_nil_of_length_eq_zero (by have := HL2.out; omega)
          have ew : trueB cl = sepO [116, 114, 117, 101] := by unfold trueB; rw [if_pos hne]
          have hlv := HLV.out
          rw [ew] at hlv
          have PA := Lib.hid (put_one HP1.out [116, 114, 117, 101] (by simp only [List.length_append]; omega))
          have EW := Lib.hid ew
          have b1 : ((nc : Int) == 0) = true := beq_iff_eq.2 (by omega)
          have b2 : decide (nc = 0) = true := decide_eq_true hq
          have b3 : (nc == 0) = true := beq_iff_eq.2 hq
          clear hne ew hlv hq
          go_wp2_with fail
          refine PA.out.mono ?_
          rintro e u2 ⟨rfl, hP3, hK3⟩
          have HPB := Lib.hid (And.intro hP3 (BD1.out.move ((kp_alloc HP1.out.size _).trans hK3)))
          clear hP3 hK3
          go_wp2_with fail
          go_meet
          case rel =>
            rw [EW.out]
            exact HPB.out
        · have hne : cl ≠ [] := fun h => hq (by have := HL2.out; rw [h] at this; simpa using this)
          have ew : (V ++ sepO [103, 111, 97, 108]) ++ trueB cl = V ++ sepO [103, 111, 97, 108] := by unfold trueB; rw [if_neg hne, List.append_nil]
          have EW := Lib.hid ew
          have HPB := Lib.hid (And.intro HP1.out BD1.out)
          clear hne ew
          go_wp2_with fail
          go_meet
          case rel =>
            rw [EW.out]
            exact HPB.out
      case rest =>
        obtain ⟨hP5, hB5⟩ := hcut
        clear y0 y1 z1
        have y0 := hB5.bx.cells.1
        have y1 := hB5.bx.cells.2.1
        have z1 := hB5.cell 1
        unfold putV at y1
        have LP := Lib.hid (list_put (pn := pn) (ln := ln) (cn := cn) hP5 (KK.out.move hB5.bx.kept) (HBB.out.move hB5.bx.kept) HSC.out (by have := HL2.out; omega) O4.out (by have := HLV.out; simp only [List.length_append]; omega))
        unfold putV at LP
        have HP5 := Lib.hid hP5
        have BD5 := Lib.hid hB5
        clear hP5 hB5
        go_wp2_with fail
        refine LP.out.mono ?_
        rintro e u6 ⟨rfl, hP6, hK6⟩
        have hb6 := BD5.out.move hK6
        clear y0 y1 z1
        have y0 := hb6.bx.cells.1
        have y1 := hb6.bx.cells.2.1
        unfold putV at y1
        have PS := Lib.hid (put_one hP6 [59] (by have := HLV.out; simp only [List.length_append]; omega))
        have HP6 := Lib.hid hP6
        have BD6 := Lib.hid hb6
        clear hP6 hK6 hb6
        go_wp2_with fail
        refine PS.out.mono ?_
        rintro e u7 ⟨rfl, hP7, hK7⟩
        have HK7 := Lib.hid (BD6.out.bx.kept.trans ((kp_alloc HP6.out.size _).trans hK7))
        have HP7 := Lib.hid hP7
        clear hP7 hK7
        go_wp2_with fail
        go_end0
        refine ⟨rfl, ?_, HK7.out⟩
        have := HP7.out
        rw [EV.out] at this
        simp only [List.append_assoc] at this ⊢
        exact this
end
end Go.Proofs.YtkgieaoahijheaaDoor.Wt
