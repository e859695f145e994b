/-
  A block, as the writer puts it out.
  A model, as the writer puts it out.
  What the writer puts out of a model that may be is its text; of a constraint, its tokens. Nothing of the program's text.
  What the copies of a text, and of a list of spans, answer.
-/
import Derived.Test.YtkgieaoahijheaaGreatDoorZYAP
import Derived.Test.YtkgieaoahijheaaGreatDoorZYAA
namespace Go.Proofs.YtkgieaoahijheaaGreatDoor.Wt
open Go.RowKit
open Sc (Tok)
set_option maxRecDepth 100000

section
variable {B b tb pb k kc : Nat} {W w0 u u' : World} {X : List UInt8} {pn : Option Addr} {bn on_ ln cn : Nat} {L : List PDecl} {nm : Int → Tok}
theorem decls_step (l : List PDecl) (k : Nat) (d : PDecl) (h : l[k]? = some d) : declsT (l.take (k + 1)) = declsT (l.take k) ++ ((if k = 0 then [] else [tM Pa.tComma]) ++ declT d) := by
  cases l with
  | nil => simp at h
  | cons x l =>
    cases k with
    | zero =>
      simp only [List.getElem?_cons_zero, Option.some.injEq] at h
      subst h
      simp [declsT]
    | succ k =>
      have hk : l[k]? = some d := by simpa using h
      have e1 : declsT ((x :: l).take (k + 1 + 1)) = declT x ++ (l.take (k + 1)).flatMap fun c => tM Pa.tComma :: declT c := rfl
      have e2 : declsT ((x :: l).take (k + 1)) = declT x ++ (l.take k).flatMap fun c => tM Pa.tComma :: declT c := rfl
      rw [e1, e2, List.take_add_one, hk]
      simp
theorem decls_long (l : List PDecl) (k : Nat) : (putT (declsT (l.take k))).length ≤ (putT (declsT l)).length := by
  by_cases hk : k < l.length
  · have ih : ∀ n j, l.length - j = n → k ≤ j → (putT (declsT (l.take k))).length ≤ (putT (declsT (l.take j))).length → (putT (declsT (l.take k))).length ≤ (putT (declsT l)).length := by
      intro n
      induction n with
      | zero =>
        intro j hj _ h
        rwa [List.take_of_length_le (by omega : l.length ≤ j)] at h
      | succ n ihn =>
        intro j hj hkj h
        refine ihn (j + 1) (by omega) (by omega) ?_
        rw [decls_step l j l[j] (List.getElem?_eq_getElem (by omega)), putT_app, List.length_append]
        omega
    exact ih _ k rfl (Nat.le_refl _) (Nat.le_refl _)
  · rw [List.take_of_length_le (by omega)]
    exact Nat.le_refl _
/-- a variable that may be put out -/
structure DeclOut (d : PDecl) : Prop where
  few : d.dom.length ≤ 1000000
  nums : ∀ p ∈ d.dom, p.1.natAbs ≤ 1000000000000000000 ∧ p.2.natAbs ≤ 1000000000000000000
structure BlockOut (nm : Int → Tok) (L : List PDecl) (x : PBlock) : Prop where
  few : x.vars.length ≤ 1000000
  fewc : x.cons.length ≤ 1000000
  decls : ∀ d ∈ x.vars, DeclOut d
  cons : ∀ c ∈ x.cons, ConOut nm L c
def headB (all : Bool) : List UInt8 := if all = true then [102, 111, 114, 97, 108, 108] else [101, 120, 105, 115, 116, 115]
def whereB (nm : Int → Tok) (l : List PCon) : List UInt8 := if l = [] then [] else sepO [119, 104, 101, 114, 101] ++ putT (listQ nm l)
theorem block_bytes (x : PBlock) : putT (blockT nm x) = sepO (headB x.all) ++ (putT (declsT x.vars) ++ (whereB nm x.cons ++ sepO [59])) := by
  unfold blockT blockH whereB headB
  rw [putT_app, show (tW (if x.all = true then Pa.tForall else Pa.tExists) :: (declsT x.vars ++ (if x.cons = [] then [] else tW Pa.tWhere :: listT nm x.cons))) = [tW (if x.all = true then Pa.tForall else Pa.tExists)] ++ (declsT x.vars ++ (if x.cons = [] then [] else tW Pa.tWhere :: listT nm x.cons)) from rfl, putT_app, putT_app, putT_one, putT_one]
  have e1 : (tW (if x.all = true then Pa.tForall else Pa.tExists)).text = (if x.all = true then [102, 111, 114, 97, 108, 108] else [101, 120, 105, 115, 116, 115]) := rfl
  have e2 : (tM Pa.tSemi).text = [59] := rfl
  rw [e1, e2]
  simp only [List.append_assoc]
  congr 3
  unfold listQ
  split
  · rfl
  · rw [show (tW Pa.tWhere :: listT nm x.cons) = [tW Pa.tWhere] ++ listT nm x.cons from rfl, putT_app, putT_one]
    rfl
theorem Bc.on {cs : Array Value} {t : TypeId} (h : Bc B b tb pb k kc pn ln cn cs t W u) (hK : Kp B b pb u u') : Bc B b tb pb k kc pn ln cn cs t W u' ∧ Bx B b tb pb k pn ln cn W u' := ⟨h.move hK, (h.move hK).bx⟩
set_option maxHeartbeats 16000000 in
theorem block_put (H : PutAt B b tb pb X W) (K : NmK B b pb W pn bn on_ ln L nm) (hb : Base B w0 W) {v1 v2 : Value} {x : PBlock} (hr : rBlock w0 [.bool x.all, v1, v2] x) (ho : BlockOut nm L x) (hX : X.length + (putT (blockT nm x)).length ≤ 100000000000) :
    Calls Tryz.prog 30 #[.agg #[.slice pn ln cn, putV tb pb], .agg #[.bool x.all, v1, v2]] W fun e w' => e = .returned (.tuple #[]) ∧ PutAt B b tb pb (X ++ putT (blockT nm x)) w' ∧ Kp B b pb W w' := by
  obtain ⟨x1, x2, e, hv1, hv2⟩ := hr
  simp only [List.cons.injEq, and_true, true_and] at e
  obtain ⟨rfl, rfl⟩ := e
  obtain ⟨pv, bv, ov, cv, nv, rfl, _, hs⟩ := hv1
  have hsc := hv2
  obtain ⟨pc, bc, oc, cc, nc, rfl, _, hs2⟩ := hv2
  rw [block_bytes] at hX ⊢
  simp only [List.length_append] at hX
  obtain ⟨all, hall⟩ : ∃ all, all = x.all := ⟨_, rfl⟩
  obtain ⟨l, hl⟩ : ∃ l, l = x.vars := ⟨_, rfl⟩
  obtain ⟨cl, hcl⟩ : ∃ cl, cl = x.cons := ⟨_, rfl⟩
  obtain ⟨o1, o2, o3, o4⟩ := ho
  rw [← hall, ← hl, ← hcl] at hX ⊢
  rw [← hl] at o1 o3 hs
  rw [← hcl] at o2 o4 hsc hs2
  clear hall hl hcl
  have hbc := bc_start (pn := pn) (ln := ln) (cn := cn) H #[.bool all, .slice pv nv cv, .slice pc nc cc] 42 (by decide)
  have hP0 := (H.alloc (.cells #[.slice pn ln cn, putV tb pb] 55)).alloc (.cells #[.bool all, .slice pv nv cv, .slice pc nc cc] 42)
  have BC := Lib.hid hbc
  have HP := Lib.hid hP0
  have CH := Lib.hid (put_one hP0 (headB all) (by omega))
  simp only [World.size_alloc] at CH
  have hlen := hs.long
  have hat := hs.at_
  have hn : nv ≤ 1000000 := by omega
  have hlen2 := hs2.long
  have hn2 : nc ≤ 1000000 := by omega
  have HS := Lib.hid hs
  have HL := Lib.hid hlen
  have HL2 := Lib.hid hlen2
  have HSC := Lib.hid hsc
  have KK := Lib.hid K
  have HBB := Lib.hid hb
  have O2 := Lib.hid o2
  have O3 := Lib.hid o3
  have O4 := Lib.hid o4
  have HX := Lib.hid hX
  clear H K hb hs hlen hlen2 hs2 hsc hX hbc hP0 o1 o2 o3 o4
  unfold putV at *
  go_enter Tryz.func30, Tryz.ntmps30
  go_upto_if 7 with (fail)
  go_cut [] (fun wx => PutAt B b tb pb (X ++ sepO (headB all)) wx ∧ Bc B b tb pb W.heap.size (W.heap.size + 1) pn ln cn #[.bool all, .slice pv nv cv, .slice pc nc cc] 42 W wx)
  case first =>
    cases all
    · go_wp2_with fail
      refine CH.out.mono ?_
      rintro e u1 ⟨rfl, hP1, hK1⟩
      have HPB := Lib.hid (And.intro hP1 (BC.out.move ((kp_alloc HP.out.size _).trans hK1)))
      clear hP1 hK1
      go_wp2_with fail
      go_meet
      case rel => exact HPB.out
    · go_wp2_with fail
      refine CH.out.mono ?_
      rintro e u1 ⟨rfl, hP1, hK1⟩
      have HPB := Lib.hid (And.intro hP1 (BC.out.move ((kp_alloc HP.out.size _).trans hK1)))
      clear hP1 hK1
      go_wp2_with fail
      go_meet
      case rel => exact HPB.out
  case rest =>
    obtain ⟨hP1, hB1⟩ := hcut
    have z1 := hB1.cell 1
    have BC1 := Lib.hid hB1
    obtain ⟨Z, eZ⟩ : ∃ Z, Z = X ++ sepO (headB all) := ⟨_, rfl⟩
    rw [← eZ] at hP1
    have EZ := Lib.hid eZ
    have HP1 := Lib.hid hP1
    clear hP1 hB1 eZ
    go_wp2_with fail
    go_loopw [19] (fun i wr => ∃ k : Nat, k ≤ nv ∧ i = .int .i64 k ∧ PutAt B b tb pb (Z ++ putT (declsT (l.take k))) wr ∧ Bc B b tb pb W.heap.size (W.heap.size + 1) pn ln cn #[.bool all, .slice pv nv cv, .slice pc nc cc] 42 W wr) (fun i _ => nv - (intOf i).toNat)
    case atStart =>
      refine ⟨0, by omega, rfl, ?_, BC1.out⟩
      simpa [putT, putX, declsT] using HP1.out
    case round =>
      obtain ⟨k, hk, rfl, hP, hB⟩ := hrel
      obtain ⟨wo, rfl⟩ : ∃ wo, wo = wr := ⟨_, rfl⟩
      by_cases hlt : k < nv
      · obtain rfl := hat (by omega)
        obtain ⟨d, s, v, hd, ⟨k0, k1⟩, hrd⟩ := decl_at2 HS.out hlt
        obtain ⟨q, m, c, rfl⟩ := rDecl_shape hrd
        have hbw := HBB.out.move hB.bx.kept
        have j0 := cell_stays (by rw [hbw.eq]; exact hbw.low) k0
        have j1 := cell_stays (by rw [hbw.eq]; exact hbw.low) k1
        obtain ⟨Y, eY⟩ : ∃ Y, Y = Z ++ putT (declsT (l.take k)) := ⟨_, rfl⟩
        rw [← eY] at hP
        have hstep : Z ++ putT (declsT (l.take (k + 1))) = Y ++ (putT (if k = 0 then [] else [tM Pa.tComma]) ++ putT (declT d)) := by rw [decls_step l k d hd, eY]; simp only [putT_app, List.append_assoc]
        have hlen : Y.length + ((putT (if k = 0 then [] else [tM Pa.tComma])).length + (putT (declT d)).length) ≤ 100000000000 := by
          have q := decls_long l (k + 1)
          have q2 := congrArg List.length hstep
          have := HX.out
          have q3 := congrArg List.length EZ.out
          simp only [List.length_append] at q2 q3
          omega
        obtain ⟨f1, f2⟩ := O3.out d (List.mem_of_getElem? hd)
        have hN := bc_new hP hB.bx #[.string s, .slice q m c] 45 (by decide)
        have y0 := hN.bx.cells.1
        have y1 := hN.bx.cells.2.1
        have x0 := hN.cell 0
        have x1 := hN.cell 1
        unfold putV at y1
        have hP2 := hP.alloc (.cells #[.string s, .slice q m c] 45)
        have BO := Lib.hid (hB.move (kp_alloc hP.size (.cells #[.string s, .slice q m c] 45)))
        have BN := Lib.hid hN
        have HP2 := Lib.hid hP2
        have HST := Lib.hid hstep
        have HLEN := Lib.hid hlen
        have CP := Lib.hid (fun (u : World) (V : List UInt8) (hP : PutAt B b tb pb V u) (hK : Kp B b pb W u) (hZ : V.length + (putT (declT d)).length ≤ 100000000000) => decl_put (pn := pn) (ln := ln) (cn := cn) hP (HBB.out.move hK) hrd f1 f2 hZ)
        unfold putV at CP
        clear hP hB hrd hbw k0 k1 eY hstep hlen hN hP2 hd f1 f2
        by_cases h0 : k = 0
        · have i0 : ¬ (0 : Int) < (k : Int) := by omega
          have i1 : (k : Int) ≤ 0 := by omega
          have n0 : ¬ 0 < k := by omega
          have e0 : putT (if k = 0 then [] else [tM Pa.tComma]) = [] := by rw [if_pos h0]; rfl
          have C := Lib.hid (CP.out _ Y HP2.out BN.out.bx.kept (by have := HLEN.out; omega))
          have E0 := Lib.hid e0
          clear h0 e0
          go_wp2_with fail
          refine C.out.mono ?_
          rintro e u2 ⟨rfl, hP3, hK3⟩
          have HP3 := Lib.hid hP3
          have BO3 := Lib.hid (BO.out.move hK3)
          clear hP3 hK3
          go_wp2_with fail
          go_roundw
          case rel =>
            refine ⟨k + 1, by omega, rfl, ?_, BO3.out⟩
            rw [HST.out, E0.out]
            exact HP3.out
          case measure =>
            simp [intOf]
            omega
        · have i0 : (0 : Int) < (k : Int) := by omega
          have n0 : 0 < k := by omega
          have e0 : putT (if k = 0 then [] else [tM Pa.tComma]) = sepO [44] := by rw [if_neg h0, putT_one]; rfl
          have E0 := Lib.hid e0
          have PA := Lib.hid (put_one HP2.out [44] (by have := HLEN.out; rw [e0] at this; omega))
          simp only [World.size_alloc] at PA
          clear h0 e0
          go_wp2_with fail
          refine PA.out.mono ?_
          rintro e u1 ⟨rfl, hP3, hK3⟩
          have hK3' := (kp_alloc (b := b) (pb := pb) HP2.out.size _).trans hK3
          have hb3 := BN.out.move hK3'
          clear y0 y1 x0 x1
          have y0 := hb3.bx.cells.1
          have y1 := hb3.bx.cells.2.1
          have x0 := hb3.cell 0
          have x1 := hb3.cell 1
          unfold putV at y1
          have HP3 := Lib.hid hP3
          have BN3 := Lib.hid hb3
          have BO3 := Lib.hid (BO.out.move hK3')
          have C := Lib.hid (CP.out _ _ HP3.out BN3.out.bx.kept (by have := HLEN.out; rw [E0.out] at this; rw [List.length_append]; omega))
          clear hP3 hK3 hb3 hK3'
          go_wp2_with fail
          refine C.out.mono ?_
          rintro e u2 ⟨rfl, hP4, hK4⟩
          have HP4 := Lib.hid hP4
          have BO4 := Lib.hid (BO3.out.move hK4)
          clear hP4 hK4
          go_wp2_with fail
          go_roundw
          case rel =>
            refine ⟨k + 1, by omega, rfl, ?_, BO4.out⟩
            rw [HST.out, E0.out, ← List.append_assoc]
            exact HP4.out
          case measure =>
            simp [intOf]
            omega
      · obtain rfl : k = nv := by omega
        have e : l.take k = l := by rw [HL.out]; simp
        rw [e] at hP
        have y0 := hB.bx.cells.1
        have y1 := hB.bx.cells.2.1
        have z2 := hB.cell 2
        unfold putV at y1
        obtain ⟨V, eV⟩ : ∃ V, V = Z ++ putT (declsT l) := ⟨_, rfl⟩
        rw [← eV] at hP
        have EV := Lib.hid eV
        have BD := Lib.hid hB
        have HPV := Lib.hid hP
        have hlv : V.length + ((whereB nm cl).length + (sepO [59]).length) ≤ 100000000000 := by
          have := HX.out
          have q3 := congrArg List.length EZ.out
          have q4 := congrArg List.length eV
          simp only [List.length_append] at q3 q4
          omega
        have HLV := Lib.hid hlv
        clear hP hB e eV hlv hlt hk HL O3 HS
        go_upto_if 37 with (fail)
        go_cut [] (fun wx => PutAt B b tb pb (V ++ whereB nm cl) wx ∧ Bc B b tb pb W.heap.size (W.heap.size + 1) pn ln cn #[.bool all, .slice pv k cv, .slice pc nc cc] 42 W wx)
        case first =>
          by_cases hq : 0 < nc
          · have hne : cl ≠ [] := fun h => by have := HL2.out; rw [h] at this; simp at this; omega
            have ew : whereB nm cl = sepO [119, 104, 101, 114, 101] ++ putT (listQ nm cl) := by unfold whereB; rw [if_neg hne]
            have hlv := HLV.out
            rw [ew] at hlv
            simp only [List.length_append] at hlv
            have PA := Lib.hid (put_one HPV.out [119, 104, 101, 114, 101] (by omega))
            have LP := Lib.hid (fun (u : World) (hP : PutAt B b tb pb (V ++ sepO [119, 104, 101, 114, 101]) u) (hK : Kp B b pb W u) => list_put (pn := pn) (ln := ln) (cn := cn) hP (KK.out.move hK) (HBB.out.move hK) HSC.out (by have := HL2.out; omega) O4.out (by simp only [List.length_append]; omega))
            unfold putV at LP
            have EW := Lib.hid ew
            clear hne ew hlv
            go_wp2_with fail
            refine PA.out.mono ?_
            rintro e u1 ⟨rfl, hP3, hK3⟩
            have hb3 := BD.out.move ((kp_alloc HPV.out.size _).trans hK3)
            clear y0 y1 z2
            have y0 := hb3.bx.cells.1
            have y1 := hb3.bx.cells.2.1
            have z2 := hb3.cell 2
            unfold putV at y1
            have HP3 := Lib.hid hP3
            have BD3 := Lib.hid hb3
            clear hP3 hK3 hb3
            go_wp2_with fail
            refine (LP.out _ HP3.out BD3.out.bx.kept).mono ?_
            rintro e u2 ⟨rfl, hP4, hK4⟩
            have HPB := Lib.hid (And.intro hP4 (BD3.out.move hK4))
            clear hP4 hK4
            go_wp2_with fail
            go_meet
            case rel =>
              rw [EW.out, ← List.append_assoc]
              exact HPB.out
          · have hne : cl = [] := List.eq_nil_of_length_eq_zero (by have := HL2.out; omega)
            have ew : V ++ whereB nm cl = V := by unfold whereB; rw [if_pos hne, List.append_nil]
            have EW := Lib.hid ew
            have HPB := Lib.hid (And.intro HPV.out BD.out)
            have hq2 : nc ≤ 0 := by omega
            clear hne ew
            go_wp2_with fail
            go_meet
            case rel =>
              rw [EW.out]
              exact HPB.out
        case rest =>
          obtain ⟨hP5, hB5⟩ := hcut
          clear y0 y1 z2
          have y0 := hB5.bx.cells.1
          have y1 := hB5.bx.cells.2.1
          unfold putV at y1
          have PA := Lib.hid (put_one hP5 [59] (by have := HLV.out; simp only [List.length_append]; omega))
          have HP5 := Lib.hid hP5
          have HK5 := Lib.hid hB5.bx.kept
          clear hP5 hB5
          go_wp2_with fail
          refine PA.out.mono ?_
          rintro e u6 ⟨rfl, hP6, hK6⟩
          have HK6 := Lib.hid (HK5.out.trans ((kp_alloc HP5.out.size _).trans hK6))
          have HP6 := Lib.hid hP6
          clear hP6 hK6
          go_wp2_with fail
          go_end0
          refine ⟨rfl, ?_, HK6.out⟩
          have := HP6.out
          rw [EV.out, EZ.out] at this
          simp only [List.append_assoc] at this ⊢
          exact this
end
end Go.Proofs.YtkgieaoahijheaaGreatDoor.Wt
namespace Go.Proofs.YtkgieaoahijheaaGreatDoor.Wt
open Go.RowKit
open Sc (Tok)
set_option maxRecDepth 100000

section
variable {B b tb pb k kc : Nat} {W w0 u u' : World} {X : List UInt8} {pn : Option Addr} {bn on_ ln cn : Nat} {L : List PDecl} {nm : Int → Tok}
structure ModelOut (nm : Int → Tok) (L : List PDecl) (m : PModel) : Prop where
  few : m.blocks.length ≤ 1000000
  fewg : m.goal.length ≤ 1000000
  blocks : ∀ x ∈ m.blocks, BlockOut nm L x
  goal : ∀ c ∈ m.goal, ConOut nm L c
theorem blocks_step {l : List PBlock} {k : Nat} {x : PBlock} (h : l[k]? = some x) : putT ((l.take (k + 1)).flatMap (blockT nm)) = putT ((l.take k).flatMap (blockT nm)) ++ putT (blockT nm x) := by
  rw [List.take_add_one, h, List.flatMap_append, putT_app]
  simp
theorem blocks_long (l : List PBlock) (k : Nat) : (putT ((l.take k).flatMap (blockT nm))).length ≤ (putT (l.flatMap (blockT nm))).length := by
  have : putT (l.flatMap (blockT nm)) = putT ((l.take k).flatMap (blockT nm)) ++ putT ((l.drop k).flatMap (blockT nm)) := by rw [← putT_app, ← List.flatMap_append, List.take_append_drop]
  rw [this, List.length_append]
  omega
def trueB (l : List PCon) : List UInt8 := if l = [] then sepO [116, 114, 117, 101] else []
theorem model_bytes (m : PModel) : putT (modelT nm m) = putT (m.blocks.flatMap (blockT nm)) ++ (sepO [103, 111, 97, 108] ++ (trueB m.goal ++ (putT (listQ nm m.goal) ++ sepO [59]))) := by
  unfold modelT goalH trueB listQ
  rw [putT_app, putT_app, show (tW Pa.tGoal :: listT nm m.goal) = [tW Pa.tGoal] ++ listT nm m.goal from rfl, putT_app, putT_one, putT_one]
  have e1 : (tW Pa.tGoal).text = [103, 111, 97, 108] := rfl
  have e2 : (tM Pa.tSemi).text = [59] := rfl
  rw [e1, e2]
  simp only [List.append_assoc]
  congr 2
  split
  · rename_i h
    rw [h]
    rfl
  · rfl
set_option maxHeartbeats 16000000 in
theorem model_put (H : PutAt B b tb pb X W) (K : NmK B b pb W pn bn on_ ln L nm) (hb : Base B w0 W) {v1 v2 : Value} {m : PModel} (hr : rModel w0 [v1, v2] m) (ho : ModelOut nm L m) (hX : X.length + (putT (modelT nm m)).length ≤ 100000000000) :
    Calls Tryz.prog 15 #[.agg #[.slice pn ln cn, putV tb pb], .agg #[v1, v2]] W fun e w' => e = .returned (.tuple #[]) ∧ PutAt B b tb pb (X ++ putT (modelT nm m)) w' ∧ Kp B b pb W w' := by
  obtain ⟨x1, x2, e, hv1, hv2⟩ := hr
  simp only [List.cons.injEq, and_true] at e
  obtain ⟨rfl, rfl⟩ := e
  obtain ⟨pv, bv, ov, cv, nv, rfl, _, hs⟩ := hv1
  have hsc := hv2
  obtain ⟨pc, bc, oc, cc, nc, rfl, _, hs2⟩ := hv2
  rw [model_bytes] at hX ⊢
  simp only [List.length_append] at hX
  obtain ⟨l, hl⟩ : ∃ l, l = m.blocks := ⟨_, rfl⟩
  obtain ⟨cl, hcl⟩ : ∃ cl, cl = m.goal := ⟨_, rfl⟩
  obtain ⟨o1, o2, o3, o4⟩ := ho
  rw [← hl, ← hcl] at hX ⊢
  rw [← hl] at o1 o3 hs
  rw [← hcl] at o2 o4 hsc hs2
  clear hl hcl
  have hbc := bc_start (pn := pn) (ln := ln) (cn := cn) H #[.slice pv nv cv, .slice pc nc cc] 25 (by decide)
  have hP0 := (H.alloc (.cells #[.slice pn ln cn, putV tb pb] 55)).alloc (.cells #[.slice pv nv cv, .slice pc nc cc] 25)
  have BC := Lib.hid hbc
  have HP := Lib.hid hP0
  have hlen := hs.long
  have hat := hs.at_
  have hn : nv ≤ 1000000 := by omega
  have hlen2 := hs2.long
  have hn2 : nc ≤ 1000000 := by omega
  have HS := Lib.hid hs
  have HL := Lib.hid hlen
  have HL2 := Lib.hid hlen2
  have HSC := Lib.hid hsc
  have KK := Lib.hid K
  have HBB := Lib.hid hb
  have O2 := Lib.hid o2
  have O3 := Lib.hid o3
  have O4 := Lib.hid o4
  have HX := Lib.hid hX
  clear H K hb hs hlen hlen2 hs2 hsc hX hbc hP0 o1 o2 o3 o4
  unfold putV at *
  go_enter Tryz.func15, Tryz.ntmps15
  go_wp2_with fail
  go_loopw [9] (fun i wr => ∃ k : Nat, k ≤ nv ∧ i = .int .i64 k ∧ PutAt B b tb pb (X ++ putT ((l.take k).flatMap (blockT nm))) wr ∧ Bc B b tb pb W.heap.size (W.heap.size + 1) pn ln cn #[.slice pv nv cv, .slice pc nc cc] 25 W wr) (fun i _ => nv - (intOf i).toNat)
  case atStart =>
    refine ⟨0, by omega, rfl, ?_, BC.out⟩
    simpa [putT, putX] using HP.out
  case round =>
    obtain ⟨k, hk, rfl, hP, hB⟩ := hrel
    obtain ⟨wo, rfl⟩ : ∃ wo, wo = wr := ⟨_, rfl⟩
    by_cases hlt : k < nv
    · obtain rfl := hat (by omega)
      obtain ⟨x, v1, v2, hd, ⟨k0, k1, k2⟩, hrd⟩ := block_at2 HS.out hlt
      obtain ⟨⟨q1, m1, d1, rfl⟩, ⟨q2, m2, d2, rfl⟩⟩ := rBlock_shape hrd
      have hbw := HBB.out.move hB.bx.kept
      have j0 := cell_stays (by rw [hbw.eq]; exact hbw.low) k0
      have j1 := cell_stays (by rw [hbw.eq]; exact hbw.low) k1
      have j2 := cell_stays (by rw [hbw.eq]; exact hbw.low) k2
      obtain ⟨Y, eY⟩ : ∃ Y, Y = X ++ putT ((l.take k).flatMap (blockT nm)) := ⟨_, rfl⟩
      rw [← eY] at hP
      have hstep : X ++ putT ((l.take (k + 1)).flatMap (blockT nm)) = Y ++ putT (blockT nm x) := by rw [blocks_step hd, eY]; simp only [List.append_assoc]
      have hlen : Y.length + (putT (blockT nm x)).length ≤ 100000000000 := by
        have q := blocks_long (nm := nm) l (k + 1)
        have q2 := congrArg List.length hstep
        have := HX.out
        simp only [List.length_append] at q2
        omega
      have hN := bc_new hP hB.bx #[.bool x.all, .slice q1 m1 d1, .slice q2 m2 d2] 42 (by decide)
      have y0 := hN.bx.cells.1
      have y1 := hN.bx.cells.2.1
      have x0 := hN.cell 0
      have x1 := hN.cell 1
      have x2 := hN.cell 2
      unfold putV at y1
      have hP2 := hP.alloc (.cells #[.bool x.all, .slice q1 m1 d1, .slice q2 m2 d2] 42)
      have BO := Lib.hid (hB.move (kp_alloc hP.size (.cells #[.bool x.all, .slice q1 m1 d1, .slice q2 m2 d2] 42)))
      have HST := Lib.hid hstep
      have C := Lib.hid (block_put (pn := pn) (ln := ln) (cn := cn) hP2 (KK.out.move hN.bx.kept) (HBB.out.move hN.bx.kept) hrd (O3.out x (List.mem_of_getElem? hd)) hlen)
      unfold putV at C
      clear hP hB hrd hbw k0 k1 k2 eY hstep hlen hN hP2 hd
      go_wp2_with fail
      refine C.out.mono ?_
      rintro e u2 ⟨rfl, hP3, hK3⟩
      have HP3 := Lib.hid hP3
      have BO3 := Lib.hid (BO.out.move hK3)
      clear hP3 hK3
      go_wp2_with fail
      go_roundw
      case rel =>
        refine ⟨k + 1, by omega, rfl, ?_, BO3.out⟩
        rw [HST.out]
        exact HP3.out
      case measure =>
        simp [intOf]
        omega
    · obtain rfl : k = nv := by omega
      have e : l.take k = l := by rw [HL.out]; simp
      rw [e] at hP
      have y0 := hB.bx.cells.1
      have y1 := hB.bx.cells.2.1
      have z1 := hB.cell 1
      unfold putV at y1
      obtain ⟨V, eV⟩ : ∃ V, V = X ++ putT (l.flatMap (blockT nm)) := ⟨_, rfl⟩
      rw [← eV] at hP
      have EV := Lib.hid eV
      have BD := Lib.hid hB
      have HPV := Lib.hid hP
      have hlv : V.length + ((sepO [103, 111, 97, 108]).length + ((trueB cl).length + ((putT (listQ nm cl)).length + (sepO [59]).length))) ≤ 100000000000 := by
        have := HX.out
        have q4 := congrArg List.length eV
        simp only [List.length_append] at q4
        omega
      have HLV := Lib.hid hlv
      have PG := Lib.hid (put_one hP [103, 111, 97, 108] (by omega))
      clear hP hB e eV hlv hlt hk HL O3 HS
      go_wp2_with fail
      refine PG.out.mono ?_
      rintro e u1 ⟨rfl, hP1, hK1⟩
      have hb1 := BD.out.move ((kp_alloc HPV.out.size _).trans hK1)
      clear y0 y1 z1
      have y0 := hb1.bx.cells.1
      have y1 := hb1.bx.cells.2.1
      have z1 := hb1.cell 1
      unfold putV at y1
      have HP1 := Lib.hid hP1
      have BD1 := Lib.hid hb1
      clear hP1 hK1 hb1
      go_upto_if 24 with (fail)
      go_cut [] (fun wx => PutAt B b tb pb ((V ++ sepO [103, 111, 97, 108]) ++ trueB cl) wx ∧ Bc B b tb pb W.heap.size (W.heap.size + 1) pn ln cn #[.slice pv k cv, .slice pc nc cc] 25 W wx)
      case first =>
        by_cases hq : nc = 0
        · have hne : cl = [] := List.eq_nil_of_length_eq_zero (by have := HL2.out; omega)
          have ew : trueB cl = sepO [116, 114, 117, 101] := by unfold trueB; rw [if_pos hne]
          have hlv := HLV.out
          rw [ew] at hlv
          have PA := Lib.hid (put_one HP1.out [116, 114, 117, 101] (by simp only [List.length_append]; omega))
          have EW := Lib.hid ew
          have b1 : ((nc : Int) == 0) = true := beq_iff_eq.2 (by omega)
          have b2 : decide (nc = 0) = true := decide_eq_true hq
          have b3 : (nc == 0) = true := beq_iff_eq.2 hq
          clear hne ew hlv hq
          go_wp2_with fail
          refine PA.out.mono ?_
          rintro e u2 ⟨rfl, hP3, hK3⟩
          have HPB := Lib.hid (And.intro hP3 (BD1.out.move ((kp_alloc HP1.out.size _).trans hK3)))
          clear hP3 hK3
          go_wp2_with fail
          go_meet
          case rel =>
            rw [EW.out]
            exact HPB.out
        · have hne : cl ≠ [] := fun h => hq (by have := HL2.out; rw [h] at this; simpa using this)
          have ew : (V ++ sepO [103, 111, 97, 108]) ++ trueB cl = V ++ sepO [103, 111, 97, 108] := by unfold trueB; rw [if_neg hne, List.append_nil]
          have EW := Lib.hid ew
          have HPB := Lib.hid (And.intro HP1.out BD1.out)
          clear hne ew
          go_wp2_with fail
          go_meet
          case rel =>
            rw [EW.out]
            exact HPB.out
      case rest =>
        obtain ⟨hP5, hB5⟩ := hcut
        clear y0 y1 z1
        have y0 := hB5.bx.cells.1
        have y1 := hB5.bx.cells.2.1
        have z1 := hB5.cell 1
        unfold putV at y1
        have LP := Lib.hid (list_put (pn := pn) (ln := ln) (cn := cn) hP5 (KK.out.move hB5.bx.kept) (HBB.out.move hB5.bx.kept) HSC.out (by have := HL2.out; omega) O4.out (by have := HLV.out; simp only [List.length_append]; omega))
        unfold putV at LP
        have HP5 := Lib.hid hP5
        have BD5 := Lib.hid hB5
        clear hP5 hB5
        go_wp2_with fail
        refine LP.out.mono ?_
        rintro e u6 ⟨rfl, hP6, hK6⟩
        have hb6 := BD5.out.move hK6
        clear y0 y1 z1
        have y0 := hb6.bx.cells.1
        have y1 := hb6.bx.cells.2.1
        unfold putV at y1
        have PS := Lib.hid (put_one hP6 [59] (by have := HLV.out; simp only [List.length_append]; omega))
        have HP6 := Lib.hid hP6
        have BD6 := Lib.hid hb6
        clear hP6 hK6 hb6
        go_wp2_with fail
        refine PS.out.mono ?_
        rintro e u7 ⟨rfl, hP7, hK7⟩
        have HK7 := Lib.hid (BD6.out.bx.kept.trans ((kp_alloc HP6.out.size _).trans hK7))
        have HP7 := Lib.hid hP7
        clear hP7 hK7
        go_wp2_with fail
        go_end0
        refine ⟨rfl, ?_, HK7.out⟩
        have := HP7.out
        rw [EV.out] at this
        simp only [List.append_assoc] at this ⊢
        exact this
end
end Go.Proofs.YtkgieaoahijheaaGreatDoor.Wt
namespace Go.Proofs.YtkgieaoahijheaaGreatDoor.Wt
open Go.RowKit
open Sc (Tok)
open Pa
set_option maxRecDepth 100000

/-- tokens of which none is the one that ends a line -/
def NoS (ts : List Tok) : Prop := ∀ t ∈ ts, t.text ≠ [59]
theorem noS_app {a b : List Tok} (ha : NoS a) (hb : NoS b) : NoS (a ++ b) := fun t ht => (List.mem_append.1 ht).elim (ha t) (hb t)
theorem noS_cons {t : Tok} {b : List Tok} (ha : t.text ≠ [59]) (hb : NoS b) : NoS (t :: b) := fun x hx => (List.mem_cons.1 hx).elim (fun e => by rw [e]; exact ha) (hb x)
theorem noS_nil : NoS [] := fun t ht => by cases ht
theorem noS_flat {α : Type} {l : List α} {f : α → List Tok} (h : ∀ a ∈ l, NoS (f a)) : NoS (l.flatMap f) := fun t ht => by
  obtain ⟨a, ha, hta⟩ := List.mem_flatMap.1 ht
  exact h a ha t hta
theorem noS_num (z : Int) : NoS (numT z) := by
  unfold numT
  split
  · exact noS_cons (by decide) (noS_cons (digs_mark (by decide)) noS_nil)
  · exact noS_cons (digs_mark (by decide)) noS_nil
section
variable {nm : Int → Tok} (hn : ∀ v, (nm v).text ≠ [59])
include hn
theorem noS_sum : ∀ (l : List (Int × Int)) (first : Bool), NoS (sumT nm first l)
  | [], _ => noS_nil
  | (v, k) :: l, first => by
    refine noS_app ?_ (noS_app ?_ (noS_app (noS_cons (hn v) noS_nil) (noS_sum l false)))
    · unfold signT
      split
      · exact noS_cons (by decide) noS_nil
      · split
        · exact noS_nil
        · exact noS_cons (by decide) noS_nil
    · unfold coefT
      split
      · exact noS_nil
      · exact noS_cons (digs_mark (by decide)) (noS_cons (by decide) noS_nil)
theorem noS_sums (l : List (Int × Int)) (r c : Int) : NoS (sumsT nm l r c) := by
  refine noS_app (noS_sum hn l true) (noS_app (noS_cons ?_ noS_nil) (noS_num c))
  show relsL.getD r.toNat [] ≠ [59]
  intro e
  have hm : ∀ n, relsL.getD n [] ∈ relsL ∨ relsL.getD n [] = [] := fun n => by
    rw [List.getD_eq_getElem?_getD]
    cases h : relsL[n]? with
    | none => exact .inr rfl
    | some x => exact .inl (List.mem_of_getElem? h)
  rcases hm r.toNat with h | h
  · rw [e] at h
    revert h
    decide
  · rw [e] at h
    cases h
theorem noS_con (c : PCon) : NoS (conT nm c) := by
  unfold conT
  split
  · exact noS_sums hn _ _ _
  · split
    · exact noS_cons (by decide) (noS_cons (hn _) (noS_sums hn _ _ _))
    · refine noS_cons ?_ (noS_app (fun t ht => ?_) ?_)
      · show wordT c.kind ≠ [59]
        unfold wordT
        split
        · decide
        · split
          · decide
          · split <;> decide
      · obtain ⟨v, _, rfl⟩ := List.mem_map.1 ht
        exact hn v
      · split
        · exact noS_cons (by decide) (noS_app (noS_flat fun z _ => noS_num z) (noS_cons (by decide) noS_nil))
        · exact noS_nil
theorem noS_list (l : List PCon) : NoS (listT nm l) := by
  cases l with
  | nil => exact noS_cons (by decide) noS_nil
  | cons c l => exact noS_app (noS_con hn c) (noS_flat fun x _ => noS_cons (by decide) (noS_con hn x))
theorem noS_goal (l : List PCon) : NoS (goalH nm l) := noS_cons (by decide) (noS_list hn l)
theorem noS_block (b : PBlock) (hd : ∀ d ∈ b.vars, d.name ≠ [59]) : NoS (blockH nm b) := by
  have hdecl : ∀ d ∈ b.vars, NoS (declT d) := fun d hm => noS_cons (hd d hm) (noS_cons (by decide) (noS_flat fun p _ => by
    unfold spanT
    refine noS_app (noS_num _) ?_
    split
    · exact noS_nil
    · exact noS_cons (by decide) (noS_num _)))
  have hds : NoS (declsT b.vars) := by
    revert hdecl
    generalize b.vars = l
    intro hdecl
    cases l with
    | nil => exact noS_nil
    | cons d l => exact noS_app (hdecl d (by simp)) (noS_flat fun x hx => noS_cons (by decide) (hdecl x (by simp [hx])))
  refine noS_cons ?_ (noS_app hds ?_)
  · show (if b.all = true then tForall else tExists) ≠ [59]
    split <;> decide
  · split
    · exact noS_nil
    · exact noS_cons (by decide) (noS_list hn _)
end
theorem putT_no (ts : List Tok) (h : NoS ts) : putT ts = ts.flatMap fun t => t.text ++ [32] := by
  unfold putT putX
  rw [List.flatMap_map]
  induction ts with
  | nil => rfl
  | cons t ts ih =>
    rw [List.flatMap_cons, List.flatMap_cons, ih fun x hx => h x (by simp [hx])]
    congr 1
    unfold sepO
    rw [if_neg (h t (by simp))]
theorem putT_line (ts : List Tok) (h : NoS ts) : putT (ts ++ [tM tSemi]) = lineL ts := by
  rw [putT_app, putT_no ts h, putT_one]
  unfold lineL lineP
  rw [sep_app]
  have : sepL (ts.map fun t => (t, (32 : UInt8))) = ts.flatMap fun t => t.text ++ [32] := by unfold sepL; rw [List.flatMap_map]
  rw [this]
  rfl
theorem putT_model {nm : Int → Tok} (hn : ∀ v, (nm v).text ≠ [59]) (m : PModel) (hd : ∀ b ∈ m.blocks, ∀ d ∈ b.vars, d.name ≠ [59]) : putT (modelT nm m) = textL nm m := by
  unfold modelT textL pairsM
  rw [putT_app, sep_app, putT_line _ (noS_goal hn m.goal)]
  congr 1
  show putT (m.blocks.flatMap (blockT nm)) = sepL (m.blocks.flatMap fun b => lineP (blockH nm b))
  have : ∀ l : List PBlock, (∀ b ∈ l, ∀ d ∈ b.vars, d.name ≠ [59]) → putT (l.flatMap (blockT nm)) = sepL (l.flatMap fun b => lineP (blockH nm b)) := by
    intro l
    induction l with
    | nil => intro _; rfl
    | cons b l ih =>
      intro h
      rw [List.flatMap_cons, List.flatMap_cons, putT_app, sep_app, ih fun x hx => h x (by simp [hx])]
      congr 1
      exact putT_line _ (noS_block hn b (h b (by simp)))
  exact this _ hd
/-- of tokens of which none ends a line: a space ahead, or behind -/
theorem putT_sp (ts : List Tok) (h : NoS ts) : [32] ++ putT ts = spT ts ++ [32] := by
  rw [putT_no ts h]
  clear h
  induction ts with
  | nil => rfl
  | cons t ts ih =>
    have e1 : ([32] : List UInt8) ++ (t :: ts).flatMap (fun t => t.text ++ [32]) = [32] ++ (t.text ++ ([32] ++ ts.flatMap fun t => t.text ++ [32])) := by simp
    have e2 : spT (t :: ts) ++ [32] = [32] ++ (t.text ++ (spT ts ++ [32])) := by simp [spT]
    rw [e1, e2, ih]
theorem con_tail {nm : Int → Tok} (hn : ∀ v, (nm v).text ≠ [59]) (c : PCon) (h0 : conT nm c ≠ []) : ∃ O, spT (conT nm c) = 32 :: O ∧ putT (conT nm c) = O ++ [32] := by
  cases h : conT nm c with
  | nil => exact absurd h h0
  | cons t ts =>
    have hs : NoS (t :: ts) := by rw [← h]; exact noS_con hn c
    refine ⟨t.text ++ spT ts, rfl, ?_⟩
    have := putT_sp (t :: ts) hs
    have e : spT (t :: ts) ++ [32] = [32] ++ ((t.text ++ spT ts) ++ [32]) := by simp [spT]
    rw [e] at this
    exact List.append_cancel_left this
/- what may be -/
theorem right_nz {c : PCon} {n : Int} (h : rightC c n = true) : ∀ k ∈ c.coefs, k ≠ 0 := by
  have hv : VarsTo c.vars n c.vars.length := Classical.byContradiction fun hv => by
    rw [right_bad hv] at h
    cases h
  rw [right_on hv] at h
  intro k hk
  split at h
  · rw [Bool.and_eq_true] at h
    simpa using List.all_eq_true.1 h.1 k hk
  · split at h
    · rw [Bool.and_eq_true] at h
      simpa using List.all_eq_true.1 h.1 k hk
    · rw [Bool.and_eq_true] at h
      unfold restR at h
      have h1 := h.1
      simp only [Bool.not_eq_true', Bool.or_eq_false_iff, decide_eq_false_iff_not] at h1
      have := List.length_pos_of_mem hk
      omega
theorem all_right {m : PModel} (h : checkM m = 0) : (∀ b ∈ m.blocks, ∀ c ∈ b.cons, ∃ k, rightC c k = true) ∧ ∀ c ∈ m.goal, ∃ k, rightC c k = true := by
  obtain ⟨_, _, _, _, _, h6⟩ := check_parts h
  unfold conM at h6
  simp only [Bool.or_eq_false_iff] at h6
  refine ⟨fun b hb c hc => ?_, fun c hc => ?_⟩
  · obtain ⟨k, _, k2⟩ := some_right m.blocks 0 h6.1 b hb c hc
    exact ⟨_, k2⟩
  · exact ⟨_, by simpa using List.any_eq_false.1 h6.2 c hc⟩
theorem name_semi {m : PModel} (h : checkM m = 0) : (∀ d ∈ varsL m.blocks, d.name ≠ [59]) ∧ ∀ v, (nmT (namesM m) v).text ≠ [59] := by
  obtain ⟨_, _, h3, _, _, _⟩ := check_parts h
  unfold nameM at h3
  have hd : ∀ d ∈ varsL m.blocks, d.name ≠ [59] := fun d hm e => by
    have hn : nameL d.name = true := by simpa using List.any_eq_false.1 h3 d hm
    rw [e] at hn
    revert hn
    decide
  refine ⟨hd, fun v e => ?_⟩
  have e2 : (namesM m).getD v.toNat [] = [59] := e
  unfold namesM at e2
  rw [← names_eq, getD_name] at e2
  rw [List.getD_eq_getElem?_getD] at e2
  cases hh : (varsL m.blocks)[v.toNat]? with
  | none => rw [hh] at e2; cases e2
  | some d => rw [hh] at e2; exact hd d (List.mem_of_getElem? hh) e2
theorem model_out {m : PModel} (h : checkM m = 0) : ModelOut (nmT (namesM m)) (varsL m.blocks) m := by
  have T := text_may h
  obtain ⟨r1, r2⟩ := all_right h
  have f1 := T.fewb
  have f2 := T.fewg
  refine ⟨by omega, by omega, fun x hx => ?_, fun c hc => ⟨T.goal c hc, fun k hk => ?_⟩⟩
  · have f3 := T.fewv x hx
    have f4 := T.fewc x hx
    refine ⟨by omega, by omega, fun d hd => ?_, fun c hc => ⟨T.cons x hx c hc, fun k hk => ?_⟩⟩
    · obtain ⟨g1, g2⟩ := T.doms x hx d hd
      refine ⟨by omega, fun p hp => ?_⟩
      have := g1 p hp
      unfold Num Sc.mostV at this
      omega
    · obtain ⟨n, hn⟩ := r1 x hx c hc
      exact right_nz hn k hk
  · obtain ⟨n, hn⟩ := r2 c hc
    exact right_nz hn k hk
theorem text_long {m : PModel} (h : checkM m = 0) : (textL (nmT (namesM m)) m).length ≤ 1000000000 := by
  have T := text_may h
  have hd : ∀ d ∈ varsL m.blocks, d.name.length ≤ 1000 := fun d hd => Nat.le_trans (T.name d hd) (by decide)
  have hdecl : ∀ b ∈ m.blocks, ∀ d ∈ b.vars, (spT (declT d)).length ≤ 4000 := fun b hb d hm => by
    obtain ⟨g1, g2⟩ := T.doms b hb d hm
    have g3 := T.name d (List.mem_flatMap.2 ⟨b, hb, hm⟩)
    have sp : ∀ l : List (Int × Int), (∀ p ∈ l, Num p.1 ∧ Num p.2) → (spT (l.flatMap spanT)).length ≤ 50 * l.length := by
      intro l
      induction l with
      | nil => intro _; simp [spT]
      | cons p l ih =>
        intro hh
        have q1 := span_long (hh p (by simp))
        have q2 := ih fun x hx => hh x (by simp [hx])
        rw [List.flatMap_cons, sp_app, List.length_append, List.length_cons]
        omega
    have q := sp d.dom g1
    have e : spT (declT d) = [32] ++ (d.name ++ ([32, 105, 110] ++ spT (d.dom.flatMap spanT))) := by simp [declT, spT, tW, tIn]
    rw [e]
    simp only [List.length_append, List.length_cons, List.length_nil]
    omega
  have hdecls : ∀ l : List PDecl, (∀ d ∈ l, (spT (declT d)).length ≤ 4000) → (spT (declsT l)).length ≤ 4010 * l.length := by
    intro l hl
    cases l with
    | nil => simp [declsT, spT]
    | cons d l =>
      have ih : ∀ l : List PDecl, (∀ d ∈ l, (spT (declT d)).length ≤ 4000) → (spT (l.flatMap fun d => tM tComma :: declT d)).length ≤ 4010 * l.length := by
        intro l
        induction l with
        | nil => intro _; simp [spT]
        | cons x l ih =>
          intro hh
          have q1 := hh x (by simp)
          have q2 := ih fun y hy => hh y (by simp [hy])
          have e : spT ((x :: l).flatMap fun d => tM tComma :: declT d) = [32, 44] ++ (spT (declT x) ++ spT (l.flatMap fun d => tM tComma :: declT d)) := by simp [spT, tM, tComma, List.flatMap_append]
          rw [e]
          simp only [List.length_append, List.length_cons, List.length_nil]
          omega
      have q1 := hl d (by simp)
      have q2 := ih l fun y hy => hl y (by simp [hy])
      show (spT (declT d ++ l.flatMap fun d => tM tComma :: declT d)).length ≤ _
      rw [sp_app, List.length_append, List.length_cons]
      omega
  have hblock : ∀ b ∈ m.blocks, (blockL (nmT (namesM m)) b).length ≤ 60000000 := fun b hb => by
    have q1 := hdecls b.vars (hdecl b hb)
    have q2 := list_long hd b.cons (T.cons b hb)
    have f3 := T.fewv b hb
    have f4 := T.fewc b hb
    have q3 : (if b.all = true then tForall else tExists).length ≤ 6 := by split <;> decide
    have q4 : (if b.cons = [] then [] else [32, 119, 104, 101, 114, 101] ++ spT (listT (nmT (namesM m)) b.cons)).length ≤ 6 + (spT (listT (nmT (namesM m)) b.cons)).length := by
      split
      · simp
      · rw [List.length_append]; simp
    unfold blockL
    simp only [List.length_append, List.length_cons, List.length_nil]
    omega
  have hblocks : ∀ l : List PBlock, (∀ b ∈ l, (blockL (nmT (namesM m)) b).length ≤ 60000000) → (l.flatMap (blockL (nmT (namesM m)))).length ≤ 60000000 * l.length := by
    intro l
    induction l with
    | nil => intro _; simp
    | cons b l ih =>
      intro hh
      have q1 := hh b (by simp)
      have q2 := ih fun y hy => hh y (by simp [hy])
      rw [List.flatMap_cons, List.length_append, List.length_cons]
      omega
  have q1 := hblocks m.blocks hblock
  have q2 := list_long hd m.goal T.goal
  have f1 := T.fewb
  have f2 := T.fewg
  rw [text_eq]
  simp only [List.length_append, List.length_cons, List.length_nil]
  omega
theorem text_last (nm : Int → Tok) (m : PModel) : tailX (textL nm m) = [] := by
  rw [text_eq]
  have e : m.blocks.flatMap (blockL nm) ++ ([103, 111, 97, 108] ++ (spT (listT nm m.goal) ++ [32, 59, 10])) = (m.blocks.flatMap (blockL nm) ++ ([103, 111, 97, 108] ++ (spT (listT nm m.goal) ++ [32, 59]))) ++ [10] := by simp
  rw [e, tail_nl]
end Go.Proofs.YtkgieaoahijheaaGreatDoor.Wt
namespace Go.Proofs.YtkgieaoahijheaaGreatDoor
open Go.RowKit
set_option maxRecDepth 100000

theorem sclone_any (s : ByteArray) (w : World) (hm : s.size ≤ 100000) :
    Calls Tryz.prog 26 #[.string s] w fun e w' => e = .returned (.string s) ∧ Below w.heap.size w w' := by
  go_enter Tryz.func26, Tryz.ntmps26
  go_wp2_with (go_at_call 51; refine (Tryz.stringslite_Clone _ _ (by omega)).mono ?_; rintro e w' ⟨rfl, hB⟩)
  go_ret
  exact ⟨rfl, hB⟩

theorem nil_eq46 (w : World) : Sem.run Tryz.prog (binOp BinOp.eql 43 (Value.slice none 0 0) (Value.slice none 0 0)) w = Result.ok (Value.bool true) w := by kernel_rfl
theorem nil_ne46 (ad : Addr) (len c : Nat) (w : World) : Sem.run Tryz.prog (binOp BinOp.eql 43 (Value.slice (some ad) len c) (Value.slice none 0 0)) w = Result.ok (Value.bool false) w := by kernel_rfl
theorem rSpan_one : rSpan.One := fun w cs a ⟨h1, _⟩ u hu => by
  subst h1
  simp at hu
  rcases hu with rfl | rfl <;> rfl
theorem info52 : (Tryz.prog.info? 71).map (fun i => (i.zero, i.size, i.bytes)) = some (some (.agg #[.int .i64 0, .int .i64 0]), 2, 16) := by kernel_rfl

set_option maxHeartbeats 1000000 in
theorem spclone_any {w : World} {v : Value} {L : List (Int × Int)} (h : Slc rSpan 2 w v L) (hl : L.length ≤ 100000) :
    Calls Tryz.prog 27 #[v] w fun e w' => ∃ v', e = .returned v' ∧ OwnsOf rSpan 2 71 w w' v' L ∧ Below w.heap.size w w' := by
  obtain ⟨i0, hi, hz0, hz1, hz2⟩ := info_parts info52
  obtain ⟨p, b, off, c, len, rfl, hc, hs⟩ := h
  have hlen := hs.long
  cases p with
  | none =>
    obtain rfl := hc.1 rfl
    obtain rfl : len = 0 := by omega
    have hL : L = [] := List.eq_nil_of_length_eq_zero hlen.symm
    subst hL
    have q1 := nil_eq46
    clear hs hi hz0 hz1 hz2 hlen hc hl
    go_enter Tryz.func27, Tryz.ntmps27
    go_wp2
    go_ret
    exact ⟨_, rfl, ownsOf_nil _ _ _ _ _, Below.refl _ _⟩
  | some ad =>
    have q1 := nil_ne46 ad len c
    have HB := Lib.hid ((Below.refl w.heap.size w).alloc (Nat.le_refl _) (.cells #[] 71))
    have HO := Lib.hid (ownsOf_made rSpan 2 71 w w (Nat.le_refl _))
    have HS := Lib.hid hs
    have HLN := Lib.hid hlen
    have hml : len ≤ 100000 := by omega
    clear hs hc hlen
    go_enter Tryz.func27, Tryz.ntmps27
    go_wp2_with (at_builtin; refine append_of rSpan_one rfl _ _ 43 71 2 16 i0 _ Tryz.underlying43 hi hz0 hz1 hz2 rfl (by decide) (by decide) rfl _ _ b off c len [] L rfl rfl HO.out HS.out (fun h => by cases h) HB.out (by simp; omega) HB.out.size ?_; intro v' w1 hown' hgrow)
    go_ret
    exact ⟨_, rfl, hown', HB.out.grown hgrow HB.out.size (fun j e => (HO.out.lt j e).1)⟩
end Go.Proofs.YtkgieaoahijheaaGreatDoor
