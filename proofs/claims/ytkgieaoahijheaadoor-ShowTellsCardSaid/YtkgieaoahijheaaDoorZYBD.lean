/-
  Constraints, and lists of them, as the writer puts them out.
  A variable, as the writer puts it out.
-/
import Derived.Test.YtkgieaoahijheaaDoorZYCon
import Derived.Test.YtkgieaoahijheaaDoorZWTxt
namespace Go.Proofs.YtkgieaoahijheaaDoor.Wt
open Go.RowKit
open Sc (Tok)
set_option maxRecDepth 100000

section
variable {B b tb pb k kc : Nat} {W w0 u u' : World} {X : List UInt8} {pn : Option Addr} {bn on_ ln cn : Nat} {L : List PDecl} {nm : Int → Tok}
/-- where the arguments lay when the call began -/
structure Base (B : Nat) (w0 W : World) : Prop where
  eq : w0.heap.size = B
  low : Below B w0 W
theorem Base.move (h : Base B w0 W) (hK : Kp B b pb W u) : Base B w0 u := ⟨h.eq, h.low.trans hK.low⟩
theorem Base.read {α : Type} {R : Reader α} (hR : R.Stays) (h : Base B w0 W) {cs : List Value} {a : α} (ha : R w0 cs a) : R W cs a := hR _ _ _ _ (by rw [h.eq]; exact h.low) ha
theorem Base.slc {α : Type} {R : Reader α} (hR : R.Stays) {n : Nat} (h : Base B w0 W) {v : Value} {l : List α} (ha : Slc R n w0 v l) : Slc R n W v l := ha.below hR (by rw [h.eq]; exact h.low)
/-- a constraint that may be put out -/
structure ConOut (nm : Int → Tok) (L : List PDecl) (c : PCon) : Prop where
  may : ConM nm L c
  nz : ∀ k ∈ c.coefs, k ≠ 0
theorem con_put (H : PutAt B b tb pb X W) (K : NmK B b pb W pn bn on_ ln L nm) (hb : Base B w0 W) {u1 u2 u3 : Value} {c : PCon} (hr : rCon w0 [.int .i64 c.kind, u1, u2, .int .i64 c.rel, .int .i64 c.const, u3] c) (hc : ConOut nm L c) (hX : X.length + (putT (conT nm c)).length ≤ 100000000000) :
    Calls Tryd.prog 24 #[.agg #[.slice pn ln cn, putV tb pb], .agg #[.int .i64 c.kind, u1, u2, .int .i64 c.rel, .int .i64 c.const, u3]] W fun e w' => e = .returned (.tuple #[]) ∧ PutAt B b tb pb (X ++ putT (conT nm c)) w' ∧ Kp B b pb W w' := by
  obtain ⟨w1, w2, w3, e, _, s1, s2, s3⟩ := hr
  simp only [List.cons.injEq, and_true, true_and] at e
  obtain ⟨rfl, rfl, rfl⟩ := e
  obtain ⟨⟨h1, h2, h3, h4, h5, h6, h7, h8⟩, hz⟩ := hc
  obtain ⟨p1, b1, o1, c1, l1, rfl, q1, n1⟩ := nums_kept (fun u (hu : Kp B b pb W u) => (hb.move hu).slc rNum_stays s1)
  obtain ⟨p2, b2, o2, c2, l2, rfl, q2, n2⟩ := nums_kept (fun u (hu : Kp B b pb W u) => (hb.move hu).slc rNum_stays s2)
  obtain ⟨p3, b3, o3, c3, l3, rfl, q3, n3⟩ := nums_kept (fun u (hu : Kp B b pb W u) => (hb.move hu).slc rNum_stays s3)
  have m1 := (n1 W (Kp.refl W)).long
  have m2 := (n2 W (Kp.refl W)).long
  have m3 := (n3 W (Kp.refl W)).long
  have hv : VarK L nm c.vars := fun v hv => ⟨h4 v hv, h5 v hv⟩
  have hns : ∀ z ∈ c.nums, z.natAbs ≤ 9000000000000000000 := fun z hz => by have := h8 z hz; omega
  cases h1 with
  | lin vs ks rel const h h0 hr =>
    exact con_lin_put H K vs ks rel const p1 p2 p3 b1 o1 l1 c1 b2 o2 l2 c2 l3 c3 n1 n2 ⟨h, hv, fun k hk => ⟨hz k hk, h6 k hk⟩, by simp only at m1 m2 h2; omega⟩ hr h7 hX
  | iff v vs ks rel const h h0 hr =>
    obtain ⟨m, rfl⟩ : ∃ m, c1 = m + 1 := ⟨c1 - 1, by simp only [List.length_cons] at m1; omega⟩
    have e1 : l1 = vs.length + 1 := m1
    have e2 : l2 = vs.length := by rw [m2]; exact h.symm
    subst e1 e2
    obtain rfl := (n1 W (Kp.refl W)).at_ (by omega)
    have hvl : 0 < vs.length := List.length_pos_iff.2 h0
    have T : ∀ u, Kp B b pb W u → Nums u (some ⟨b1, o1 + 1, none⟩) b1 (o1 + 1) vs.length vs := fun u hu => ⟨rfl, fun _ => rfl, fun k hk => by
      have := (n1 u hu).cell (k + 1) (by omega)
      rw [show o1 + (k + 1) = o1 + 1 + k by omega] at this
      exact this, fun k hk => (n1 u hu).fit (k + 1) (by omega)⟩
    exact con_iff_put H K v vs ks rel const p2 p3 b1 o1 vs.length m b2 o2 c2 l3 c3 (fun u hu => (n1 u hu).cell 0 (by omega)) ((n1 W (Kp.refl W)).fit 0 (by omega)) (fun x hx => by rw [List.mem_singleton.1 hx]; exact hv v (by simp)) (by omega) hvl T n2
      ⟨h, fun x hx => hv x (List.mem_cons_of_mem _ hx), fun k hk => ⟨hz k hk, h6 k hk⟩, by simp only [List.length_cons] at h2; omega⟩ hr h7 hX
  | product vs h => exact con_product_put H K vs p1 p2 p3 b1 o1 l1 c1 l2 c2 l3 c3 n1 (by simp only at m1 h2; omega) hv hX
  | element vs ns h hn' => exact con_element_put H K vs ns p1 p2 p3 b1 o1 l1 c1 l2 c2 b3 o3 l3 c3 n1 n3 (by simp only at m3 h3; omega) hns (by simp only at m1 h2; omega) hv hX
  | differ vs h => exact con_differ_put H K vs p1 p2 p3 b1 o1 l1 c1 l2 c2 l3 c3 n1 (by simp only at m1 h2; omega) hv hX
  | table vs ns h => exact con_table_put H K vs ns p1 p2 p3 b1 o1 l1 c1 l2 c2 b3 o3 l3 c3 n1 n3 (by simp only at m3 h3; omega) hns (by simp only at m1 h2; omega) hv hX
/-- a list's tokens; none of none -/
def listQ (nm : Int → Tok) (l : List PCon) : List Tok := if l = [] then [] else listT nm l
theorem listQ_step (l : List PCon) (k : Nat) (c : PCon) (h : l[k]? = some c) : listQ nm (l.take (k + 1)) = listQ nm (l.take k) ++ ((if k = 0 then [] else [tW Pa.tAnd]) ++ conT nm c) := by
  cases l with
  | nil => simp at h
  | cons x l =>
    cases k with
    | zero =>
      simp only [List.getElem?_cons_zero, Option.some.injEq] at h
      subst h
      simp [listQ, listT]
    | succ k =>
      have hk : l[k]? = some c := by simpa using h
      have e1 : listQ nm ((x :: l).take (k + 1 + 1)) = conT nm x ++ (l.take (k + 1)).flatMap fun c => tW Pa.tAnd :: conT nm c := rfl
      have e2 : listQ nm ((x :: l).take (k + 1)) = conT nm x ++ (l.take k).flatMap fun c => tW Pa.tAnd :: conT nm c := rfl
      rw [e1, e2, List.take_add_one, hk]
      simp
theorem listQ_long (l : List PCon) (k : Nat) : (putT (listQ nm (l.take k))).length ≤ (putT (listQ nm l)).length := by
  by_cases hk : k < l.length
  · have ih : ∀ n j, l.length - j = n → k ≤ j → (putT (listQ nm (l.take k))).length ≤ (putT (listQ nm (l.take j))).length → (putT (listQ nm (l.take k))).length ≤ (putT (listQ nm l)).length := by
      intro n
      induction n with
      | zero =>
        intro j hj _ h
        rwa [List.take_of_length_le (by omega : l.length ≤ j)] at h
      | succ n ihn =>
        intro j hj hkj h
        refine ihn (j + 1) (by omega) (by omega) ?_
        rw [listQ_step l j l[j] (List.getElem?_eq_getElem (by omega)), putT_app, List.length_append]
        omega
    exact ih _ k rfl (Nat.le_refl _) (Nat.le_refl _)
  · rw [List.take_of_length_le (by omega)]
    exact Nat.le_refl _
theorem bc_new (H : PutAt B b tb pb X u) (h : Bx B b tb pb k pn ln cn W u) (cs : Array Value) (t : TypeId) (ht : t ≠ TU) : Bc B b tb pb k u.heap.size pn ln cn cs t W (u.alloc (.cells cs t)) :=
  ⟨h.move (kp_alloc H.size _), heap_alloc_new u _, ht, by have := H.lt; omega, by have := H.ltp; omega⟩
set_option maxHeartbeats 8000000 in
theorem list_put (H : PutAt B b tb pb X W) (K : NmK B b pb W pn bn on_ ln L nm) (hb : Base B w0 W) {v : Value} {l : List PCon} (hr : Slc rCon 6 w0 v l) (hl : l.length ≤ 1000000) (hc : ∀ c ∈ l, ConOut nm L c) (hX : X.length + (putT (listQ nm l)).length ≤ 100000000000) :
    Calls Tryd.prog 37 #[.agg #[.slice pn ln cn, putV tb pb], v] W fun e w' => e = .returned (.tuple #[]) ∧ PutAt B b tb pb (X ++ putT (listQ nm l)) w' ∧ Kp B b pb W w' := by
  obtain ⟨p, bl, off, c, n, rfl, _, hs⟩ := hr
  have BX := Lib.hid (bx_start (pn := pn) (ln := ln) (cn := cn) H)
  have HP := Lib.hid (H.alloc (.cells #[.slice pn ln cn, putV tb pb] 55))
  have hlen := hs.long
  have hat := hs.at_
  have hn : n ≤ 1000000 := by omega
  have HS := Lib.hid hs
  have HL := Lib.hid hlen
  have KK := Lib.hid K
  have HBB := Lib.hid hb
  have HC := Lib.hid hc
  have HX := Lib.hid hX
  clear H K hb hs hlen hc hX hl
  unfold putV at *
  go_enter Tryd.func37, Tryd.ntmps37
  go_wp2_with fail
  go_loopw [8] (fun i wr => ∃ k : Nat, k ≤ n ∧ i = .int .i64 k ∧ PutAt B b tb pb (X ++ putT (listQ nm (l.take k))) wr ∧ Bx B b tb pb W.heap.size pn ln cn W wr) (fun i _ => n - (intOf i).toNat)
  case atStart =>
    refine ⟨0, by omega, rfl, ?_, BX.out⟩
    simpa [putT, putX, listQ] using HP.out
  case round =>
    obtain ⟨k, hk, rfl, hP, hB⟩ := hrel
    obtain ⟨wo, rfl⟩ : ∃ wo, wo = wr := ⟨_, rfl⟩
    by_cases hlt : k < n
    · obtain rfl := hat (by omega)
      obtain ⟨d, v1, v2, v3, hd, ⟨k0, k1, k2, k3, k4, k5⟩, hrd⟩ := con_at2 HS.out hlt
      obtain ⟨⟨q1, m1, d1, rfl⟩, ⟨q2, m2, d2, rfl⟩, ⟨q3, m3, d3, rfl⟩⟩ := rCon_shape hrd
      have hbw := HBB.out.move hB.kept
      have cs : ∀ {a : Addr} {x : Value}, w0.cell? a = some x → wo.cell? a = some x := fun {a x} h => cell_stays (by rw [hbw.eq]; exact hbw.low) h
      have j0 := cs k0
      have j1 := cs k1
      have j2 := cs k2
      have j3 := cs k3
      have j4 := cs k4
      have j5 := cs k5
      obtain ⟨Y, eY⟩ : ∃ Y, Y = X ++ putT (listQ nm (l.take k)) := ⟨_, rfl⟩
      rw [← eY] at hP
      have hstep : X ++ putT (listQ nm (l.take (k + 1))) = Y ++ (putT (if k = 0 then [] else [tW Pa.tAnd]) ++ putT (conT nm d)) := by rw [listQ_step l k d hd, eY]; simp only [putT_app, List.append_assoc]
      have hlen : Y.length + ((putT (if k = 0 then [] else [tW Pa.tAnd])).length + (putT (conT nm d)).length) ≤ 100000000000 := by
        have q := listQ_long (nm := nm) l (k + 1)
        have q2 := congrArg List.length hstep
        have := HX.out
        simp only [List.length_append] at q2
        omega
      have hN := bc_new hP hB #[.int .i64 d.kind, .slice q1 m1 d1, .slice q2 m2 d2, .int .i64 d.rel, .int .i64 d.const, .slice q3 m3 d3] 28 (by decide)
      obtain ⟨y0, y1, z0, z1, z2, z3, z4, z5⟩ := sixof hN
      unfold putV at y1
      have hP2 := hP.alloc (.cells #[.int .i64 d.kind, .slice q1 m1 d1, .slice q2 m2 d2, .int .i64 d.rel, .int .i64 d.const, .slice q3 m3 d3] 28)
      have BN := Lib.hid hN
      have HP2 := Lib.hid hP2
      have HST := Lib.hid hstep
      have HLEN := Lib.hid hlen
      have CP := Lib.hid (fun (u : World) (Z : List UInt8) (hP : PutAt B b tb pb Z u) (hK : Kp B b pb W u) (hZ : Z.length + (putT (conT nm d)).length ≤ 100000000000) => con_put (pn := pn) (ln := ln) (cn := cn) hP (KK.out.move hK) (HBB.out.move hK) hrd (HC.out d (List.mem_of_getElem? hd)) hZ)
      unfold putV at CP
      clear hP hB hrd hbw cs k0 k1 k2 k3 k4 k5 eY hstep hlen hN hP2 hd
      by_cases h0 : k = 0
      · have i0 : ¬ (0 : Int) < (k : Int) := by omega
        have i1 : (k : Int) ≤ 0 := by omega
        have n0 : ¬ 0 < k := by omega
        have e0 : putT (if k = 0 then [] else [tW Pa.tAnd]) = [] := by rw [if_pos h0]; rfl
        have C := Lib.hid (CP.out _ Y HP2.out BN.out.bx.kept (by have := HLEN.out; omega))
        have E0 := Lib.hid e0
        clear h0 e0
        go_wp2_with fail
        refine C.out.mono ?_
        rintro e u2 ⟨rfl, hP3, hK3⟩
        have hb3 := BN.out.move hK3
        have HP3 := Lib.hid hP3
        have BN3 := Lib.hid hb3.bx
        clear hP3 hK3 hb3
        go_wp2_with fail
        go_roundw
        case rel =>
          refine ⟨k + 1, by omega, rfl, ?_, BN3.out⟩
          rw [HST.out, E0.out]
          exact HP3.out
        case measure =>
          simp [intOf]
          omega
      · have i0 : (0 : Int) < (k : Int) := by omega
        have n0 : 0 < k := by omega
        have e0 : putT (if k = 0 then [] else [tW Pa.tAnd]) = sepO [97, 110, 100] := by rw [if_neg h0, putT_one]; rfl
        have E0 := Lib.hid e0
        have PA := Lib.hid (put_one HP2.out [97, 110, 100] (by have := HLEN.out; rw [e0] at this; omega))
        simp only [World.size_alloc] at PA
        clear h0 e0
        go_wp2_with fail
        refine PA.out.mono ?_
        rintro e u1 ⟨rfl, hP3, hK3⟩
        have hb3 := BN.out.move ((kp_alloc HP2.out.size _).trans hK3)
        clear y0 y1 z0 z1 z2 z3 z4 z5
        obtain ⟨y0, y1, z0, z1, z2, z3, z4, z5⟩ := sixof hb3
        unfold putV at y1
        have HP3 := Lib.hid hP3
        have BN3 := Lib.hid hb3
        have C := Lib.hid (CP.out _ _ HP3.out BN3.out.bx.kept (by have := HLEN.out; rw [E0.out] at this; rw [List.length_append]; omega))
        clear hP3 hK3 hb3
        go_wp2_with fail
        refine C.out.mono ?_
        rintro e u2 ⟨rfl, hP4, hK4⟩
        have hb4 := BN3.out.move hK4
        have HP4 := Lib.hid hP4
        have BN4 := Lib.hid hb4.bx
        clear hP4 hK4 hb4
        go_wp2_with fail
        go_roundw
        case rel =>
          refine ⟨k + 1, by omega, rfl, ?_, BN4.out⟩
          rw [HST.out, E0.out, ← List.append_assoc]
          exact HP4.out
        case measure =>
          simp [intOf]
          omega
    · obtain rfl : k = n := by omega
      have e : l.take k = l := by rw [HL.out]; simp
      rw [e] at hP
      have hK := hB.kept
      clear HL HC hlt hk e hB
      go_wp2_with fail
      go_end0
      exact ⟨rfl, hP, hK⟩
end
end Go.Proofs.YtkgieaoahijheaaDoor.Wt
namespace Go.Proofs.YtkgieaoahijheaaDoor.Wt
open Go.RowKit
open Sc (Tok)
set_option maxRecDepth 100000

section
variable {B b tb pb k kc : Nat} {W w0 u u' : World} {X : List UInt8} {pn : Option Addr} {bn on_ ln cn : Nat} {L : List PDecl} {nm : Int → Tok}
theorem nums_one (H : PutAt B b tb pb X u) (z : Int) (hz : z.natAbs ≤ 1000000000000000000) (hX : X.length + (putT (numT z)).length ≤ 100000000000) :
    Calls Tryd.prog 61 #[.agg #[.slice pn ln cn, putV tb pb], .slice (some ⟨u.heap.size, 0, none⟩) 1 1] (u.alloc (.cells #[.int .i64 z] 3)) fun e w' => e = .returned (.tuple #[]) ∧ PutAt B b tb pb (X ++ putT (numT z)) w' ∧ Kp B b pb (u.alloc (.cells #[.int .i64 z] 3)) w' := by
  have h := nums_any (pn := pn) (ln := ln) (cn := cn) (H.alloc (.cells #[.int .i64 z] 3)) [z] (some ⟨u.heap.size, 0, none⟩) u.heap.size 0 1 1 (by omega) (one_num H z (by unfold Fit; omega)) (fun x hx => by rw [List.mem_singleton.1 hx]; omega) (by simpa using hX)
  simpa using h
theorem spans_step {l : List (Int × Int)} {k : Nat} {s : Int × Int} (h : l[k]? = some s) : putT ((l.take (k + 1)).flatMap spanT) = putT ((l.take k).flatMap spanT) ++ putT (spanT s) := by
  rw [List.take_add_one, h, List.flatMap_append, putT_app]
  simp
theorem spans_long (l : List (Int × Int)) (k : Nat) : (putT ((l.take k).flatMap spanT)).length ≤ (putT (l.flatMap spanT)).length := by
  have : putT (l.flatMap spanT) = putT ((l.take k).flatMap spanT) ++ putT ((l.drop k).flatMap spanT) := by rw [← putT_app, ← List.flatMap_append, List.take_append_drop]
  rw [this, List.length_append]
  omega
theorem span_put (s : Int × Int) : putT (spanT s) = putT (numT s.1) ++ (if s.2 = s.1 then [] else sepO [46, 46] ++ putT (numT s.2)) := by
  unfold spanT
  rw [putT_app]
  congr 1
  split
  · rfl
  · rw [show (tM Pa.tDots :: numT s.2) = [tM Pa.tDots] ++ numT s.2 from rfl, putT_app, putT_one]
    rfl
set_option maxHeartbeats 8000000 in
theorem decl_put (H : PutAt B b tb pb X W) (hb : Base B w0 W) {s : ByteArray} {v : Value} {d : PDecl} (hr : rDecl w0 [.string s, v] d) (hl : d.dom.length ≤ 1000000) (hz : ∀ p ∈ d.dom, p.1.natAbs ≤ 1000000000000000000 ∧ p.2.natAbs ≤ 1000000000000000000) (hX : X.length + (putT (declT d)).length ≤ 100000000000) :
    Calls Tryd.prog 55 #[.agg #[.slice pn ln cn, putV tb pb], .agg #[.string s, v]] W fun e w' => e = .returned (.tuple #[]) ∧ PutAt B b tb pb (X ++ putT (declT d)) w' ∧ Kp B b pb W w' := by
  obtain ⟨s', v', e, hsn, hv⟩ := hr
  simp only [List.cons.injEq, and_true, Value.string.injEq] at e
  obtain ⟨rfl, rfl⟩ := e
  obtain ⟨p, bl, off, c, n, rfl, _, hs⟩ := hv
  obtain rfl : s = ⟨d.name.toArray⟩ := by rw [← hsn]
  obtain ⟨N, hN⟩ : ∃ N, N = d.name := ⟨_, rfl⟩
  obtain ⟨l, hlq⟩ : ∃ l, l = d.dom := ⟨_, rfl⟩
  have e0 : putT (declT d) = (sepO N ++ sepO [105, 110]) ++ putT (l.flatMap spanT) := by
    rw [hN, hlq]
    unfold declT
    rw [show (tW d.name :: tW Pa.tIn :: d.dom.flatMap spanT) = [tW d.name] ++ ([tW Pa.tIn] ++ d.dom.flatMap spanT) from rfl, putT_app, putT_app, putT_one, putT_one, List.append_assoc]
    rfl
  rw [e0] at hX ⊢
  simp only [List.length_append] at hX
  rw [← hlq] at hs hl hz
  rw [← hN]
  have hbc := bc_start (pn := pn) (ln := ln) (cn := cn) H #[.string ⟨N.toArray⟩, .slice p n c] 47 (by decide)
  have hP0 := (H.alloc (.cells #[.slice pn ln cn, putV tb pb] 55)).alloc (.cells #[.string ⟨N.toArray⟩, .slice p n c] 47)
  have BC := Lib.hid hbc
  have HP := Lib.hid hP0
  have C1 := Lib.hid (put_two hP0 N [105, 110] (by omega))
  have hlen := hs.long
  have hat := hs.at_
  have hn : n ≤ 1000000 := by omega
  have HS := Lib.hid hs
  have HL := Lib.hid hlen
  have HBB := Lib.hid hb
  have HZ := Lib.hid hz
  have HX := Lib.hid hX
  clear H hb hs hlen hX hl hbc hP0 hz e0 hN hlq hsn
  unfold putV at *
  go_enter Tryd.func55, Tryd.ntmps55
  go_wp2_with fail
  simp only [World.size_alloc] at C1
  refine C1.out.mono ?_
  rintro e u1 ⟨rfl, hP1, hK1⟩
  have hb := BC.out.move ((kp_alloc HP.out.size _).trans hK1)
  have z1 := hb.cell 1
  have BX := Lib.hid hb.bx
  obtain ⟨Z, eZ⟩ : ∃ Z, Z = X ++ (sepO N ++ sepO [105, 110]) := ⟨_, rfl⟩
  rw [← eZ] at hP1
  have EZ := Lib.hid eZ
  have HP1 := Lib.hid hP1
  clear hP1 hK1 hb eZ
  go_wp2_with fail
  go_loopw [15] (fun i wr => ∃ k : Nat, k ≤ n ∧ i = .int .i64 k ∧ PutAt B b tb pb (Z ++ putT ((l.take k).flatMap spanT)) wr ∧ Bx B b tb pb W.heap.size pn ln cn W wr) (fun i _ => n - (intOf i).toNat)
  case atStart =>
    refine ⟨0, by omega, rfl, ?_, BX.out⟩
    simpa [putT, putX] using HP1.out
  case round =>
    obtain ⟨k, hk, rfl, hP, hB⟩ := hrel
    obtain ⟨wo, rfl⟩ : ∃ wo, wo = wr := ⟨_, rfl⟩
    by_cases hlt : k < n
    · obtain rfl := hat (by omega)
      obtain ⟨⟨lo, hi⟩, hd, k0, k1⟩ := rspan_at HS.out hlt
      have hbw := HBB.out.move hB.kept
      have j0 := cell_stays (by rw [hbw.eq]; exact hbw.low) k0
      have j1 := cell_stays (by rw [hbw.eq]; exact hbw.low) k1
      obtain ⟨Y, eY⟩ : ∃ Y, Y = Z ++ putT ((l.take k).flatMap spanT) := ⟨_, rfl⟩
      rw [← eY] at hP
      have hstep : Z ++ putT ((l.take (k + 1)).flatMap spanT) = Y ++ (putT (numT lo) ++ (if hi = lo then [] else sepO [46, 46] ++ putT (numT hi))) := by rw [spans_step hd, eY, span_put]; simp only [List.append_assoc]
      have hlen : Y.length + ((putT (numT lo)).length + (if hi = lo then [] else sepO [46, 46] ++ putT (numT hi)).length) ≤ 100000000000 := by
        have q := spans_long l (k + 1)
        have q2 := congrArg List.length hstep
        have := HX.out
        have q3 := congrArg List.length EZ.out
        simp only [List.length_append] at q2 q3
        omega
      obtain ⟨hz1, hz2⟩ := HZ.out _ (List.mem_of_getElem? hd)
      have hN := bc_new hP hB #[.int .i64 lo, .int .i64 hi] 60 (by decide)
      have y0 := hN.bx.cells.1
      have y1 := hN.bx.cells.2.1
      have x0 := hN.cell 0
      have x1 := hN.cell 1
      unfold putV at y1
      have hP2 := hP.alloc (.cells #[.int .i64 lo, .int .i64 hi] 60)
      have BN := Lib.hid hN
      have HP2 := Lib.hid hP2
      have HST := Lib.hid hstep
      have HLEN := Lib.hid hlen
      have N1 := Lib.hid (nums_one (pn := pn) (ln := ln) (cn := cn) hP2 lo hz1 (by omega))
      unfold putV at N1
      simp only [World.size_alloc] at N1
      have HZ2 := Lib.hid hz2
      clear hP hB hbw k0 k1 eY hstep hlen hN hP2 hd hz1 hz2
      go_wp2_with fail
      refine N1.out.mono ?_
      rintro e u2 ⟨rfl, hP3, hK3⟩
      have hb3 := BN.out.move ((kp_alloc HP2.out.size _).trans hK3)
      clear y0 y1 x0 x1
      have y0 := hb3.bx.cells.1
      have y1 := hb3.bx.cells.2.1
      have x0 := hb3.cell 0
      have x1 := hb3.cell 1
      unfold putV at y1
      have HP3 := Lib.hid hP3
      have BN3 := Lib.hid hb3
      clear hP3 hK3 hb3
      by_cases he : hi = lo
      · have hq : (hi == lo) = true := beq_iff_eq.2 he
        have hq2 : (hi != lo) = false := by rw [bne, hq]; rfl
        have HE := Lib.hid he
        clear he
        go_wp2_with fail
        go_roundw
        case rel =>
          refine ⟨k + 1, by omega, rfl, ?_, BN3.out.bx⟩
          rw [HST.out, if_pos HE.out, List.append_nil]
          exact HP3.out
        case measure =>
          simp [intOf]
          omega
      · have hq : (hi == lo) = false := beq_eq_false_iff_ne.2 he
        have hq2 : (hi != lo) = true := by rw [bne, hq]; rfl
        have HE := Lib.hid he
        have hl2 := HLEN.out
        rw [if_neg he] at hl2
        simp only [List.length_append] at hl2
        have P2 := Lib.hid (put_one HP3.out [46, 46] (by rw [List.length_append]; omega))
        have N2 := Lib.hid (fun (u : World) (h : PutAt B b tb pb ((Y ++ putT (numT lo)) ++ sepO [46, 46]) u) => nums_one (pn := pn) (ln := ln) (cn := cn) h hi HZ2.out (by simp only [List.length_append]; omega))
        unfold putV at N2
        clear he hl2
        go_wp2_with fail
        refine P2.out.mono ?_
        rintro e u3 ⟨rfl, hP4, hK4⟩
        have hb4 := BN3.out.move ((kp_alloc HP3.out.size _).trans hK4)
        clear y0 y1 x0 x1
        have y0 := hb4.bx.cells.1
        have y1 := hb4.bx.cells.2.1
        have x0 := hb4.cell 0
        have x1 := hb4.cell 1
        unfold putV at y1
        have HP4 := Lib.hid hP4
        have BN4 := Lib.hid hb4
        clear hP4 hK4 hb4
        go_wp2_with fail
        refine (N2.out _ HP4.out).mono ?_
        rintro e u4 ⟨rfl, hP5, hK5⟩
        have hb5 := BN4.out.move ((kp_alloc HP4.out.size _).trans hK5)
        have HP5 := Lib.hid hP5
        have BN5 := Lib.hid hb5.bx
        clear hP5 hK5 hb5
        go_wp2_with fail
        go_roundw
        case rel =>
          refine ⟨k + 1, by omega, rfl, ?_, BN5.out⟩
          rw [HST.out, if_neg HE.out]
          have := HP5.out
          simp only [List.append_assoc] at this ⊢
          exact this
        case measure =>
          simp [intOf]
          omega
    · obtain rfl : k = n := by omega
      have e : l.take k = l := by rw [HL.out]; simp
      rw [e] at hP
      have hK := hB.kept
      have HE := EZ.out
      rw [HE] at hP
      have HP9 := Lib.hid hP
      clear HL HZ hlt hk e hB HE hP
      go_wp2_with fail
      go_end0
      refine ⟨rfl, ?_, hK⟩
      have := HP9.out
      rw [List.append_assoc] at this
      exact this
end
end Go.Proofs.YtkgieaoahijheaaDoor.Wt
