/-
  What the law ModelTells answers, at every two models, every name, every constraint and every number that can be read: true.
-/
import Derived.Test.YthoakeekfajhaaaQNodes
import Derived.Test.YthoakeekfajhaaaQSame
import Derived.Test.YthoakeekfajhaaaMAwake
namespace Go.Proofs.Ythoakeekfajhaaa
open Go.RowKit

theorem hold10 {W0 u u' : World} {p0 p1 p2 p3 p4 p5 p6 p7 p8 p9 : Addr} {a0 a1 a2 a3 a4 a5 a6 a7 a8 a9 : Value} (h : u.cell? p0 = some a0 ∧ u.cell? p1 = some a1 ∧ u.cell? p2 = some a2 ∧ u.cell? p3 = some a3 ∧ u.cell? p4 = some a4 ∧ u.cell? p5 = some a5 ∧ u.cell? p6 = some a6 ∧ u.cell? p7 = some a7 ∧ u.cell? p8 = some a8 ∧ u.cell? p9 = some a9 ∧ Hid (Below W0.heap.size W0 u)) (hb : Below u.heap.size u u') :
    u'.cell? p0 = some a0 ∧ u'.cell? p1 = some a1 ∧ u'.cell? p2 = some a2 ∧ u'.cell? p3 = some a3 ∧ u'.cell? p4 = some a4 ∧ u'.cell? p5 = some a5 ∧ u'.cell? p6 = some a6 ∧ u'.cell? p7 = some a7 ∧ u'.cell? p8 = some a8 ∧ u'.cell? p9 = some a9 ∧ Hid (Below W0.heap.size W0 u') :=
  ⟨cell_stays hb h.1, cell_stays hb h.2.1, cell_stays hb h.2.2.1, cell_stays hb h.2.2.2.1, cell_stays hb h.2.2.2.2.1, cell_stays hb h.2.2.2.2.2.1, cell_stays hb h.2.2.2.2.2.2.1, cell_stays hb h.2.2.2.2.2.2.2.1, cell_stays hb h.2.2.2.2.2.2.2.2.1, cell_stays hb h.2.2.2.2.2.2.2.2.2.1, Lib.hid (h.2.2.2.2.2.2.2.2.2.2.out.trans (hb.mono h.2.2.2.2.2.2.2.2.2.2.out.size))⟩
theorem hold10b {W0 u : World} {p0 p1 p2 p3 p4 p5 p6 p7 p8 p9 : Addr} {a0 a1 a2 a3 a4 a5 a6 a7 a8 a9 : Value} (h : u.cell? p0 = some a0 ∧ u.cell? p1 = some a1 ∧ u.cell? p2 = some a2 ∧ u.cell? p3 = some a3 ∧ u.cell? p4 = some a4 ∧ u.cell? p5 = some a5 ∧ u.cell? p6 = some a6 ∧ u.cell? p7 = some a7 ∧ u.cell? p8 = some a8 ∧ u.cell? p9 = some a9 ∧ Hid (Below W0.heap.size W0 u)) : Below W0.heap.size W0 u := h.2.2.2.2.2.2.2.2.2.2.out

theorem below_3 (w : World) (o0 o1 o2 : Obj) : Below w.heap.size w (((w.alloc o0).alloc o1).alloc o2) :=
  (((Below.refl _ w).alloc (Nat.le_refl _) _).alloc (by simp) _).alloc (by simp; omega) _
theorem same_self {α : Type} {eq : α → α → Bool} (h : ∀ a b, eq a b = true ↔ a = b) (xs : List α) : listB eq xs xs = true := (listB_iff h xs xs).2 rfl
theorem one_con {u : World} {b : Nat} {v0 v1 v2 v3 v4 v5 : Value} {c : PCon} (h : At6 u b v0 v1 v2 v3 v4 v5) (hc : rCon u [v0, v1, v2, v3, v4, v5] c) : Slc rCon 6 u (.slice (some ⟨b, 0, none⟩) 1 1) [c] :=
  one_slc (cs := [v0, v1, v2, v3, v4, v5]) rfl (fun j hj => match j, hj with
    | 0, _ => h.c0
    | 1, _ => h.c1
    | 2, _ => h.c2
    | 3, _ => h.c3
    | 4, _ => h.c4
    | 5, _ => h.c5) hc (by omega)

set_option maxRecDepth 100000 in
set_option maxHeartbeats 8000000 in
theorem tells_law {w : World} {bm gm bn gn v1 v2 v3 : Value} {m n : PModel} {c : PCon} (h : rModel w [bm, gm] m) (h' : rModel w [bn, gn] n) (s : ByteArray) (hc : rCon w [.int .i64 c.kind, v1, v2, .int .i64 c.rel, .int .i64 c.const, v3] c) (vars : Int) (hv : Fit vars) :
    Calls Try.prog 3 #[.agg #[bm, gm], .agg #[bn, gn], .string s, .agg #[.int .i64 c.kind, v1, v2, .int .i64 c.rel, .int .i64 c.const, v3], .int .i64 vars] w fun e w' => e = .returned (.bool true) ∧ Below w.heap.size w w' := by
  obtain ⟨pb, bb, ob, cb, lb, pg, lg, cg, rfl, rfl, hcm, hm⟩ := rModel_open h
  obtain ⟨pb', bb', ob', cb', lb', pg', lg', cg', rfl, rfl, hcn, hn⟩ := rModel_open h'
  obtain ⟨⟨p1, l1, c1, rfl⟩, ⟨p2, l2, c2, rfl⟩, ⟨p3, l3, c3, rfl⟩⟩ := rCon_shape hc
  obtain ⟨k0, hk0⟩ : ∃ k0, k0 = c.kind := ⟨_, rfl⟩
  obtain ⟨r0, hr0⟩ : ∃ r0, r0 = c.rel := ⟨_, rfl⟩
  obtain ⟨t0, ht0⟩ : ∃ t0, t0 = c.const := ⟨_, rfl⟩
  rw [← hk0, ← hr0, ← ht0] at hc ⊢
  clear hk0 hr0 ht0
  obtain ⟨W0, hW0⟩ : ∃ W0, W0 = ((w.alloc (.cells #[.slice pb lb cb, .slice pg lg cg] 25)).alloc (.cells #[.slice pb' lb' cb', .slice pg' lg' cg'] 25)).alloc (.cells #[.int .i64 k0, .slice p1 l1 c1, .slice p2 l2 c2, .int .i64 r0, .int .i64 t0, .slice p3 l3 c3] 28) := ⟨_, rfl⟩
  have hB0 : Below w.heap.size w W0 := by rw [hW0]; exact below_3 _ _ _ _
  have m0 : W0.cell? ⟨w.heap.size, 0, none⟩ = some (.slice pb lb cb) := by rw [hW0]; go_simp
  have m1 : W0.cell? ⟨w.heap.size, 1, none⟩ = some (.slice pg lg cg) := by rw [hW0]; go_simp
  have m2 : W0.cell? ⟨w.heap.size + 1, 0, none⟩ = some (.slice pb' lb' cb') := by rw [hW0]; go_simp
  have m3 : W0.cell? ⟨w.heap.size + 1, 1, none⟩ = some (.slice pg' lg' cg') := by rw [hW0]; go_simp
  have m4 : W0.cell? ⟨w.heap.size + 1 + 1, 0, none⟩ = some (.int .i64 k0) := by rw [hW0]; go_simp
  have m5 : W0.cell? ⟨w.heap.size + 1 + 1, 1, none⟩ = some (.slice p1 l1 c1) := by rw [hW0]; go_simp
  have m6 : W0.cell? ⟨w.heap.size + 1 + 1, 2, none⟩ = some (.slice p2 l2 c2) := by rw [hW0]; go_simp
  have m7 : W0.cell? ⟨w.heap.size + 1 + 1, 3, none⟩ = some (.int .i64 r0) := by rw [hW0]; go_simp
  have m8 : W0.cell? ⟨w.heap.size + 1 + 1, 4, none⟩ = some (.int .i64 t0) := by rw [hW0]; go_simp
  have m9 : W0.cell? ⟨w.heap.size + 1 + 1, 5, none⟩ = some (.slice p3 l3 c3) := by rw [hW0]; go_simp
  have HM : Hid (W0.cell? ⟨w.heap.size, 0, none⟩ = some (.slice pb lb cb) ∧ W0.cell? ⟨w.heap.size, 1, none⟩ = some (.slice pg lg cg) ∧ W0.cell? ⟨w.heap.size + 1, 0, none⟩ = some (.slice pb' lb' cb') ∧ W0.cell? ⟨w.heap.size + 1, 1, none⟩ = some (.slice pg' lg' cg') ∧ W0.cell? ⟨w.heap.size + 1 + 1, 0, none⟩ = some (.int .i64 k0) ∧ W0.cell? ⟨w.heap.size + 1 + 1, 1, none⟩ = some (.slice p1 l1 c1) ∧ W0.cell? ⟨w.heap.size + 1 + 1, 2, none⟩ = some (.slice p2 l2 c2) ∧ W0.cell? ⟨w.heap.size + 1 + 1, 3, none⟩ = some (.int .i64 r0) ∧ W0.cell? ⟨w.heap.size + 1 + 1, 4, none⟩ = some (.int .i64 t0) ∧ W0.cell? ⟨w.heap.size + 1 + 1, 5, none⟩ = some (.slice p3 l3 c3)) := Lib.hid ⟨m0, m1, m2, m3, m4, m5, m6, m7, m8, m9⟩
  have HR := Lib.hid (fun u (hb : Below W0.heap.size W0 u) => ((hm.below hB0).below hb).model hcm)
  have HN := Lib.hid (fun u (hb : Below W0.heap.size W0 u) => ((hn.below hB0).below hb).model hcn)
  have HC := Lib.hid (fun u (hb : Below W0.heap.size W0 u) => rCon_stays _ _ _ _ hb (rCon_stays _ _ _ _ hB0 hc))
  have HW := Lib.hid hW0
  have HB0 := Lib.hid hB0
  have HV := Lib.hid hv
  clear h h' hm hn hc hcm hcn hW0 hB0 hv m0 m1 m2 m3 m4 m5 m6 m7 m8 m9
  go_enter Try.func3, Try.ntmps3
  go_upto_region 1 with fail
  rw [← HW.out]
  go_wp2_with fail
  refine (awake_any _).mono ?_
  rintro e w1 ⟨rfl, hB1⟩
  have m0 := cell_stays hB1 HM.out.1
  have m1 := cell_stays hB1 HM.out.2.1
  have m2 := cell_stays hB1 HM.out.2.2.1
  have m3 := cell_stays hB1 HM.out.2.2.2.1
  have m4 := cell_stays hB1 HM.out.2.2.2.2.1
  have m5 := cell_stays hB1 HM.out.2.2.2.2.2.1
  have m6 := cell_stays hB1 HM.out.2.2.2.2.2.2.1
  have m7 := cell_stays hB1 HM.out.2.2.2.2.2.2.2.1
  have m8 := cell_stays hB1 HM.out.2.2.2.2.2.2.2.2.1
  have m9 := cell_stays hB1 HM.out.2.2.2.2.2.2.2.2.2
  have CL := Lib.hid (large_any (HR.out w1 hB1))
  have HB1 := Lib.hid hB1
  clear hB1
  obtain ⟨B, hBe⟩ : ∃ B, B = largeB m := ⟨_, rfl⟩
  rw [← hBe] at CL
  go_wp2_with fail
  refine CL.out.mono ?_
  rintro e w2 ⟨rfl, hB2⟩
  have HB2 := Lib.hid (HB1.out.trans (hB2.mono HB1.out.size))
  clear hB2 m0 m1 m2 m3 m4 m5 m6 m7 m8 m9
  cases B
  case true =>
    clear hBe
    go_wp2_with fail
    go_ret
    exact ⟨rfl, HB0.out.trans (HB2.out.mono HB0.out.size)⟩
  have HF := Lib.hid (few_of hBe.symm)
  clear hBe
  have m0 := cell_stays HB2.out HM.out.1
  have m1 := cell_stays HB2.out HM.out.2.1
  have m2 := cell_stays HB2.out HM.out.2.2.1
  have m3 := cell_stays HB2.out HM.out.2.2.2.1
  have m4 := cell_stays HB2.out HM.out.2.2.2.2.1
  have m5 := cell_stays HB2.out HM.out.2.2.2.2.2.1
  have m6 := cell_stays HB2.out HM.out.2.2.2.2.2.2.1
  have m7 := cell_stays HB2.out HM.out.2.2.2.2.2.2.2.1
  have m8 := cell_stays HB2.out HM.out.2.2.2.2.2.2.2.2.1
  have m9 := cell_stays HB2.out HM.out.2.2.2.2.2.2.2.2.2
  have CL := Lib.hid (large_any (HN.out w2 HB2.out))
  obtain ⟨B, hBe⟩ : ∃ B, B = largeB n := ⟨_, rfl⟩
  rw [← hBe] at CL
  go_wp2_with fail
  refine CL.out.mono ?_
  rintro e w3 ⟨rfl, hB3⟩
  have HB3 := Lib.hid (HB2.out.trans (hB3.mono HB2.out.size))
  clear hB3 m0 m1 m2 m3 m4 m5 m6 m7 m8 m9
  cases B
  case true =>
    clear hBe
    go_wp2_with fail
    go_ret
    exact ⟨rfl, HB0.out.trans (HB3.out.mono HB0.out.size)⟩
  have HG := Lib.hid (few_of hBe.symm)
  clear hBe
  have m0 := cell_stays HB3.out HM.out.1
  have m1 := cell_stays HB3.out HM.out.2.1
  have m2 := cell_stays HB3.out HM.out.2.2.1
  have m3 := cell_stays HB3.out HM.out.2.2.2.1
  have m4 := cell_stays HB3.out HM.out.2.2.2.2.1
  have m5 := cell_stays HB3.out HM.out.2.2.2.2.2.1
  have m6 := cell_stays HB3.out HM.out.2.2.2.2.2.2.1
  have m7 := cell_stays HB3.out HM.out.2.2.2.2.2.2.2.1
  have m8 := cell_stays HB3.out HM.out.2.2.2.2.2.2.2.2.1
  have m9 := cell_stays HB3.out HM.out.2.2.2.2.2.2.2.2.2
  obtain ⟨ns, hns⟩ : ∃ ns, ns = s.size := ⟨_, rfl⟩
  have hsz : ((s.size : Nat) : Int) = (ns : Int) := by rw [hns]
  by_cases g : 100 < ns
  · have d1 : decide ((100 : Int) < (ns : Int)) = true := decide_eq_true (by omega)
    clear hns
    go_wp2_with fail
    go_ret
    exact ⟨rfl, HB0.out.trans (HB3.out.mono HB0.out.size)⟩
  have d1 : decide ((100 : Int) < (ns : Int)) = false := decide_eq_false (by omega)
  have HSZ := Lib.hid (show s.size ≤ 100 by omega)
  clear hns
  obtain ⟨W4, hW4⟩ : ∃ W4, W4 = w3.alloc (.cells #[.int .i64 k0, .slice p1 l1 c1, .slice p2 l2 c2, .int .i64 r0, .int .i64 t0, .slice p3 l3 c3] 28) := ⟨_, rfl⟩
  have hB4 : Below w3.heap.size w3 W4 := by rw [hW4]; exact below_one _ _
  have h6 : At6 W4 w3.heap.size (.int .i64 k0) (.slice p1 l1 c1) (.slice p2 l2 c2) (.int .i64 r0) (.int .i64 t0) (.slice p3 l3 c3) := by rw [hW4]; exact six_new _ _ _ _ _ _ _ _
  have HB4 := Lib.hid (HB3.out.trans (hB4.mono HB3.out.size))
  have CK := Lib.hid (cons_any (one_con h6 (HC.out W4 (HB3.out.trans (hB4.mono HB3.out.size)))))
  rw [hW4] at CK
  obtain ⟨B, hBe⟩ : ∃ B, B = consB [c] := ⟨_, rfl⟩
  rw [← hBe] at CK
  rw [hW4] at HB4
  clear hW4 hB4 h6
  go_wp2_with fail
  refine CK.out.mono ?_
  rintro e w5 ⟨rfl, hB5⟩
  have HB5 := Lib.hid (HB4.out.trans (hB5.mono HB4.out.size))
  clear hB5 m0 m1 m2 m3 m4 m5 m6 m7 m8 m9
  cases B
  case true =>
    clear hBe
    go_wp2_with fail
    go_ret
    exact ⟨rfl, HB0.out.trans (HB5.out.mono HB0.out.size)⟩
  have HSH := Lib.hid ((cons_short hBe.symm).2 c (by simp))
  clear hBe hsz d1 g
  have C9 := Lib.hid (fun u (hb : Below W0.heap.size W0 u) => check_any (HR.out u hb) HF.out)
  have C10 := Lib.hid (fun u (hb : Below W0.heap.size W0 u) => rcheck_any (HR.out u hb) HF.out)
  have C11 : Hid (∀ u, Below W0.heap.size W0 u → Calls Try.prog 11 #[.string s] u fun e w' => e = .returned (.bool (nameL (txt s))) ∧ Below u.heap.size u w') := Lib.hid fun u _ => (pname_any s u (by have := HSZ.out; omega)).mono fun e w' h => ⟨h.1, by rw [h.2]; exact Below.refl _ _⟩
  have C12 := Lib.hid (fun u (_ : Below W0.heap.size W0 u) => name_any s u (by have := HSZ.out; omega))
  have C13 := Lib.hid (fun u (hb : Below W0.heap.size W0 u) => pright_any vars (HC.out u hb) (short_150 HSH.out))
  have C14 := Lib.hid (fun u (hb : Below W0.heap.size W0 u) => rrcon_any vars HV.out (HC.out u hb) (short_150 HSH.out))
  have C16 := Lib.hid (fun u (hb : Below W0.heap.size W0 u) => pvars_any (HR.out u hb) HF.out)
  have C17 := Lib.hid (fun u (hb : Below W0.heap.size W0 u) => vars_any (HR.out u hb) (by have := HF.out.blocks; omega) (fun x hx => by have := HF.out.vars x hx; omega))
  have HL9 := Lib.hid (show (varsL m.blocks).length ≤ 1000000 by have := HF.out.few; omega)
  have HLD := Lib.hid (show ∀ d ∈ varsL m.blocks, d.dom.length ≤ 1000000 from fun d hd => by have := (HF.out.decl d hd).2; omega)
  obtain ⟨L, hL⟩ : ∃ L, L = varsL m.blocks := ⟨_, rfl⟩
  rw [← hL] at C16 C17 HL9 HLD
  have C15 : Hid (∀ (u : World) (x y : Value), Slc rDecl 2 u x L → Slc rDecl 2 u y L → Calls Try.prog 15 #[x, y] u fun e w' => e = .returned (.bool true) ∧ Below u.heap.size u w') := Lib.hid fun u x y hx hy => (decls_any hx hy HL9.out HL9.out HLD.out HLD.out).mono fun e w' h => ⟨by rw [h.1, same_self sameD_iff], by obtain ⟨q, hq⟩ := h.2; rw [hq]; exact below_drewN (Below.refl _ _)⟩
  have C19 := Lib.hid (fun u (hb : Below W0.heap.size W0 u) => pends_any (HR.out u hb) (by have := HF.out.blocks; omega) (fun x hx => by have := HF.out.vars x hx; omega))
  have C20 := Lib.hid (fun u (hb : Below W0.heap.size W0 u) => ends_any (HR.out u hb) (by have := HF.out.blocks; omega) (fun x hx => by have := HF.out.vars x hx; omega))
  have HEL := Lib.hid (show (endsF 0 m.blocks).length ≤ 1000000 by have := HF.out.blocks; rw [ends_length]; omega)
  obtain ⟨E, hE⟩ : ∃ E, E = endsF 0 m.blocks := ⟨_, rfl⟩
  rw [← hE] at C19 C20 HEL
  have C18 : Hid (∀ (u : World) (x y : Value), Slc rNum 1 u x E → Slc rNum 1 u y E → Calls Try.prog 18 #[x, y] u fun e w' => e = .returned (.bool true) ∧ Below u.heap.size u w') := Lib.hid fun u x y hx hy => (nsame_any hx hy HEL.out HEL.out).mono fun e w' h => ⟨by rw [h.1, decide_eq_true rfl], by obtain ⟨q, hq⟩ := h.2; rw [hq]; exact below_drewN (Below.refl _ _)⟩
  have C21 := Lib.hid (fun u (hb : Below W0.heap.size W0 u) => psame_any (HR.out u hb) (HN.out u hb) HF.out HG.out)
  have C22 := Lib.hid (fun u (hb : Below W0.heap.size W0 u) => rsame_any (HR.out u hb) (HN.out u hb) HF.out HG.out)
  have C23 := Lib.hid (fun u (hb : Below W0.heap.size W0 u) => pnodes_any (HR.out u hb) HF.out)
  have C24 := Lib.hid (fun u (hb : Below W0.heap.size W0 u) => rnodes_any (HR.out u hb) HF.out)
  obtain ⟨z, hz⟩ : ∃ z, z = checkM m := ⟨_, rfl⟩
  rw [← hz] at C9 C10
  obtain ⟨b1, hb1⟩ : ∃ b1, b1 = nameL (txt s) := ⟨_, rfl⟩
  rw [← hb1] at C11 C12
  obtain ⟨b2, hb2⟩ : ∃ b2, b2 = rightC c vars := ⟨_, rfl⟩
  rw [← hb2] at C13 C14
  obtain ⟨b3, hb3⟩ : ∃ b3, b3 = sameM m n := ⟨_, rfl⟩
  rw [← hb3] at C21 C22
  obtain ⟨x, hx⟩ : ∃ x, x = nodesM m := ⟨_, rfl⟩
  rw [← hx] at C23 C24
  clear hz hb1 hb2 hb3 hx hL hE
  have e1 : (z == z) = true := beq_self_eq_true _
  have e2 : (b1 == b1) = true := beq_self_eq_true _
  have e3 : (b2 == b2) = true := beq_self_eq_true _
  have e4 : (b3 == b3) = true := beq_self_eq_true _
  have e5 : (x == x) = true := beq_self_eq_true _
  have m0 := cell_stays HB5.out HM.out.1
  have m1 := cell_stays HB5.out HM.out.2.1
  have m2 := cell_stays HB5.out HM.out.2.2.1
  have m3 := cell_stays HB5.out HM.out.2.2.2.1
  have m4 := cell_stays HB5.out HM.out.2.2.2.2.1
  have m5 := cell_stays HB5.out HM.out.2.2.2.2.2.1
  have m6 := cell_stays HB5.out HM.out.2.2.2.2.2.2.1
  have m7 := cell_stays HB5.out HM.out.2.2.2.2.2.2.2.1
  have m8 := cell_stays HB5.out HM.out.2.2.2.2.2.2.2.2.1
  have m9 := cell_stays HB5.out HM.out.2.2.2.2.2.2.2.2.2
  have H0 : Hid (w5.cell? ⟨w.heap.size, 0, none⟩ = some (.slice pb lb cb) ∧ w5.cell? ⟨w.heap.size, 1, none⟩ = some (.slice pg lg cg) ∧ w5.cell? ⟨w.heap.size + 1, 0, none⟩ = some (.slice pb' lb' cb') ∧ w5.cell? ⟨w.heap.size + 1, 1, none⟩ = some (.slice pg' lg' cg') ∧ w5.cell? ⟨w.heap.size + 1 + 1, 0, none⟩ = some (.int .i64 k0) ∧ w5.cell? ⟨w.heap.size + 1 + 1, 1, none⟩ = some (.slice p1 l1 c1) ∧ w5.cell? ⟨w.heap.size + 1 + 1, 2, none⟩ = some (.slice p2 l2 c2) ∧ w5.cell? ⟨w.heap.size + 1 + 1, 3, none⟩ = some (.int .i64 r0) ∧ w5.cell? ⟨w.heap.size + 1 + 1, 4, none⟩ = some (.int .i64 t0) ∧ w5.cell? ⟨w.heap.size + 1 + 1, 5, none⟩ = some (.slice p3 l3 c3) ∧ Hid (Below W0.heap.size W0 w5)) := Lib.hid ⟨m0, m1, m2, m3, m4, m5, m6, m7, m8, m9, HB5⟩
  clear CL CK HC HR HN HV HSZ HSH HL9 HLD HEL HM
  go_upto_region 5 with fail
  clear m0 m1 m2 m3 m4 m5 m6 m7 m8 m9
  go_region_held3 (fun w' => w'.cell? ⟨w.heap.size, 0, none⟩ = some (.slice pb lb cb) ∧ w'.cell? ⟨w.heap.size, 1, none⟩ = some (.slice pg lg cg) ∧ w'.cell? ⟨w.heap.size + 1, 0, none⟩ = some (.slice pb' lb' cb') ∧ w'.cell? ⟨w.heap.size + 1, 1, none⟩ = some (.slice pg' lg' cg') ∧ w'.cell? ⟨w.heap.size + 1 + 1, 0, none⟩ = some (.int .i64 k0) ∧ w'.cell? ⟨w.heap.size + 1 + 1, 1, none⟩ = some (.slice p1 l1 c1) ∧ w'.cell? ⟨w.heap.size + 1 + 1, 2, none⟩ = some (.slice p2 l2 c2) ∧ w'.cell? ⟨w.heap.size + 1 + 1, 3, none⟩ = some (.int .i64 r0) ∧ w'.cell? ⟨w.heap.size + 1 + 1, 4, none⟩ = some (.int .i64 t0) ∧ w'.cell? ⟨w.heap.size + 1 + 1, 5, none⟩ = some (.slice p3 l3 c3) ∧ Hid (Below W0.heap.size W0 w'))
    (first | exact hold10 (by assumption) (by assumption) | exact hold10 H0.out (below_drewN (n := 1) (Below.refl _ _)))
    (first
      | (go_at_call 9; refine (C9.out _ (hold10b (by assumption))).mono ?_; rintro e u1 ⟨rfl, hB⟩)
      | (go_at_call 10; refine (C10.out _ (hold10b (by assumption))).mono ?_; rintro e u2 ⟨rfl, hB⟩)
      | (go_at_call 11; refine (C11.out _ (hold10b (by assumption))).mono ?_; rintro e u3 ⟨rfl, hB⟩)
      | (go_at_call 12; refine (C12.out _ (hold10b (by assumption))).mono ?_; rintro e u4 ⟨rfl, hB⟩)
      | (go_at_call 13; refine (C13.out _ (hold10b (by assumption))).mono ?_; rintro e u5 ⟨rfl, hB⟩)
      | (go_at_call 14; refine (C14.out _ (hold10b (by assumption))).mono ?_; rintro e u6 ⟨rfl, hB⟩)
      | (go_at_call 16; refine (C16.out _ (hold10b (by assumption))).mono ?_; rintro e u7 ⟨va, rfl, hsa, hB⟩; have HA := Lib.hid hsa; obtain ⟨pa, la, ca, rfl⟩ := slc_shape hsa; clear hsa)
      | (go_at_call 17; refine (C17.out _ (hold10b (by assumption))).mono ?_; rintro e u8 ⟨vb, rfl, hsb, hB⟩; have HA8 := Lib.hid (HA.out.below rDecl_stays hB); have HBB := Lib.hid hsb; obtain ⟨pb8, lb8, cb8, rfl⟩ := slc_shape hsb; clear hsb)
      | (go_at_call 15; refine (C15.out _ _ _ HA8.out HBB.out).mono ?_; rintro e u9 ⟨rfl, hB⟩)
      | (go_at_call 19; refine (C19.out _ (hold10b (by assumption))).mono ?_; rintro e u10 ⟨va, rfl, hsa, hB⟩; have HI := Lib.hid hsa; obtain ⟨pi, li, ci, rfl⟩ := slc_shape hsa; clear hsa)
      | (go_at_call 20; refine (C20.out _ (hold10b (by assumption))).mono ?_; rintro e u11 ⟨vb, rfl, hsb, hB⟩; have HI8 := Lib.hid (HI.out.below rNum_stays hB); have HII := Lib.hid hsb; obtain ⟨pj, lj, cj, rfl⟩ := slc_shape hsb; clear hsb)
      | (go_at_call 18; refine (C18.out _ _ _ HI8.out HII.out).mono ?_; rintro e u12 ⟨rfl, hB⟩)
      | (go_at_call 21; refine (C21.out _ (hold10b (by assumption))).mono ?_; rintro e u13 ⟨rfl, hB⟩)
      | (go_at_call 22; refine (C22.out _ (hold10b (by assumption))).mono ?_; rintro e u14 ⟨rfl, hB⟩)
      | (go_at_call 23; refine (C23.out _ (hold10b (by assumption))).mono ?_; rintro e u15 ⟨rfl, hB⟩)
      | (go_at_call 24; refine (C24.out _ (hold10b (by assumption))).mono ?_; rintro e u16 ⟨rfl, hB⟩))
  have HH := Lib.hid (hold10b (by assumption))
  go_wp2_with fail
  go_ret
  exact ⟨rfl, HB0.out.trans (HH.out.mono HB0.out.size)⟩
end Go.Proofs.Ythoakeekfajhaaa
