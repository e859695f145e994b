/-
  What Same of package model answers, at any two models that can be read and whose lists are short.
-/
import Derived.Test.YthoakeekfajhaaaPEqual
namespace Go.Proofs.Ythoakeekfajhaaa
open Go.RowKit

structure At2 (w : World) (b : Nat) (v0 v1 : Value) : Prop where
  c0 : w.cell? ⟨b, 0, none⟩ = some v0
  c1 : w.cell? ⟨b, 1, none⟩ = some v1
structure At3 (w : World) (b : Nat) (v0 v1 v2 : Value) : Prop where
  c0 : w.cell? ⟨b, 0, none⟩ = some v0
  c1 : w.cell? ⟨b, 1, none⟩ = some v1
  c2 : w.cell? ⟨b, 2, none⟩ = some v2
theorem two_two (w : World) (a0 a1 b0 b1 : Value) (t : TypeId) : At2 ((w.alloc (.cells #[a0, a1] t)).alloc (.cells #[b0, b1] t)) w.heap.size a0 a1 ∧ At2 ((w.alloc (.cells #[a0, a1] t)).alloc (.cells #[b0, b1] t)) (w.heap.size + 1) b0 b1 :=
  ⟨⟨by go_simp, by go_simp⟩, ⟨by go_simp, by go_simp⟩⟩
theorem two_three (w : World) (a0 a1 a2 b0 b1 b2 : Value) (t : TypeId) : At3 ((w.alloc (.cells #[a0, a1, a2] t)).alloc (.cells #[b0, b1, b2] t)) w.heap.size a0 a1 a2 ∧ At3 ((w.alloc (.cells #[a0, a1, a2] t)).alloc (.cells #[b0, b1, b2] t)) (w.heap.size + 1) b0 b1 b2 :=
  ⟨⟨by go_simp, by go_simp, by go_simp⟩, ⟨by go_simp, by go_simp, by go_simp⟩⟩
theorem below_twice (w : World) (o o' : Obj) : Below w.heap.size w ((w.alloc o).alloc o') := ((Below.refl _ w).alloc (Nat.le_refl _) _).alloc (by simp) _

theorem enters56 : Enters Try.prog 56 := enters_of Try.func56 (by kernel_rfl) rfl
theorem enters42 : Enters Try.prog 42 := enters_of Try.func42 (by kernel_rfl) rfl
theorem enters40 : Enters Try.prog 40 := enters_of Try.func40 (by kernel_rfl) rfl

set_option maxRecDepth 100000 in
set_option maxHeartbeats 1000000 in
theorem samed_any (u : World) (x y : PDecl) (s : ByteArray) (v1 : Value) (t : ByteArray) (u1 : Value) (hx : rDecl u [.string s, v1] x) (hy : rDecl u [.string t, u1] y) (lx : x.dom.length ≤ 1000000) (ly : y.dom.length ≤ 1000000) :
    Calls Try.prog 56 #[.agg #[.string s, v1], .agg #[.string t, u1]] u fun e w' => e = .returned (.bool (sameD x y)) ∧ Below u.heap.size u w' := by
  obtain ⟨hx1, hx2⟩ := rDecl_open hx
  obtain ⟨hy1, hy2⟩ := rDecl_open hy
  have hq := eql_txt s t
  rw [hx1, hy1] at hq
  obtain ⟨p1, l1, c1, hv⟩ := slc_shape hx2
  obtain ⟨q1, k1, d1, hv'⟩ := slc_shape hy2
  obtain ⟨W1, hW1⟩ : ∃ W1, W1 = (u.alloc (.cells #[.string s, v1] 48)).alloc (.cells #[.string t, u1] 48) := ⟨_, rfl⟩
  have hB : Below u.heap.size u W1 := by rw [hW1]; exact below_twice _ _ _
  have C := Lib.hid (eqs_any (hx2.below rSpan_stays hB) (hy2.below rSpan_stays hB) lx ly)
  obtain ⟨⟨m0, m1⟩, ⟨n0, n1⟩⟩ := two_two u (.string s) v1 (.string t) u1 48
  rw [← hW1] at m0 m1 n0 n1
  subst hv hv'
  have HW1 := Lib.hid hW1
  have HB := Lib.hid hB
  have hsd : sameD x y = (decide (x.name = y.name) && decide (x.dom = y.dom)) := rfl
  rw [hsd]
  generalize decide (x.dom = y.dom) = B at C ⊢
  generalize decide (x.name = y.name) = A at hq ⊢
  clear hx hy hx1 hx2 hy1 hy2 hsd hW1 hB
  cases A
  · skip
    go_enter Try.func56, Try.ntmps56
    go_upto_region 1 with fail
    rw [← HW1.out]
    go_wp2_with fail
    go_ret
    exact ⟨rfl, HB.out⟩
  · skip
    go_enter Try.func56, Try.ntmps56
    go_upto_region 1 with fail
    rw [← HW1.out]
    go_wp2_with fail
    refine C.out.mono ?_
    rintro e w2 ⟨rfl, n, rfl⟩
    go_wp2_with fail
    go_ret
    exact ⟨rfl, below_drewN HB.out⟩

set_option maxRecDepth 100000 in
set_option maxHeartbeats 2000000 in
theorem samec_any (u : World) (x y : PCon) (v1 v2 v3 u1 u2 u3 : Value) (hx : rCon u [.int .i64 x.kind, v1, v2, .int .i64 x.rel, .int .i64 x.const, v3] x) (hy : rCon u [.int .i64 y.kind, u1, u2, .int .i64 y.rel, .int .i64 y.const, u3] y) (sx : Short 1000000 x) (sy : Short 1000000 y) :
    Calls Try.prog 42 #[.agg #[.int .i64 x.kind, v1, v2, .int .i64 x.rel, .int .i64 x.const, v3], .agg #[.int .i64 y.kind, u1, u2, .int .i64 y.rel, .int .i64 y.const, u3]] u fun e w' => e = .returned (.bool (sameC x y)) ∧ Below u.heap.size u w' := by
  obtain ⟨a1, a2, a3, e, _, s1, s2, s3⟩ := hx
  simp only [List.cons.injEq, and_true, true_and] at e
  obtain ⟨rfl, rfl, rfl⟩ := e
  obtain ⟨b1, b2, b3, e, _, t1, t2, t3⟩ := hy
  simp only [List.cons.injEq, and_true, true_and] at e
  obtain ⟨rfl, rfl, rfl⟩ := e
  obtain ⟨px1, lx1, cx1, e1⟩ := slc_shape s1
  obtain ⟨px2, lx2, cx2, e2⟩ := slc_shape s2
  obtain ⟨px3, lx3, cx3, e3⟩ := slc_shape s3
  obtain ⟨py1, ly1, cy1, e4⟩ := slc_shape t1
  obtain ⟨py2, ly2, cy2, e5⟩ := slc_shape t2
  obtain ⟨py3, ly3, cy3, e6⟩ := slc_shape t3
  obtain ⟨x1, x2, x3⟩ := sx
  obtain ⟨y1, y2, y3⟩ := sy
  have hsc : sameC x y = (decide (x.kind = y.kind) && (decide (x.rel = y.rel) && (decide (x.const = y.const) && (decide (x.vars = y.vars) && (decide (x.coefs = y.coefs) && decide (x.nums = y.nums)))))) := rfl
  rw [hsc]
  generalize x.kind = k0
  generalize x.rel = r0
  generalize x.const = t0
  generalize y.kind = k0'
  generalize y.rel = r0'
  generalize y.const = t0'
  obtain ⟨W1, hW1⟩ : ∃ W1, W1 = (u.alloc (.cells #[.int .i64 k0, v1, v2, .int .i64 r0, .int .i64 t0, v3] 28)).alloc (.cells #[.int .i64 k0', u1, u2, .int .i64 r0', .int .i64 t0', u3] 28) := ⟨_, rfl⟩
  have hB1 : Below u.heap.size u W1 := by rw [hW1]; exact below_twice _ _ _
  obtain ⟨⟨m0, m1, m2, m3, m4, m5⟩, ⟨n0, n1, n2, n3, n4, n5⟩⟩ := two_six u (.int .i64 k0) v1 v2 (.int .i64 r0) (.int .i64 t0) v3 (.int .i64 k0') u1 u2 (.int .i64 r0') (.int .i64 t0') u3 28
  rw [← hW1] at m0 m1 m2 m3 m4 m5 n0 n1 n2 n3 n4 n5
  have NV := Lib.hid (fun m => eqn_any (s1.below rNum_stays (below_drewN (n := m) hB1)) (t1.below rNum_stays (below_drewN (n := m) hB1)) x1 y1)
  have NC := Lib.hid (fun m => eqn_any (s2.below rNum_stays (below_drewN (n := m) hB1)) (t2.below rNum_stays (below_drewN (n := m) hB1)) x2 y2)
  have NN := Lib.hid (fun m => eqn_any (s3.below rNum_stays (below_drewN (n := m) hB1)) (t3.below rNum_stays (below_drewN (n := m) hB1)) x3 y3)
  subst e1 e2 e3 e4 e5 e6
  have HB1 := Lib.hid hB1
  have HW1 := Lib.hid hW1
  generalize decide (x.vars = y.vars) = A1 at NV ⊢
  generalize decide (x.coefs = y.coefs) = A2 at NC ⊢
  generalize decide (x.nums = y.nums) = A3 at NN ⊢
  clear hW1 hB1 s1 s2 s3 t1 t2 t3 hsc
  by_cases h0 : k0 = k0'
  · rw [decide_eq_true h0, Bool.true_and]
    subst h0
    by_cases h1 : r0 = r0'
    · rw [decide_eq_true h1, Bool.true_and]
      subst h1
      by_cases h2 : t0 = t0'
      · rw [decide_eq_true h2, Bool.true_and]
        subst h2
        cases A1
        · skip
          go_enter Try.func42, Try.ntmps42
          go_upto_region 1 with fail
          rw [← HW1.out]
          go_wp2_with fail
          all_goals try (exfalso; omega)
          refine (NV.out 0).mono ?_
          rintro e w' ⟨rfl, nNV, rfl⟩
          go_wp2_with fail
          go_ret
          exact ⟨rfl, below_drewN HB1.out⟩
        · skip
          cases A2
          · skip
            go_enter Try.func42, Try.ntmps42
            go_upto_region 1 with fail
            rw [← HW1.out]
            go_wp2_with fail
            all_goals try (exfalso; omega)
            refine (NV.out 0).mono ?_
            rintro e w' ⟨rfl, nNV, rfl⟩
            go_wp2_with fail
            all_goals try (exfalso; omega)
            refine (NC.out _).mono ?_
            rintro e w' ⟨rfl, nNC, rfl⟩
            go_wp2_with fail
            go_ret
            exact ⟨rfl, below_drewN HB1.out⟩
          · skip
            cases A3
            · skip
              go_enter Try.func42, Try.ntmps42
              go_upto_region 1 with fail
              rw [← HW1.out]
              go_wp2_with fail
              all_goals try (exfalso; omega)
              refine (NV.out 0).mono ?_
              rintro e w' ⟨rfl, nNV, rfl⟩
              go_wp2_with fail
              all_goals try (exfalso; omega)
              refine (NC.out _).mono ?_
              rintro e w' ⟨rfl, nNC, rfl⟩
              go_wp2_with fail
              all_goals try (exfalso; omega)
              refine (NN.out _).mono ?_
              rintro e w' ⟨rfl, nNN, rfl⟩
              go_wp2_with fail
              go_ret
              exact ⟨rfl, below_drewN HB1.out⟩
            · skip
              go_enter Try.func42, Try.ntmps42
              go_upto_region 1 with fail
              rw [← HW1.out]
              go_wp2_with fail
              all_goals try (exfalso; omega)
              refine (NV.out 0).mono ?_
              rintro e w' ⟨rfl, nNV, rfl⟩
              go_wp2_with fail
              all_goals try (exfalso; omega)
              refine (NC.out _).mono ?_
              rintro e w' ⟨rfl, nNC, rfl⟩
              go_wp2_with fail
              all_goals try (exfalso; omega)
              refine (NN.out _).mono ?_
              rintro e w' ⟨rfl, nNN, rfl⟩
              go_wp2_with fail
              go_ret
              exact ⟨rfl, below_drewN HB1.out⟩
      · have eh2 : (t0 == t0') = false := beq_eq_false_iff_ne.2 h2
        rw [decide_eq_false h2, Bool.false_and]
        go_enter Try.func42, Try.ntmps42
        go_upto_region 1 with fail
        rw [← HW1.out]
        go_wp2_with fail
        all_goals try (exfalso; omega)
        go_ret
        exact ⟨rfl, below_drewN (n := 0) HB1.out⟩
    · have eh1 : (r0 == r0') = false := beq_eq_false_iff_ne.2 h1
      rw [decide_eq_false h1, Bool.false_and]
      go_enter Try.func42, Try.ntmps42
      go_upto_region 1 with fail
      rw [← HW1.out]
      go_wp2_with fail
      all_goals try (exfalso; omega)
      go_ret
      exact ⟨rfl, below_drewN (n := 0) HB1.out⟩
  · have eh0 : (k0 == k0') = false := beq_eq_false_iff_ne.2 h0
    rw [decide_eq_false h0, Bool.false_and]
    go_enter Try.func42, Try.ntmps42
    go_upto_region 1 with fail
    rw [← HW1.out]
    go_wp2_with fail
    all_goals try (exfalso; omega)
    go_ret
    exact ⟨rfl, below_drewN (n := 0) HB1.out⟩

def sameB (x y : PBlock) : Bool := decide (x.all = y.all) && (listB sameD x.vars y.vars && listB sameC x.cons y.cons)
def sameM (m n : PModel) : Bool := listB sameB m.blocks n.blocks && listB sameC m.goal n.goal
/-- the lists of a block are short -/
structure FewB (b : PBlock) : Prop where
  vars : b.vars.length ≤ 1000000
  doms : ∀ d ∈ b.vars, d.dom.length ≤ 1000000
  cons : b.cons.length ≤ 1000000
  nums : ∀ c ∈ b.cons, Short 1000000 c
theorem short_more {c : PCon} (h : Short 150 c) : Short 1000000 c := ⟨by have := h.1; omega, by have := h.2.1; omega, by have := h.2.2; omega⟩
theorem Few.block {m : PModel} (h : Few m) : ∀ b ∈ m.blocks, FewB b := fun b hb =>
  ⟨by have := h.vars b hb; omega, fun d hd => by have := (h.decls b hb d hd).2; omega, by have := (h.wheres b hb).1; omega, fun c hc => short_more ((h.wheres b hb).2 c hc)⟩

set_option maxRecDepth 100000 in
set_option maxHeartbeats 2000000 in
theorem sameb_any (u : World) (x y : PBlock) (v1 v2 u1 u2 : Value) (hx : rBlock u [.bool x.all, v1, v2] x) (hy : rBlock u [.bool y.all, u1, u2] y) (fx : FewB x) (fy : FewB y) :
    Calls Try.prog 40 #[.agg #[.bool x.all, v1, v2], .agg #[.bool y.all, u1, u2]] u fun e w' => e = .returned (.bool (sameB x y)) ∧ Below u.heap.size u w' := by
  obtain ⟨a1, a2, e, s1, s2⟩ := hx
  simp only [List.cons.injEq, and_true, true_and] at e
  obtain ⟨rfl, rfl⟩ := e
  obtain ⟨b1, b2, e, t1, t2⟩ := hy
  simp only [List.cons.injEq, and_true, true_and] at e
  obtain ⟨rfl, rfl⟩ := e
  obtain ⟨px1, lx1, cx1, e1⟩ := slc_shape s1
  obtain ⟨px2, lx2, cx2, e2⟩ := slc_shape s2
  obtain ⟨py1, ly1, cy1, e3⟩ := slc_shape t1
  obtain ⟨py2, ly2, cy2, e4⟩ := slc_shape t2
  have hsb : sameB x y = (decide (x.all = y.all) && (listB sameD x.vars y.vars && listB sameC x.cons y.cons)) := rfl
  rw [hsb]
  generalize x.all = xa
  generalize y.all = ya
  obtain ⟨W1, hW1⟩ : ∃ W1, W1 = (u.alloc (.cells #[.bool xa, v1, v2] 45)).alloc (.cells #[.bool ya, u1, u2] 45) := ⟨_, rfl⟩
  have hB1 : Below u.heap.size u W1 := by rw [hW1]; exact below_twice _ _ _
  obtain ⟨⟨m0, m1, m2⟩, ⟨n0, n1, n2⟩⟩ := two_three u (.bool xa) v1 v2 (.bool ya) u1 u2 45
  rw [← hW1] at m0 m1 m2 n0 n1 n2
  have CD := Lib.hid (efD_any 56 enters56 sameD (s1.below rDecl_stays hB1) (t1.below rDecl_stays hB1) fx.vars fy.vars fun u x y s v1 t u1 _ mx my hx hy => samed_any u x y s v1 t u1 hx hy (fx.doms x mx) (fy.doms y my))
  have CC := Lib.hid (fun W2 (hb : Below W1.heap.size W1 W2) => efC_any 42 enters42 sameC ((s2.below rCon_stays hB1).below rCon_stays hb) ((t2.below rCon_stays hB1).below rCon_stays hb) fx.cons fy.cons fun u x y v1 v2 v3 u1 u2 u3 _ mx my hx hy => samec_any u x y v1 v2 v3 u1 u2 u3 hx hy (fx.nums x mx) (fy.nums y my))
  subst e1 e2 e3 e4
  have HB1 := Lib.hid hB1
  have HW1 := Lib.hid hW1
  have HM := Lib.hid (And.intro m2 n2)
  generalize listB sameD x.vars y.vars = A1 at CD ⊢
  generalize listB sameC x.cons y.cons = A2 at CC ⊢
  clear hW1 hB1 s1 s2 t1 t2 hsb fx fy
  by_cases h : xa = ya
  · rw [decide_eq_true h, Bool.true_and]
    subst h
    have q : (xa == xa) = true := beq_self_eq_true _
    cases A1
    · skip
      go_enter Try.func40, Try.ntmps40
      go_upto_region 1 with fail
      rw [← HW1.out]
      go_wp2_with fail
      refine CD.out.mono ?_
      rintro e w2 ⟨rfl, hB2⟩
      have HB2 := Lib.hid (HB1.out.trans (hB2.mono HB1.out.size))
      clear hB2
      go_wp2_with fail
      go_ret
      exact ⟨rfl, HB2.out⟩
    · skip
      go_enter Try.func40, Try.ntmps40
      go_upto_region 1 with fail
      rw [← HW1.out]
      go_wp2_with fail
      refine CD.out.mono ?_
      rintro e w2 ⟨rfl, hB2⟩
      have m2 := cell_stays hB2 HM.out.1
      have n2 := cell_stays hB2 HM.out.2
      have CC2 := Lib.hid (CC.out w2 hB2)
      have HB2 := Lib.hid (HB1.out.trans (hB2.mono HB1.out.size))
      clear hB2
      go_wp2_with fail
      refine CC2.out.mono ?_
      rintro e w3 ⟨rfl, hB3⟩
      have HB3 := Lib.hid (HB2.out.trans (hB3.mono HB2.out.size))
      clear hB3
      go_wp2_with fail
      go_ret
      exact ⟨rfl, HB3.out⟩
  · rw [decide_eq_false h, Bool.false_and]
    have q : (xa == ya) = false := beq_eq_false_iff_ne.2 h
    go_enter Try.func40, Try.ntmps40
    go_upto_region 1 with fail
    rw [← HW1.out]
    go_wp2_with fail
    go_ret
    exact ⟨rfl, HB1.out⟩

set_option maxRecDepth 100000 in
set_option maxHeartbeats 2000000 in
theorem psame_any {w : World} {bv gv bv' gv' : Value} {m n : PModel} (h : rModel w [bv, gv] m) (h' : rModel w [bv', gv'] n) (hf : Few m) (hf' : Few n) :
    Calls Try.prog 21 #[.agg #[bv, gv], .agg #[bv', gv']] w fun e w' => e = .returned (.bool (sameM m n)) ∧ Below w.heap.size w w' := by
  obtain ⟨a1, a2, e, s1, s2⟩ := h
  simp only [List.cons.injEq, and_true] at e
  obtain ⟨rfl, rfl⟩ := e
  obtain ⟨b1, b2, e, t1, t2⟩ := h'
  simp only [List.cons.injEq, and_true] at e
  obtain ⟨rfl, rfl⟩ := e
  obtain ⟨px1, lx1, cx1, e1⟩ := slc_shape s1
  obtain ⟨px2, lx2, cx2, e2⟩ := slc_shape s2
  obtain ⟨py1, ly1, cy1, e3⟩ := slc_shape t1
  obtain ⟨py2, ly2, cy2, e4⟩ := slc_shape t2
  obtain ⟨W1, hW1⟩ : ∃ W1, W1 = (w.alloc (.cells #[bv, gv] 25)).alloc (.cells #[bv', gv'] 25) := ⟨_, rfl⟩
  have hB1 : Below w.heap.size w W1 := by rw [hW1]; exact below_twice _ _ _
  obtain ⟨⟨m0, m1⟩, ⟨n0, n1⟩⟩ := two_two w bv gv bv' gv' 25
  rw [← hW1] at m0 m1 n0 n1
  have CD := Lib.hid (efB_any 40 enters40 sameB (s1.below rBlock_stays hB1) (t1.below rBlock_stays hB1) (by have := hf.blocks; omega) (by have := hf'.blocks; omega) fun u x y v1 v2 u1 u2 _ mx my hx hy => sameb_any u x y v1 v2 u1 u2 hx hy (hf.block x mx) (hf'.block y my))
  have CC := Lib.hid (fun W2 (hb : Below W1.heap.size W1 W2) => efC_any 42 enters42 sameC ((s2.below rCon_stays hB1).below rCon_stays hb) ((t2.below rCon_stays hB1).below rCon_stays hb) (by have := hf.goal.1; omega) (by have := hf'.goal.1; omega) fun u x y v1 v2 v3 u1 u2 u3 _ mx my hx hy => samec_any u x y v1 v2 v3 u1 u2 u3 hx hy (short_more (hf.goal.2 x mx)) (short_more (hf'.goal.2 y my)))
  subst e1 e2 e3 e4
  have HB1 := Lib.hid hB1
  have HW1 := Lib.hid hW1
  have HM := Lib.hid (And.intro m1 n1)
  rw [show sameM m n = (listB sameB m.blocks n.blocks && listB sameC m.goal n.goal) from rfl]
  generalize listB sameB m.blocks n.blocks = A1 at CD ⊢
  generalize listB sameC m.goal n.goal = A2 at CC ⊢
  clear hW1 hB1 s1 s2 t1 t2 hf hf'
  cases A1
  · skip
    go_enter Try.func21, Try.ntmps21
    go_upto_region 1 with fail
    rw [← HW1.out]
    go_wp2_with fail
    refine CD.out.mono ?_
    rintro e w2 ⟨rfl, hB2⟩
    have HB2 := Lib.hid (HB1.out.trans (hB2.mono HB1.out.size))
    clear hB2
    go_wp2_with fail
    go_ret
    exact ⟨rfl, HB2.out⟩
  · skip
    go_enter Try.func21, Try.ntmps21
    go_upto_region 1 with fail
    rw [← HW1.out]
    go_wp2_with fail
    refine CD.out.mono ?_
    rintro e w2 ⟨rfl, hB2⟩
    have m1 := cell_stays hB2 HM.out.1
    have n1 := cell_stays hB2 HM.out.2
    have CC2 := Lib.hid (CC.out w2 hB2)
    have HB2 := Lib.hid (HB1.out.trans (hB2.mono HB1.out.size))
    clear hB2
    go_wp2_with fail
    refine CC2.out.mono ?_
    rintro e w3 ⟨rfl, hB3⟩
    have HB3 := Lib.hid (HB2.out.trans (hB3.mono HB2.out.size))
    clear hB3
    go_wp2_with fail
    go_ret
    exact ⟨rfl, HB3.out⟩
end Go.Proofs.Ythoakeekfajhaaa
