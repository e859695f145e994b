/-
  The tokens of a constraint, of the program.
-/
import Derived.Test.YtkgieaoahijheaaDoorZYBG
import Derived.Test.YtkgieaoahijheaaDoorZPRight
namespace Go.Proofs.YtkgieaoahijheaaDoor.Wt
open Go.RowKit
open Sc (Tok)
set_option maxRecDepth 100000

section
variable {b tb pb : Nat} {w u u' : World} {X : List UInt8} {L : List PDecl}
theorem con_some (nm : Int → Tok) (c : PCon) : conT nm c ≠ [] := by
  unfold conT sumsT
  split
  · simp
  · split <;> simp
open Classical in
/-- the answer of Con -/
noncomputable def conA (m : PModel) (c : PCon) : List UInt8 × Int := if checkM m = 0 then (if rightC c ((varsL m.blocks).length : Int) = true then ((spT (conT (nmT (namesM m)) c)).drop 1, 0) else ([], 12)) else ([], checkM m)
/-- the argument's own variable: a constraint's -/
structure Cb (w : World) (k : Nat) (cs : Array Value) (u : World) : Prop where
  row : u.heap[k]? = some (.cells cs 28)
  low : Below w.heap.size w u
theorem Cb.cell {k : Nat} {cs : Array Value} (h : Cb w k cs u) (j : Nat) : u.cell? ⟨k, j, none⟩ = cs[j]? := cell_of_row u k j cs 28 (0, 0) h.row
theorem Cb.ext {k : Nat} {cs : Array Value} (h : Cb w k cs u) (hB : Below u.heap.size u u') : Cb w k cs u' := ⟨(hB.block _ (Array.getElem?_eq_some_iff.1 h.row).1).trans h.row, h.low.trans (hB.mono h.low.size)⟩
theorem Cb.put {k : Nat} {cs : Array Value} (h : Cb w k cs u) (H : PutAt w.heap.size b tb pb X u) (hK : Kp w.heap.size b pb u u') : Cb w k cs u' := by
  refine ⟨hK.row h.row (fun e => ?_) (fun e => ?_) (by decide), h.low.trans hK.low⟩
  · obtain ⟨O, _, hO⟩ := H.bld
    have hr := h.row
    rw [e] at hr
    rcases hO with q | q
    · obtain ⟨_, v, hb, _⟩ := q
      rw [hr] at hb
      simp only [Option.some.injEq, Obj.cells.injEq] at hb
      exact absurd hb.2.1 (by decide)
    · obtain ⟨_, v, hb, _⟩ := q
      rw [hr] at hb
      simp only [Option.some.injEq, Obj.cells.injEq] at hb
      exact absurd hb.2.1 (by decide)
  · have hr := h.row
    have hb := H.part
    rw [← e, hr] at hb
    simp only [Option.some.injEq, Obj.cells.injEq] at hb
    exact absurd hb.2.1 (by decide)
theorem Cb.six {k : Nat} {y0 y1 y2 y3 y4 y5 : Value} (h : Cb w k #[y0, y1, y2, y3, y4, y5] u) : u.cell? ⟨k, 0, none⟩ = some y0 ∧ u.cell? ⟨k, 1, none⟩ = some y1 ∧ u.cell? ⟨k, 2, none⟩ = some y2 ∧ u.cell? ⟨k, 3, none⟩ = some y3 ∧ u.cell? ⟨k, 4, none⟩ = some y4 ∧ u.cell? ⟨k, 5, none⟩ = some y5 ∧ Cb w k #[y0, y1, y2, y3, y4, y5] u :=
  ⟨h.cell 0, h.cell 1, h.cell 2, h.cell 3, h.cell 4, h.cell 5, h⟩
theorem cbk {k : Nat} {y0 y1 y2 y3 y4 y5 : Value} (h : u.cell? ⟨k, 0, none⟩ = some y0 ∧ u.cell? ⟨k, 1, none⟩ = some y1 ∧ u.cell? ⟨k, 2, none⟩ = some y2 ∧ u.cell? ⟨k, 3, none⟩ = some y3 ∧ u.cell? ⟨k, 4, none⟩ = some y4 ∧ u.cell? ⟨k, 5, none⟩ = some y5 ∧ Cb w k #[y0, y1, y2, y3, y4, y5] u) (hB : Below u.heap.size u u') :
    u'.cell? ⟨k, 0, none⟩ = some y0 ∧ u'.cell? ⟨k, 1, none⟩ = some y1 ∧ u'.cell? ⟨k, 2, none⟩ = some y2 ∧ u'.cell? ⟨k, 3, none⟩ = some y3 ∧ u'.cell? ⟨k, 4, none⟩ = some y4 ∧ u'.cell? ⟨k, 5, none⟩ = some y5 ∧ Cb w k #[y0, y1, y2, y3, y4, y5] u' := (h.2.2.2.2.2.2.ext hB).six
theorem cbp {k : Nat} {y0 y1 y2 y3 y4 y5 : Value} (h : u.cell? ⟨k, 0, none⟩ = some y0 ∧ u.cell? ⟨k, 1, none⟩ = some y1 ∧ u.cell? ⟨k, 2, none⟩ = some y2 ∧ u.cell? ⟨k, 3, none⟩ = some y3 ∧ u.cell? ⟨k, 4, none⟩ = some y4 ∧ u.cell? ⟨k, 5, none⟩ = some y5 ∧ Cb w k #[y0, y1, y2, y3, y4, y5] u) (H : PutAt w.heap.size b tb pb X u) (hK : Kp w.heap.size b pb u u') :
    u'.cell? ⟨k, 0, none⟩ = some y0 ∧ u'.cell? ⟨k, 1, none⟩ = some y1 ∧ u'.cell? ⟨k, 2, none⟩ = some y2 ∧ u'.cell? ⟨k, 3, none⟩ = some y3 ∧ u'.cell? ⟨k, 4, none⟩ = some y4 ∧ u'.cell? ⟨k, 5, none⟩ = some y5 ∧ Cb w k #[y0, y1, y2, y3, y4, y5] u' := (h.2.2.2.2.2.2.put H hK).six
theorem cbl {k : Nat} {y0 y1 y2 y3 y4 y5 : Value} (h : u.cell? ⟨k, 0, none⟩ = some y0 ∧ u.cell? ⟨k, 1, none⟩ = some y1 ∧ u.cell? ⟨k, 2, none⟩ = some y2 ∧ u.cell? ⟨k, 3, none⟩ = some y3 ∧ u.cell? ⟨k, 4, none⟩ = some y4 ∧ u.cell? ⟨k, 5, none⟩ = some y5 ∧ Cb w k #[y0, y1, y2, y3, y4, y5] u) : Below w.heap.size w u := h.2.2.2.2.2.2.low
set_option maxHeartbeats 4000000 in
theorem pcon_bad {bv gv v1 v2 v3 : Value} {m : PModel} {c : PCon} (hm : rModel w [bv, gv] m) (hf : Few m) (hr : rCon w [.int .i64 c.kind, v1, v2, .int .i64 c.rel, .int .i64 c.const, v3] c) (hc : checkM m ≠ 0) :
    Calls Tryd.prog 8 #[.agg #[bv, gv], .agg #[.int .i64 c.kind, v1, v2, .int .i64 c.rel, .int .i64 c.const, v3]] w fun e w' => e = .returned (.tuple #[.string ⟨([] : List UInt8).toArray⟩, .int .i64 (checkM m)]) ∧ Below w.heap.size w w' := by
  obtain ⟨pb, bb, ob, cb, lb, pg, lg, cg, rfl, rfl, _, _⟩ := rModel_open hm
  obtain ⟨⟨q1, m1, d1, rfl⟩, ⟨q2, m2, d2, rfl⟩, ⟨q3, m3, d3, rfl⟩⟩ := rCon_shape hr
  have k1 := ((Below.refl _ w).alloc (Nat.le_refl _) (.cells #[.slice pb lb cb, .slice pg lg cg] 25)).alloc (by simp) (.cells #[.int .i64 c.kind, .slice q1 m1 d1, .slice q2 m2 d2, .int .i64 c.rel, .int .i64 c.const, .slice q3 m3 d3] 28)
  have C1 := Lib.hid (Go.Proofs.YtkgieaoahijheaaDoor.check_any (rModel_stays _ _ _ _ k1 hm) hf)
  have K1 := Lib.hid k1
  obtain ⟨ck, hck⟩ : ∃ ck, ck = checkM m := ⟨_, rfl⟩
  rw [← hck] at C1 hc ⊢
  have h1 : (ck == 0) = false := beq_eq_false_iff_ne.2 hc
  have h2 : (ck != 0) = true := by rw [bne, h1]; rfl
  clear hm hf k1 hck hc hr
  go_enter Tryd.func8, Tryd.ntmps8
  go_wp2_with fail
  refine C1.out.mono ?_
  rintro e w1 ⟨rfl, hB⟩
  have HB := Lib.hid (K1.out.trans (hB.mono K1.out.size))
  clear hB
  go_wp2_with fail
  go_ret2
  exact ⟨rfl, HB.out⟩
set_option maxHeartbeats 16000000 in
theorem pcon_good {bv gv v1 v2 v3 : Value} {m : PModel} {c : PCon} (hm : rModel w [bv, gv] m) (hf : Few m) (hr : rCon w [.int .i64 c.kind, v1, v2, .int .i64 c.rel, .int .i64 c.const, v3] c) (hs : Short 1000 c) (hc : checkM m = 0) (ht : Tb w.heap.size w) :
    Calls Tryd.prog 8 #[.agg #[bv, gv], .agg #[.int .i64 c.kind, v1, v2, .int .i64 c.rel, .int .i64 c.const, v3]] w fun e w' => e = .returned (.tuple #[.string ⟨(conA m c).1.toArray⟩, .int .i64 (conA m c).2]) ∧ Below w.heap.size w w' := by
  obtain ⟨pb, bb, ob, cb, lb, pg, lg, cg, rfl, rfl, _, _⟩ := rModel_open hm
  obtain ⟨⟨q1, m1, d1, rfl⟩, ⟨q2, m2, d2, rfl⟩, ⟨q3, m3, d3, rfl⟩⟩ := rCon_shape hr
  obtain ⟨L, hL⟩ : ∃ L, L = varsL m.blocks := ⟨_, rfl⟩
  have hLl : L.length ≤ 1000 := by rw [hL]; exact hf.few
  obtain ⟨rt, hrt⟩ : ∃ rt, rt = rightC c (L.length : Int) := ⟨_, rfl⟩
  have hans : conA m c = if rt = true then ((spT (conT (nmT (namesM m)) c)).drop 1, 0) else ([], 12) := by unfold conA; rw [if_pos hc, hrt, hL]
  obtain ⟨hd, hn⟩ := name_semi hc
  obtain ⟨O, o1, o2⟩ := con_tail hn c (con_some _ c)
  have hO : (spT (conT (nmT (namesM m)) c)).drop 1 = O := by rw [o1]; rfl
  rw [hO] at hans
  have hok : rt = true → ConOut (nmT (namesM m)) L c := fun h => by
    rw [hrt, hL] at h
    rw [hL]
    exact ⟨con_may (Nat.le_refl _) h, right_nz h⟩
  have hOl : rt = true → O.length ≤ 3000000 := fun h => by
    have := con_long (hok h).may (fun d hdd => by rw [hL] at hdd; have := (text_may hc).name d hdd; omega)
    rw [o1, List.length_cons] at this
    omega
  have k0 := (Below.refl _ w).alloc (Nat.le_refl _) (.cells #[.slice pb lb cb, .slice pg lg cg] 25)
  have s1 : (w.alloc (.cells #[.slice pb lb cb, .slice pg lg cg] 25)).heap.size = w.heap.size + 1 := by simp
  have k1 := k0.alloc (by omega) (.cells #[.int .i64 c.kind, .slice q1 m1 d1, .slice q2 m2 d2, .int .i64 c.rel, .int .i64 c.const, .slice q3 m3 d3] 28)
  have C1 := Lib.hid (Go.Proofs.YtkgieaoahijheaaDoor.check_any (rModel_stays _ _ _ _ k1 hm) hf)
  rw [hc] at C1
  have rw1 := heap_alloc_new (w.alloc (.cells #[.slice pb lb cb, .slice pg lg cg] 25)) (.cells #[.int .i64 c.kind, .slice q1 m1 d1, .slice q2 m2 d2, .int .i64 c.rel, .int .i64 c.const, .slice q3 m3 d3] 28)
  rw [s1] at rw1
  have HC1 := Lib.hid (show Cb w (w.heap.size + 1) #[.int .i64 c.kind, .slice q1 m1 d1, .slice q2 m2 d2, .int .i64 c.rel, .int .i64 c.const, .slice q3 m3 d3] _ from ⟨rw1, k1⟩)
  have HM1 := Lib.hid (show Mb w (.slice pb lb cb) (.slice pg lg cg) ((w.alloc (.cells #[.slice pb lb cb, .slice pg lg cg] 25)).alloc (.cells #[.int .i64 c.kind, .slice q1 m1 d1, .slice q2 m2 d2, .int .i64 c.rel, .int .i64 c.const, .slice q3 m3 d3] 28)) from ⟨(Lib.alloc_old _ _ _ (by omega)).trans (heap_alloc_new w _), k1⟩)
  have VX := Lib.hid (fun (u : World) (hb : Below w.heap.size w u) => show Calls Tryd.prog 16 #[.agg #[.slice pb lb cb, .slice pg lg cg]] u fun e w' => ∃ p n c, e = .returned (.slice p n c) ∧ (VarsIn w' p n c L ∧ n = L.length) ∧ Below u.heap.size u w' from (pvars_any (rModel_stays _ _ _ _ hb hm) hf).mono fun e w' ⟨v, e1, e2, e3, e4⟩ => by
    rw [← hL] at e2
    have q := e2
    obtain ⟨p, _, _, c, n, rfl, _, hsl⟩ := q
    exact ⟨p, n, c, e1, ⟨⟨e2, e3⟩, hsl.long⟩, e4⟩)
  have RX := Lib.hid (fun (u : World) (hb : Below w.heap.size w u) => pright_any (L.length : Int) (rCon_stays _ _ _ _ hb hr) hs)
  rw [← hrt] at RX
  have MX := Lib.hid (fun (u : World) (b tb pb2 : Nat) (p : Option Addr) (n cn : Nat) (hq : rt = true) (hP : PutAt w.heap.size b tb pb2 [] u) (hV : VarsIn u p n cn L) (hb : Below w.heap.size w u) => show Calls Tryd.prog 24 #[.agg #[.slice p n cn, putV tb pb2], .agg #[.int .i64 c.kind, .slice q1 m1 d1, .slice q2 m2 d2, .int .i64 c.rel, .int .i64 c.const, .slice q3 m3 d3]] u fun e w' => e = .returned (.tuple #[]) ∧ PutAt w.heap.size b tb pb2 (O ++ [32]) w' ∧ Kp w.heap.size b pb2 u w' from by
    obtain ⟨bn, on_, hk⟩ := nmk_of (nm := nmT (namesM m)) hP hV (by omega)
    have h := con_put (cn := cn) hP hk ⟨rfl, hb⟩ hr (hok hq) (by rw [o2, List.length_append]; have := hOl hq; simp; omega)
    rw [o2] at h
    exact h)
  have IX := Lib.hid (fun (u : World) (b : Nat) (h : Fresh w.heap.size b u) => into_any h)
  have HT := Lib.hid ht
  obtain ⟨R1, hR1⟩ : ∃ R1, R1 = (conA m c).1 := ⟨_, rfl⟩
  obtain ⟨R2, hR2⟩ : ∃ R2, R2 = (conA m c).2 := ⟨_, rfl⟩
  rw [← hR1, ← hR2]
  rw [hans] at hR1 hR2
  have HR1 := Lib.hid hR1
  have HR2 := Lib.hid hR2
  unfold putV at MX IX
  clear hm hf hr hs hc ht k0 k1 hd hn hans hR1 hR2 o1 o2 hO hok hOl s1 rw1 hrt hL
  go_enter Tryd.func8, Tryd.ntmps8
  go_wp2_with fail
  refine C1.out.mono ?_
  rintro e w1 ⟨rfl, hB⟩
  have hM2 := HM1.out.ext hB
  have hC2 := HC1.out.ext hB
  obtain ⟨x0, x1, _⟩ := hM2.cells
  have HM2 := Lib.hid hM2
  have HC2 := Lib.hid hC2
  clear hB hM2 hC2
  go_wp2_with fail
  refine (VX.out _ HM2.out.low).mono ?_
  rintro e w2 ⟨pn, ln, cn, rfl, ⟨hV, hln⟩, hB⟩
  subst hln
  have hC3 := HC2.out.ext hB
  obtain ⟨z0, z1, z2, z3, z4, z5, _⟩ := hC3.six
  have HV3 := Lib.hid hV
  have HC3 := Lib.hid hC3
  clear hB hV hC3 x0 x1
  go_wp2_with fail
  refine (RX.out _ HC3.out.low).mono ?_
  rintro e w3 ⟨rfl, hB⟩
  have hC4 := HC3.out.ext hB
  have HV4 := Lib.hid (HV3.out.ext hB)
  have HC4 := Lib.hid hC4
  clear hB hC4 z0 z1 z2 z3 z4 z5
  cases rt
  · go_wp2_with fail
    go_ret2
    have q1 : R1 = [] := by rw [HR1.out]; rfl
    have q2 : R2 = 12 := by rw [HR2.out]; rfl
    rw [q1, q2]
    exact ⟨rfl, HC4.out.low⟩
  · have hC5 := HC4.out.ext ((Below.refl _ w3).alloc (Nat.le_refl _) (.cells #[.pointer none, .slice none 0 0] 51))
    have HFR := Lib.hid (show Fresh w.heap.size w3.heap.size ((w3.alloc (.cells #[.pointer none, .slice none 0 0] 51)).drewN 1) from ⟨heap_alloc_new w3 _, HC4.out.low.size, HT.out.below (hC5.low.trans ((below_dr 1).mono hC5.low.size))⟩)
    have HVA := Lib.hid ((HV4.out.ext ((Below.refl _ w3).alloc (Nat.le_refl _) (.cells #[.pointer none, .slice none 0 0] 51))).ext (below_dr 1))
    have H0 := Lib.hid hC5.six
    obtain ⟨z0, z1, z2, z3, z4, z5, _⟩ := hC5.six
    clear hC5
    go_wp2_with fail
    clear z0 z1 z2 z3 z4 z5
    go_region_held3 (fun w' => w'.cell? ⟨w.heap.size + 1, 0, none⟩ = some (.int .i64 c.kind) ∧ w'.cell? ⟨w.heap.size + 1, 1, none⟩ = some (.slice q1 m1 d1) ∧ w'.cell? ⟨w.heap.size + 1, 2, none⟩ = some (.slice q2 m2 d2) ∧ w'.cell? ⟨w.heap.size + 1, 3, none⟩ = some (.int .i64 c.rel) ∧ w'.cell? ⟨w.heap.size + 1, 4, none⟩ = some (.int .i64 c.const) ∧ w'.cell? ⟨w.heap.size + 1, 5, none⟩ = some (.slice q3 m3 d3) ∧ Cb w (w.heap.size + 1) #[.int .i64 c.kind, .slice q1 m1 d1, .slice q2 m2 d2, .int .i64 c.rel, .int .i64 c.const, .slice q3 m3 d3] w')
      (first | exact cbk (by assumption) (by assumption) | exact cbp (by assumption) HPA.out (by assumption) | exact cbk H0.out (below_dr 1))
      (first
        | (go_at_call 17; refine (IX.out _ _ HFR.out).mono ?_; rintro e u2 ⟨tb, pb2, rfl, hPi, hBi⟩; have HPA := Lib.hid hPi; have HVB := Lib.hid (HVA.out.ext hBi); clear hPi)
        | (go_at_call 24; refine (MX.out _ _ _ _ _ _ _ (by trivial) HPA.out HVB.out (cbl (by assumption))).mono ?_; rintro e u3 ⟨rfl, hPm, hKm⟩; have HPM := Lib.hid hPm; clear hPm))
    have HLOW := Lib.hid (cbl (by assumption : u3.cell? ⟨w.heap.size + 1, 0, none⟩ = some (.int .i64 c.kind) ∧ u3.cell? ⟨w.heap.size + 1, 1, none⟩ = some (.slice q1 m1 d1) ∧ u3.cell? ⟨w.heap.size + 1, 2, none⟩ = some (.slice q2 m2 d2) ∧ u3.cell? ⟨w.heap.size + 1, 3, none⟩ = some (.int .i64 c.rel) ∧ u3.cell? ⟨w.heap.size + 1, 4, none⟩ = some (.int .i64 c.const) ∧ u3.cell? ⟨w.heap.size + 1, 5, none⟩ = some (.slice q3 m3 d3) ∧ Cb w (w.heap.size + 1) #[.int .i64 c.kind, .slice q1 m1 d1, .slice q2 m2 d2, .int .i64 c.rel, .int .i64 c.const, .slice q3 m3 d3] u3))
    obtain ⟨P, eP, hP⟩ := HPM.out.bld
    rw [tail_sp] at eP
    have eP2 : O = P := List.append_cancel_right eP
    rw [← eP2] at hP
    have SG := Lib.hid (Tryd.Builder_String_any_k w.heap.size w3.heap.size O u3 hP HPM.out.size)
    clear hP eP eP2
    go_wp2_with fail
    refine SG.out.mono ?_
    rintro e w6 ⟨rfl, _, hB6, _⟩
    have HB6 := Lib.hid (HLOW.out.trans hB6)
    clear hB6
    go_wp2_with fail
    go_ret2
    have q1 : R1 = O := by rw [HR1.out]; rfl
    have q2 : R2 = 0 := by rw [HR2.out]; rfl
    rw [q1, q2]
    exact ⟨rfl, HB6.out⟩
theorem pcon_any {bv gv v1 v2 v3 : Value} {m : PModel} {c : PCon} (hm : rModel w [bv, gv] m) (hf : Few m) (hr : rCon w [.int .i64 c.kind, v1, v2, .int .i64 c.rel, .int .i64 c.const, v3] c) (hs : Short 1000 c) (ht : Tb w.heap.size w) :
    Calls Tryd.prog 8 #[.agg #[bv, gv], .agg #[.int .i64 c.kind, v1, v2, .int .i64 c.rel, .int .i64 c.const, v3]] w fun e w' => e = .returned (.tuple #[.string ⟨(conA m c).1.toArray⟩, .int .i64 (conA m c).2]) ∧ Below w.heap.size w w' := by
  by_cases h : checkM m = 0
  · exact pcon_good hm hf hr hs h ht
  · have e : conA m c = ([], checkM m) := by unfold conA; rw [if_neg h]
    rw [e]
    exact pcon_bad hm hf hr h
end
end Go.Proofs.YtkgieaoahijheaaDoor.Wt
