/-
  What Check of package model answers, at every model that can be read and whose lists are short.
  What Right of the document's answers for models answers, at every constraint that can be read.
  What Check of the document's answers answers, at every model that can be read and whose lists are short.
  The text of a model, of the document's answers.
  Constraints, and lists of them, as the writer puts them out.
  A variable, as the writer puts it out.
-/
import Derived.Test.YtkgieaoahijheaaGreatDoorZYAO
import Derived.Laws.EntriesVeiled
import Derived.Test.YtkgieaoahijheaaGreatDoorZYAG
import Derived.Deep.RegionHeld3
import Derived.Test.YtkgieaoahijheaaGreatDoorZYAN
import Derived.Test.YtkgieaoahijheaaGreatDoorZYAB
import Derived.Deep.DeepCutAuto
import Derived.Deep.CutBlock
namespace Go.Proofs.YtkgieaoahijheaaGreatDoor
open Go.RowKit
set_option maxRecDepth 100000

/-- the faults in memory, place by place: a function and an error each -/
structure Faults (w : World) (b off : Nat) : Prop where
  c0 : w.cell? ⟨b, off + 0 * 2, none⟩ = some (.func (.func 45) #[] #[]) ∧ w.cell? ⟨b, off + 0 * 2 + 1, none⟩ = some (.int .i64 5)
  c1 : w.cell? ⟨b, off + 1 * 2, none⟩ = some (.func (.func 46) #[] #[]) ∧ w.cell? ⟨b, off + 1 * 2 + 1, none⟩ = some (.int .i64 2)
  c2 : w.cell? ⟨b, off + 2 * 2, none⟩ = some (.func (.func 47) #[] #[]) ∧ w.cell? ⟨b, off + 2 * 2 + 1, none⟩ = some (.int .i64 7)
  c3 : w.cell? ⟨b, off + 3 * 2, none⟩ = some (.func (.func 48) #[] #[]) ∧ w.cell? ⟨b, off + 3 * 2 + 1, none⟩ = some (.int .i64 8)
  c4 : w.cell? ⟨b, off + 4 * 2, none⟩ = some (.func (.func 49) #[] #[]) ∧ w.cell? ⟨b, off + 4 * 2 + 1, none⟩ = some (.int .i64 1)
  c5 : w.cell? ⟨b, off + 5 * 2, none⟩ = some (.func (.func 50) #[] #[]) ∧ w.cell? ⟨b, off + 5 * 2 + 1, none⟩ = some (.int .i64 12)
set_option maxRecDepth 100000 in
set_option maxHeartbeats 1000000 in
theorem faults_any (w : World) : Calls Tryz.prog 24 #[] w fun e w' => ∃ b off : Nat, e = .returned (.slice (some ⟨b, off, none⟩) 6 6) ∧ Faults w' b off ∧ Below w.heap.size w w' := by
  go_enter Tryz.func24, Tryz.ntmps24
  go_wp2_with fail
  go_ret
  refine ⟨_, _, rfl, ⟨⟨?_, ?_⟩, ⟨?_, ?_⟩, ⟨?_, ?_⟩, ⟨?_, ?_⟩, ⟨?_, ?_⟩, ⟨?_, ?_⟩⟩, (Below.refl _ w).alloc (Nat.le_refl _) _⟩ <;> go_simp

theorem enters45 : Enters Tryz.prog 45 := enters_of Tryz.func45 (by kernel_rfl) rfl
theorem enters46 : Enters Tryz.prog 46 := enters_of Tryz.func46 (by kernel_rfl) rfl
theorem enters47 : Enters Tryz.prog 47 := enters_of Tryz.func47 (by kernel_rfl) rfl
theorem enters48 : Enters Tryz.prog 48 := enters_of Tryz.func48 (by kernel_rfl) rfl
theorem enters49 : Enters Tryz.prog 49 := enters_of Tryz.func49 (by kernel_rfl) rfl
theorem enters50 : Enters Tryz.prog 50 := enters_of Tryz.func50 (by kernel_rfl) rfl

theorem fault_at {w u : World} {b off : Nat} {pb : Option Addr} {bb ob cb lb : Nat} {pg : Option Addr} {lg cg : Nat} {m : PModel} (hF : Faults u b off) (h : Mo w pb bb ob cb lb pg lg cg m) (hc : (pb = none → cb = 0) ∧ lb ≤ cb) (hf : Few m) (k : Nat) (hk : k < 6) :
    ∃ (g : Nat) (B : Bool) (e : Int), (faultsM m)[k]? = some (B, e) ∧ u.cell? ⟨b, off + k * 2, none⟩ = some (.func (.func g) #[] #[]) ∧ u.cell? ⟨b, off + k * 2 + 1, none⟩ = some (.int .i64 e) ∧ Enters Tryz.prog g ∧
      ∀ v, Below w.heap.size w v → Calls Tryz.prog g #[.agg #[.slice pb lb cb, .slice pg lg cg]] v fun e' w' => e' = .returned (.bool B) ∧ Below v.heap.size v w' := by
  match k, hk with
  | 0, _ => exact ⟨45, _, _, rfl, hF.c0.1, hF.c0.2, enters45, fun v hv => big_cells pb bb ob cb lb pg lg cg m v (h.below hv) hf⟩
  | 1, _ => exact ⟨46, _, _, rfl, hF.c1.1, hF.c1.2, enters46, fun v hv => form_cells pb bb ob cb lb pg lg cg m v (h.below hv) hc hf⟩
  | 2, _ => exact ⟨47, _, _, rfl, hF.c2.1, hF.c2.2, enters47, fun v hv => name_cells pb bb ob cb lb pg lg cg m v (h.below hv) hc hf⟩
  | 3, _ => exact ⟨48, _, _, rfl, hF.c3.1, hF.c3.2, enters48, fun v hv => twice_cells pb bb ob cb lb pg lg cg m v (h.below hv) hc hf⟩
  | 4, _ => exact ⟨49, _, _, rfl, hF.c4.1, hF.c4.2, enters49, fun v hv => dom_cells pb bb ob cb lb pg lg cg m v (h.below hv) hc hf⟩
  | 5, _ => exact ⟨50, _, _, rfl, hF.c5.1, hF.c5.2, enters50, fun v hv => con_cells pb bb ob cb lb pg lg cg m v (h.below hv) hf⟩
theorem first_at {L : List (Bool × Int)} {k : Nat} {B : Bool} {e : Int} (h : L[k]? = some (B, e)) : firstF (L.drop k) = if B = true then e else firstF (L.drop (k + 1)) := by
  obtain ⟨hk, ex⟩ := List.getElem?_eq_some_iff.1 h
  rw [List.drop_eq_getElem_cons hk, ex, firstF]

set_option maxRecDepth 100000 in
set_option maxHeartbeats 2000000 in
theorem check_cells (pb : Option Addr) (bb ob cb lb : Nat) (pg : Option Addr) (lg cg : Nat) (m : PModel) (w : World) (h : Mo w pb bb ob cb lb pg lg cg m) (hc : (pb = none → cb = 0) ∧ lb ≤ cb) (hf : Few m) :
    Calls Tryz.prog 12 #[.agg #[.slice pb lb cb, .slice pg lg cg]] w fun e w' => e = .returned (.int .i64 (checkM m)) ∧ Below w.heap.size w w' := by
  obtain ⟨R, hR⟩ : ∃ R, R = checkM m := ⟨_, rfl⟩
  rw [← hR]
  obtain ⟨W0, hW0⟩ : ∃ W0, W0 = w.alloc (.cells #[.slice pb lb cb, .slice pg lg cg] 25) := ⟨_, rfl⟩
  have hB0 : Below w.heap.size w W0 := by rw [hW0]; exact (Below.refl _ w).alloc (Nat.le_refl _) _
  have m0 : W0.cell? ⟨w.heap.size, 0, none⟩ = some (.slice pb lb cb) := by rw [hW0]; go_simp
  have m1 : W0.cell? ⟨w.heap.size, 1, none⟩ = some (.slice pg lg cg) := by rw [hW0]; go_simp
  obtain ⟨W1, hW1⟩ : ∃ W1, W1 = W0.alloc (.cells #[.slice pb lb cb, .slice pg lg cg] 75) := ⟨_, rfl⟩
  have hB1 : Below W0.heap.size W0 W1 := by rw [hW1]; exact (Below.refl _ W0).alloc (Nat.le_refl _) _
  have n0 : W1.cell? ⟨W0.heap.size, 0, none⟩ = some (.slice pb lb cb) := by rw [hW1]; go_simp
  have n1 : W1.cell? ⟨W0.heap.size, 1, none⟩ = some (.slice pg lg cg) := by rw [hW1]; go_simp
  have hsz : W0.heap.size = w.heap.size + 1 := by rw [hW0]; simp
  have HW := Lib.hid hW0
  have HW1 := Lib.hid hW1
  have HB1 := Lib.hid (hB0.trans (hB1.mono hB0.size))
  have HM := Lib.hid h
  have HF := Lib.hid hf
  have HC := Lib.hid hc
  have HS := Lib.hid (show R = firstF ((faultsM m).drop 0) from hR)
  clear hR h hf hc hW0 hB0 hW1 hB1
  go_enter Tryz.func12, Tryz.ntmps12
  go_upto_region 1 with fail
  rw [← HW.out]
  rw [hsz] at n0 n1
  have HN := Lib.hid (And.intro n0 n1)
  clear n0 n1
  go_upto_region 2 with fail
  rw [← HW1.out]
  clear m0 m1
  go_wp2_with fail
  refine (faults_any W1).mono ?_
  rintro e W2 ⟨b, off, rfl, hFa, hB2⟩
  have HFA := Lib.hid hFa
  have HN := Lib.hid (And.intro (cell_stays hB2 HN.out.1) (cell_stays hB2 HN.out.2))
  have HB2 := Lib.hid (HB1.out.trans (hB2.mono HB1.out.size))
  clear hFa hB2 hsz
  go_wp2_with fail
  go_loopw [10] (fun i wr => ∃ k : Nat, k ≤ 6 ∧ i = .int .i64 k ∧ R = firstF ((faultsM m).drop k) ∧ Below W2.heap.size W2 wr) (fun i _ => 6 - (intOf i).toNat)
  case atStart => exact ⟨0, by omega, rfl, HS.out, Below.refl _ _⟩
  case round =>
    obtain ⟨k, hk, rfl, hrel, hB⟩ := hrel
    by_cases hlt : k < 6
    · obtain ⟨g, B, e, ex, a0, a1, hE, hC⟩ := fault_at HFA.out HM.out HC.out HF.out k hlt
      have a0 := cell_stays hB a0
      have a1 := cell_stays hB a1
      have hstep := hrel.trans (first_at ex)
      obtain ⟨W3, hW3⟩ : ∃ W3, W3 = wr.alloc (.cells #[.func (.func g) #[] #[], .int .i64 e] 80) := ⟨_, rfl⟩
      have hB3 : Below wr.heap.size wr W3 := by rw [hW3]; exact (Below.refl _ wr).alloc (Nat.le_refl _) _
      have q0 : W3.cell? ⟨wr.heap.size, 0, none⟩ = some (.func (.func g) #[] #[]) := by rw [hW3]; go_simp
      have q1 : W3.cell? ⟨wr.heap.size, 1, none⟩ = some (.int .i64 e) := by rw [hW3]; go_simp
      have hBB := hB.trans (hB3.mono hB.size)
      have n0 := cell_stays hBB HN.out.1
      have n1 := cell_stays hBB HN.out.2
      have HW3 := Lib.hid hW3
      have HB3 := Lib.hid hBB
      have HE := Lib.hid hE
      have C := Lib.hid (hC W3 (HB2.out.trans (hBB.mono HB2.out.size)))
      clear hrel hB ex hE hC hW3 hB3 hBB
      cases B
      · rw [if_neg (by simp)] at hstep
        have NX := Lib.hid hstep
        clear hstep
        go_upto_region 5 with fail
        rw [← HW3.out]
        clear a0 a1
        go_wp2_with fail
        simp only [HE.out _ _]
        refine C.out.mono ?_
        rintro e' w4 ⟨rfl, hB4⟩
        have HB4 := Lib.hid (HB3.out.trans (hB4.mono HB3.out.size))
        clear hB4 q0 q1 n0 n1
        go_wp2_with fail
        go_roundw
        case rel => exact ⟨k + 1, by omega, by go_num, NX.out, HB4.out⟩
        case measure => simp [intOf]; omega
      · rw [if_pos rfl] at hstep
        subst hstep
        go_upto_region 5 with fail
        rw [← HW3.out]
        clear a0 a1
        go_wp2_with fail
        simp only [HE.out _ _]
        refine C.out.mono ?_
        rintro e' w4 ⟨rfl, hB4⟩
        have q1 := cell_stays hB4 q1
        have HB4 := Lib.hid (HB3.out.trans (hB4.mono HB3.out.size))
        clear hB4 q0 n0 n1
        go_wp2_with fail
        go_ret
        exact ⟨rfl, HB2.out.trans (HB4.out.mono HB2.out.size)⟩
    · have key : R = 0 := by
        obtain rfl : k = 6 := by omega
        exact hrel
      subst key
      have HB := Lib.hid hB
      clear hrel hB
      go_wp2_with fail
      go_ret
      exact ⟨rfl, HB2.out.trans (HB.out.mono HB2.out.size)⟩
theorem rModel_open {w : World} {bv gv : Value} {m : PModel} (h : rModel w [bv, gv] m) : ∃ (pb : Option Addr) (bb ob cb lb : Nat) (pg : Option Addr) (lg cg : Nat), bv = .slice pb lb cb ∧ gv = .slice pg lg cg ∧ ((pb = none → cb = 0) ∧ lb ≤ cb) ∧ Mo w pb bb ob cb lb pg lg cg m := by
  obtain ⟨v1, v2, e, ⟨p, b, off, c, len, h2, hc, h3⟩, h4⟩ := h
  simp only [List.cons.injEq, and_true] at e
  obtain ⟨rfl, rfl⟩ := e
  obtain ⟨pg, bg, og, cg, lg, rfl, hg⟩ := Slc.open_ h4
  exact ⟨p, b, off, c, len, pg, lg, cg, h2, rfl, hc, ⟨h3, h4⟩, hg.long⟩
theorem check_any {w : World} {bv gv : Value} {m : PModel} (h : rModel w [bv, gv] m) (hf : Few m) :
    Calls Tryz.prog 12 #[.agg #[bv, gv]] w fun e w' => e = .returned (.int .i64 (checkM m)) ∧ Below w.heap.size w w' := by
  obtain ⟨pb, bb, ob, cb, lb, pg, lg, cg, rfl, rfl, hc, hm⟩ := rModel_open h
  exact check_cells pb bb ob cb lb pg lg cg m w hm hc hf
end Go.Proofs.YtkgieaoahijheaaGreatDoor
namespace Go.Proofs.YtkgieaoahijheaaGreatDoor
open Go.RowKit
set_option maxRecDepth 100000

theorem eqInt (a b : Int) (W : World) : Sem.run Tryz.prog (binOp .eql 3 (.int .i64 a) (.int .i64 b)) W = .ok (.bool (a == b)) W := by go_simp

end Go.Proofs.YtkgieaoahijheaaGreatDoor
namespace Go.Proofs.YtkgieaoahijheaaGreatDoor
open Go.RowKit
set_option maxRecDepth 100000

noncomputable def endK (m : PModel) (fo wb : Bool) : Int := if fo = true then 2 else if nameM m = true then 7 else if twiceM m = true then 8 else if domM m = true then 1 else if wb = true then 12 else 0
theorem check_is (m : PModel) : checkM m = if bigM m = true then 5 else endK m (formM m) (conM m) := by
  simp only [checkM, faultsM, firstF, endK]
theorem ends_get : ∀ (bs : List PBlock) (n k : Nat), k < bs.length → (endsF n bs).getD k 0 = ((n + (varsL (bs.take (k + 1))).length : Nat) : Int)
  | [], _, _, h => by simp at h
  | x :: r, n, 0, _ => by simp [endsF, varsL]
  | x :: r, n, k + 1, h => by
    have := ends_get r (n + x.vars.length) k (by simpa using h)
    rw [endsF, List.getD_cons_succ, this]
    have e : varsL ((x :: r).take (k + 1 + 1)) = x.vars ++ varsL (r.take (k + 1)) := by simp [varsL]
    rw [e, List.length_append]
    omega
theorem dec_zero (n : Nat) : decide (n = 0) = ((n : Int) == 0) := by
  by_cases h : n = 0
  · subst h; rfl
  · rw [decide_eq_false h]
    exact (beq_eq_false_iff_ne.2 (by omega)).symm
theorem hold11 {W0 u u' : World} {p0 p1 p2 p3 p4 p5 p6 p7 p8 : Addr} {a0 a1 a2 a3 a4 a5 a6 a7 a8 : Value} (h : u.cell? p0 = some a0 ∧ u.cell? p1 = some a1 ∧ u.cell? p2 = some a2 ∧ u.cell? p3 = some a3 ∧ u.cell? p4 = some a4 ∧ u.cell? p5 = some a5 ∧ u.cell? p6 = some a6 ∧ u.cell? p7 = some a7 ∧ u.cell? p8 = some a8 ∧ Hid (Below W0.heap.size W0 u)) (hb : Below u.heap.size u u') :
    u'.cell? p0 = some a0 ∧ u'.cell? p1 = some a1 ∧ u'.cell? p2 = some a2 ∧ u'.cell? p3 = some a3 ∧ u'.cell? p4 = some a4 ∧ u'.cell? p5 = some a5 ∧ u'.cell? p6 = some a6 ∧ u'.cell? p7 = some a7 ∧ u'.cell? p8 = some a8 ∧ Hid (Below W0.heap.size W0 u') :=
  ⟨cell_stays hb h.1, cell_stays hb h.2.1, cell_stays hb h.2.2.1, cell_stays hb h.2.2.2.1, cell_stays hb h.2.2.2.2.1, cell_stays hb h.2.2.2.2.2.1, cell_stays hb h.2.2.2.2.2.2.1, cell_stays hb h.2.2.2.2.2.2.2.1, cell_stays hb h.2.2.2.2.2.2.2.2.1, Lib.hid (h.2.2.2.2.2.2.2.2.2.out.trans (hb.mono h.2.2.2.2.2.2.2.2.2.out.size))⟩
theorem hold11b {W0 u : World} {p0 p1 p2 p3 p4 p5 p6 p7 p8 : Addr} {a0 a1 a2 a3 a4 a5 a6 a7 a8 : Value} (h : u.cell? p0 = some a0 ∧ u.cell? p1 = some a1 ∧ u.cell? p2 = some a2 ∧ u.cell? p3 = some a3 ∧ u.cell? p4 = some a4 ∧ u.cell? p5 = some a5 ∧ u.cell? p6 = some a6 ∧ u.cell? p7 = some a7 ∧ u.cell? p8 = some a8 ∧ Hid (Below W0.heap.size W0 u)) : Below W0.heap.size W0 u := h.2.2.2.2.2.2.2.2.2.out

end Go.Proofs.YtkgieaoahijheaaGreatDoor
namespace Go.Proofs.YtkgieaoahijheaaGreatDoor.Wt
open Go.RowKit
open Sc (Tok)
set_option maxRecDepth 100000

section
variable {nm : Int → Tok} {w w' : World} {pn : Option Addr} {bn on_ ln cn : Nat} {L : List PDecl}
theorem rblock_at {p : Option Addr} {b off len : Nat} {l : List PBlock} (h : SliceOf rBlock 3 w p b off len l) {k : Nat} (hk : k < len) :
    ∃ (x : PBlock) (v1 v2 : Value), l[k]? = some x ∧ w.cell? ⟨b, off + k * 3, none⟩ = some (.bool x.all) ∧ w.cell? ⟨b, off + k * 3 + 1, none⟩ = some v1 ∧ w.cell? ⟨b, off + k * 3 + 2, none⟩ = some v2 ∧ Slc rDecl 2 w v1 x.vars ∧ Slc rCon 6 w v2 x.cons := by
  have hx : k < l.length := by rw [← h.long]; exact hk
  have e : l[k]? = some l[k] := List.getElem?_eq_getElem hx
  obtain ⟨cs, h1, h2, v1, v2, e3, s1, s2⟩ := h.cell k _ e
  subst e3
  exact ⟨_, v1, v2, e, h2 0 (by omega), h2 1 (by omega), h2 2 (by omega), s1, s2⟩
theorem rspan_at {p : Option Addr} {b off len : Nat} {l : List (Int × Int)} (h : SliceOf rSpan 2 w p b off len l) {k : Nat} (hk : k < len) :
    ∃ (x : Int × Int), l[k]? = some x ∧ w.cell? ⟨b, off + k * 2, none⟩ = some (.int .i64 x.1) ∧ w.cell? ⟨b, off + k * 2 + 1, none⟩ = some (.int .i64 x.2) := by
  have hx : k < l.length := by rw [← h.long]; exact hk
  have e : l[k]? = some l[k] := List.getElem?_eq_getElem hx
  obtain ⟨cs, h1, h2, h3⟩ := h.cell k _ e
  have h4 : cs = [.int .i64 l[k].1, .int .i64 l[k].2] := h3.1
  subst h4
  exact ⟨_, e, h2 0 (by omega), h2 1 (by omega)⟩
theorem slc_parts {α : Type} {R : Reader α} {n : Nat} {v : Value} {l : List α} (h : Slc R n w v l) : ∃ (p : Option Addr) (b off len c : Nat), v = .slice p len c ∧ len = l.length ∧ SliceOf R n w p b off len l := by
  obtain ⟨p, b, off, c, len, e, _, h2⟩ := h
  exact ⟨p, b, off, len, c, e, h2.long, h2⟩
theorem list_long (hd : ∀ d ∈ L, d.name.length ≤ 1000) : ∀ (l : List PCon), (∀ c ∈ l, ConM nm L c) → (spT (listT nm l)).length ≤ 3000010 * l.length + 10
  | [], _ => by simp [listT, spT, tW, Pa.tTrue]
  | c :: l, h => by
    have h1 := con_long (h c (by simp)) hd
    have h2 : ∀ (l : List PCon), (∀ c ∈ l, ConM nm L c) → (spT (l.flatMap fun c => tW Pa.tAnd :: conT nm c)).length ≤ 3000010 * l.length := by
      intro l
      induction l with
      | nil => intro _; simp [spT]
      | cons d l ih =>
        intro hh
        have q1 := con_long (hh d (by simp)) hd
        have q2 := ih (fun x hx => hh x (by simp [hx]))
        have e : spT ((d :: l).flatMap fun c => tW Pa.tAnd :: conT nm c) = [32, 97, 110, 100] ++ (spT (conT nm d) ++ spT (l.flatMap fun c => tW Pa.tAnd :: conT nm c)) := by simp [spT, tW, Pa.tAnd, List.flatMap_append]
        rw [e]
        simp only [List.length_append, List.length_cons, List.length_nil]
        omega
    have h3 := h2 l (fun x hx => h x (by simp [hx]))
    show (spT (conT nm c ++ l.flatMap fun c => tW Pa.tAnd :: conT nm c)).length ≤ _
    rw [sp_app, List.length_append, List.length_cons]
    omega
theorem span_long {p : Int × Int} (h : Num p.1 ∧ Num p.2) : (spT (spanT p)).length ≤ 50 := by
  have h1 := numT_long (z := p.1) (by have := h.1; unfold Num Sc.mostV at this; omega)
  have h2 := numT_long (z := p.2) (by have := h.2; unfold Num Sc.mostV at this; omega)
  unfold spanT
  split
  · rw [sp_app, List.length_append]
    simp [spT] at *
    omega
  · have e : spT (numT p.1 ++ tM Pa.tDots :: numT p.2) = spT (numT p.1) ++ ([32, 46, 46] ++ spT (numT p.2)) := by simp [spT, tM, Pa.tDots]
    rw [e]
    simp only [List.length_append, List.length_cons, List.length_nil]
    omega
/-- the answer of Text -/
noncomputable def textA (m : PModel) : List UInt8 × Int := if checkM m = 0 then (if 4000 < (textL (nmT (namesM m)) m).length then ([], 5) else (textL (nmT (namesM m)) m, 0)) else ([], checkM m)
end
end Go.Proofs.YtkgieaoahijheaaGreatDoor.Wt
namespace Go.Proofs.YtkgieaoahijheaaGreatDoor.Wt
open Go.RowKit
open Sc (Tok)
set_option maxRecDepth 100000

section
variable {B b tb pb k kc : Nat} {W w0 u u' : World} {X : List UInt8} {pn : Option Addr} {bn on_ ln cn : Nat} {L : List PDecl} {nm : Int → Tok}
/-- where the arguments lay when the call began -/
structure Base (B : Nat) (w0 W : World) : Prop where
  eq : w0.heap.size = B
  low : Below B w0 W
theorem Base.move (h : Base B w0 W) (hK : Kp B b pb W u) : Base B w0 u := ⟨h.eq, h.low.trans hK.low⟩
theorem Base.read {α : Type} {R : Reader α} (hR : R.Stays) (h : Base B w0 W) {cs : List Value} {a : α} (ha : R w0 cs a) : R W cs a := hR _ _ _ _ (by rw [h.eq]; exact h.low) ha
theorem Base.slc {α : Type} {R : Reader α} (hR : R.Stays) {n : Nat} (h : Base B w0 W) {v : Value} {l : List α} (ha : Slc R n w0 v l) : Slc R n W v l := ha.below hR (by rw [h.eq]; exact h.low)
/-- a constraint that may be put out -/
structure ConOut (nm : Int → Tok) (L : List PDecl) (c : PCon) : Prop where
  may : ConM nm L c
  nz : ∀ k ∈ c.coefs, k ≠ 0
theorem con_put (H : PutAt B b tb pb X W) (K : NmK B b pb W pn bn on_ ln L nm) (hb : Base B w0 W) {u1 u2 u3 : Value} {c : PCon} (hr : rCon w0 [.int .i64 c.kind, u1, u2, .int .i64 c.rel, .int .i64 c.const, u3] c) (hc : ConOut nm L c) (hX : X.length + (putT (conT nm c)).length ≤ 100000000000) :
    Calls Tryz.prog 23 #[.agg #[.slice pn ln cn, putV tb pb], .agg #[.int .i64 c.kind, u1, u2, .int .i64 c.rel, .int .i64 c.const, u3]] W fun e w' => e = .returned (.tuple #[]) ∧ PutAt B b tb pb (X ++ putT (conT nm c)) w' ∧ Kp B b pb W w' := by
  obtain ⟨w1, w2, w3, e, _, s1, s2, s3⟩ := hr
  simp only [List.cons.injEq, and_true, true_and] at e
  obtain ⟨rfl, rfl, rfl⟩ := e
  obtain ⟨⟨h1, h2, h3, h4, h5, h6, h7, h8⟩, hz⟩ := hc
  obtain ⟨p1, b1, o1, c1, l1, rfl, q1, n1⟩ := nums_kept (fun u (hu : Kp B b pb W u) => (hb.move hu).slc rNum_stays s1)
  obtain ⟨p2, b2, o2, c2, l2, rfl, q2, n2⟩ := nums_kept (fun u (hu : Kp B b pb W u) => (hb.move hu).slc rNum_stays s2)
  obtain ⟨p3, b3, o3, c3, l3, rfl, q3, n3⟩ := nums_kept (fun u (hu : Kp B b pb W u) => (hb.move hu).slc rNum_stays s3)
  have m1 := (n1 W (Kp.refl W)).long
  have m2 := (n2 W (Kp.refl W)).long
  have m3 := (n3 W (Kp.refl W)).long
  have hv : VarK L nm c.vars := fun v hv => ⟨h4 v hv, h5 v hv⟩
  have hns : ∀ z ∈ c.nums, z.natAbs ≤ 9000000000000000000 := fun z hz => by have := h8 z hz; omega
  cases h1 with
  | lin vs ks rel const h h0 hr =>
    exact con_lin_put H K vs ks rel const p1 p2 p3 b1 o1 l1 c1 b2 o2 l2 c2 l3 c3 n1 n2 ⟨h, hv, fun k hk => ⟨hz k hk, h6 k hk⟩, by simp only at m1 m2 h2; omega⟩ hr h7 hX
  | iff v vs ks rel const h h0 hr =>
    obtain ⟨m, rfl⟩ : ∃ m, c1 = m + 1 := ⟨c1 - 1, by simp only [List.length_cons] at m1; omega⟩
    have e1 : l1 = vs.length + 1 := m1
    have e2 : l2 = vs.length := by rw [m2]; exact h.symm
    subst e1 e2
    obtain rfl := (n1 W (Kp.refl W)).at_ (by omega)
    have hvl : 0 < vs.length := List.length_pos_iff.2 h0
    have T : ∀ u, Kp B b pb W u → Nums u (some ⟨b1, o1 + 1, none⟩) b1 (o1 + 1) vs.length vs := fun u hu => ⟨rfl, fun _ => rfl, fun k hk => by
      have := (n1 u hu).cell (k + 1) (by omega)
      rw [show o1 + (k + 1) = o1 + 1 + k by omega] at this
      exact this, fun k hk => (n1 u hu).fit (k + 1) (by omega)⟩
    exact con_iff_put H K v vs ks rel const p2 p3 b1 o1 vs.length m b2 o2 c2 l3 c3 (fun u hu => (n1 u hu).cell 0 (by omega)) ((n1 W (Kp.refl W)).fit 0 (by omega)) (fun x hx => by rw [List.mem_singleton.1 hx]; exact hv v (by simp)) (by omega) hvl T n2
      ⟨h, fun x hx => hv x (List.mem_cons_of_mem _ hx), fun k hk => ⟨hz k hk, h6 k hk⟩, by simp only [List.length_cons] at h2; omega⟩ hr h7 hX
  | product vs h => exact con_product_put H K vs p1 p2 p3 b1 o1 l1 c1 l2 c2 l3 c3 n1 (by simp only at m1 h2; omega) hv hX
  | element vs ns h hn' => exact con_element_put H K vs ns p1 p2 p3 b1 o1 l1 c1 l2 c2 b3 o3 l3 c3 n1 n3 (by simp only at m3 h3; omega) hns (by simp only at m1 h2; omega) hv hX
  | differ vs h => exact con_differ_put H K vs p1 p2 p3 b1 o1 l1 c1 l2 c2 l3 c3 n1 (by simp only at m1 h2; omega) hv hX
  | table vs ns h => exact con_table_put H K vs ns p1 p2 p3 b1 o1 l1 c1 l2 c2 b3 o3 l3 c3 n1 n3 (by simp only at m3 h3; omega) hns (by simp only at m1 h2; omega) hv hX
/-- a list's tokens; none of none -/
def listQ (nm : Int → Tok) (l : List PCon) : List Tok := if l = [] then [] else listT nm l
theorem listQ_step (l : List PCon) (k : Nat) (c : PCon) (h : l[k]? = some c) : listQ nm (l.take (k + 1)) = listQ nm (l.take k) ++ ((if k = 0 then [] else [tW Pa.tAnd]) ++ conT nm c) := by
  cases l with
  | nil => simp at h
  | cons x l =>
    cases k with
    | zero =>
      simp only [List.getElem?_cons_zero, Option.some.injEq] at h
      subst h
      simp [listQ, listT]
    | succ k =>
      have hk : l[k]? = some c := by simpa using h
      have e1 : listQ nm ((x :: l).take (k + 1 + 1)) = conT nm x ++ (l.take (k + 1)).flatMap fun c => tW Pa.tAnd :: conT nm c := rfl
      have e2 : listQ nm ((x :: l).take (k + 1)) = conT nm x ++ (l.take k).flatMap fun c => tW Pa.tAnd :: conT nm c := rfl
      rw [e1, e2, List.take_add_one, hk]
      simp
theorem listQ_long (l : List PCon) (k : Nat) : (putT (listQ nm (l.take k))).length ≤ (putT (listQ nm l)).length := by
  by_cases hk : k < l.length
  · have ih : ∀ n j, l.length - j = n → k ≤ j → (putT (listQ nm (l.take k))).length ≤ (putT (listQ nm (l.take j))).length → (putT (listQ nm (l.take k))).length ≤ (putT (listQ nm l)).length := by
      intro n
      induction n with
      | zero =>
        intro j hj _ h
        rwa [List.take_of_length_le (by omega : l.length ≤ j)] at h
      | succ n ihn =>
        intro j hj hkj h
        refine ihn (j + 1) (by omega) (by omega) ?_
        rw [listQ_step l j l[j] (List.getElem?_eq_getElem (by omega)), putT_app, List.length_append]
        omega
    exact ih _ k rfl (Nat.le_refl _) (Nat.le_refl _)
  · rw [List.take_of_length_le (by omega)]
    exact Nat.le_refl _
theorem bc_new (H : PutAt B b tb pb X u) (h : Bx B b tb pb k pn ln cn W u) (cs : Array Value) (t : TypeId) (ht : t ≠ TU) : Bc B b tb pb k u.heap.size pn ln cn cs t W (u.alloc (.cells cs t)) :=
  ⟨h.move (kp_alloc H.size _), heap_alloc_new u _, ht, by have := H.lt; omega, by have := H.ltp; omega⟩
set_option maxHeartbeats 8000000 in
theorem list_put (H : PutAt B b tb pb X W) (K : NmK B b pb W pn bn on_ ln L nm) (hb : Base B w0 W) {v : Value} {l : List PCon} (hr : Slc rCon 6 w0 v l) (hl : l.length ≤ 1000000) (hc : ∀ c ∈ l, ConOut nm L c) (hX : X.length + (putT (listQ nm l)).length ≤ 100000000000) :
    Calls Tryz.prog 31 #[.agg #[.slice pn ln cn, putV tb pb], v] W fun e w' => e = .returned (.tuple #[]) ∧ PutAt B b tb pb (X ++ putT (listQ nm l)) w' ∧ Kp B b pb W w' := by
  obtain ⟨p, bl, off, c, n, rfl, _, hs⟩ := hr
  have BX := Lib.hid (bx_start (pn := pn) (ln := ln) (cn := cn) H)
  have HP := Lib.hid (H.alloc (.cells #[.slice pn ln cn, putV tb pb] 55))
  have hlen := hs.long
  have hat := hs.at_
  have hn : n ≤ 1000000 := by omega
  have HS := Lib.hid hs
  have HL := Lib.hid hlen
  have KK := Lib.hid K
  have HBB := Lib.hid hb
  have HC := Lib.hid hc
  have HX := Lib.hid hX
  clear H K hb hs hlen hc hX hl
  unfold putV at *
  go_enter Tryz.func31, Tryz.ntmps31
  go_wp2_with fail
  go_loopw [8] (fun i wr => ∃ k : Nat, k ≤ n ∧ i = .int .i64 k ∧ PutAt B b tb pb (X ++ putT (listQ nm (l.take k))) wr ∧ Bx B b tb pb W.heap.size pn ln cn W wr) (fun i _ => n - (intOf i).toNat)
  case atStart =>
    refine ⟨0, by omega, rfl, ?_, BX.out⟩
    simpa [putT, putX, listQ] using HP.out
  case round =>
    obtain ⟨k, hk, rfl, hP, hB⟩ := hrel
    obtain ⟨wo, rfl⟩ : ∃ wo, wo = wr := ⟨_, rfl⟩
    by_cases hlt : k < n
    · obtain rfl := hat (by omega)
      obtain ⟨d, v1, v2, v3, hd, ⟨k0, k1, k2, k3, k4, k5⟩, hrd⟩ := con_at2 HS.out hlt
      obtain ⟨⟨q1, m1, d1, rfl⟩, ⟨q2, m2, d2, rfl⟩, ⟨q3, m3, d3, rfl⟩⟩ := rCon_shape hrd
      have hbw := HBB.out.move hB.kept
      have cs : ∀ {a : Addr} {x : Value}, w0.cell? a = some x → wo.cell? a = some x := fun {a x} h => cell_stays (by rw [hbw.eq]; exact hbw.low) h
      have j0 := cs k0
      have j1 := cs k1
      have j2 := cs k2
      have j3 := cs k3
      have j4 := cs k4
      have j5 := cs k5
      obtain ⟨Y, eY⟩ : ∃ Y, Y = X ++ putT (listQ nm (l.take k)) := ⟨_, rfl⟩
      rw [← eY] at hP
      have hstep : X ++ putT (listQ nm (l.take (k + 1))) = Y ++ (putT (if k = 0 then [] else [tW Pa.tAnd]) ++ putT (conT nm d)) := by rw [listQ_step l k d hd, eY]; simp only [putT_app, List.append_assoc]
      have hlen : Y.length + ((putT (if k = 0 then [] else [tW Pa.tAnd])).length + (putT (conT nm d)).length) ≤ 100000000000 := by
        have q := listQ_long (nm := nm) l (k + 1)
        have q2 := congrArg List.length hstep
        have := HX.out
        simp only [List.length_append] at q2
        omega
      have hN := bc_new hP hB #[.int .i64 d.kind, .slice q1 m1 d1, .slice q2 m2 d2, .int .i64 d.rel, .int .i64 d.const, .slice q3 m3 d3] 38 (by decide)
      obtain ⟨y0, y1, z0, z1, z2, z3, z4, z5⟩ := sixof hN
      unfold putV at y1
      have hP2 := hP.alloc (.cells #[.int .i64 d.kind, .slice q1 m1 d1, .slice q2 m2 d2, .int .i64 d.rel, .int .i64 d.const, .slice q3 m3 d3] 38)
      have BN := Lib.hid hN
      have HP2 := Lib.hid hP2
      have HST := Lib.hid hstep
      have HLEN := Lib.hid hlen
      have CP := Lib.hid (fun (u : World) (Z : List UInt8) (hP : PutAt B b tb pb Z u) (hK : Kp B b pb W u) (hZ : Z.length + (putT (conT nm d)).length ≤ 100000000000) => con_put (pn := pn) (ln := ln) (cn := cn) hP (KK.out.move hK) (HBB.out.move hK) hrd (HC.out d (List.mem_of_getElem? hd)) hZ)
      unfold putV at CP
      clear hP hB hrd hbw cs k0 k1 k2 k3 k4 k5 eY hstep hlen hN hP2 hd
      by_cases h0 : k = 0
      · have i0 : ¬ (0 : Int) < (k : Int) := by omega
        have i1 : (k : Int) ≤ 0 := by omega
        have n0 : ¬ 0 < k := by omega
        have e0 : putT (if k = 0 then [] else [tW Pa.tAnd]) = [] := by rw [if_pos h0]; rfl
        have C := Lib.hid (CP.out _ Y HP2.out BN.out.bx.kept (by have := HLEN.out; omega))
        have E0 := Lib.hid e0
        clear h0 e0
        go_wp2_with fail
        refine C.out.mono ?_
        rintro e u2 ⟨rfl, hP3, hK3⟩
        have hb3 := BN.out.move hK3
        have HP3 := Lib.hid hP3
        have BN3 := Lib.hid hb3.bx
        clear hP3 hK3 hb3
        go_wp2_with fail
        go_roundw
        case rel =>
          refine ⟨k + 1, by omega, rfl, ?_, BN3.out⟩
          rw [HST.out, E0.out]
          exact HP3.out
        case measure =>
          simp [intOf]
          omega
      · have i0 : (0 : Int) < (k : Int) := by omega
        have n0 : 0 < k := by omega
        have e0 : putT (if k = 0 then [] else [tW Pa.tAnd]) = sepO [97, 110, 100] := by rw [if_neg h0, putT_one]; rfl
        have E0 := Lib.hid e0
        have PA := Lib.hid (put_one HP2.out [97, 110, 100] (by have := HLEN.out; rw [e0] at this; omega))
        simp only [World.size_alloc] at PA
        clear h0 e0
        go_wp2_with fail
        refine PA.out.mono ?_
        rintro e u1 ⟨rfl, hP3, hK3⟩
        have hb3 := BN.out.move ((kp_alloc HP2.out.size _).trans hK3)
        clear y0 y1 z0 z1 z2 z3 z4 z5
        obtain ⟨y0, y1, z0, z1, z2, z3, z4, z5⟩ := sixof hb3
        unfold putV at y1
        have HP3 := Lib.hid hP3
        have BN3 := Lib.hid hb3
        have C := Lib.hid (CP.out _ _ HP3.out BN3.out.bx.kept (by have := HLEN.out; rw [E0.out] at this; rw [List.length_append]; omega))
        clear hP3 hK3 hb3
        go_wp2_with fail
        refine C.out.mono ?_
        rintro e u2 ⟨rfl, hP4, hK4⟩
        have hb4 := BN3.out.move hK4
        have HP4 := Lib.hid hP4
        have BN4 := Lib.hid hb4.bx
        clear hP4 hK4 hb4
        go_wp2_with fail
        go_roundw
        case rel =>
          refine ⟨k + 1, by omega, rfl, ?_, BN4.out⟩
          rw [HST.out, E0.out, ← List.append_assoc]
          exact HP4.out
        case measure =>
          simp [intOf]
          omega
    · obtain rfl : k = n := by omega
      have e : l.take k = l := by rw [HL.out]; simp
      rw [e] at hP
      have hK := hB.kept
      clear HL HC hlt hk e hB
      go_wp2_with fail
      go_end0
      exact ⟨rfl, hP, hK⟩
end
end Go.Proofs.YtkgieaoahijheaaGreatDoor.Wt
namespace Go.Proofs.YtkgieaoahijheaaGreatDoor.Wt
open Go.RowKit
open Sc (Tok)
set_option maxRecDepth 100000

section
variable {B b tb pb k kc : Nat} {W w0 u u' : World} {X : List UInt8} {pn : Option Addr} {bn on_ ln cn : Nat} {L : List PDecl} {nm : Int → Tok}
theorem nums_one (H : PutAt B b tb pb X u) (z : Int) (hz : z.natAbs ≤ 1000000000000000000) (hX : X.length + (putT (numT z)).length ≤ 100000000000) :
    Calls Tryz.prog 69 #[.agg #[.slice pn ln cn, putV tb pb], .slice (some ⟨u.heap.size, 0, none⟩) 1 1] (u.alloc (.cells #[.int .i64 z] 3)) fun e w' => e = .returned (.tuple #[]) ∧ PutAt B b tb pb (X ++ putT (numT z)) w' ∧ Kp B b pb (u.alloc (.cells #[.int .i64 z] 3)) w' := by
  have h := nums_any (pn := pn) (ln := ln) (cn := cn) (H.alloc (.cells #[.int .i64 z] 3)) [z] (some ⟨u.heap.size, 0, none⟩) u.heap.size 0 1 1 (by omega) (one_num H z (by unfold Fit; omega)) (fun x hx => by rw [List.mem_singleton.1 hx]; omega) (by simpa using hX)
  simpa using h
theorem spans_step {l : List (Int × Int)} {k : Nat} {s : Int × Int} (h : l[k]? = some s) : putT ((l.take (k + 1)).flatMap spanT) = putT ((l.take k).flatMap spanT) ++ putT (spanT s) := by
  rw [List.take_add_one, h, List.flatMap_append, putT_app]
  simp
theorem spans_long (l : List (Int × Int)) (k : Nat) : (putT ((l.take k).flatMap spanT)).length ≤ (putT (l.flatMap spanT)).length := by
  have : putT (l.flatMap spanT) = putT ((l.take k).flatMap spanT) ++ putT ((l.drop k).flatMap spanT) := by rw [← putT_app, ← List.flatMap_append, List.take_append_drop]
  rw [this, List.length_append]
  omega
theorem span_put (s : Int × Int) : putT (spanT s) = putT (numT s.1) ++ (if s.2 = s.1 then [] else sepO [46, 46] ++ putT (numT s.2)) := by
  unfold spanT
  rw [putT_app]
  congr 1
  split
  · rfl
  · rw [show (tM Pa.tDots :: numT s.2) = [tM Pa.tDots] ++ numT s.2 from rfl, putT_app, putT_one]
    rfl
set_option maxHeartbeats 8000000 in
theorem decl_put (H : PutAt B b tb pb X W) (hb : Base B w0 W) {s : ByteArray} {v : Value} {d : PDecl} (hr : rDecl w0 [.string s, v] d) (hl : d.dom.length ≤ 1000000) (hz : ∀ p ∈ d.dom, p.1.natAbs ≤ 1000000000000000000 ∧ p.2.natAbs ≤ 1000000000000000000) (hX : X.length + (putT (declT d)).length ≤ 100000000000) :
    Calls Tryz.prog 53 #[.agg #[.slice pn ln cn, putV tb pb], .agg #[.string s, v]] W fun e w' => e = .returned (.tuple #[]) ∧ PutAt B b tb pb (X ++ putT (declT d)) w' ∧ Kp B b pb W w' := by
  obtain ⟨s', v', e, hsn, hv⟩ := hr
  simp only [List.cons.injEq, and_true, Value.string.injEq] at e
  obtain ⟨rfl, rfl⟩ := e
  obtain ⟨p, bl, off, c, n, rfl, _, hs⟩ := hv
  obtain rfl : s = ⟨d.name.toArray⟩ := by rw [← hsn]
  obtain ⟨N, hN⟩ : ∃ N, N = d.name := ⟨_, rfl⟩
  obtain ⟨l, hlq⟩ : ∃ l, l = d.dom := ⟨_, rfl⟩
  have e0 : putT (declT d) = (sepO N ++ sepO [105, 110]) ++ putT (l.flatMap spanT) := by
    rw [hN, hlq]
    unfold declT
    rw [show (tW d.name :: tW Pa.tIn :: d.dom.flatMap spanT) = [tW d.name] ++ ([tW Pa.tIn] ++ d.dom.flatMap spanT) from rfl, putT_app, putT_app, putT_one, putT_one, List.append_assoc]
    rfl
  rw [e0] at hX ⊢
  simp only [List.length_append] at hX
  rw [← hlq] at hs hl hz
  rw [← hN]
  have hbc := bc_start (pn := pn) (ln := ln) (cn := cn) H #[.string ⟨N.toArray⟩, .slice p n c] 45 (by decide)
  have hP0 := (H.alloc (.cells #[.slice pn ln cn, putV tb pb] 55)).alloc (.cells #[.string ⟨N.toArray⟩, .slice p n c] 45)
  have BC := Lib.hid hbc
  have HP := Lib.hid hP0
  have C1 := Lib.hid (put_two hP0 N [105, 110] (by omega))
  have hlen := hs.long
  have hat := hs.at_
  have hn : n ≤ 1000000 := by omega
  have HS := Lib.hid hs
  have HL := Lib.hid hlen
  have HBB := Lib.hid hb
  have HZ := Lib.hid hz
  have HX := Lib.hid hX
  clear H hb hs hlen hX hl hbc hP0 hz e0 hN hlq hsn
  unfold putV at *
  go_enter Tryz.func53, Tryz.ntmps53
  go_wp2_with fail
  simp only [World.size_alloc] at C1
  refine C1.out.mono ?_
  rintro e u1 ⟨rfl, hP1, hK1⟩
  have hb := BC.out.move ((kp_alloc HP.out.size _).trans hK1)
  have z1 := hb.cell 1
  have BX := Lib.hid hb.bx
  obtain ⟨Z, eZ⟩ : ∃ Z, Z = X ++ (sepO N ++ sepO [105, 110]) := ⟨_, rfl⟩
  rw [← eZ] at hP1
  have EZ := Lib.hid eZ
  have HP1 := Lib.hid hP1
  clear hP1 hK1 hb eZ
  go_wp2_with fail
  go_loopw [15] (fun i wr => ∃ k : Nat, k ≤ n ∧ i = .int .i64 k ∧ PutAt B b tb pb (Z ++ putT ((l.take k).flatMap spanT)) wr ∧ Bx B b tb pb W.heap.size pn ln cn W wr) (fun i _ => n - (intOf i).toNat)
  case atStart =>
    refine ⟨0, by omega, rfl, ?_, BX.out⟩
    simpa [putT, putX] using HP1.out
  case round =>
    obtain ⟨k, hk, rfl, hP, hB⟩ := hrel
    obtain ⟨wo, rfl⟩ : ∃ wo, wo = wr := ⟨_, rfl⟩
    by_cases hlt : k < n
    · obtain rfl := hat (by omega)
      obtain ⟨⟨lo, hi⟩, hd, k0, k1⟩ := rspan_at HS.out hlt
      have hbw := HBB.out.move hB.kept
      have j0 := cell_stays (by rw [hbw.eq]; exact hbw.low) k0
      have j1 := cell_stays (by rw [hbw.eq]; exact hbw.low) k1
      obtain ⟨Y, eY⟩ : ∃ Y, Y = Z ++ putT ((l.take k).flatMap spanT) := ⟨_, rfl⟩
      rw [← eY] at hP
      have hstep : Z ++ putT ((l.take (k + 1)).flatMap spanT) = Y ++ (putT (numT lo) ++ (if hi = lo then [] else sepO [46, 46] ++ putT (numT hi))) := by rw [spans_step hd, eY, span_put]; simp only [List.append_assoc]
      have hlen : Y.length + ((putT (numT lo)).length + (if hi = lo then [] else sepO [46, 46] ++ putT (numT hi)).length) ≤ 100000000000 := by
        have q := spans_long l (k + 1)
        have q2 := congrArg List.length hstep
        have := HX.out
        have q3 := congrArg List.length EZ.out
        simp only [List.length_append] at q2 q3
        omega
      obtain ⟨hz1, hz2⟩ := HZ.out _ (List.mem_of_getElem? hd)
      have hN := bc_new hP hB #[.int .i64 lo, .int .i64 hi] 71 (by decide)
      have y0 := hN.bx.cells.1
      have y1 := hN.bx.cells.2.1
      have x0 := hN.cell 0
      have x1 := hN.cell 1
      unfold putV at y1
      have hP2 := hP.alloc (.cells #[.int .i64 lo, .int .i64 hi] 71)
      have BN := Lib.hid hN
      have HP2 := Lib.hid hP2
      have HST := Lib.hid hstep
      have HLEN := Lib.hid hlen
      have N1 := Lib.hid (nums_one (pn := pn) (ln := ln) (cn := cn) hP2 lo hz1 (by omega))
      unfold putV at N1
      simp only [World.size_alloc] at N1
      have HZ2 := Lib.hid hz2
      clear hP hB hbw k0 k1 eY hstep hlen hN hP2 hd hz1 hz2
      go_wp2_with fail
      refine N1.out.mono ?_
      rintro e u2 ⟨rfl, hP3, hK3⟩
      have hb3 := BN.out.move ((kp_alloc HP2.out.size _).trans hK3)
      clear y0 y1 x0 x1
      have y0 := hb3.bx.cells.1
      have y1 := hb3.bx.cells.2.1
      have x0 := hb3.cell 0
      have x1 := hb3.cell 1
      unfold putV at y1
      have HP3 := Lib.hid hP3
      have BN3 := Lib.hid hb3
      clear hP3 hK3 hb3
      by_cases he : hi = lo
      · have hq : (hi == lo) = true := beq_iff_eq.2 he
        have hq2 : (hi != lo) = false := by rw [bne, hq]; rfl
        have HE := Lib.hid he
        clear he
        go_wp2_with fail
        go_roundw
        case rel =>
          refine ⟨k + 1, by omega, rfl, ?_, BN3.out.bx⟩
          rw [HST.out, if_pos HE.out, List.append_nil]
          exact HP3.out
        case measure =>
          simp [intOf]
          omega
      · have hq : (hi == lo) = false := beq_eq_false_iff_ne.2 he
        have hq2 : (hi != lo) = true := by rw [bne, hq]; rfl
        have HE := Lib.hid he
        have hl2 := HLEN.out
        rw [if_neg he] at hl2
        simp only [List.length_append] at hl2
        have P2 := Lib.hid (put_one HP3.out [46, 46] (by rw [List.length_append]; omega))
        have N2 := Lib.hid (fun (u : World) (h : PutAt B b tb pb ((Y ++ putT (numT lo)) ++ sepO [46, 46]) u) => nums_one (pn := pn) (ln := ln) (cn := cn) h hi HZ2.out (by simp only [List.length_append]; omega))
        unfold putV at N2
        clear he hl2
        go_wp2_with fail
        refine P2.out.mono ?_
        rintro e u3 ⟨rfl, hP4, hK4⟩
        have hb4 := BN3.out.move ((kp_alloc HP3.out.size _).trans hK4)
        clear y0 y1 x0 x1
        have y0 := hb4.bx.cells.1
        have y1 := hb4.bx.cells.2.1
        have x0 := hb4.cell 0
        have x1 := hb4.cell 1
        unfold putV at y1
        have HP4 := Lib.hid hP4
        have BN4 := Lib.hid hb4
        clear hP4 hK4 hb4
        go_wp2_with fail
        refine (N2.out _ HP4.out).mono ?_
        rintro e u4 ⟨rfl, hP5, hK5⟩
        have hb5 := BN4.out.move ((kp_alloc HP4.out.size _).trans hK5)
        have HP5 := Lib.hid hP5
        have BN5 := Lib.hid hb5.bx
        clear hP5 hK5 hb5
        go_wp2_with fail
        go_roundw
        case rel =>
          refine ⟨k + 1, by omega, rfl, ?_, BN5.out⟩
          rw [HST.out, if_neg HE.out]
          have := HP5.out
          simp only [List.append_assoc] at this ⊢
          exact this
        case measure =>
          simp [intOf]
          omega
    · obtain rfl : k = n := by omega
      have e : l.take k = l := by rw [HL.out]; simp
      rw [e] at hP
      have hK := hB.kept
      have HE := EZ.out
      rw [HE] at hP
      have HP9 := Lib.hid hP
      clear HL HZ hlt hk e hB HE hP
      go_wp2_with fail
      go_end0
      refine ⟨rfl, ?_, hK⟩
      have := HP9.out
      rw [List.append_assoc] at this
      exact this
end
end Go.Proofs.YtkgieaoahijheaaGreatDoor.Wt
