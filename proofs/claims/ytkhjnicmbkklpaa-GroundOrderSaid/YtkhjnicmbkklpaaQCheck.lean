/-
  What Check of the document's answers answers, at every model that can be read and whose lists are short.
-/
import Derived.Test.YtkhjnicmbkklpaaPCheck
import Derived.Deep.RegionHeld3
import Derived.Test.YtkhjnicmbkklpaaMRight
namespace Go.Proofs.Ytkhjnicmbkklpaa
open Go.RowKit
set_option maxRecDepth 100000

theorem rrcon_any {w : World} {k r t : Int} {v1 v2 v3 : Value} {c : PCon} (vars : Int) (hv : Fit vars) (h : rCon w [.int .i64 k, v1, v2, .int .i64 r, .int .i64 t, v3] c) (hs : Short 1000 c) :
    Calls Try.prog 19 #[.agg #[.int .i64 k, v1, v2, .int .i64 r, .int .i64 t, v3], .int .i64 vars] w fun e w' => e = .returned (.bool (rightC c vars)) ∧ Below w.heap.size w w' := by
  obtain ⟨u1, u2, u3, e, ⟨f1, f2, f3⟩, ⟨p1, b1, o1, c1, l1, e1, hc1, h1⟩, ⟨p2, b2, o2, c2, l2, e2, _, h2⟩, ⟨p3, b3, o3, c3, l3, e3, _, h3⟩⟩ := h
  subst e1 e2 e3
  simp only [List.cons.injEq, and_true, Value.int.injEq, true_and] at e
  obtain ⟨rfl, rfl, rfl, rfl, rfl, rfl⟩ := e
  exact rr_cells p1 p2 p3 b1 o1 c1 l1 b2 o2 c2 l2 b3 o3 c3 l3 c vars w h1 h2 h3 (by rw [h1.long]; exact hs.1) (by rw [h2.long]; exact hs.2.1) (by rw [h3.long]; exact hs.2.2) hv f1 f2 f3

noncomputable def endK (m : PModel) (fo wb : Bool) : Int := if fo = true then 2 else if nameM m = true then 7 else if twiceM m = true then 8 else if domM m = true then 1 else if wb = true then 12 else 0
theorem check_is (m : PModel) : checkM m = if bigM m = true then 5 else endK m (formM m) (conM m) := by
  simp only [checkM, faultsM, firstF, endK]
theorem ends_get : ∀ (bs : List PBlock) (n k : Nat), k < bs.length → (endsF n bs).getD k 0 = ((n + (varsL (bs.take (k + 1))).length : Nat) : Int)
  | [], _, _, h => by simp at h
  | x :: r, n, 0, _ => by simp [endsF, varsL]
  | x :: r, n, k + 1, h => by
    have := ends_get r (n + x.vars.length) k (by simpa using h)
    rw [endsF, List.getD_cons_succ, this]
    have e : varsL ((x :: r).take (k + 1 + 1)) = x.vars ++ varsL (r.take (k + 1)) := by simp [varsL]
    rw [e, List.length_append]
    omega
theorem dec_zero (n : Nat) : decide (n = 0) = ((n : Int) == 0) := by
  by_cases h : n = 0
  · subst h; rfl
  · rw [decide_eq_false h]
    exact (beq_eq_false_iff_ne.2 (by omega)).symm
theorem hold11 {W0 u u' : World} {p0 p1 p2 p3 p4 p5 p6 p7 p8 : Addr} {a0 a1 a2 a3 a4 a5 a6 a7 a8 : Value} (h : u.cell? p0 = some a0 ∧ u.cell? p1 = some a1 ∧ u.cell? p2 = some a2 ∧ u.cell? p3 = some a3 ∧ u.cell? p4 = some a4 ∧ u.cell? p5 = some a5 ∧ u.cell? p6 = some a6 ∧ u.cell? p7 = some a7 ∧ u.cell? p8 = some a8 ∧ Hid (Below W0.heap.size W0 u)) (hb : Below u.heap.size u u') :
    u'.cell? p0 = some a0 ∧ u'.cell? p1 = some a1 ∧ u'.cell? p2 = some a2 ∧ u'.cell? p3 = some a3 ∧ u'.cell? p4 = some a4 ∧ u'.cell? p5 = some a5 ∧ u'.cell? p6 = some a6 ∧ u'.cell? p7 = some a7 ∧ u'.cell? p8 = some a8 ∧ Hid (Below W0.heap.size W0 u') :=
  ⟨cell_stays hb h.1, cell_stays hb h.2.1, cell_stays hb h.2.2.1, cell_stays hb h.2.2.2.1, cell_stays hb h.2.2.2.2.1, cell_stays hb h.2.2.2.2.2.1, cell_stays hb h.2.2.2.2.2.2.1, cell_stays hb h.2.2.2.2.2.2.2.1, cell_stays hb h.2.2.2.2.2.2.2.2.1, Lib.hid (h.2.2.2.2.2.2.2.2.2.out.trans (hb.mono h.2.2.2.2.2.2.2.2.2.out.size))⟩
theorem hold11b {W0 u : World} {p0 p1 p2 p3 p4 p5 p6 p7 p8 : Addr} {a0 a1 a2 a3 a4 a5 a6 a7 a8 : Value} (h : u.cell? p0 = some a0 ∧ u.cell? p1 = some a1 ∧ u.cell? p2 = some a2 ∧ u.cell? p3 = some a3 ∧ u.cell? p4 = some a4 ∧ u.cell? p5 = some a5 ∧ u.cell? p6 = some a6 ∧ u.cell? p7 = some a7 ∧ u.cell? p8 = some a8 ∧ Hid (Below W0.heap.size W0 u)) : Below W0.heap.size W0 u := h.2.2.2.2.2.2.2.2.2.out

end Go.Proofs.Ytkhjnicmbkklpaa
