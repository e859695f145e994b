/-
  What the laws of a step share: what is short, rows of less.
  What the document's Right and Holds answer of one constraint.
  Domains laid one behind the other, by appends; a struct of six cells.
-/
import Derived.Test.YtiaibggbbkhjlaaDoorZYCA
import Derived.Test.YtiaibggbbkhjlaaDoorZYBN
import Derived.Test.YtiaibggbbkhjlaaDoorZVRholds
import Derived.Test.YtiaibggbbkhjlaaDoorZYBG
import Derived.Test.YtiaibggbbkhjlaaDoorZJMem
import Derived.Test.YtiaibggbbkhjlaaDoorZYAP
namespace Go.Proofs.YtiaibggbbkhjlaaDoor.Ge
open Go.RowKit St
set_option maxRecDepth 100000

theorem short_up {c : PCon} (h : Short 150 c) : Short 1000 c := by unfold Short at *; omega
theorem fewer_rows {L : List (List Int × Nat)} {ms : List Nat} (hm : ∀ d ∈ L, d.1.length ≤ 1000) : ∀ d ∈ fewerL L ms, d.1.length ≤ 1000 := by
  intro d hd
  obtain ⟨i, hi, rfl⟩ := List.getElem_of_mem hd
  have hi2 : i < L.length := by rw [fewer_length] at hi; exact hi
  have e : (fewerL L ms)[i] = (fewerL L ms).getD i ([], 0) := by rw [List.getD_eq_getElem?_getD, List.getElem?_eq_getElem hi]; rfl
  rw [e, (fewer_less hi2).1]
  exact hm _ (doms_in hi2)

end Go.Proofs.YtiaibggbbkhjlaaDoor.Ge
namespace Go.Proofs.YtiaibggbbkhjlaaDoor.Ge
open Go.RowKit St
set_option maxRecDepth 100000

theorem rhold_any {pr : Option Addr} {br orr lr cr : Nat} {row : List Int} {w : World} {c : PCon} {v1 v2 v3 : Value} (h : rCon w [.int .i64 c.kind, v1, v2, .int .i64 c.rel, .int .i64 c.const, v3] c) (hs : Short 1000 c) (hr : Nums w pr br orr lr row) (hok : Gr.rowOk row = true) (hrt : rightC c (lr : Int) = true) :
    Calls Tryd.prog 16 #[.agg #[.int .i64 c.kind, v1, v2, .int .i64 c.rel, .int .i64 c.const, v3], .slice pr lr cr] w fun e w' => e = .returned (.bool (Gr.holdsG c row)) ∧ Below w.heap.size w w' := by
  obtain ⟨u1, u2, u3, e, ⟨_, _, f3⟩, ⟨p1, b1, o1, c1, l1, e1, hc1, h1⟩, ⟨p2, b2, o2, c2, l2, e2, _, h2⟩, ⟨p3, b3, o3, c3, l3, e3, hc3, h3⟩⟩ := h
  subst e1 e2 e3
  simp only [List.cons.injEq, and_true, true_and] at e
  obtain ⟨rfl, rfl, rfl⟩ := e
  exact Gr.rholds_cells p1 p2 p3 pr b1 o1 c1 l1 b2 o2 c2 l2 b3 o3 c3 l3 br orr cr lr c row w (nums_of h1) (nums_of h2) (nums_of h3) hr hc1.2 (by rw [h1.long]; exact hs.1) (by rw [h3.long]; exact hs.2.2) hok hrt f3
theorem one_con {w : World} {b : Nat} {t : TypeId} {a0 a1 a2 a3 a4 a5 : Value} {c : PCon} (h : w.heap[b]? = some (.cells #[a0, a1, a2, a3, a4, a5] t)) (r : rCon w [a0, a1, a2, a3, a4, a5] c) : SliceOf rCon 6 w (some ⟨b, 0, none⟩) b 0 1 [c] :=
  ⟨rfl, fun _ => rfl, fun k a hk => by
    match k, hk with
    | 0, hk =>
      obtain rfl : c = a := by simpa using hk
      refine ⟨_, rfl, fun j hj => ?_, r⟩
      rw [blk_in h]
      match j, hj with
      | 0, _ => rfl
      | 1, _ => rfl
      | 2, _ => rfl
      | 3, _ => rfl
      | 4, _ => rfl
      | 5, _ => rfl
    | k + 1, hk => simp at hk⟩
theorem rright1_any {pr : Option Addr} {br orr lr cr : Nat} {row : List Int} {w : World} {c : PCon} {z : Nat} {a1 a2 a3 : Value} (hr : Nums w pr br orr lr row) (hlr : lr ≤ 1000) (h : rCon w [.int .i64 c.kind, a1, a2, .int .i64 c.rel, .int .i64 c.const, a3] c) (hz : w.heap[z]? = some (.cells #[.int .i64 c.kind, a1, a2, .int .i64 c.rel, .int .i64 c.const, a3] 24)) (hs : Short 1000 c) :
    Calls Tryd.prog 15 #[.slice (some ⟨z, 0, none⟩) 1 1, .slice pr lr cr] w fun e w' => e = .returned (.bool (Gr.rightG [c] row)) ∧ Below w.heap.size w w' :=
  Gr.rright_cells (some ⟨z, 0, none⟩) z 0 1 1 pr br orr cr lr [c] row w (one_con hz h) hr (by decide) hlr (fun x hx => by simp at hx; subst hx; exact hs)
end Go.Proofs.YtiaibggbbkhjlaaDoor.Ge
namespace Go.Proofs.YtiaibggbbkhjlaaDoor.Ge
open Go.RowKit St
set_option maxRecDepth 100000

theorem six_in {w : World} {b : Nat} {t : TypeId} {a0 a1 a2 a3 a4 a5 : Value} (h : w.heap[b]? = some (.cells #[a0, a1, a2, a3, a4, a5] t)) : w.cell? ⟨b, 0, none⟩ = some a0 ∧ w.cell? ⟨b, 1, none⟩ = some a1 ∧ w.cell? ⟨b, 2, none⟩ = some a2 ∧ w.cell? ⟨b, 3, none⟩ = some a3 ∧ w.cell? ⟨b, 4, none⟩ = some a4 ∧ w.cell? ⟨b, 5, none⟩ = some a5 :=
  ⟨blk_in h 0, blk_in h 1, blk_in h 2, blk_in h 3, blk_in h 4, blk_in h 5⟩
/-- domains laid one behind the other -/
def DomsM (w : World) (base : Nat) (v : Value) (L : List (List Int × Nat)) : Prop := OwnsP (domP w) 2 47 base w v L
theorem infoM : (Tryd.prog.info? 47).map (fun i => (i.zero, i.size, i.bytes)) = some (some (.agg #[.slice none 0 0, .int .u64 0]), 2, 32) := by kernel_rfl
section
variable {w w' wA w8 : World} {base : Nat} {v u v' : Value} {D L : List (List Int × Nat)} {y : List Int × Nat}
theorem domsM_nil (w : World) (base : Nat) : DomsM w base (.slice none 0 0) [] := ownsP_nil _ _ _ _ _
theorem DomsM.below (h : DomsM w base v D) (hB : Below w.heap.size w w') : DomsM w' base v D :=
  OwnsP.below (OwnsP.imp h (fun _ _ _ ⟨u, e, o, l⟩ => ⟨u, e, owns_below o hB, l⟩)) hB
theorem domsM_put (hA : DomsM wA base u L) (hp1 : OwnsP (domP wA) 2 47 base w8 v' (L ++ [y])) (hg : wA.grownBy w8 u.ownBlock) (hB : Below base w wA) (hb : base ≤ wA.heap.size) : DomsM w8 base v' (L ++ [y]) ∧ Below base w w8 :=
  ⟨OwnsP.imp hp1 fun _ _ _ o => domP_grown o (fun i hi => OwnsP.kind hA hi) hg (by decide), hB.grown hg hb fun j e => (OwnsP.lt hA j e).1⟩
theorem DomsM.slc (h : DomsM w base v L) (hm : ∀ d ∈ L, d.1.length ≤ 1000) : Slc rDom 2 w v L :=
  OwnsP.slc h fun c a ha ⟨u, e, o, l⟩ => ⟨u, e, Dm.readsN_of_owns o, l, Nat.le_trans (hm a ha) (by decide)⟩
end
theorem lit_owns {base : Nat} (w : World) (z : Int) (hb : base ≤ w.heap.size) : Dm.OwnsI (w.alloc (.cells #[.int .i64 z] 3)) base (.slice (some ⟨w.heap.size, 0, none⟩) 1 1) [z] :=
  World.ownsRow_lit w #[.int .i64 z] 1 hb (by decide) rfl

end Go.Proofs.YtiaibggbbkhjlaaDoor.Ge
