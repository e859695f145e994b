/-
  What sum of the document's answers for linear steps answers: what is left by a sum.
  What domains of package linear answers: the domains of some variables.
-/
import Derived.Test.YtiaibggbbkhjlaaDoorZIEnds
import Derived.Test.YtiaibggbbkhjlaaDoorZYAP
import Derived.Test.YtiaibggbbkhjlaaDoorZYAW
namespace Go.Proofs.YtiaibggbbkhjlaaDoor.St
open Go.RowKit
set_option maxRecDepth 100000

/-- of one variable: the values at which the rel may hold -/
def sumRow (vars ks : List Int) (M : List (List Int)) (rel ag : Int) (i : Nat) : List Int :=
  (M.getD (vars.getD i 0).toNat []).filter fun x => mayG ((endsTo vars ks M i vars.length).1 + ks.getD i 0 * x) ((endsTo vars ks M i vars.length).2 + ks.getD i 0 * x) rel ag
def sumL (vars ks : List Int) (M : List (List Int)) (rel ag : Int) : List (List Int) := setTo M vars (sumRow vars ks M rel ag) vars.length

theorem nums_below {w wr : World} {p : Option Addr} {b off len : Nat} {xs : List Int} (h : Nums w p b off len xs) (hB : Below w.heap.size w wr) : Nums wr p b off len xs :=
  ⟨h.long, h.at_, fun k hk => cell_below hB (h.cell k hk), h.fit⟩
theorem made_ints (w : World) (base : Nat) (h : base ≤ w.heap.size) : Dm.OwnsI (w.alloc (.cells #[] 3)) base (.slice (some ⟨w.heap.size, 0, none⟩) 0 0) [] := by
  have := World.ownsRow_made (base := base) (e := 3) (size := 1) w #[] 0 h (by decide) rfl
  exact this

theorem one_reads (w : World) (x : Int) : Dm.ReadsN (w.alloc (.cells #[.int .i64 x] 3)) (.slice (some ⟨w.heap.size, 0, none⟩) 1 1) [x] := by
  refine .inr (.inr ⟨w.heap.size, 0, 1, rfl, fun k hk => ?_⟩)
  obtain rfl : k = 0 := by simpa using hk
  simp
theorem ints_grown {w wA w8 : World} {base : Nat} {u : Value} {l : List Int} (hA : Dm.OwnsI wA base u l) (hg : wA.grownBy w8 u.ownBlock) (hB : Below base w wA) (hb : base ≤ wA.heap.size) : Below base w w8 :=
  hB.grown hg hb fun _ e => (ints_kind hA e).1

end Go.Proofs.YtiaibggbbkhjlaaDoor.St
namespace Go.Proofs.YtiaibggbbkhjlaaDoor.St
open Go.RowKit
set_option maxRecDepth 100000

theorem dom_fun {w : World} {p : Option Addr} {b off len : Nat} {L : List (List Int × Nat)} (h : SliceOf rDom 2 w p b off len L) : ∃ F : Nat → Value × Value, ∀ i, i < len → w.cell? ⟨b, off + i * 2, none⟩ = some (F i).1 ∧ w.cell? ⟨b, off + i * 2 + 1, none⟩ = some (F i).2 ∧ rDom w [(F i).1, (F i).2] (L.getD i ([], 0)) :=
  Go.Deep.choose_lt (p := fun i (q : Value × Value) => w.cell? ⟨b, off + i * 2, none⟩ = some q.1 ∧ w.cell? ⟨b, off + i * 2 + 1, none⟩ = some q.2 ∧ rDom w [q.1, q.2] (L.getD i ([], 0))) fun i hi => by
    obtain ⟨x, u, ex, ⟨a0, a1⟩, hx⟩ := dom_at2 h hi
    have e : L.getD i ([], 0) = x := by rw [List.getD_eq_getElem?_getD, ex]; rfl
    exact ⟨(u, .int .u64 x.2), a0, a1, by rw [e]; exact hx⟩
theorem rDom_pair {w : World} {q : Value × Value} {x : List Int × Nat} (h : rDom w [q.1, q.2] x) : ∃ (p : Option Addr) (l c n : Nat), q = (.slice p l c, .int .u64 (n : Int)) := by
  obtain ⟨u, e, h1, _⟩ := h
  obtain ⟨q1, q2⟩ := q
  simp only [List.cons.injEq, and_true] at e
  obtain ⟨rfl, rfl⟩ := e
  obtain ⟨p, n, c, rfl⟩ := Dm.reads_slice (Dm.reads_of_readsN h1)
  exact ⟨p, _, c, x.2, rfl⟩
/-- the domains of some variables -/
def domsOf (L : List (List Int × Nat)) (vars : List Int) : List (List Int × Nat) := vars.map fun v => L.getD v.toNat ([], 0)
theorem doms_get {L : List (List Int × Nat)} {vars : List Int} {k : Nat} (h : k < vars.length) : (domsOf L vars).getD k ([], 0) = L.getD (vars.getD k 0).toNat ([], 0) := by
  unfold domsOf
  rw [List.getD_eq_getElem?_getD, List.getElem?_map, List.getElem?_eq_getElem h]
  simp [List.getD, List.getElem?_eq_getElem h]

end Go.Proofs.YtiaibggbbkhjlaaDoor.St
