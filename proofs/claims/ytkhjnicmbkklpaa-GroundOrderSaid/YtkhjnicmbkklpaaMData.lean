/-
  Nested data in memory: a slice whose elements are read by a reader of their own; how such data comes in, and stays. Nothing of the program.
-/
import Derived.Deep.Slices
import Derived.ChangeArms
import Derived.ChangeSame
import Derived.Below
namespace Go.Proofs.Ytkhjnicmbkklpaa
open Go.ChangeShapes Go.WideShapes Go.RowKit
set_option maxRecDepth 100000

/-- what the cells of an element read as -/
def Reader (α : Type) : Type := World → List Value → α → Prop
/-- a reading stays where memory stays -/
def Reader.Stays {α : Type} (R : Reader α) : Prop := ∀ (w w' : World) (cs : List Value) (a : α), Below w.heap.size w w' → R w cs a → R w' cs a

/-- the slice value v reads as the list L, element by element, each of n cells -/
structure SliceOf {α : Type} (R : Reader α) (n : Nat) (w : World) (p : Option Addr) (b off len : Nat) (L : List α) : Prop where
  long : len = L.length
  at_ : 0 < len → p = some ⟨b, off, none⟩
  cell : ∀ (k : Nat) (a : α), L[k]? = some a → ∃ cs : List Value, cs.length = n ∧ (∀ j, j < n → w.cell? ⟨b, off + k * n + j, none⟩ = cs[j]?) ∧ R w cs a
/-- the same, of a value -/
def Slc {α : Type} (R : Reader α) (n : Nat) (w : World) (v : Value) (L : List α) : Prop := ∃ (p : Option Addr) (b off c len : Nat), v = .slice p len c ∧ ((p = none → c = 0) ∧ len ≤ c) ∧ SliceOf R n w p b off len L

theorem cell_stays {w wr : World} {p : Addr} {v : Value} (hB : Below w.heap.size w wr) (h : w.cell? p = some v) : wr.cell? p = some v := by
  have hlt : p.block < w.heap.size := by
    unfold World.cell? at h
    cases hh : w.heap[p.block]? with
    | none => simp [hh] at h
    | some q => exact (Array.getElem?_eq_some_iff.1 hh).1
  exact (hB.cell hlt).trans h
theorem SliceOf.below {α : Type} {R : Reader α} (hR : R.Stays) {n : Nat} {w w' : World} {p : Option Addr} {b off len : Nat} {L : List α} (h : SliceOf R n w p b off len L) (hB : Below w.heap.size w w') : SliceOf R n w' p b off len L :=
  ⟨h.long, h.at_, fun k a ha => by
    obtain ⟨cs, h1, h2, h3⟩ := h.cell k a ha
    refine ⟨cs, h1, fun j hj => ?_, hR w w' cs a hB h3⟩
    have hs : ∃ v, cs[j]? = some v := ⟨cs[j], List.getElem?_eq_getElem (by omega)⟩
    obtain ⟨v, hv⟩ := hs
    rw [hv]
    exact cell_stays hB (by rw [h2 j hj, hv])⟩
theorem Slc.below {α : Type} {R : Reader α} (hR : R.Stays) {n : Nat} {w w' : World} {v : Value} {L : List α} (h : Slc R n w v L) (hB : Below w.heap.size w w') : Slc R n w' v L := by
  obtain ⟨p, b, off, c, len, h1, hn, h2⟩ := h
  exact ⟨p, b, off, c, len, h1, hn, h2.below hR hB⟩

section
variable {H : Type} {enc : TypeId × Value → H} {P : Program} {W : World} {base : Nat} {held : Bool}

/-- a reader fits a type, if what can be read of that type is read by it -/
def Fits {α : Type} (enc : TypeId × Value → H) (P : Program) (W : World) (base : Nat) (held : Bool) (e : TypeId) (R : Reader α) : Prop :=
  ∀ (fuel : Nat) (cs : List Value) (x : DataW H × List MemPlace), DataW.trod enc P W base (fun _ => true) held fuel e cs = some x → ∃ a, R W cs a

/-- a slice that came in, of elements of a type that a reader fits -/
theorem slc_cells {α : Type} [Inhabited α] {R : Reader α} {t e : TypeId} {fuel : Nat} {cs : List Value} {x : DataW H × List MemPlace} {n : Nat} (ht : P.underlying t = some (.slice e)) (hn : P.cellsOf e = n) (hpos : 0 < n)
    (hR : Fits enc P W base held e R) (h : DataW.trod enc P W base (fun _ => true) held fuel t cs = some x) : ∃ (v : Value) (L : List α), cs = [v] ∧ Slc R n W v L := by
  rcases Go.Deep.open_slice ht h with ⟨rfl, rfl⟩ | ⟨a, len, cap, m, k, D, Pl, rfl, hb, hl, hm, hmm, rfl, hx⟩
  · exact ⟨_, [], rfl, none, 0, 0, 0, 0, rfl, ⟨fun _ => rfl, Nat.le_refl _⟩, rfl, fun h => by omega, fun k a h => by simp at h⟩
  · have hlm : len ≤ m := by rw [hmm]; simp; omega
    have each : ∀ i, i < len → ∃ q : List Value × α, q.1.length = n ∧ (∀ j, j < n → W.cell? (a.add (i * n + j)) = q.1[j]?) ∧ R W q.1 q.2 := by
      intro i hi
      obtain ⟨cs', h1, h2⟩ := hx i (by omega)
      rw [hn] at h1
      obtain ⟨_, hlen, hcell⟩ := World.cells?_some h1
      obtain ⟨y, hy⟩ := hR _ _ _ h2
      refine ⟨(cs', y), hlen, fun j hj => ?_, hy⟩
      have := hcell j hj
      rw [Go.Deep.add_add] at this
      exact this
    obtain ⟨q, hq⟩ := Go.Deep.choose_lt each
    refine ⟨_, (List.range len).map fun i => (q i).2, rfl, ?_⟩
    by_cases h0 : len = 0
    · subst h0
      exact ⟨some a, 0, 0, cap, 0, rfl, ⟨(fun h => by cases h), hl⟩, rfl, fun h => by omega, fun k a h => by simp at h⟩
    · obtain ⟨b, off, spot⟩ := a
      have hspot : spot = none := by
        obtain ⟨h1, h2, _⟩ := hq 0 (by omega)
        have h3 := h2 0 hpos
        rw [List.getElem?_eq_getElem (by omega)] at h3
        simpa [Addr.add] using World.cell?_spot h3
      subst hspot
      refine ⟨_, b, off, cap, len, rfl, ⟨(fun h => by cases h), hl⟩, by simp, fun _ => rfl, fun k a hk => ?_⟩
      have hk2 : k < len := by
        have := (List.getElem?_eq_some_iff.1 hk).1
        simpa using this
      have hka : (q k).2 = a := by simpa [hk2] using hk
      obtain ⟨h1, h2, h3⟩ := hq k hk2
      refine ⟨(q k).1, h1, fun j hj => ?_, hka ▸ h3⟩
      have h4 := h2 j hj
      have e1 : (⟨b, off, none⟩ : Addr).add (k * n + j) = ⟨b, off + k * n + j, none⟩ := by
        unfold Addr.add
        split
        · rename_i h5; simp_all
        · simp [Nat.add_assoc]
      rw [e1] at h4
      exact h4
theorem slc_fits {α : Type} [Inhabited α] {R : Reader α} {t e : TypeId} {n : Nat} (ht : P.underlying t = some (.slice e)) (hn : P.cellsOf e = n) (hpos : 0 < n) (hR : Fits enc P W base held e R) :
    Fits enc P W base held t (fun w cs L => ∃ v, cs = [v] ∧ Slc R n w v L) := fun fuel cs x h => by
  obtain ⟨v, L, h1, h2⟩ := slc_cells ht hn hpos hR h
  exact ⟨L, v, h1, h2⟩
end
end Go.Proofs.Ytkhjnicmbkklpaa
