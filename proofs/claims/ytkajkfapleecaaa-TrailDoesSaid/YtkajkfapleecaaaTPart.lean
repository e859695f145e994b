/-
  What a trail is: its cells, their stamps, what they had at first and at each mark; and how it lies in memory. Nothing of the program.
-/
import Derived.Test.YtkajkfapleecaaaTMem
namespace Go.Proofs.Ytkajkfapleecaaa
open Go.RowKit Go.ChangeMaps Go.MapKept Go.WideShapes

/-- a trail of n cells: what they have, their stamps, how many marks there are, what cells had at first (0) and at each mark -/
structure Tr (α : Type) where
  n : Nat
  cur : Nat → α
  st : Nat → Int
  top : Nat
  old : Nat → Nat → α

variable {α : Type}
def Tr.new (n : Nat) (z : α) : Tr α := ⟨n, fun _ => z, fun _ => 0, 0, fun _ _ => z⟩
def setAt {β : Type} (f : Nat → β) (i : Nat) (x : β) : Nat → β := fun j => if j = i then x else f j
def bump [DecidableEq α] (σ : Nat → α) (st : Nat → Int) (i : Nat) (x : α) : Nat → Int := fun j => if j = i ∧ ¬ σ i = x then st j + 1 else st j
def Tr.set [DecidableEq α] (σ : Tr α) (i : Nat) (x : α) : Tr α := { σ with cur := setAt σ.cur i x, st := bump σ.cur σ.st i x }
def Tr.save (σ : Tr α) : Tr α := { σ with top := σ.top + 1, old := setAt σ.old (σ.top + 1) σ.cur }
def Tr.undo [DecidableEq α] (σ : Tr α) : Tr α := { σ with cur := σ.old σ.top, st := fun j => if ¬ σ.cur j = σ.old σ.top j then σ.st j + 1 else σ.st j, top := σ.top - 1 }
def Tr.diff [DecidableEq α] (σ : Tr α) (i : Nat) : Bool := decide (¬ σ.cur i = σ.old σ.top i)
def Tr.changed [DecidableEq α] (σ : Tr α) : List Int := ((List.range σ.n).filter σ.diff).map Int.ofNat

/-- the cells' block -/
def CellsAt (K : Kd α) (ct : TypeId) (n : Nat) (w : World) (b : Nat) (cur : Nat → α) (st : Nat → Int) : Prop :=
  ∃ cc, w.heap[b]? = some (.cells cc ct (0, 0)) ∧ cc.size = n * 2 ∧ ∀ i, i < n → cc[i * 2]? = some (K.enc (cur i)) ∧ cc[i * 2 + 1]? = some (.int .i64 (st i))

theorem heap_setCell_same {w : World} {b off : Nat} {cc : Array Value} {t : TypeId} {fz : Nat × Nat} (h : w.heap[b]? = some (.cells cc t fz)) (u : Value) : (w.setCell ⟨b, off, none⟩ u).heap[b]? = some (.cells (cc.setIfInBounds off u) t fz) := by
  simp [World.setCell, Array.getElem?_modify, h]
theorem cell_of_heap {w : World} {b off : Nat} {cc : Array Value} {t : TypeId} {fz : Nat × Nat} (h : w.heap[b]? = some (.cells cc t fz)) : w.cell? ⟨b, off, none⟩ = cc[off]? := by
  simp [World.cell?, h]
theorem frozen_of_heap {w : World} {b off : Nat} {cc : Array Value} {t : TypeId} (h : w.heap[b]? = some (.cells cc t (0, 0))) : w.frozen? ⟨b, off, none⟩ = false := by
  simp [World.frozen?, h]

section
variable {K : Kd α} {ct : TypeId} {n : Nat} {w : World} {b : Nat} {cur : Nat → α} {st : Nat → Int}
theorem CellsAt.of_block {w' : World} (h : CellsAt K ct n w b cur st) (e : w'.heap[b]? = w.heap[b]?) : CellsAt K ct n w' b cur st := by
  obtain ⟨cc, h1, h2⟩ := h
  exact ⟨cc, e.trans h1, h2⟩
theorem CellsAt.lt (h : CellsAt K ct n w b cur st) : b < w.heap.size := by
  obtain ⟨cc, h1, h2⟩ := h
  exact (Array.getElem?_eq_some_iff.1 h1).1
theorem CellsAt.turn {w' : World} {S : List Nat} (h : CellsAt K ct n w b cur st) (ht : Turn S w w') (hb : b ∉ S) : CellsAt K ct n w' b cur st := h.of_block (ht.block b h.lt hb)
theorem CellsAt.thing (h : CellsAt K ct n w b cur st) {i : Nat} (hi : i < n) : w.cell? ⟨b, i * 2, none⟩ = some (K.enc (cur i)) := by
  obtain ⟨cc, h1, h2, h3⟩ := h
  rw [cell_of_heap h1]
  exact (h3 i hi).1
theorem CellsAt.stamp (h : CellsAt K ct n w b cur st) {i : Nat} (hi : i < n) : w.cell? ⟨b, i * 2 + 1, none⟩ = some (.int .i64 (st i)) := by
  obtain ⟨cc, h1, h2, h3⟩ := h
  rw [cell_of_heap h1]
  exact (h3 i hi).2
theorem CellsAt.frozen (h : CellsAt K ct n w b cur st) (off : Nat) : w.frozen? ⟨b, off, none⟩ = false := by
  obtain ⟨cc, h1, h2, h3⟩ := h
  exact frozen_of_heap h1
theorem CellsAt.setThing (h : CellsAt K ct n w b cur st) {i : Nat} (hi : i < n) (x : α) : CellsAt K ct n (w.setCell ⟨b, i * 2, none⟩ (K.enc x)) b (setAt cur i x) st := by
  obtain ⟨cc, h1, h2, h3⟩ := h
  refine ⟨_, heap_setCell_same h1 _, by simp [h2], fun j hj => ?_⟩
  obtain ⟨h4, h5⟩ := h3 j hj
  constructor
  · by_cases e : j = i
    · subst e
      simp [setAt, Array.getElem?_setIfInBounds]
      omega
    · rw [Array.getElem?_setIfInBounds, if_neg (by omega), h4, setAt, if_neg e]
  · rw [Array.getElem?_setIfInBounds, if_neg (by omega), h5]
theorem CellsAt.setStamp (h : CellsAt K ct n w b cur st) {i : Nat} (hi : i < n) (x : Int) : CellsAt K ct n (w.setCell ⟨b, i * 2 + 1, none⟩ (.int .i64 x)) b cur (setAt st i x) := by
  obtain ⟨cc, h1, h2, h3⟩ := h
  refine ⟨_, heap_setCell_same h1 _, by simp [h2], fun j hj => ?_⟩
  obtain ⟨h4, h5⟩ := h3 j hj
  constructor
  · rw [Array.getElem?_setIfInBounds, if_neg (by omega), h4]
  · by_cases e : j = i
    · subst e
      simp [setAt, Array.getElem?_setIfInBounds]
      omega
    · rw [Array.getElem?_setIfInBounds, if_neg (by omega), h5, setAt, if_neg e]
end

/-- the blocks of maps -/
def blocks (ms : List (Option Nat)) : List Nat := ms.filterMap id

/-- how a trail lies in memory: its struct in block a, its cells in bc, its maps in bh; ms: where each map lies; gs: what each one holds. tt, ct, mt, kt: the types of the struct, a cell, a map, its keys -/
structure Parts (P : Program) (tt ct mt kt : TypeId) (K : Kd α) (M : Nat) (w : World) (a bc bh cap : Nat) (ms : List (Option Nat)) (gs : Nat → Nat → Option α) (σ : Tr α) : Prop where
  small : σ.n ≤ 1000
  most : ms.length ≤ M
  head : w.heap[a]? = some (.cells #[.slice (some ⟨bc, 0, none⟩) σ.n σ.n, .slice (some ⟨bh, 0, none⟩) ms.length cap, .int .i64 (σ.top : Int)] tt (0, 0))
  cells : CellsAt K ct σ.n w bc σ.cur σ.st
  had : ∃ hh, w.heap[bh]? = some (.cells hh mt (0, 0)) ∧ hh.size = cap ∧ hh.toList.take ms.length = ms.map Value.map
  room : ms.length ≤ cap ∧ cap ≤ maxLen
  tops : σ.top < ms.length
  maps : ∀ k b, ms[k]? = some (some b) → MapAt P kt K σ.n w b (gs k)
  nils : ∀ k, (∀ b, ms[k]? ≠ some (some b)) → gs k = fun _ => none
  over : ∀ k, σ.top < k → gs k = fun _ => none
  olds : ∀ k, k ≤ σ.top → ∀ i, i < σ.n → σ.old k i = (gs k i).getD (if k = σ.top then σ.cur i else σ.old (k + 1) i)
  apart : (a :: bc :: bh :: blocks ms).Nodup

/-- a trail at block a, in the blocks F -/
def TrailAt (P : Program) (tt ct mt kt : TypeId) (K : Kd α) (M : Nat) (w : World) (F : List Nat) (a : Nat) (σ : Tr α) : Prop :=
  ∃ bc bh cap ms gs, Parts P tt ct mt kt K M w a bc bh cap ms gs σ ∧ F = a :: bc :: bh :: blocks ms

/-- from blocks F of w to blocks F' of w': nothing else has turned -/
structure Moves (F : List Nat) (w : World) (F' : List Nat) (w' : World) : Prop where
  turn : Turn F w w'
  foot : ∀ b, b ∈ F' → b ∈ F ∨ w.heap.size ≤ b
theorem Moves.refl (F : List Nat) (w : World) : Moves F w F w := ⟨Turn.refl F w, fun _ h => .inl h⟩
theorem Moves.trans {F F1 F2 : List Nat} {a b c : World} (h : Moves F a F1 b) (k : Moves F1 b F2 c) : Moves F a F2 c :=
  ⟨h.turn.trans k.turn h.foot, fun x hx => by
    rcases k.foot x hx with h1 | h1
    · exact h.foot x h1
    · exact .inr (Nat.le_trans h.turn.size h1)⟩
theorem Moves.then {F F1 S : List Nat} {a b c : World} (h : Moves F a F1 b) (k : Turn S b c) (hs : ∀ x, x ∈ S → x ∈ F ∨ a.heap.size ≤ x) : Moves F a F1 c := ⟨h.turn.trans k hs, h.foot⟩
theorem Moves.apart {F F' G : List Nat} {w w' : World} (h : Moves F w F' w') (hG : ∀ b, b ∈ G → b ∉ F) (hl : ∀ b, b ∈ G → b < w.heap.size) : ∀ b, b ∈ G → b ∉ F' := fun b hb hm => by
  rcases h.foot b hm with h1 | h1
  · exact hG b hb h1
  · have := hl b hb
    omega
theorem Moves.low {F F' : List Nat} {B : Nat} {w w' : World} (h : Moves F w F' w') (hF : ∀ b, b ∈ F → B ≤ b) (hB : B ≤ w.heap.size) : ∀ b, b ∈ F' → B ≤ b := fun b hb => by
  rcases h.foot b hb with h1 | h1
  · exact hF b h1
  · omega

section
variable {P : Program} {tt ct mt kt : TypeId} {K : Kd α} {M : Nat} {w : World} {a bc bh cap : Nat} {ms : List (Option Nat)} {gs : Nat → Nat → Option α} {σ : Tr α}
theorem mem_blocks {k b : Nat} (h : ms[k]? = some (some b)) : b ∈ blocks ms := List.mem_filterMap.2 ⟨some b, List.mem_of_getElem? h, rfl⟩
theorem Parts.turn {w' : World} {S : List Nat} (h : Parts P tt ct mt kt K M w a bc bh cap ms gs σ) (ht : Turn S w w') (hS : ∀ b, b ∈ a :: bc :: bh :: blocks ms → b ∉ S) : Parts P tt ct mt kt K M w' a bc bh cap ms gs σ where
  small := h.small
  most := h.most
  head := (ht.block a (Array.getElem?_eq_some_iff.1 h.head).1 (hS a (by simp))).trans h.head
  cells := h.cells.turn ht (hS bc (by simp))
  had := by
    obtain ⟨hh, h1, h2⟩ := h.had
    exact ⟨hh, (ht.block bh (Array.getElem?_eq_some_iff.1 h1).1 (hS bh (by simp))).trans h1, h2⟩
  room := h.room
  tops := h.tops
  maps := fun k b hk => (h.maps k b hk).turn ht (hS b (by simp [mem_blocks hk]))
  nils := h.nils
  over := h.over
  olds := h.olds
  apart := h.apart
theorem TrailAt.turn {F S : List Nat} {w' : World} (h : TrailAt P tt ct mt kt K M w F a σ) (ht : Turn S w w') (hS : ∀ b, b ∈ F → b ∉ S) : TrailAt P tt ct mt kt K M w' F a σ := by
  obtain ⟨bc, bh, cap, ms, gs, h1, rfl⟩ := h
  exact ⟨bc, bh, cap, ms, gs, h1.turn ht hS, rfl⟩
theorem TrailAt.below {F : List Nat} {w' : World} (h : TrailAt P tt ct mt kt K M w F a σ) (hb : Below w.heap.size w w') : TrailAt P tt ct mt kt K M w' F a σ := h.turn (turn_of_below hb []) (fun b _ h => by cases h)
theorem Parts.lts (h : Parts P tt ct mt kt K M w a bc bh cap ms gs σ) : ∀ b, b ∈ a :: bc :: bh :: blocks ms → b < w.heap.size := by
  intro b hb
  simp only [List.mem_cons] at hb
  rcases hb with rfl | rfl | rfl | hb
  · exact (Array.getElem?_eq_some_iff.1 h.head).1
  · exact h.cells.lt
  · obtain ⟨hh, h1, h2⟩ := h.had
    exact (Array.getElem?_eq_some_iff.1 h1).1
  · obtain ⟨o, ho, rfl⟩ := List.mem_filterMap.1 hb
    obtain ⟨k, hk⟩ := List.getElem?_of_mem ho
    exact (h.maps k b hk).lt
theorem TrailAt.lts {F : List Nat} (h : TrailAt P tt ct mt kt K M w F a σ) : ∀ b, b ∈ F → b < w.heap.size := by
  obtain ⟨bc, bh, cap, ms, gs, h1, rfl⟩ := h
  exact h1.lts
theorem TrailAt.mem {F : List Nat} (h : TrailAt P tt ct mt kt K M w F a σ) : a ∈ F := by
  obtain ⟨bc, bh, cap, ms, gs, h1, rfl⟩ := h
  simp
theorem Parts.ne1 (h : Parts P tt ct mt kt K M w a bc bh cap ms gs σ) : a ≠ bc ∧ a ≠ bh ∧ bc ≠ bh := by
  have := h.apart
  simp only [List.nodup_cons, List.mem_cons, not_or] at this
  exact ⟨this.1.1, this.1.2.1, this.2.1.1⟩
theorem Parts.ne2 (h : Parts P tt ct mt kt K M w a bc bh cap ms gs σ) {k b : Nat} (hk : ms[k]? = some (some b)) : b ≠ a ∧ b ≠ bc ∧ b ≠ bh := by
  have := h.apart
  have hm := mem_blocks hk
  simp only [List.nodup_cons, List.mem_cons, not_or] at this
  exact ⟨fun e => this.1.2.2 (e ▸ hm), fun e => this.2.1.2 (e ▸ hm), fun e => this.2.2.1 (e ▸ hm)⟩
theorem Parts.c0 (h : Parts P tt ct mt kt K M w a bc bh cap ms gs σ) : w.cell? ⟨a, 0, none⟩ = some (.slice (some ⟨bc, 0, none⟩) σ.n σ.n) := by rw [cell_of_heap h.head]; rfl
theorem Parts.c1 (h : Parts P tt ct mt kt K M w a bc bh cap ms gs σ) : w.cell? ⟨a, 1, none⟩ = some (.slice (some ⟨bh, 0, none⟩) ms.length cap) := by rw [cell_of_heap h.head]; rfl
theorem Parts.c2 (h : Parts P tt ct mt kt K M w a bc bh cap ms gs σ) : w.cell? ⟨a, 2, none⟩ = some (.int .i64 (σ.top : Int)) := by rw [cell_of_heap h.head]; rfl
theorem Parts.f (h : Parts P tt ct mt kt K M w a bc bh cap ms gs σ) (off : Nat) : w.frozen? ⟨a, off, none⟩ = false := frozen_of_heap h.head
theorem Parts.hc (h : Parts P tt ct mt kt K M w a bc bh cap ms gs σ) {k : Nat} (hk : k < ms.length) : w.cell? ⟨bh, k, none⟩ = some (.map (ms[k]?.getD Option.none)) := by
  obtain ⟨hh, h1, h2, h3⟩ := h.had
  rw [cell_of_heap h1]
  have h4 : (hh.toList.take ms.length)[k]? = (ms.map Value.map)[k]? := by rw [h3]
  rw [List.getElem?_take, if_pos hk] at h4
  rw [← Array.getElem?_toList, h4]
  simp [hk]
theorem Parts.fh (h : Parts P tt ct mt kt K M w a bc bh cap ms gs σ) (off : Nat) : w.frozen? ⟨bh, off, none⟩ = false := by
  obtain ⟨hh, h1, h2, h3⟩ := h.had
  exact frozen_of_heap h1
end
end Go.Proofs.Ytkajkfapleecaaa
