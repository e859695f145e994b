/-
  Sets of texts that a call keeps in a map; what twice, a look of package model, answers, at every model that can be read and whose lists are short.
-/
import Derived.Test.YtkhjnicmbkklpaaPCons
import Derived.Maps.RangeWalk
import Derived.StringKeys
import Derived.Carry
namespace Go.Proofs.Ytkhjnicmbkklpaa
open Go.RowKit Go.MapKept Go.WideShapes
set_option maxRecDepth 100000

/-- of the blocks that were there none has turned but those of S -/
structure Turn (S : List Nat) (w w' : World) : Prop where
  os : w'.os = w.os
  tape : w'.tape = w.tape
  output : w'.output = w.output
  size : w.heap.size ≤ w'.heap.size
  block : ∀ k, k < w.heap.size → k ∉ S → w'.heap[k]? = w.heap[k]?
theorem Turn.refl (S : List Nat) (w : World) : Turn S w w := ⟨rfl, rfl, rfl, Nat.le_refl _, fun _ _ _ => rfl⟩
theorem Turn.below {S : List Nat} {B : Nat} {W a b : World} (hB : Below B W a) (h : Turn S a b) (hle : B ≤ a.heap.size) (hs : ∀ x, x ∈ S → B ≤ x) : Below B W b :=
  hB.trans ⟨h.os, h.tape, h.output, h.size, fun k hk => h.block k (by omega) (fun hm => by have := hs k hm; omega)⟩
theorem Turn.alloc {S : List Nat} {a w : World} (h : Turn S a w) (o : Obj) : Turn S a (w.alloc o) :=
  ⟨h.os, h.tape, h.output, by have := h.size; simp; omega, fun k hk hn => (Below.heap_alloc _ _ _ (Nat.lt_of_lt_of_le hk h.size)).trans (h.block k hk hn)⟩
theorem Turn.grown {S : List Nat} {a w w' : World} {row : Option Nat} (h : Turn S a w) (hg : w.grownBy w' row) (hr : ∀ k, row = some k → k ∈ S) : Turn S a w' :=
  ⟨hg.os.trans h.os, hg.tape.trans h.tape, hg.output.trans h.output, Nat.le_trans h.size hg.size, fun k hk hn => (hg.block k (Nat.lt_of_lt_of_le hk h.size) (fun e => hn (hr k e.symm))).trans (h.block k hk hn)⟩
theorem Turn.cell {S : List Nat} {w w' : World} (h : Turn S w w') {p : Addr} {v : Value} (hc : w.cell? p = some v) (hn : p.block ∉ S) : w'.cell? p = some v :=
  (World.cell?_of_block (h.block _ (World.block_lt_of_cell? w p hc) hn)).trans hc

/-- how a bool in a map is read -/
def boolRd (v : Value) : Option (DataW Bool × List MemPlace) := match v with | .bool b => some (.held b, []) | _ => none
theorem boolRd_inv {v : Value} {b : Bool} {ps : List MemPlace} (h : boolRd v = some (.held b, ps)) : v = .bool b := by
  unfold boolRd at h
  split at h
  · simp only [Option.some.injEq, Prod.mk.injEq, DataW.held.injEq] at h
    rw [h.1]
  · cases h
/-- block b is a map from texts to bools, of which those of ns are true, and no other one -/
def SeenAt (w : World) (b : Nat) (ns : List (List UInt8)) : Prop :=
  ∃ (n : Nat) (D : DataW Bool), w.ownsMap Try.prog 9 boolRd b n D ∧ n ≤ ns.length ∧ ∀ x : List UInt8, D.atKey (.string x) (.held false) = .held (decide (x ∈ ns))
theorem seen_made (w : World) : SeenAt (w.alloc (.map #[] 0)) w.heap.size [] :=
  ⟨0, .map [], World.ownsMap_made w Try.prog 9 boolRd, Nat.le_refl _, fun x => by simp [DataW.atKey]⟩
theorem SeenAt.of_block {w w' : World} {b : Nat} {ns : List (List UInt8)} (h : SeenAt w b ns) (e : w'.heap[b]? = w.heap[b]?) : SeenAt w' b ns := by
  obtain ⟨n, D, ⟨es, clock, hb, r⟩, h2⟩ := h
  exact ⟨n, D, ⟨es, clock, e.trans hb, r⟩, h2⟩
theorem SeenAt.lt {w : World} {b : Nat} {ns : List (List UInt8)} (h : SeenAt w b ns) : b < w.heap.size := by
  obtain ⟨n, D, h1, _⟩ := h
  exact h1.lt
theorem SeenAt.below {w w' : World} {b : Nat} {ns : List (List UInt8)} (h : SeenAt w b ns) (hB : Below w.heap.size w w') : SeenAt w' b ns := h.of_block (hB.block b h.lt)
theorem SeenAt.not_cell {w : World} {b : Nat} {ns : List (List UInt8)} (h : SeenAt w b ns) {p : Addr} {v : Value} (hc : w.cell? p = some v) : p.block ≠ b := by
  rintro rfl
  obtain ⟨n, D, ⟨es, clock, hb, r⟩, h2⟩ := h
  unfold World.cell? at hc
  rw [hb] at hc
  cases hc
theorem zero_bool (w : World) : (zeroValue 4).run Try.prog w = .ok (.bool false) w := by kernel_rfl
theorem twice_next {ns : List (List UInt8)} {k : Nat} {x : List UInt8} (h : ¬ TwiceTo ns k) (hx : ns[k]? = some x) (hn : ¬ x ∈ ns.take k) : ¬ TwiceTo ns (k + 1) := by
  rintro ⟨i, j, hj, hi, e⟩
  obtain ⟨hk, ex⟩ := List.getElem?_eq_some_iff.1 hx
  by_cases hik : i < k
  · exact h ⟨i, j, hj, hik, e⟩
  · obtain rfl : i = k := by omega
    have e2 : ns.getD i [] = x := by simp [hx]
    rw [e2] at e
    refine hn (List.mem_iff_getElem?.2 ⟨j, ?_⟩)
    rw [List.getElem?_take, if_pos hj, e]
    have : j < ns.length := by omega
    simp [this]
theorem twice_hit {ns : List (List UInt8)} {k : Nat} {x : List UInt8} (hx : ns[k]? = some x) (hn : x ∈ ns.take k) : TwiceTo ns ns.length := by
  obtain ⟨j, hj⟩ := List.mem_iff_getElem?.1 hn
  rw [List.getElem?_take] at hj
  by_cases hjk : j < k
  · rw [if_pos hjk] at hj
    refine ⟨k, j, hjk, (List.getElem?_eq_some_iff.1 hx).1, ?_⟩
    simp [hx, hj]
  · rw [if_neg hjk] at hj
    cases hj
theorem take_next {α : Type} {L : List α} {k : Nat} {x : α} (hx : L[k]? = some x) : L.take (k + 1) = L.take k ++ [x] := by
  rw [List.take_add_one, hx]
  rfl
theorem names_at {L : List PDecl} {k : Nat} {d : PDecl} (h : L[k]? = some d) : (names L)[k]? = some d.name := by
  simp [names, h]
theorem names_len (L : List PDecl) : (names L).length = L.length := by simp [names]

open Classical in
theorem twice_true {m : PModel} {L : List PDecl} (hL : L = varsL m.blocks) (h : TwiceTo (names L) (names L).length) : twiceM m = true := by rw [twiceM, ← hL]; exact decide_eq_true h
open Classical in
theorem twice_false {m : PModel} {L : List PDecl} (hL : L = varsL m.blocks) (h : ¬ TwiceTo (names L) (names L).length) : twiceM m = false := by rw [twiceM, ← hL]; exact decide_eq_false h
end Go.Proofs.Ytkhjnicmbkklpaa
