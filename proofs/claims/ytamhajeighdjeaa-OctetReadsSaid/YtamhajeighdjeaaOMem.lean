/-
  Worlds of which a set of blocks has turned; bytes in memory. Nothing of the program but its types of bytes.
-/
import Derived.Test.YtamhajeighdjeaaRows
import Derived.Test.YtamhajeighdjeaaONum
import Derived.Below
import Derived.Deep.Draws
import Derived.WalkKit
import Derived.ProofKit
import Derived.OpenShut
import Derived.Outline
import Derived.WalkMore
import Derived.Lib.Hide
import Derived.BigGuardPart
import Derived.Deep.DeepCutAuto
import Derived.Deep.Light
import Derived.Deep.QuietTactic
import Derived.BigQuiet
import Derived.LoopTactic
import Derived.Laws.BitsAllLaws
import Derived.Laws.Bits64b
import Derived.OwnWalk
import Derived.Maps.AppendAt
import Derived.Great.BuildSlice
import Derived.Laws.OwnMore
import Derived.Lib.OwnBridge
namespace Go.Proofs.Ytamhajeighdjeaa
open Go.RowKit

/-- of the blocks that were there none has turned but those of S -/
structure Turn (S : List Nat) (w w' : World) : Prop where
  os : w'.os = w.os
  tape : w'.tape = w.tape
  output : w'.output = w.output
  size : w.heap.size ≤ w'.heap.size
  block : ∀ k, k < w.heap.size → k ∉ S → w'.heap[k]? = w.heap[k]?

theorem Turn.refl (S : List Nat) (w : World) : Turn S w w := ⟨rfl, rfl, rfl, Nat.le_refl _, fun _ _ _ => rfl⟩
theorem Turn.trans {S S' : List Nat} {a b c : World} (h : Turn S a b) (k : Turn S' b c) (hs : ∀ x, x ∈ S' → x ∈ S ∨ a.heap.size ≤ x) : Turn S a c :=
  ⟨k.os.trans h.os, k.tape.trans h.tape, k.output.trans h.output, Nat.le_trans h.size k.size, fun i hi hn => (k.block i (Nat.lt_of_lt_of_le hi h.size) (fun hm => by
    rcases hs i hm with h1 | h1
    · exact hn h1
    · omega)).trans (h.block i hi hn)⟩
theorem Turn.sub {S S' : List Nat} {a b : World} (h : Turn S a b) (hs : ∀ x, x ∈ S → x ∈ S') : Turn S' a b :=
  ⟨h.os, h.tape, h.output, h.size, fun i hi hn => h.block i hi (fun hm => hn (hs i hm))⟩
theorem turn_of_below {w w' : World} (h : Below w.heap.size w w') (S : List Nat) : Turn S w w' := ⟨h.os, h.tape, h.output, h.size, fun k hk _ => h.block k hk⟩
theorem Turn.below {S : List Nat} {B : Nat} {W a b : World} (hB : Below B W a) (h : Turn S a b) (hle : B ≤ a.heap.size) (hs : ∀ x, x ∈ S → B ≤ x) : Below B W b :=
  hB.trans ⟨h.os, h.tape, h.output, h.size, fun k hk => h.block k (by omega) (fun hm => by have := hs k hm; omega)⟩
theorem Turn.setCell {S : List Nat} {a w : World} (h : Turn S a w) {p : Addr} (hp : p.block ∈ S ∨ a.heap.size ≤ p.block) (u : Value) : Turn S a (w.setCell p u) :=
  ⟨h.os, h.tape, h.output, by simpa [World.setCell] using h.size, fun k hk hn => by
    rw [Below.heap_setCell _ _ _ _ (by
      rintro rfl
      rcases hp with h1 | h1
      · exact hn h1
      · omega)]
    exact h.block k hk hn⟩
theorem Turn.alloc {S : List Nat} {a w : World} (h : Turn S a w) (o : Obj) : Turn S a (w.alloc o) :=
  h.trans (S' := []) ⟨rfl, rfl, rfl, by simp, fun k hk _ => Below.heap_alloc _ _ _ hk⟩ (fun x hx => by cases hx)
theorem Turn.drew {S : List Nat} {a w : World} (h : Turn S a w) : Turn S a w.drew := ⟨h.os, h.tape, h.output, h.size, h.block⟩
theorem Turn.drewN {S : List Nat} {a w : World} (h : Turn S a w) (n : Nat) : Turn S a (w.drewN n) := ⟨h.os, h.tape, h.output, h.size, h.block⟩
theorem Turn.grown {S : List Nat} {a w w' : World} {row : Option Nat} (h : Turn S a w) (hg : w.grownBy w' row) (hr : ∀ k, row = some k → k ∈ S ∨ a.heap.size ≤ k) : Turn S a w' :=
  ⟨hg.os.trans h.os, hg.tape.trans h.tape, hg.output.trans h.output, Nat.le_trans h.size hg.size, fun k hk hn => (hg.block k (Nat.lt_of_lt_of_le hk h.size) (fun e => by
    rcases hr k e.symm with h1 | h1
    · exact hn h1
    · omega)).trans (h.block k hk hn)⟩
theorem Turn.cell {S : List Nat} {w w' : World} (h : Turn S w w') {p : Addr} {v : Value} (hc : w.cell? p = some v) (hn : p.block ∉ S) : w'.cell? p = some v :=
  (World.cell?_of_block (h.block _ (World.block_lt_of_cell? w p hc) hn)).trans hc


theorem cell_below {w wr : World} {p : Addr} {v : Value} (hB : Below w.heap.size w wr) (h : w.cell? p = some v) : wr.cell? p = some v := by
  have hlt : p.block < w.heap.size := by
    unfold World.cell? at h
    cases hh : w.heap[p.block]? with
    | none => simp [hh] at h
    | some q => exact (Array.getElem?_eq_some_iff.1 hh).1
  exact (hB.cell hlt).trans h
theorem cell_under {B : Nat} {w wr : World} {p : Addr} {v : Value} (hB : Below B w wr) (hp : p.block < B) (h : w.cell? p = some v) : wr.cell? p = some v := (hB.cell hp).trans h
theorem below_drewN {B n : Nat} {a w : World} (h : Below B a w) : Below B a (w.drewN n) := ⟨h.os, h.tape, h.output, h.size, h.block⟩
theorem drewN_on {w wr : World} {m : Nat} (h : ∃ n, wr = w.drewN n) : ∃ n, wr.drewN m = w.drewN n := by
  obtain ⟨n, rfl⟩ := h
  exact ⟨n + m, by rw [World.drewN_drewN]⟩
theorem ret_int {k : IntKind} {a b : Int} (h : a = b) : Ending.returned (.int k a) = .returned (.int k b) := by rw [h]
theorem ret_bool {a b : Bool} (h : a = b) : Ending.returned (.bool a) = .returned (.bool b) := by rw [h]

/-- from the address p on lie the bytes xs -/
structure Lies (w : World) (p : Option Addr) (b off : Nat) (xs : List Nat) : Prop where
  at_ : 0 < xs.length → p = some ⟨b, off, none⟩
  cell : ∀ k, k < xs.length → w.cell? ⟨b, off + k, none⟩ = some (.int .u8 (xs.getD k 0 : Nat))
theorem Lies.mono {w w' : World} {p : Option Addr} {b off : Nat} {xs : List Nat} (h : Lies w p b off xs) (hc : 0 < xs.length → ∀ q v, q.block = b → w.cell? q = some v → w'.cell? q = some v) : Lies w' p b off xs :=
  ⟨h.at_, fun k hk => hc (by omega) _ _ rfl (h.cell k hk)⟩
theorem Lies.below {w w' : World} {p : Option Addr} {b off : Nat} {xs : List Nat} (h : Lies w p b off xs) (hb : Below w.heap.size w w') : Lies w' p b off xs :=
  h.mono fun _ _ _ _ hc => cell_below hb hc
theorem Lies.under {B : Nat} {w w' : World} {p : Option Addr} {b off : Nat} {xs : List Nat} (h : Lies w p b off xs) (hb : Below B w w') (hB : b < B) : Lies w' p b off xs :=
  h.mono fun _ _ _ e hc => cell_under hb (by omega) hc
theorem Lies.turn {S : List Nat} {w w' : World} {p : Option Addr} {b off : Nat} {xs : List Nat} (h : Lies w p b off xs) (ht : Turn S w w') (hb : b ∉ S) : Lies w' p b off xs :=
  h.mono fun _ _ _ e hc => ht.cell hc (by rw [e]; exact hb)
theorem Lies.drewN {w : World} {p : Option Addr} {b off : Nat} {xs : List Nat} (h : Lies w p b off xs) (n : Nat) : Lies (w.drewN n) p b off xs := ⟨h.at_, h.cell⟩
theorem Lies.take {w : World} {p : Option Addr} {b off : Nat} {xs : List Nat} (h : Lies w p b off xs) (k : Nat) : Lies w p b off (xs.take k) :=
  ⟨fun h0 => h.at_ (by rw [List.length_take] at h0; omega), fun j hj => by
    rw [List.length_take] at hj
    rw [h.cell j (by omega)]
    simp [show j < k from by omega]⟩
theorem Lies.drop {w : World} {p : Option Addr} {b off : Nat} {xs : List Nat} (h : Lies w p b off xs) (k : Nat) : Lies w (some ⟨b, off + k, none⟩) b (off + k) (xs.drop k) :=
  ⟨fun _ => rfl, fun j hj => by
    rw [List.length_drop] at hj
    rw [Nat.add_assoc, h.cell (k + j) (by omega)]
    simp⟩
/-- the slice value v reads as the bytes xs -/
def Reads (w : World) (v : Value) (xs : List Nat) : Prop := ∃ (p : Option Addr) (b off c : Nat), v = .slice p xs.length c ∧ Lies w p b off xs
theorem Reads.below {w w' : World} {v : Value} {xs : List Nat} (h : Reads w v xs) (hb : Below w.heap.size w w') : Reads w' v xs := by
  obtain ⟨p, b, off, c, h1, h2⟩ := h
  exact ⟨p, b, off, c, h1, h2.below hb⟩
def enc (x : Nat) : Value := .int .u8 (x : Int)
/-- v is a slice in memory from base on, of the bytes xs -/
def Owns (w : World) (base : Nat) (v : Value) (xs : List Nat) : Prop := w.ownsRow base 5 1 v xs.length (xs.map enc)
theorem reads_of_owns {w : World} {base : Nat} {v : Value} {xs : List Nat} (h : Owns w base v xs) : Reads w v xs := by
  have h0 := h
  rcases h.2 with ⟨rfl, h1⟩ | ⟨g, cap, cur, rfl, hb, hg, hn, hc, hs, ht⟩
  · exact ⟨none, 0, 0, 0, by rw [h1], fun h => by omega, fun k hk => by omega⟩
  · refine ⟨_, g, 0, cap, rfl, fun _ => rfl, fun k hk => ?_⟩
    have c0 := h0.cellAt k (by omega)
    rw [Nat.zero_add, c0]
    simp [hk, enc]
theorem owns_below {w wr : World} {base : Nat} {v : Value} {xs : List Nat} (h : Owns w base v xs) (hb : Below w.heap.size w wr) : Owns wr base v xs := by
  refine ⟨h.1, ?_⟩
  rcases h.2 with h1 | ⟨g, cap, cur, h1, h2, h3, h4⟩
  · exact .inl h1
  · exact .inr ⟨g, cap, cur, h1, h2, (hb.block g (Array.getElem?_eq_some_iff.1 h3).1).trans h3, h4⟩
theorem heap_setCell_same {w : World} {b off : Nat} {cc : Array Value} {t : TypeId} {fz : Nat × Nat} (h : w.heap[b]? = some (.cells cc t fz)) (u : Value) : (w.setCell ⟨b, off, none⟩ u).heap[b]? = some (.cells (cc.setIfInBounds off u) t fz) := by
  simp [World.setCell, Array.getElem?_modify, h]
theorem cell_of_heap {w : World} {b off : Nat} {cc : Array Value} {t : TypeId} {fz : Nat × Nat} (h : w.heap[b]? = some (.cells cc t fz)) : w.cell? ⟨b, off, none⟩ = cc[off]? := by
  simp [World.cell?, h]
theorem frozen_of_heap {w : World} {b off : Nat} {cc : Array Value} {t : TypeId} (h : w.heap[b]? = some (.cells cc t (0, 0))) : w.frozen? ⟨b, off, none⟩ = false := by
  simp [World.frozen?, h]

end Go.Proofs.Ytamhajeighdjeaa
