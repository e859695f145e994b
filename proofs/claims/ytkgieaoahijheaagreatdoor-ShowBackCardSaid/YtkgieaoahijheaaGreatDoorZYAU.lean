/-
  A reader of tokens in memory; what its looks at the next token answer (the document's answers for texts of models).
  What a reader of tokens does: steps, numbers and names (the document's answers for texts of models).
  Names that a reader of tokens takes (the document's answers for texts of models).
  A variable that a reader of tokens takes (the document's answers for texts of models).
  Lists of elements that a call makes, in memory: what each element's cells are. Nothing of the program.
  A constraint that a reader of tokens builds, in memory: a variable of six cells, its lists of numbers. Nothing of the program.
  A number behind a list that a reader of tokens builds, as one operation. Nothing of the program.
  How far a reader of tokens has come with a constraint: its own cells, the constraint's, and what else has turned. Nothing of the program.
  A sum that a reader of tokens takes (the document's answers for texts of models).
-/
import Derived.Test.YtkgieaoahijheaaGreatDoorZGNum
import Derived.Test.YtkgieaoahijheaaGreatDoorZYAT
import Derived.Test.YtkgieaoahijheaaGreatDoorZYAB
import Derived.IntWalk
import Derived.Test.YtkgieaoahijheaaGreatDoorZYAE
import Derived.Maps.AppendAt
import Derived.Deep.AppendLies
import Derived.Deep.RegionLaw
import Derived.Deep.CutBlock
import Derived.Deep.DeepCutAuto
namespace Go.Proofs.YtkgieaoahijheaaGreatDoor.Pa
open Go.RowKit
open Sc (Tok Cells str noTok)
set_option maxRecDepth 100000

def badI : Option Nat → Int
  | none => -1
  | some p => (p : Int)
/-- the names of variables so far, in memory -/
structure NmAt (w : World) (p : Option Addr) (b off m : Nat) (L : List Txt) : Prop where
  long : m = L.length
  at_ : 0 < m → p = some ⟨b, off, none⟩
  cell : ∀ k, k < m → w.cell? ⟨b, off + k, none⟩ = some (str (L.getD k []))
/-- of what was there nothing turns but block g, and block v -/
structure Moves (g : Nat) (v : Option Nat) (w w' : World) : Prop where
  os : w'.os = w.os
  tape : w'.tape = w.tape
  output : w'.output = w.output
  size : w.heap.size ≤ w'.heap.size
  block : ∀ k, k < w.heap.size → k ≠ g → some k ≠ v → w'.heap[k]? = w.heap[k]?
theorem Moves.refl (g : Nat) (v : Option Nat) (w : World) : Moves g v w w := ⟨rfl, rfl, rfl, Nat.le_refl _, fun _ _ _ _ => rfl⟩
theorem Moves.trans {g : Nat} {v : Option Nat} {w w' w'' : World} (h : Moves g v w w') (k : Moves g v w' w'') : Moves g v w w'' :=
  ⟨k.os.trans h.os, k.tape.trans h.tape, k.output.trans h.output, Nat.le_trans h.size k.size, fun i hi hg hv => (k.block i (Nat.lt_of_lt_of_le hi h.size) hg hv).trans (h.block i hi hg hv)⟩
theorem Moves.of_below {g : Nat} {v : Option Nat} {w w' : World} (h : Below w.heap.size w w') : Moves g v w w' := ⟨h.os, h.tape, h.output, h.size, fun k hk _ _ => h.block k hk⟩
theorem Moves.drewN {g : Nat} {v : Option Nat} {w w' : World} (h : Moves g v w w') (n : Nat) : Moves g v w (w'.drewN n) := ⟨h.os, h.tape, h.output, h.size, h.block⟩
theorem Moves.set {g : Nat} {v : Option Nat} {w w' : World} (h : Moves g v w w') (i : Nat) (x : Value) : Moves g v w (w'.setCell ⟨g, i, none⟩ x) :=
  ⟨h.os, h.tape, h.output, by have := h.size; simp [World.setCell]; exact this, fun k hk hg hv => (Below.heap_setCell _ _ _ _ hg).trans (h.block k hk hg hv)⟩
theorem Moves.cell {g : Nat} {v : Option Nat} {w w' : World} (h : Moves g v w w') {p : Addr} {x : Value} (hc : w.cell? p = some x) (hg : p.block ≠ g) (hv : some p.block ≠ v) : w'.cell? p = some x :=
  (World.cell?_of_block (w := w) (h.block _ (World.block_lt_of_cell? w p hc) hg hv)).trans hc

section
variable {w : World} {g n : Nat} {pl : Option Addr} {bl ol cl : Nat} {pv : Option Addr} {bv ov m cv : Nat} {T : List Tok} {r : Rd}
end
theorem next_out {T : List Tok} {r : Rd} (h : r.wrong = true ∨ T.length ≤ r.at_) : next T r = none := by
  unfold next
  split
  · rfl
  · rename_i hw
    exact List.getElem?_eq_none_iff.2 (h.resolve_left hw)
theorem next_in {T : List Tok} {r : Rd} (hw : r.wrong = false) (h : r.at_ < T.length) : next T r = some (T.getD r.at_ noTok) := by
  unfold next
  rw [if_neg (by rw [hw]; simp), List.getElem?_eq_getElem h]
  simp [h]
theorem str_is (l : List UInt8) : ∃ q : ByteArray, str l = .string q := ⟨_, rfl⟩

end Go.Proofs.YtkgieaoahijheaaGreatDoor.Pa
namespace Go.Proofs.YtkgieaoahijheaaGreatDoor.Pa
open Go.RowKit
open Sc (Tok Cells str noTok)
set_option maxRecDepth 100000

theorem str_open (l : List UInt8) : ∃ q : ByteArray, str l = .string q ∧ txt q = l := ⟨⟨l.toArray⟩, rfl, by simp [txt]⟩
theorem cell_off {u : World} {p a : Addr} {v y : Value} (h : u.cell? p = some v) (hne : p.block ≠ a.block) : (u.setCell a y).cell? p = some v := by
  rw [World.cell?_of_block (w := u) (Below.heap_setCell u a y p.block hne)]
  exact h
section
variable {w : World} {g n : Nat} {pl : Option Addr} {bl ol cl : Nat} {pv : Option Addr} {bv ov m cv : Nat} {T : List Tok} {r : Rd}
theorem if_app {α : Type} {c : Prop} [Decidable c] (P Q : Rx α) (T : List Tok) (r : Rd) : (if c then P else Q) T r = if c then P T r else Q T r := by split <;> rfl
theorem number_eq (T : List Tok) (r : Rd) : number T r = if (hasF tMinus r (next T r)).1 = true then (-(valueF (hasF tMinus r (next T r)).2 (next T (hasF tMinus r (next T r)).2)).1, (valueF (hasF tMinus r (next T r)).2 (next T (hasF tMinus r (next T r)).2)).2) else valueF (hasF tMinus r (next T r)).2 (next T (hasF tMinus r (next T r)).2) := by
  show (if (hasF tMinus r (next T r)).1 = true then seq (look valueF) (fun v => ret (-v)) else look valueF) T (hasF tMinus r (next T r)).2 = _
  rw [if_app]
  rfl

end
end Go.Proofs.YtkgieaoahijheaaGreatDoor.Pa
namespace Go.Proofs.YtkgieaoahijheaaGreatDoor.Pa
open Go.RowKit
open Sc (Tok Cells str noTok)
set_option maxRecDepth 100000

section
variable {w : World} {g n : Nat} {pl : Option Addr} {bl ol cl : Nat} {pv : Option Addr} {bv ov m cv : Nat} {T : List Tok} {r : Rd}
end
end Go.Proofs.YtkgieaoahijheaaGreatDoor.Pa
namespace Go.Proofs.YtkgieaoahijheaaGreatDoor.Pa
open Go.RowKit
open Sc (Tok Cells str noTok)
set_option maxRecDepth 100000

theorem find_at {s : Txt} : ∀ {l : List Txt} {i : Nat}, (∀ j, j < i → l.getD j [] ≠ s) → i < l.length → l.getD i [] = s → findF s l = some i
  | [], i, _, h, _ => by simp at h
  | x :: l, 0, _, _, e => by
    rw [List.getD_cons_zero] at e
    rw [findF, if_pos e]
  | x :: l, i + 1, h, hi, e => by
    have h0 := h 0 (by omega)
    rw [List.getD_cons_zero] at h0
    rw [findF, if_neg h0, find_at (l := l) (i := i) (fun j hj => by have := h (j + 1) (by omega); rwa [List.getD_cons_succ] at this) (by simpa using hi) (by rwa [List.getD_cons_succ] at e)]
    rfl
theorem find_no {s : Txt} : ∀ {l : List Txt}, (∀ j, j < l.length → l.getD j [] ≠ s) → findF s l = none
  | [], _ => rfl
  | x :: l, h => by
    have h0 := h 0 (by simp)
    rw [List.getD_cons_zero] at h0
    rw [findF, if_neg h0, find_no fun j hj => by have := h (j + 1) (by simpa using hj); rwa [List.getD_cons_succ] at this]
    rfl
section
variable {w : World} {g n : Nat} {pl : Option Addr} {bl ol cl : Nat} {pv : Option Addr} {bv ov m cv : Nat} {T : List Tok} {r : Rd}
end
end Go.Proofs.YtkgieaoahijheaaGreatDoor.Pa
namespace Go.Proofs.YtkgieaoahijheaaGreatDoor
open Go.RowKit
set_option maxRecDepth 100000

/-- v is a slice in memory from base on (elements of type e, of n cells each); what R says of each element's cells holds of L's -/
def OwnsP {α : Type} (R : List Value → α → Prop) (n : Nat) (e : TypeId) (base : Nat) (w : World) (v : Value) (L : List α) : Prop :=
  ∃ cs : List Value, w.ownsRow base e n v L.length cs ∧ cs.length = L.length * n ∧ ∀ (k : Nat) (a : α), L[k]? = some a → ∃ c : List Value, c.length = n ∧ (∀ j, j < n → cs[k * n + j]? = c[j]?) ∧ R c a
theorem ownsP_nil {α : Type} (R : List Value → α → Prop) (n : Nat) (e : TypeId) (base : Nat) (w : World) : OwnsP R n e base w (.slice none 0 0) ([] : List α) := ⟨[], World.ownsRow_nil _ _ _ _, by simp, fun k a h => by simp at h⟩
theorem ownsP_made {α : Type} (R : List Value → α → Prop) (n : Nat) (e : TypeId) {base : Nat} (w : World) (h : base ≤ w.heap.size) : OwnsP R n e base (w.alloc (.cells #[] e)) (.slice (some ⟨w.heap.size, 0, none⟩) 0 0) ([] : List α) :=
  ⟨[], World.ownsRow_made w #[] 0 h (by unfold maxLen; omega) (by simp), by simp, fun k a h => by simp at h⟩
section
variable {α : Type} {R : List Value → α → Prop} {n : Nat} {e : TypeId} {base : Nat} {w w' : World} {v : Value} {L : List α}
theorem OwnsP.shape (h : OwnsP R n e base w v L) : ∃ (p : Option Addr) (cap : Nat), v = .slice p L.length cap := by
  obtain ⟨cs, h1, _⟩ := h
  rcases h1.2 with ⟨rfl, hl⟩ | ⟨g, cap, cur, rfl, hb, hg, hn, hc, hs, ht⟩
  · exact ⟨none, 0, by rw [hl]⟩
  · exact ⟨_, cap, rfl⟩
theorem OwnsP.below (h : OwnsP R n e base w v L) (hB : Below w.heap.size w w') : OwnsP R n e base w' v L := by
  obtain ⟨cs, h1, h2⟩ := h
  exact ⟨cs, owns_below h1 hB, h2⟩
theorem OwnsP.lt (h : OwnsP R n e base w v L) : ∀ k, v.ownBlock = some k → base ≤ k ∧ k < w.heap.size := by
  obtain ⟨cs, h1, _⟩ := h
  exact h1.lt
theorem OwnsP.imp {R' : List Value → α → Prop} (h : OwnsP R n e base w v L) (f : ∀ c a, a ∈ L → R c a → R' c a) : OwnsP R' n e base w v L := by
  obtain ⟨cs, h1, h2, h3⟩ := h
  refine ⟨cs, h1, h2, fun k a ha => ?_⟩
  obtain ⟨c, c1, c2, c3⟩ := h3 k a ha
  exact ⟨c, c1, c2, f c a (List.mem_of_getElem? ha) c3⟩
theorem OwnsP.low {low : Nat} (h : OwnsP R n e base w v L) (hl : low ≤ base) : OwnsP R n e low w v L := by
  obtain ⟨cs, h1, h2⟩ := h
  exact ⟨cs, owns_low h1 hl, h2⟩
theorem OwnsP.kept {row : Option Nat} (h : OwnsP R n e base w v L) (hg : w.grownBy w' row) (hne : v.ownBlock = none ∨ v.ownBlock ≠ row) : OwnsP R n e base w' v L := by
  obtain ⟨cs, h1, h2⟩ := h
  exact ⟨cs, h1.kept hg hne, h2⟩
/-- such a list reads as it is -/
theorem OwnsP.slc {R' : Reader α} (h : OwnsP R n e base w v L) (f : ∀ c a, a ∈ L → R c a → R' w c a) : Slc R' n w v L := by
  obtain ⟨cs, h1, h2, h3⟩ := h
  have h0 := h1
  rcases h1.2 with ⟨rfl, hl⟩ | ⟨g, cap, cur, rfl, hb, hg, hn, hc, hs, ht⟩
  · exact ⟨none, 0, 0, 0, 0, rfl, ⟨fun _ => rfl, Nat.le_refl _⟩, hl.symm, fun h => by omega, fun k a ha => by
      have := (List.getElem?_eq_some_iff.1 ha).1
      omega⟩
  · refine ⟨_, g, 0, cap, L.length, rfl, ⟨(fun h => by cases h), hn⟩, rfl, fun _ => rfl, fun k a ha => ?_⟩
    have hk := (List.getElem?_eq_some_iff.1 ha).1
    obtain ⟨c, c1, c2, c3⟩ := h3 k a ha
    refine ⟨c, c1, fun j hj => ?_, f c a (List.mem_of_getElem? ha) c3⟩
    have hlt : k * n + j < L.length * n := by
      have := Nat.mul_le_mul_right n (Nat.succ_le_of_lt hk)
      rw [Nat.succ_mul] at this
      omega
    rw [Nat.zero_add, h0.cellAt (k * n + j) hlt, c2 j hj]
end
/-- lists of elements of unlike types lie in unlike blocks -/
theorem OwnsP.apart {α β : Type} {R : List Value → α → Prop} {S : List Value → β → Prop} {n m : Nat} {e f : TypeId} {b c : Nat} {w : World} {u v : Value} {L : List α} {M : List β} (h : OwnsP R n e b w u L) (k : OwnsP S m f c w v M) (hne : e ≠ f) : u.ownBlock = none ∨ u.ownBlock ≠ v.ownBlock := by
  obtain ⟨_, h1, _⟩ := h
  obtain ⟨_, k1, _⟩ := k
  rcases h1.2 with ⟨rfl, _⟩ | ⟨g, cap, cur, rfl, hb, hg, _⟩
  · exact .inl rfl
  · rcases k1.2 with ⟨rfl, _⟩ | ⟨g', cap', cur', rfl, hb', hg', _⟩
    · exact .inr (by simp [Value.ownBlock])
    · refine .inr fun he => hne ?_
      simp only [Value.ownBlock, Option.some.injEq] at he
      subst he
      rw [hg] at hg'
      simp only [Option.some.injEq, Obj.cells.injEq] at hg'
      exact hg'.2.1

/-- the block of its own is what it was -/
theorem OwnsP.same {α : Type} {R : List Value → α → Prop} {n : Nat} {e : TypeId} {base : Nat} {w w' : World} {v : Value} {L : List α} (h : OwnsP R n e base w v L) (hk : ∀ k, v.ownBlock = some k → w'.heap[k]? = w.heap[k]?) : OwnsP R n e base w' v L := by
  obtain ⟨cs, h1, h2⟩ := h
  refine ⟨cs, ⟨h1.1, ?_⟩, h2⟩
  rcases h1.2 with q | ⟨g, cap, cur, rfl, hb, hg, r⟩
  · exact .inl q
  · exact .inr ⟨g, cap, cur, rfl, hb, (hk g rfl).trans hg, r⟩
/-- its block holds elements of its type -/
theorem OwnsP.kind {α : Type} {R : List Value → α → Prop} {n : Nat} {e : TypeId} {base : Nat} {w : World} {v : Value} {L : List α} (h : OwnsP R n e base w v L) {k : Nat} (hk : v.ownBlock = some k) : ∃ cs, w.heap[k]? = some (.cells cs e) := by
  obtain ⟨cs, h1, _⟩ := h
  rcases h1.2 with ⟨rfl, _⟩ | ⟨g, cap, cur, rfl, hb, hg, r⟩
  · simp [Value.ownBlock] at hk
  · simp only [Value.ownBlock, Option.some.injEq] at hk
    subst hk
    exact ⟨cur, hg⟩

/-- one element, laid out in cells of its own, behind a list -/
theorem append_put {α : Type} {R : List Value → α → Prop} {w : World} {ops : Array Oper} {rest : List Oper} {o : Oper} {a : Act} {Q : Exit → Act → World → Prop} (hgd : o.guard = none) (s x : Operand) (t e : TypeId) (n by_ : Nat) (i0 : TypeInfo) (z : Value)
    (ht : Tryz.prog.underlying t = some (.slice e)) (hi : Tryz.prog.info? e = some i0) (hz0 : i0.zero = some z) (hz1 : i0.size = n) (hz2 : i0.bytes = by_) (hzc : z.cells.size = n) (hpos : 0 < n) (hby2 : by_ ≤ 128)
    (ho : o.op = .call { callee := .builtin .append, args := #[s, x], argTypes := #[t, t] }) (base : Nat) (v : Value) (b c : Nat) (L : List α) (y : α) (cs : List Value) (hs : a.eval s = v) (hx : a.eval x = .slice (some ⟨b, 0, none⟩) 1 c)
    (hown : OwnsP R n e base w v L) (hlen : cs.length = n) (hcell : ∀ i u, cs[i]? = some u → w.cell? ⟨b, i, none⟩ = some u) (h1 : ∀ u ∈ cs, u.oneCell' = true) (hR : R cs y) (hsm : L.length ≤ 100000) (hbase : base ≤ w.heap.size)
    (h : ∀ v' w', OwnsP R n e base w' v' (L ++ [y]) → w.grownBy w' v.ownBlock → (v'.ownBlock = v.ownBlock ∨ v'.ownBlock = some w.heap.size) → wpList Tryz.prog ops Q rest (a.put o.dst v') w') : wpList Tryz.prog ops Q (o :: rest) a w := by
  obtain ⟨os, o1, o2, o3⟩ := hown
  refine wpList_append_own_at w hgd s x t ho base e i0 z n by_ ht hi hz0 hz1 hz2 hzc hpos v L.length os hs o1 ⟨b, 0, none⟩ 1 c cs hx (by rw [hlen, Nat.one_mul]) (fun j u hj => by rw [add_plain', Nat.zero_add]; exact hcell j u hj) h1 (by unfold maxLen; omega) ?_ hbase ?_
  · have : (L.length + 1) * by_ ≤ 100001 * 128 := Nat.mul_le_mul (by omega) hby2
    omega
  · intro v' w' g1 g2 _ g4
    refine h v' w' ⟨os ++ cs, ?_, ?_, fun k b' hk => ?_⟩ g2 g4
    · rw [List.length_append]
      exact g1
    · rw [List.length_append, List.length_append, o2, hlen, Nat.add_mul]
      simp
    · by_cases hlt : k < L.length
      · rw [List.getElem?_append_left hlt] at hk
        obtain ⟨d, d1, d2, d3⟩ := o3 k b' hk
        refine ⟨d, d1, fun j hj => ?_, d3⟩
        have hl : k * n + j < os.length := by
          rw [o2]
          have := Nat.mul_le_mul_right n (Nat.succ_le_of_lt hlt)
          rw [Nat.succ_mul] at this
          omega
        rw [List.getElem?_append_left hl, d2 j hj]
      · rw [List.getElem?_append_right (by omega)] at hk
        have hk1 := (List.getElem?_eq_some_iff.1 hk).1
        obtain rfl : k = L.length := by simp at hk1; omega
        rw [Nat.sub_self] at hk
        obtain rfl : y = b' := by simpa using hk
        refine ⟨cs, hlen, fun j hj => ?_, hR⟩
        rw [List.getElem?_append_right (by rw [o2]; omega), o2, Nat.add_sub_cancel_left]

end Go.Proofs.YtkgieaoahijheaaGreatDoor
namespace Go.Proofs.YtkgieaoahijheaaGreatDoor.Pa
open Go.RowKit
open Sc (Tok Cells str noTok)
set_option maxRecDepth 100000

def numP (cs : List Value) (z : Int) : Prop := cs = [.int .i64 z] ∧ Fit z
/-- of what was there nothing turns but blocks of F -/
structure But (F : Nat → Prop) (w w' : World) : Prop where
  os : w'.os = w.os
  tape : w'.tape = w.tape
  output : w'.output = w.output
  size : w.heap.size ≤ w'.heap.size
  block : ∀ k, k < w.heap.size → ¬ F k → w'.heap[k]? = w.heap[k]?
theorem But.refl (F : Nat → Prop) (w : World) : But F w w := ⟨rfl, rfl, rfl, Nat.le_refl _, fun _ _ _ => rfl⟩
theorem But.trans {F G : Nat → Prop} {w w' w'' : World} (h : But F w w') (k : But G w' w'') (hG : ∀ i, i < w.heap.size → G i → F i) : But F w w'' :=
  ⟨k.os.trans h.os, k.tape.trans h.tape, k.output.trans h.output, Nat.le_trans h.size k.size, fun i hi hF => (k.block i (Nat.lt_of_lt_of_le hi h.size) fun g => hF (hG i hi g)).trans (h.block i hi hF)⟩
theorem But.moves {F : Nat → Prop} {g : Nat} {w w' : World} (h : Moves g none w w') (hg : F g) : But F w w' := ⟨h.os, h.tape, h.output, h.size, fun k hk hF => h.block k hk (fun e => hF (e ▸ hg)) (by simp)⟩
theorem But.below {F : Nat → Prop} {w w' : World} (h : Below w.heap.size w w') : But F w w' := ⟨h.os, h.tape, h.output, h.size, fun k hk _ => h.block k hk⟩
theorem But.grown {F : Nat → Prop} {w w' : World} {row : Option Nat} (h : w.grownBy w' row) (hr : ∀ k, row = some k → k < w.heap.size → F k) : But F w w' := ⟨h.os, h.tape, h.output, h.size, fun k hk hF => h.block k hk (fun e => hF (hr k e.symm hk))⟩
theorem But.set {F : Nat → Prop} {w : World} (p : Addr) (x : Value) (hp : p.block < w.heap.size → F p.block) : But F w (w.setCell p x) :=
  ⟨rfl, rfl, rfl, by simp [World.setCell], fun k hk hF => Below.heap_setCell w p x k (fun e => hF (e ▸ hp (e ▸ hk)))⟩

/-- the lists of a constraint, each in a block of its own -/
structure Own3 (w : World) (base : Nat) (c : PCon) (v1 v2 v3 : Value) : Prop where
  o1 : OwnsP numP 1 3 base w v1 c.vars
  o2 : OwnsP numP 1 3 base w v2 c.coefs
  o3 : OwnsP numP 1 3 base w v3 c.nums
  p12 : ∀ k, v1.ownBlock = some k → v2.ownBlock ≠ some k
  p13 : ∀ k, v1.ownBlock = some k → v3.ownBlock ≠ some k
  p23 : ∀ k, v2.ownBlock = some k → v3.ownBlock ≠ some k
theorem own3_nil (w : World) (base : Nat) (k : Int) : Own3 w base (conOf k) (.slice none 0 0) (.slice none 0 0) (.slice none 0 0) :=
  ⟨ownsP_nil _ _ _ _ _, ownsP_nil _ _ _ _ _, ownsP_nil _ _ _ _ _, fun k h => by simp [Value.ownBlock] at h, fun k h => by simp [Value.ownBlock] at h, fun k h => by simp [Value.ownBlock] at h⟩
section
variable {w w' : World} {base : Nat} {c : PCon} {v1 v2 v3 : Value}
theorem Own3.same (h : Own3 w base c v1 v2 v3) (hk : ∀ k : Nat, (∃ cs, w.heap[k]? = some (Obj.cells cs 3 (0, 0))) → w'.heap[k]? = w.heap[k]?) : Own3 w' base c v1 v2 v3 :=
  ⟨h.o1.same fun k e => hk k (h.o1.kind e), h.o2.same fun k e => hk k (h.o2.kind e), h.o3.same fun k e => hk k (h.o3.kind e), h.p12, h.p13, h.p23⟩
theorem Own3.low {low : Nat} (h : Own3 w base c v1 v2 v3) (hl : low ≤ base) : Own3 w low c v1 v2 v3 := ⟨h.o1.low hl, h.o2.low hl, h.o3.low hl, h.p12, h.p13, h.p23⟩
theorem Own3.set {b j : Nat} {x : Value} (h : Own3 w base c v1 v2 v3) (hb : ∃ cs, w.heap[b]? = some (.cells cs 38)) : Own3 (w.setCell ⟨b, j, none⟩ x) base c v1 v2 v3 :=
  h.same fun k ⟨cs, e⟩ => Below.heap_setCell w ⟨b, j, none⟩ x k (fun ek => by
    obtain ⟨cs', e'⟩ := hb
    simp only at ek
    rw [ek, e'] at e
    simp at e)
theorem Own3.below (h : Own3 w base c v1 v2 v3) (hB : Below w.heap.size w w') : Own3 w' base c v1 v2 v3 :=
  h.same fun k ⟨_, e⟩ => hB.block k (Array.getElem?_eq_some_iff.1 e).1
/-- a new row, where a row was, or behind all -/
theorem row_new {v v' u : Value} {M : List Int} (hu : OwnsP numP 1 3 base w u M) (hp : ∀ k, v.ownBlock = some k → u.ownBlock ≠ some k) (hat : v'.ownBlock = v.ownBlock ∨ v'.ownBlock = some w.heap.size) : ∀ k, v'.ownBlock = some k → u.ownBlock ≠ some k := fun k e hk => by
  rcases hat with q | q
  · exact hp k (q ▸ e) hk
  · rw [q] at e
    cases e
    have := (hu.lt _ hk).2
    omega
theorem row_kept {v u : Value} {M : List Int} (hu : OwnsP numP 1 3 base w u M) (hp : ∀ k, v.ownBlock = some k → u.ownBlock ≠ some k) (hg : w.grownBy w' v.ownBlock) : OwnsP numP 1 3 base w' u M :=
  hu.same fun k hk => hg.block k (hu.lt k hk).2 (fun e => hp k e.symm hk)
theorem Own3.vars {v' : Value} {z : Int} (h : Own3 w base c v1 v2 v3) (ho : OwnsP numP 1 3 base w' v' (c.vars ++ [z])) (hg : w.grownBy w' v1.ownBlock) (hat : v'.ownBlock = v1.ownBlock ∨ v'.ownBlock = some w.heap.size) : Own3 w' base { c with vars := c.vars ++ [z] } v' v2 v3 :=
  ⟨ho, row_kept h.o2 h.p12 hg, row_kept h.o3 h.p13 hg, row_new h.o2 h.p12 hat, row_new h.o3 h.p13 hat, h.p23⟩
theorem Own3.coefs {v' : Value} {z : Int} (h : Own3 w base c v1 v2 v3) (ho : OwnsP numP 1 3 base w' v' (c.coefs ++ [z])) (hg : w.grownBy w' v2.ownBlock) (hat : v'.ownBlock = v2.ownBlock ∨ v'.ownBlock = some w.heap.size) : Own3 w' base { c with coefs := c.coefs ++ [z] } v1 v' v3 :=
  ⟨row_kept h.o1 (fun k e q => h.p12 k q e) hg, ho, row_kept h.o3 h.p23 hg, fun k e q => row_new h.o1 (fun k e q => h.p12 k q e) hat k q e, h.p13, row_new h.o3 h.p23 hat⟩
theorem Own3.nums {v' : Value} {z : Int} (h : Own3 w base c v1 v2 v3) (ho : OwnsP numP 1 3 base w' v' (c.nums ++ [z])) (hg : w.grownBy w' v3.ownBlock) (hat : v'.ownBlock = v3.ownBlock ∨ v'.ownBlock = some w.heap.size) : Own3 w' base { c with nums := c.nums ++ [z] } v1 v2 v' :=
  ⟨row_kept h.o1 (fun k e q => h.p13 k q e) hg, row_kept h.o2 (fun k e q => h.p23 k q e) hg, ho, h.p12, fun k e q => row_new h.o1 (fun k e q => h.p13 k q e) hat k q e, fun k e q => row_new h.o2 (fun k e q => h.p23 k q e) hat k q e⟩
end
/-- a variable of a constraint -/
def Box6 (w : World) (b : Nat) (k : Int) (v1 v2 : Value) (r t : Int) (v3 : Value) : Prop := w.heap[b]? = some (.cells #[.int .i64 k, v1, v2, .int .i64 r, .int .i64 t, v3] 38)
section
variable {w w' : World} {b : Nat} {k r t : Int} {v1 v2 v3 : Value}
theorem Box6.new (w : World) (k : Int) (v1 v2 : Value) (r t : Int) (v3 : Value) : Box6 (w.alloc (.cells #[.int .i64 k, v1, v2, .int .i64 r, .int .i64 t, v3] 38)) w.heap.size k v1 v2 r t v3 := heap_alloc_new w _
theorem Box6.lt (h : Box6 w b k v1 v2 r t v3) : b < w.heap.size := (Array.getElem?_eq_some_iff.1 h).1
theorem Box6.kind (h : Box6 w b k v1 v2 r t v3) : ∃ cs, w.heap[b]? = some (.cells cs 38) := ⟨_, h⟩
theorem Box6.cell (h : Box6 w b k v1 v2 r t v3) (j : Nat) {x : Value} (hx : #[.int .i64 k, v1, v2, .int .i64 r, .int .i64 t, v3][j]? = some x) : w.cell? ⟨b, j, none⟩ = some x := by
  rw [cell_of_row w b j _ 38 (0, 0) h, hx]
theorem Box6.frozen (h : Box6 w b k v1 v2 r t v3) (j : Nat) : w.frozen? ⟨b, j, none⟩ = false := frozen_of_row w b j _ 38 h
theorem Box6.same (h : Box6 w b k v1 v2 r t v3) (e : w'.heap[b]? = w.heap[b]?) : Box6 w' b k v1 v2 r t v3 := e.trans h
theorem Box6.below (h : Box6 w b k v1 v2 r t v3) (hB : Below w.heap.size w w') : Box6 w' b k v1 v2 r t v3 := h.same (hB.block b h.lt)
theorem Box6.grown {v : Value} {base : Nat} {L : List Int} (h : Box6 w b k v1 v2 r t v3) (hv : OwnsP numP 1 3 base w v L) (hg : w.grownBy w' v.ownBlock) : Box6 w' b k v1 v2 r t v3 :=
  h.same (hg.block b h.lt (fun e => by
    obtain ⟨cs, q⟩ := hv.kind e.symm
    unfold Box6 at h
    rw [q] at h
    simp at h))
theorem Box6.set_at (h : Box6 w b k v1 v2 r t v3) (j : Nat) (x : Value) : (w.setCell ⟨b, j, none⟩ x).heap[b]? = some (.cells (#[.int .i64 k, v1, v2, .int .i64 r, .int .i64 t, v3].setIfInBounds j x) 38) := by
  unfold Box6 at h
  simp only [World.setCell, Array.getElem?_modify, h]
  rfl
theorem Box6.set0 (h : Box6 w b k v1 v2 r t v3) (x : Int) : Box6 (w.setCell ⟨b, 0, none⟩ (.int .i64 x)) b x v1 v2 r t v3 := h.set_at 0 _
theorem Box6.set1 (h : Box6 w b k v1 v2 r t v3) (x : Value) : Box6 (w.setCell ⟨b, 1, none⟩ x) b k x v2 r t v3 := h.set_at 1 _
theorem Box6.set2 (h : Box6 w b k v1 v2 r t v3) (x : Value) : Box6 (w.setCell ⟨b, 2, none⟩ x) b k v1 x r t v3 := h.set_at 2 _
theorem Box6.set3 (h : Box6 w b k v1 v2 r t v3) (x : Int) : Box6 (w.setCell ⟨b, 3, none⟩ (.int .i64 x)) b k v1 v2 x t v3 := h.set_at 3 _
theorem Box6.set4 (h : Box6 w b k v1 v2 r t v3) (x : Int) : Box6 (w.setCell ⟨b, 4, none⟩ (.int .i64 x)) b k v1 v2 r x v3 := h.set_at 4 _
theorem Box6.set5 (h : Box6 w b k v1 v2 r t v3) (x : Value) : Box6 (w.setCell ⟨b, 5, none⟩ x) b k v1 v2 r t x := h.set_at 5 _
end
section
variable {w w' : World} {g n : Nat} {pl : Option Addr} {bl ol cl : Nat} {pv : Option Addr} {bv ov m cv : Nat} {T : List Tok} {r : Rd}
end
theorem info3 : (Tryz.prog.info? 3).map (fun i => (i.zero, i.size, i.bytes)) = some (some (.int .i64 0), 1, 8) := by kernel_rfl
end Go.Proofs.YtkgieaoahijheaaGreatDoor.Pa
namespace Go.Proofs.YtkgieaoahijheaaGreatDoor.Pa
open Go.RowKit
open Sc (Tok Cells str noTok)
set_option maxRecDepth 100000

theorem ownsP_snoc {α : Type} {R : List Value → α → Prop} {n : Nat} {e : TypeId} {base : Nat} {w' : World} {v' : Value} {L : List α} {y : α} {os cs : List Value} (o2 : os.length = L.length * n)
    (o3 : ∀ (k : Nat) (a : α), L[k]? = some a → ∃ c : List Value, c.length = n ∧ (∀ j, j < n → os[k * n + j]? = c[j]?) ∧ R c a) (hlen : cs.length = n) (hR : R cs y) (g1 : w'.ownsRow base e n v' (L.length + 1) (os ++ cs)) : OwnsP R n e base w' v' (L ++ [y]) := by
  refine ⟨os ++ cs, ?_, ?_, fun k b' hk => ?_⟩
  · rw [List.length_append]
    exact g1
  · rw [List.length_append, List.length_append, o2, hlen, Nat.add_mul]
    simp
  · by_cases hlt : k < L.length
    · rw [List.getElem?_append_left hlt] at hk
      obtain ⟨d, d1, d2, d3⟩ := o3 k b' hk
      refine ⟨d, d1, fun j hj => ?_, d3⟩
      have hl : k * n + j < os.length := by
        rw [o2]
        have := Nat.mul_le_mul_right n (Nat.succ_le_of_lt hlt)
        rw [Nat.succ_mul] at this
        omega
      rw [List.getElem?_append_left hl, d2 j hj]
    · rw [List.getElem?_append_right (by omega)] at hk
      have hk1 := (List.getElem?_eq_some_iff.1 hk).1
      obtain rfl : k = L.length := by simp at hk1; omega
      rw [Nat.sub_self] at hk
      obtain rfl : y = b' := by simpa using hk
      refine ⟨cs, hlen, fun j hj => ?_, hR⟩
      rw [List.getElem?_append_right (by rw [o2]; omega), o2, Nat.add_sub_cancel_left]
section
variable {w : World} {ops : Array Oper} {rest : List Oper} {o : Oper} {a : Act} {Q : Exit → Act → World → Prop} {base b c H : Nat} {v : Value} {L : List Int} {z : Int}
/-- what is known behind it -/
structure PutN (w w' : World) (base H : Nat) (v v' : Value) (L : List Int) (z : Int) : Prop where
  own : OwnsP numP 1 3 base w' v' (L ++ [z])
  grown : w.grownBy w' v.ownBlock
  at_ : v'.ownBlock = v.ownBlock ∨ v'.ownBlock = some H
theorem put_list (hgd : o.guard = none) (s x : Operand) (ho : o.op = .call { callee := .builtin .append, args := #[s, x], argTypes := #[36, 36] }) (hs : a.eval s = v) (hx : a.eval x = .slice (some ⟨b, 0, none⟩) 1 c) (hown : OwnsP numP 1 3 base w v L)
    (hc : w.cell? ⟨b, 0, none⟩ = some (.int .i64 z)) (hz : Fit z) (hsm : L.length ≤ 100000) (hbase : base ≤ w.heap.size) (hH : w.heap.size = H)
    (h : ∀ p cap w', PutN w w' base H v (.slice p (L.length + 1) cap) L z → wpList Tryz.prog ops Q rest (a.put o.dst (.slice p (L.length + 1) cap)) w') : wpList Tryz.prog ops Q (o :: rest) a w := by
  obtain ⟨i0, hi, hz0, hz1, hz2⟩ := info_parts info3
  obtain ⟨os, o1, o2, o3⟩ := hown
  refine wpList_append_lies w hgd s x 36 ho base 3 i0 (.int .i64 0) 1 8 Tryz.underlying36 hi hz0 hz1 hz2 rfl (by decide) v L.length os hs o1 ⟨b, 0, none⟩ 1 c [.int .i64 z] hx (by simp) (fun j u hj => ?_) (by simp [Value.oneCell']) (by decide) (by unfold maxLen; omega) (by omega) hbase H hH (fun g cap w' g1 g2 g3 _ => h _ cap w' ⟨ownsP_snoc o2 o3 rfl ⟨rfl, hz⟩ g1, g2, ?_⟩)
  · have hj0 : j = 0 := by
      have := (List.getElem?_eq_some_iff.1 hj).1
      simp at this
      omega
    subst hj0
    simp at hj
    subst hj
    rw [add_plain']
    exact hc
  · rcases g3 with q | q
    · exact .inl q.symm
    · exact .inr (by rw [← q]; rfl)
theorem put_step {K : Act → World → Prop} {E : Prop} (hgd : o.guard = none) (s x : Operand) (ho : o.op = .call { callee := .builtin .append, args := #[s, x], argTypes := #[36, 36] }) (hs : a.eval s = v) (hx : a.eval x = .slice (some ⟨b, 0, none⟩) 1 c) (hown : OwnsP numP 1 3 base w v L)
    (hc : w.cell? ⟨b, 0, none⟩ = some (.int .i64 z)) (hz : Fit z) (hsm : L.length ≤ 100000) (hbase : base ≤ w.heap.size) (hH : w.heap.size = H)
    (h : ∀ p cap w', PutN w w' base H v (.slice p (L.length + 1) cap) L z → K (a.put o.dst (.slice p (L.length + 1) cap)) w') : if Region.wanted o (yielded ops a.tmps) = true then Oper.wp Tryz.prog o a w K Q else E := by
  obtain ⟨i0, hi, hz0, hz1, hz2⟩ := info_parts info3
  obtain ⟨os, o1, o2, o3⟩ := hown
  refine step_append_lies w hgd s x 36 ho base 3 i0 (.int .i64 0) 1 8 Tryz.underlying36 hi hz0 hz1 hz2 rfl (by decide) v L.length os hs o1 ⟨b, 0, none⟩ 1 c [.int .i64 z] hx (by simp) (fun j u hj => ?_) (by simp [Value.oneCell']) (by decide) (by unfold maxLen; omega) (by omega) hbase H hH (fun g cap w' g1 g2 g3 _ => h _ cap w' ⟨ownsP_snoc o2 o3 rfl ⟨rfl, hz⟩ g1, g2, ?_⟩)
  · have hj0 : j = 0 := by
      have := (List.getElem?_eq_some_iff.1 hj).1
      simp at this
      omega
    subst hj0
    simp at hj
    subst hj
    rw [add_plain']
    exact hc
  · rcases g3 with q | q
    · exact .inl q.symm
    · exact .inr (by rw [← q]; rfl)
end
end Go.Proofs.YtkgieaoahijheaaGreatDoor.Pa
namespace Go.Proofs.YtkgieaoahijheaaGreatDoor.Pa
open Go.RowKit
open Sc (Tok Cells str noTok)
set_option maxRecDepth 100000

section
variable {w0 w : World} {F : Nat → Prop} {g n : Nat} {pl : Option Addr} {bl ol cl : Nat} {pv : Option Addr} {bv ov m cv : Nat} {T : List Tok} {B base : Nat} {c : PCon} {r : Rd} {u1 u2 u3 : Value}
theorem Own3.kinds {k i t : Int} (h : Own3 w base c u1 u2 u3) : Own3 w base { c with kind := k, rel := i, const := t } u1 u2 u3 := ⟨h.o1, h.o2, h.o3, h.p12, h.p13, h.p23⟩
end
end Go.Proofs.YtkgieaoahijheaaGreatDoor.Pa
namespace Go.Proofs.YtkgieaoahijheaaGreatDoor.Pa
open Go.RowKit
open Sc (Tok Cells str noTok)
set_option maxRecDepth 100000

/-- how many tokens a reader has taken, out of its own cell -/
def tookOf (w : World) (g : Nat) : Nat := match w.cell? ⟨g, 1, none⟩ with
  | some (.int _ z) => z.toNat
  | _ => 0
/-- what a round of terms takes in -/
def roundS (T : List Tok) (r : Rd) : Int × Rd := factor (kindO (next T r)) T r
def roundV (T : List Tok) (r : Rd) : Int × Rd := variableF (roundS T r).2 (next T (roundS T r).2)
def roundC (T : List Tok) (s : Int) (c : PCon) (r : Rd) : PCon := { c with coefs := c.coefs ++ [s * (roundS T r).1], vars := c.vars ++ [(roundV T r).1] }
def signO (o : Option Tok) : Int := if textO o = tMinus then -1 else 1
def plusR (T : List Tok) (r : Rd) : Bool × Rd := hasF tPlus (roundV T r).2 (next T (roundV T r).2)
def moreR (T : List Tok) (r : Rd) : Bool × Rd := orMinus (plusR T r).1 T (plusR T r).2
theorem terms_eq (j : Nat) (s : Int) (c : PCon) (T : List Tok) (r : Rd) : terms (j + 1) s c T r = if (moreR T r).1 = true then terms j (signO (next T (roundV T r).2)) (roundC T s c r) T (moreR T r).2 else (roundC T s c r, (moreR T r).2) := by
  show (if (moreR T r).1 = true then terms j (signO (next T (roundV T r).2)) (roundC T s c r) else ret (roundC T s c r)) T (moreR T r).2 = _
  rw [if_app]
  rfl
theorem factor_eq (k : Nat) (T : List Tok) (r : Rd) : factor k T r = if k = 2 then ((valueF r (next T r)).1, (mustF tStar (valueF r (next T r)).2 (next T (valueF r (next T r)).2)).2) else (1, r) := by
  unfold factor
  rw [if_app]
  rfl
theorem value_few {T : List Tok} {r : Rd} (hv : ∀ t ∈ T, t.value ≤ 2000000000000) : 0 ≤ (valueF r (next T r)).1 ∧ (valueF r (next T r)).1 ≤ 2000000000000 := by
  unfold valueF
  split
  · cases ho : next T r with
    | none => simp [valueO]
    | some t =>
      have := hv t (next_mem ho)
      simp only [valueO]
      omega
  · simp
theorem roundS_few {T : List Tok} {r : Rd} (hv : ∀ t ∈ T, t.value ≤ 2000000000000) : 0 ≤ (roundS T r).1 ∧ (roundS T r).1 ≤ 2000000000000 := by
  unfold roundS
  rw [factor_eq]
  split
  · exact value_few hv
  · exact ⟨by omega, by omega⟩
theorem findF_lt {s : Txt} : ∀ {l : List Txt} {i : Nat}, findF s l = some i → i < l.length
  | [], _, h => by cases h
  | x :: l, i, h => by
    rw [findF] at h
    split at h
    · cases h; simp
    · obtain ⟨j, hj, e⟩ := Option.map_eq_some_iff.1 h
      have := findF_lt hj
      simp
      omega
theorem variable_few {r : Rd} {o : Option Tok} : 0 ≤ (variableF r o).1 ∧ (variableF r o).1 ≤ (r.vars.length : Int) := by
  unfold variableF
  split
  · split
    · rename_i i h
      have := findF_lt h
      exact ⟨by omega, by simp only; omega⟩
    · exact ⟨by simp, by simp⟩
  · exact ⟨by simp, by simp⟩
theorem more_took {T : List Tok} {r : Rd} (h : (moreR T r).1 = true) : r.at_ < (moreR T r).2.at_ := by
  have u1 : r.at_ ≤ (roundS T r).2.at_ := (fine_factor _).up T r
  have u2 : (roundS T r).2.at_ ≤ (roundV T r).2.at_ := (fine_look ok_variable).up T _
  have u3 : (roundV T r).2.at_ ≤ (plusR T r).2.at_ := (fine_look (ok_has (s := tPlus) (by decide))).up T _
  unfold moreR orMinus at h ⊢
  rw [if_app] at h ⊢
  by_cases hp : (plusR T r).1 = true
  · rw [if_pos hp]
    have : (roundV T r).2.at_ + 1 ≤ (plusR T r).2.at_ := by
      unfold plusR hasF at hp ⊢
      split at hp
      · rename_i e
        rw [if_pos e]
        simp [step1]
      · cases hp
    show r.at_ < (plusR T r).2.at_
    omega
  · rw [if_neg hp] at h ⊢
    have : (plusR T r).2.at_ + 1 ≤ (hasF tMinus (plusR T r).2 (next T (plusR T r).2)).2.at_ := by
      show (plusR T r).2.at_ + 1 ≤ _
      have h2 : (hasF tMinus (plusR T r).2 (next T (plusR T r).2)).1 = true := h
      unfold hasF at h2 ⊢
      split at h2
      · rename_i e
        rw [if_pos e]
        simp [step1]
      · cases h2
    show r.at_ < (hasF tMinus (plusR T r).2 (next T (plusR T r).2)).2.at_
    omega
section
variable {w0 w : World} {F : Nat → Prop} {g n : Nat} {pl : Option Addr} {bl ol cl : Nat} {pv : Option Addr} {bv ov m cv : Nat} {T : List Tok} {B base : Nat} {c : PCon} {r : Rd} {u1 u2 u3 : Value}

def moOf : Value → Nat
  | .bool true => 1
  | _ => 0
theorem results_con {fn : Func} {p : Tmp} (h : fn.results = #[.cell p 38]) (tmps : Array Value) (w : World) (b : Nat) (v0 v1 v2 v3 v4 v5 : Value) (hp : tmps.getD p undef = .pointer (some ⟨b, 0, none⟩)) (c0 : w.cell? ⟨b, 0, none⟩ = some v0) (c1 : w.cell? ⟨b, 1, none⟩ = some v1) (c2 : w.cell? ⟨b, 2, none⟩ = some v2) (c3 : w.cell? ⟨b, 3, none⟩ = some v3) (c4 : w.cell? ⟨b, 4, none⟩ = some v4) (c5 : w.cell? ⟨b, 5, none⟩ = some v5) :
    (results fn tmps).run Tryz.prog w = .ok (.agg #[v0, v1, v2, v3, v4, v5]) w := by
  have hp' : tmps[p]?.getD undef = .pointer (some ⟨b, 0, none⟩) := by simpa using hp
  simp only [results, h]
  simp [hp', asAddr]
  go_simp
structure RelsAt (w wr : World) : Prop where
  below : Below w.heap.size w wr
  cell : ∀ k, k < 6 → ∃ q : ByteArray, wr.cell? ⟨w.heap.size, k, none⟩ = some (.string q) ∧ txt q = relsL.getD k []
theorem rels_at (w : World) : RelsAt w (w.alloc (.cells #[.string ⟨#[61]⟩, .string ⟨#[33, 61]⟩, .string ⟨#[60]⟩, .string ⟨#[60, 61]⟩, .string ⟨#[62]⟩, .string ⟨#[62, 61]⟩] 9)) :=
  ⟨(Below.refl _ w).alloc (Nat.le_refl _) _, fun k hk => by
    rw [World.cell?_alloc_mark]
    match k, hk with
    | 0, _ => exact ⟨_, rfl, rfl⟩
    | 1, _ => exact ⟨_, rfl, rfl⟩
    | 2, _ => exact ⟨_, rfl, rfl⟩
    | 3, _ => exact ⟨_, rfl, rfl⟩
    | 4, _ => exact ⟨_, rfl, rfl⟩
    | 5, _ => exact ⟨_, rfl, rfl⟩⟩

end
end Go.Proofs.YtkgieaoahijheaaGreatDoor.Pa
