/-
  Which models the laws do not look at: plain data; readings of slices. Nothing of the program.
  What slices.IndexFunc and slices.ContainsFunc answer, at every list of blocks, of variables, of constraints that can be read, and any function of which a contract is known.
  What letter, reserved and Name of package model answer, at every text.
  Rows of structs of two cells that a call makes and stores into. Nothing of the program but the making.
-/
import Derived.Test.YtiaibggbbkhjlaaDoorZYAH
import Derived.Shelf.Abstract
import Derived.Test.YtiaibggbbkhjlaaDoorZJMem
namespace Go.Proofs.YtiaibggbbkhjlaaDoor
open Go.RowKit
set_option maxRecDepth 100000

theorem slc_long {α : Type} {R : Reader α} {n : Nat} {w : World} {v : Value} {L : List α} (h : Slc R n w v L) : ∃ (p : Option Addr) (l c : Nat), v = .slice p l c ∧ l = L.length := by
  obtain ⟨p, b, off, c, len, h1, _, h2⟩ := h
  exact ⟨p, len, c, h1, h2.long⟩
def longC (c : PCon) : Bool := decide (150 < c.vars.length) || (decide (150 < c.coefs.length) || decide (150 < c.nums.length))
def consB (L : List PCon) : Bool := decide (30 < L.length) || L.any longC
theorem cons_short {L : List PCon} (h : consB L = false) : L.length ≤ 30 ∧ ∀ c ∈ L, Short 150 c := by
  simp only [consB, Bool.or_eq_false_iff, decide_eq_false_iff_not, List.any_eq_false] at h
  refine ⟨by omega, fun c hc => ?_⟩
  have := h.2 c hc
  simp [longC] at this
  unfold Short
  omega
theorem any_at {α : Type} (f : α → Bool) {L : List α} {k : Nat} {a : α} (h : L[k]? = some a) : (L.drop k).any f = (f a || (L.drop (k + 1)).any f) := by
  obtain ⟨h1, e1⟩ := List.getElem?_eq_some_iff.1 h
  rw [List.drop_eq_getElem_cons h1, List.any_cons, e1]
theorem any_end {α : Type} (f : α → Bool) {L : List α} {k : Nat} (h : L.length ≤ k) : (L.drop k).any f = false := by
  rw [List.drop_of_length_le h]
  rfl

def longD (d : PDecl) : Bool := decide (100 < d.name.length) || decide (150 < d.dom.length)
def longB (b : PBlock) : Bool := decide (30 < b.vars.length) || (consB b.cons || b.vars.any longD)
def largeB (m : PModel) : Bool := decide (30 < m.blocks.length) || (consB m.goal || m.blocks.any longB)
end Go.Proofs.YtiaibggbbkhjlaaDoor
namespace Go.Proofs.YtiaibggbbkhjlaaDoor
open Go.RowKit
set_option maxRecDepth 100000

theorem decl_at2 {w : World} {p : Option Addr} {b off len : Nat} {L : List PDecl} (h : SliceOf rDecl 2 w p b off len L) {k : Nat} (hk : k < len) :
    ∃ (d : PDecl) (s : ByteArray) (v : Value), L[k]? = some d ∧ (w.cell? ⟨b, off + k * 2, none⟩ = some (.string s) ∧ w.cell? ⟨b, off + k * 2 + 1, none⟩ = some v) ∧ rDecl w [.string s, v] d := by
  obtain ⟨d, s, v, h1, h2, h3, h4, h5⟩ := decl_at h hk
  exact ⟨d, s, v, h1, ⟨h2, h3⟩, s, v, rfl, h4, h5⟩
theorem con_at2 {w : World} {p : Option Addr} {b off len : Nat} {L : List PCon} (h : SliceOf rCon 6 w p b off len L) {k : Nat} (hk : k < len) :
    ∃ (d : PCon) (v1 v2 v3 : Value), L[k]? = some d ∧ (w.cell? ⟨b, off + k * 6, none⟩ = some (.int .i64 d.kind) ∧ w.cell? ⟨b, off + k * 6 + 1, none⟩ = some v1 ∧ w.cell? ⟨b, off + k * 6 + 2, none⟩ = some v2 ∧
      w.cell? ⟨b, off + k * 6 + 3, none⟩ = some (.int .i64 d.rel) ∧ w.cell? ⟨b, off + k * 6 + 4, none⟩ = some (.int .i64 d.const) ∧ w.cell? ⟨b, off + k * 6 + 5, none⟩ = some v3) ∧ rCon w [.int .i64 d.kind, v1, v2, .int .i64 d.rel, .int .i64 d.const, v3] d := by
  have hx : k < L.length := by rw [← h.long]; exact hk
  obtain ⟨cs, h1, h2, h3⟩ := h.cell k _ (List.getElem?_eq_getElem hx)
  obtain ⟨v1, v2, v3, h4, h5⟩ := h3
  subst h4
  exact ⟨_, v1, v2, v3, List.getElem?_eq_getElem hx, ⟨h2 0 (by omega), h2 1 (by omega), h2 2 (by omega), h2 3 (by omega), h2 4 (by omega), h2 5 (by omega)⟩, v1, v2, v3, rfl, h5⟩
theorem block_at2 {w : World} {p : Option Addr} {b off len : Nat} {L : List PBlock} (h : SliceOf rBlock 3 w p b off len L) {k : Nat} (hk : k < len) :
    ∃ (x : PBlock) (v1 v2 : Value), L[k]? = some x ∧ (w.cell? ⟨b, off + k * 3, none⟩ = some (.bool x.all) ∧ w.cell? ⟨b, off + k * 3 + 1, none⟩ = some v1 ∧ w.cell? ⟨b, off + k * 3 + 2, none⟩ = some v2) ∧ rBlock w [.bool x.all, v1, v2] x := by
  obtain ⟨x, v1, v2, h1, _, h2, h3, h4, h5, h6⟩ := block_at h hk
  exact ⟨x, v1, v2, h1, ⟨h2, h3, h4⟩, v1, v2, rfl, h5, h6⟩
theorem rDecl_shape {w : World} {s : ByteArray} {v : Value} {d : PDecl} (h : rDecl w [.string s, v] d) : ∃ (p : Option Addr) (l c : Nat), v = .slice p l c := by
  obtain ⟨s', v', e, _, h2⟩ := h
  simp only [List.cons.injEq, and_true] at e
  obtain ⟨_, rfl⟩ := e
  exact slc_shape h2
theorem rBlock_shape {w : World} {a : Bool} {v1 v2 : Value} {d : PBlock} (h : rBlock w [.bool a, v1, v2] d) : (∃ (p : Option Addr) (l c : Nat), v1 = .slice p l c) ∧ ∃ (p : Option Addr) (l c : Nat), v2 = .slice p l c := by
  obtain ⟨u1, u2, e, h1, h2⟩ := h
  simp only [List.cons.injEq, and_true] at e
  obtain ⟨_, rfl, rfl⟩ := e
  exact ⟨slc_shape h1, slc_shape h2⟩
theorem rCon_shape {w : World} {k r t : Int} {v1 v2 v3 : Value} {d : PCon} (h : rCon w [.int .i64 k, v1, v2, .int .i64 r, .int .i64 t, v3] d) : (∃ (p : Option Addr) (l c : Nat), v1 = .slice p l c) ∧ (∃ (p : Option Addr) (l c : Nat), v2 = .slice p l c) ∧ ∃ (p : Option Addr) (l c : Nat), v3 = .slice p l c := by
  obtain ⟨u1, u2, u3, e, _, h1, h2, h3⟩ := h
  simp only [List.cons.injEq, and_true] at e
  obtain ⟨_, rfl, rfl, _, _, rfl⟩ := e
  exact ⟨slc_shape h1, slc_shape h2, slc_shape h3⟩
theorem any_hit {α : Type} (f : α → Bool) {L : List α} {k : Nat} {a : α} (h : L[k]? = some a) (hf : f a = true) : L.any f = true := List.any_eq_true.2 ⟨a, List.mem_of_getElem? h, hf⟩

end Go.Proofs.YtiaibggbbkhjlaaDoor
namespace Go.Proofs.YtiaibggbbkhjlaaDoor
open Go.RowKit
set_option maxRecDepth 100000

def lowB (c : UInt8) : Bool := decide (97 ≤ c.toNat) && decide (c.toNat ≤ 122)
def okP (c : UInt8) : Bool := lowB c || (decide (c.toNat = 95) || (decide (48 ≤ c.toNat) && decide (c.toNat ≤ 57)))
theorem okAt_pos {i : Nat} (h : 0 < i) (c : UInt8) : okAt i c = okP c := by
  unfold okAt okP lowB
  rw [decide_eq_false (show ¬ i = 0 by omega)]
  simp
theorem okFrom_pos : ∀ (r : List UInt8) (i : Nat), 0 < i → okFrom i r = r.all okP
  | [], _, _ => rfl
  | c :: r, i, h => by rw [okFrom, okAt_pos h, okFrom_pos r (i + 1) (by omega), List.all_cons]
theorem okFrom_zero {s : List UInt8} {c : UInt8} (h : s[0]? = some c) : okFrom 0 s = (lowB c && s.all okP) := by
  cases s with
  | nil => simp at h
  | cons d r =>
    simp at h
    subst h
    rw [okFrom, okFrom_pos r 1 (by omega), List.all_cons]
    have e : okAt 0 d = lowB d := by unfold okAt lowB; simp
    rw [e]
    unfold okP
    cases lowB d <;> simp
theorem all_at {α : Type} (f : α → Bool) {L : List α} {k : Nat} {a : α} (h : L[k]? = some a) : (L.drop k).all f = (f a && (L.drop (k + 1)).all f) := by
  obtain ⟨h1, e1⟩ := List.getElem?_eq_some_iff.1 h
  rw [List.drop_eq_getElem_cons h1, List.all_cons, e1]
theorem all_done {α : Type} (f : α → Bool) {L : List α} {k : Nat} (h : L.length ≤ k) : (L.drop k).all f = true := by
  rw [List.drop_of_length_le h]
  rfl
theorem name_short {s : List UInt8} (h : s.length = 0) : nameL s = false := by
  unfold nameL
  rw [decide_eq_false (show ¬ 1 ≤ s.length by omega)]
  simp
theorem name_long {s : List UInt8} (h : 12 < s.length) : nameL s = false := by
  unfold nameL
  rw [decide_eq_false (show ¬ s.length ≤ 12 by omega)]
  simp
theorem name_is {s : List UInt8} {c : UInt8} (h : s[0]? = some c) (hl : s.length ≤ 12) : nameL s = (lowB c && (s.all okP && !wordsL.contains s)) := by
  have hp : 1 ≤ s.length := by
    cases s with
    | nil => simp at h
    | cons d r => simp
  unfold nameL
  rw [okFrom_zero h, decide_eq_true hl, decide_eq_true hp]
  cases lowB c <;> cases s.all okP <;> simp

theorem words_or (s : List UInt8) : wordsL.contains s = (decide (s = [101, 120, 105, 115, 116, 115]) || (decide (s = [102, 111, 114, 97, 108, 108]) || (decide (s = [105, 110]) || (decide (s = [119, 104, 101, 114, 101]) || (decide (s = [97, 110, 100]) || (decide (s = [103, 111, 97, 108]) || (decide (s = [116, 114, 117, 101]) || (decide (s = [112, 114, 111, 100, 117, 99, 116]) || (decide (s = [105, 102, 102]) || (decide (s = [101, 108, 101, 109, 101, 110, 116]) || (decide (s = [100, 105, 102, 102, 101, 114, 101, 110, 116]) || (decide (s = [116, 97, 98, 108, 101]))))))))))))) := by
  unfold wordsL
  rw [Bool.eq_iff_iff]
  simp

end Go.Proofs.YtiaibggbbkhjlaaDoor
namespace Go.Proofs.YtiaibggbbkhjlaaDoor.St
open Go.RowKit
set_option maxRecDepth 100000

/-- block b is a row of s structs of two cells -/
def Row2 (s : Nat) (t : TypeId) (w : World) (b : Nat) (f : Nat → Value × Value) : Prop :=
  ∃ cc, w.heap[b]? = some (.cells cc t (0, 0)) ∧ cc.size = s * 2 ∧ ∀ i, i < s → cc[i * 2]? = some (f i).1 ∧ cc[i * 2 + 1]? = some (f i).2
section
variable {s : Nat} {t : TypeId} {w w' : World} {b : Nat} {f g : Nat → Value × Value}
theorem Row2.cell0 (h : Row2 s t w b f) {i : Nat} (hi : i < s) : w.cell? ⟨b, i * 2, none⟩ = some (f i).1 := by
  obtain ⟨cc, h1, h2, h3⟩ := h
  simp [World.cell?, h1, (h3 i hi).1]
theorem Row2.cell1 (h : Row2 s t w b f) {i : Nat} (hi : i < s) : w.cell? ⟨b, i * 2 + 1, none⟩ = some (f i).2 := by
  obtain ⟨cc, h1, h2, h3⟩ := h
  simp [World.cell?, h1, (h3 i hi).2]
theorem Row2.frozen (h : Row2 s t w b f) (off : Nat) : w.frozen? ⟨b, off, none⟩ = false := by
  obtain ⟨cc, h1, h2, h3⟩ := h
  simp [World.frozen?, h1]
theorem Row2.lt (h : Row2 s t w b f) : b < w.heap.size := by
  obtain ⟨cc, h1, _⟩ := h
  exact (Array.getElem?_eq_some_iff.1 h1).1
theorem Row2.kind (h : Row2 s t w b f) : ∃ cs, w.heap[b]? = some (.cells cs t) := by
  obtain ⟨cc, h1, _⟩ := h
  exact ⟨cc, h1⟩
theorem Row2.below (h : Row2 s t w b f) (hB : Below w.heap.size w w') : Row2 s t w' b f := by
  have hlt := h.lt
  obtain ⟨cc, h1, h2⟩ := h
  exact ⟨cc, (hB.block b hlt).trans h1, h2⟩
theorem Row2.set (h : Row2 s t w b f) {i : Nat} (hi : i < s) (x y : Value) (hx : g i = (x, y)) (hg : ∀ j, j ≠ i → g j = f j) : Row2 s t ((w.setCell ⟨b, i * 2, none⟩ x).setCell ⟨b, i * 2 + 1, none⟩ y) b g := by
  obtain ⟨cc, h1, h2, h3⟩ := h
  refine ⟨(cc.setIfInBounds (i * 2) x).setIfInBounds (i * 2 + 1) y, by simp [World.setCell, Array.getElem?_modify, h1], by simp [h2], fun j hj => ?_⟩
  by_cases e : j = i
  · subst e
    rw [hx]
    refine ⟨?_, ?_⟩
    · rw [Array.getElem?_setIfInBounds, if_neg (by omega), Array.getElem?_setIfInBounds, if_pos rfl, if_pos (by omega)]
    · rw [Array.getElem?_setIfInBounds, if_pos rfl, if_pos (by simp; omega)]
  · rw [hg j e]
    obtain ⟨k1, k2⟩ := h3 j hj
    refine ⟨?_, ?_⟩
    · rw [Array.getElem?_setIfInBounds, if_neg (by omega), Array.getElem?_setIfInBounds, if_neg (by omega), k1]
    · rw [Array.getElem?_setIfInBounds, if_neg (by omega), Array.getElem?_setIfInBounds, if_neg (by omega), k2]
theorem Row2.set1 (h : Row2 s t w b f) {i : Nat} (hi : i < s) (y : Value) (hx : g i = ((f i).1, y)) (hg : ∀ j, j ≠ i → g j = f j) : Row2 s t (w.setCell ⟨b, i * 2 + 1, none⟩ y) b g := by
  obtain ⟨cc, h1, h2, h3⟩ := h
  refine ⟨cc.setIfInBounds (i * 2 + 1) y, by simp [World.setCell, Array.getElem?_modify, h1], by simp [h2], fun j hj => ?_⟩
  by_cases e : j = i
  · subst e
    rw [hx]
    refine ⟨?_, ?_⟩
    · rw [Array.getElem?_setIfInBounds, if_neg (by omega), (h3 j hj).1]
    · rw [Array.getElem?_setIfInBounds, if_pos rfl, if_pos (by omega)]
  · rw [hg j e]
    obtain ⟨k1, k2⟩ := h3 j hj
    refine ⟨?_, ?_⟩
    · rw [Array.getElem?_setIfInBounds, if_neg (by omega), k1]
    · rw [Array.getElem?_setIfInBounds, if_neg (by omega), k2]
theorem Row2.congr (h : Row2 s t w b f) (e : ∀ i, i < s → g i = f i) : Row2 s t w b g := by
  obtain ⟨cc, h1, h2, h3⟩ := h
  exact ⟨cc, h1, h2, fun i hi => by rw [e i hi]; exact h3 i hi⟩
end
theorem row2_made (s : Nat) (t : TypeId) (z0 z1 : Value) (w : World) : Row2 s t (w.alloc (.cells (madeCells #[z0, z1] (s * 2)) t)) w.heap.size (fun _ => (z0, z1)) := by
  refine ⟨madeCells #[z0, z1] (s * 2), by unfold World.alloc; simp, size_madeCells _ _, fun i hi => ?_⟩
  unfold madeCells
  have h0 : i * 2 < s * 2 := by omega
  have h1 : i * 2 + 1 < s * 2 := by omega
  have m0 : i * 2 % 2 = 0 := by omega
  have m1 : (i * 2 + 1) % 2 = 1 := by omega
  refine ⟨?_, ?_⟩
  · simp [h0, m0]
  · simp [h1, m1]
theorem make_row2 {ts te : TypeId} {z0 z1 : Value} {by_ : Nat} (hi : (Tryd.prog.info? te).map (fun i => (i.zero, i.size, i.bytes)) = some (some (.agg #[z0, z1]), 2, by_)) (ht : Tryd.prog.underlying ts = some (.slice te)) (hc : (Value.agg #[z0, z1]).cells = #[z0, z1]) (hby : by_ ≤ 128) (n : Nat) (hn : n ≤ 1000) (w : World) :
    (Instr.makeSlice ts (.int .i64 (n : Int)) (.int .i64 (n : Int))).run Tryd.prog w = .ok (.slice (some ⟨w.heap.size, 0, none⟩) n n) (w.alloc (.cells (madeCells #[z0, z1] (n * 2)) te)) := by
  obtain ⟨i0, hi, hz0, hz1, hz2⟩ := info_parts hi
  have hr := run_make (P := Tryd.prog) w ts te i0 _ ht hi hz0 .i64 .i64 n n (by omega) (Int.le_refl _) (by
    rw [hz2]
    have : by_ * n ≤ 128 * 1000 := Nat.mul_le_mul hby hn
    have h2 : ((by_ : Int) * (n : Int)) = ((by_ * n : Nat) : Int) := by simp
    rw [h2]
    omega) (by omega)
  simp only [Int.toNat_natCast, hz1, hc] at hr
  exact hr
theorem infoD : (Tryd.prog.info? 47).map (fun i => (i.zero, i.size, i.bytes)) = some (some (.agg #[.slice none 0 0, .int .u64 0]), 2, 32) := by kernel_rfl
theorem make_doms (n : Nat) (hn : n ≤ 1000) (w : World) : (Instr.makeSlice 25 (.int .i64 (n : Int)) (.int .i64 (n : Int))).run Tryd.prog w = .ok (.slice (some ⟨w.heap.size, 0, none⟩) n n) (w.alloc (.cells (madeCells #[.slice none 0 0, .int .u64 0] (n * 2)) 47)) :=
  make_row2 infoD Tryd.underlying25 rfl (by decide) n hn w
end Go.Proofs.YtiaibggbbkhjlaaDoor.St
