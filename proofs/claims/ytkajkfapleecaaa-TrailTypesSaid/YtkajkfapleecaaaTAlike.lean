/-
  A trail of numbers from 0 to 255 beside one of texts: alike from act to act.
-/
import Derived.Test.YtkajkfapleecaaaTActs
import Derived.Laws.BitsLemmas
import Derived.Laws.IdiomStrings
namespace Go.Proofs.Ytkajkfapleecaaa
open Go.RowKit

def In (z : Int) : Prop := 0 ≤ z ∧ z ≤ 255
theorem and255 (n : Int) : In (bits .and .i64 n 255) := by
  have h1 : (BitVec.ofInt 64 255).toNat = 2 ^ 8 - 1 := by decide
  have h2 : (BitVec.ofInt 64 n &&& BitVec.ofInt 64 255).toNat = (BitVec.ofInt 64 n).toNat % 2 ^ 8 := by
    rw [BitVec.toNat_and, h1, Nat.and_two_pow_sub_one_eq_mod]
  have h3 : bits .and .i64 n 255 = IntKind.i64.wrap ((BitVec.ofInt 64 n &&& BitVec.ofInt 64 255).toNat : Nat) := rfl
  unfold In
  rw [h3, h2, IntKind.wrap_i64]
  omega
/-- the text of a number -/
def tx (z : Int) : ByteArray := if z = 0 then ByteArray.empty else ⟨#[UInt8.ofNat z.toNat]⟩
theorem tx_inj {x y : Int} (hx : In x) (hy : In y) (h : tx x = tx y) : x = y := by
  obtain ⟨a, b⟩ := hx
  obtain ⟨c, d⟩ := hy
  unfold tx at h
  by_cases h0 : x = 0
  · by_cases h1 : y = 0
    · omega
    · rw [if_pos h0, if_neg h1] at h
      have : (0 : Nat) = 1 := congrArg (fun s : ByteArray => s.data.size) h
      omega
  · by_cases h1 : y = 0
    · rw [if_neg h0, if_pos h1] at h
      have : (1 : Nat) = 0 := congrArg (fun s : ByteArray => s.data.size) h
      omega
    · rw [if_neg h0, if_neg h1] at h
      have h2 : (UInt8.ofNat x.toNat).toNat = (UInt8.ofNat y.toNat).toNat := by
        injection h with h
        have h3 : [UInt8.ofNat x.toNat] = [UInt8.ofNat y.toNat] := by injection h
        injection h3 with h3
        rw [h3]
      simp only [UInt8.toNat_ofNat'] at h2
      omega

theorem text_of {z : Int} (h : In z) (h0 : ¬ z = 0) (w : World) (B : Nat) (hB : B = w.heap.size) :
    (convert 52 9 (.slice (some ⟨B, 0, none⟩) 1 1)).run Try.prog (w.alloc (.cells #[.int .u8 z] 5)) = .ok (.string (tx z)) (w.alloc (.cells #[.int .u8 z] 5)) := by
  subst hB
  have e : (UInt8.ofNat z.toNat).toNat = z.toNat := by
    obtain ⟨h1, h2⟩ := h
    rw [UInt8.toNat_ofNat']
    omega
  have := run_convert_bytes_back (P := Try.prog) (w.alloc (.cells #[.int .u8 z] 5)) 52 9 5 ⟨w.heap.size, 0, none⟩ 1 [UInt8.ofNat z.toNat] Try.underlying52 Try.underlying5 Try.underlying9 (fun j hj => by
    obtain rfl : j = 0 := by simpa using hj
    have e2 : ((⟨w.heap.size, 0, none⟩ : Addr).add 0) = ⟨w.heap.size, 0, none⟩ := rfl
    rw [e2, cell_of_heap (heap_alloc_new w _)]
    show some (Value.int .u8 z) = some (Value.int .u8 ((UInt8.ofNat z.toNat).toNat : Int))
    rw [e]
    have := h.1
    have e3 : ((z.toNat : Nat) : Int) = z := by omega
    rw [e3])
  rw [tx, if_neg h0]
  exact this

structure Alike (σ : Tr Int) (τ : Tr ByteArray) : Prop where
  n : τ.n = σ.n
  top : τ.top = σ.top
  cur : ∀ i, In (σ.cur i) ∧ τ.cur i = tx (σ.cur i)
  st : ∀ i, τ.st i = σ.st i
  old : ∀ k i, In (σ.old k i) ∧ τ.old k i = tx (σ.old k i)
theorem alike_new (n : Nat) : Alike (Tr.new n 0) (Tr.new n ByteArray.empty) := ⟨rfl, rfl, fun _ => ⟨⟨by show (0 : Int) ≤ 0; omega, by show (0 : Int) ≤ 255; omega⟩, rfl⟩, fun _ => rfl, fun _ _ => ⟨⟨by show (0 : Int) ≤ 0; omega, by show (0 : Int) ≤ 255; omega⟩, rfl⟩⟩
theorem tx_iff {x y : Int} (hx : In x) (hy : In y) : tx x = tx y ↔ x = y := ⟨tx_inj hx hy, fun h => by rw [h]⟩

theorem Alike.set {σ : Tr Int} {τ : Tr ByteArray} (h : Alike σ τ) {z : Int} (hz : In z) (i : Nat) : Alike (σ.set i z) (τ.set i (tx z)) where
  n := h.n
  top := h.top
  cur := fun j => by
    show In (setAt σ.cur i z j) ∧ setAt τ.cur i (tx z) j = tx (setAt σ.cur i z j)
    by_cases e : j = i
    · rw [setAt, setAt, if_pos e, if_pos e]
      exact ⟨hz, rfl⟩
    · rw [setAt, setAt, if_neg e, if_neg e]
      exact h.cur j
  st := fun j => by
    show bump τ.cur τ.st i (tx z) j = bump σ.cur σ.st i z j
    unfold bump
    have e : τ.cur i = tx z ↔ σ.cur i = z := by rw [(h.cur i).2]; exact tx_iff (h.cur i).1 hz
    rw [h.st j]
    by_cases e1 : j = i ∧ ¬ σ.cur i = z
    · rw [if_pos e1, if_pos ⟨e1.1, fun e2 => e1.2 (e.1 e2)⟩]
    · rw [if_neg e1, if_neg (fun e2 => e1 ⟨e2.1, fun e3 => e2.2 (e.2 e3)⟩)]
  old := h.old
theorem Alike.save {σ : Tr Int} {τ : Tr ByteArray} (h : Alike σ τ) : Alike σ.save τ.save where
  n := h.n
  top := by show τ.top + 1 = σ.top + 1; rw [h.top]
  cur := h.cur
  st := h.st
  old := fun k i => by
    show In (setAt σ.old (σ.top + 1) σ.cur k i) ∧ setAt τ.old (τ.top + 1) τ.cur k i = tx (setAt σ.old (σ.top + 1) σ.cur k i)
    rw [h.top]
    by_cases e : k = σ.top + 1
    · rw [setAt, setAt, if_pos e, if_pos e]
      exact h.cur i
    · rw [setAt, setAt, if_neg e, if_neg e]
      exact h.old k i
theorem Alike.diff {σ : Tr Int} {τ : Tr ByteArray} (h : Alike σ τ) (i : Nat) : τ.cur i = τ.old τ.top i ↔ σ.cur i = σ.old σ.top i := by
  rw [h.top, (h.cur i).2, (h.old σ.top i).2]
  exact tx_iff (h.cur i).1 (h.old σ.top i).1
theorem Alike.undo {σ : Tr Int} {τ : Tr ByteArray} (h : Alike σ τ) : Alike σ.undo τ.undo where
  n := h.n
  top := by show τ.top - 1 = σ.top - 1; rw [h.top]
  cur := fun j => by
    show In (σ.old σ.top j) ∧ τ.old τ.top j = tx (σ.old σ.top j)
    rw [h.top]
    exact h.old σ.top j
  st := fun j => by
    show (if ¬ τ.cur j = τ.old τ.top j then τ.st j + 1 else τ.st j) = (if ¬ σ.cur j = σ.old σ.top j then σ.st j + 1 else σ.st j)
    have e := h.diff j
    rw [h.st j]
    by_cases e1 : σ.cur j = σ.old σ.top j
    · rw [if_neg (fun e2 => e2 (e.2 e1)), if_neg (fun e2 => e2 e1)]
    · rw [if_pos (fun e2 => e1 (e.1 e2)), if_pos e1]
  old := h.old
theorem Alike.changed {σ : Tr Int} {τ : Tr ByteArray} (h : Alike σ τ) : τ.changed = σ.changed := by
  unfold Tr.changed
  rw [h.n]
  have e : τ.diff = σ.diff := by
    funext i
    unfold Tr.diff
    have := h.diff i
    by_cases e : σ.cur i = σ.old σ.top i
    · simp [e, this.2 e]
    · have e' : ¬ τ.cur i = τ.old τ.top i := fun h => e (this.1 h)
      simp [e, e']
  rw [e]
theorem Alike.up {σ : Tr Int} {τ : Tr ByteArray} (h : Alike σ τ) {c : Int} (hu : σ.Up c) : τ.Up c := fun j => by rw [h.st j]; exact hu j
theorem Alike.act {σ : Tr Int} {τ : Tr ByteArray} (h : Alike σ τ) {z : Int} (hz : In z) (d i : Int) : Alike (σ.act d i z) (τ.act d i (tx z)) := by
  unfold Tr.act
  rw [h.n, h.top]
  split
  · split
    · exact h.set hz _
    · exact h
  · split
    · exact h.save
    · split
      · split
        · exact h
        · exact h.undo
      · exact h
theorem Alike.err {σ : Tr Int} {τ : Tr ByteArray} (h : Alike σ τ) (d i : Int) : τ.err d i = σ.err d i := by
  unfold Tr.err
  rw [h.n, h.top]
theorem Alike.num {σ : Tr Int} {τ : Tr ByteArray} (h : Alike σ τ) (d : Int) : τ.num d = σ.num d := by
  unfold Tr.num
  rw [h.top]
end Go.Proofs.Ytkajkfapleecaaa
