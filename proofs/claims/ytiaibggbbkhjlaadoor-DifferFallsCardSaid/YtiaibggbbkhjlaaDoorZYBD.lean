/-
  What Add, unsigned, bits.Mul64, Mul and Holds of the program answer, at every input.
  What Contrary, none, all and mayHold of package linear answer.
  What bySum of package linear answers: a function that keeps values by a sum.
-/
import Derived.Test.YtiaibggbbkhjlaaDoorRows
import Derived.Test.YtiaibggbbkhjlaaDoorZYBA
import Derived.WalkKit
import Derived.ProofKit
import Derived.OpenShut
import Derived.Outline
import Derived.WalkMore
import Derived.ScopeJumps
import Derived.Lib.Hide
import Derived.Test.YtiaibggbbkhjlaaDoorZYAX
import Derived.Test.YtiaibggbbkhjlaaDoorZYBC
namespace Go.Proofs.YtiaibggbbkhjlaaDoor.Su
open Go.RowKit

theorem tup_int {k l : IntKind} {a b c d : Int} (h : a = b) (h' : c = d) : Ending.returned (.tuple #[.int k a, .int l c]) = .returned (.tuple #[.int k b, .int l d]) := by rw [h, h']
theorem ret_int {k : IntKind} {a b : Int} (h : a = b) : Ending.returned (.int k a) = .returned (.int k b) := by rw [h]
theorem ret_bool {a b : Bool} (h : a = b) : Ending.returned (.bool a) = .returned (.bool b) := by rw [h]

theorem ne_dec {x y : Int} : (!decide (x < 0) == decide (y < 0)) = true → (x < 0 ∧ 0 ≤ y) ∨ (0 ≤ x ∧ y < 0) := by
  by_cases h : x < 0 <;> by_cases k : y < 0 <;> simp [h, k] <;> omega
theorem eq_dec {x y : Int} : (!decide (x < 0) == decide (y < 0)) = false → (x < 0 ∧ y < 0) ∨ (0 ≤ x ∧ 0 ≤ y) := by
  by_cases h : x < 0 <;> by_cases k : y < 0 <;> simp [h, k] <;> omega

/-- a product by the signs and the halves of the product without signs -/
theorem halves {a b X Y H L : Int} (ha : -9223372036854775808 ≤ a ∧ a ≤ 9223372036854775807) (hb : -9223372036854775808 ≤ b ∧ b ≤ 9223372036854775807)
    (hX : X = (a.natAbs : Int)) (hY : Y = (b.natAbs : Int)) (hH : H = X * Y / 18446744073709551616) (hL : L = X * Y % 18446744073709551616) :
    ∃ N : Int, 0 ≤ N ∧ H = N / 18446744073709551616 ∧ L = N % 18446744073709551616 ∧ (((a < 0 ∧ 0 ≤ b) ∨ (0 ≤ a ∧ b < 0)) → a * b = -N) ∧ (((a < 0 ∧ b < 0) ∨ (0 ≤ a ∧ 0 ≤ b)) → a * b = N) := by
  refine ⟨X * Y, ?_, hH, hL, ?_, ?_⟩
  · rw [hX, hY]; exact Int.mul_nonneg (by omega) (by omega)
  · rintro (⟨h1, h2⟩ | ⟨h1, h2⟩)
    · have e1 : X = -a := by omega
      have e2 : Y = b := by omega
      rw [e1, e2, Int.neg_mul]; omega
    · have e1 : X = a := by omega
      have e2 : Y = -b := by omega
      rw [e1, e2, Int.mul_neg]; omega
  · rintro (⟨h1, h2⟩ | ⟨h1, h2⟩)
    · have e1 : X = -a := by omega
      have e2 : Y = -b := by omega
      rw [e1, e2, Int.neg_mul_neg]
    · have e1 : X = a := by omega
      have e2 : Y = b := by omega
      rw [e1, e2]

/-- no number of 64 bits -/
def Over (n : Int) : Prop := ¬ (-9223372036854775808 ≤ n ∧ n ≤ 9223372036854775807)
theorem over_mk {n : Int} (h : n < -9223372036854775808 ∨ 9223372036854775807 < n) : Over n := by unfold Over; omega

end Go.Proofs.YtiaibggbbkhjlaaDoor.Su
namespace Go.Proofs.YtiaibggbbkhjlaaDoor.St
open Go.RowKit
set_option maxRecDepth 100000

theorem may_two {a b n : Int} : mayG a b 2 n = Su.holdsB a 2 n := by simp [mayG, Su.holdsB]
theorem may_three {a b n : Int} : mayG a b 3 n = Su.holdsB a 3 n := by simp [mayG, Su.holdsB]
theorem may_four {a b n : Int} : mayG a b 4 n = Su.holdsB b 4 n := by simp [mayG, Su.holdsB]
theorem may_five {a b n : Int} : mayG a b 5 n = Su.holdsB b 5 n := by simp [mayG, Su.holdsB]

end Go.Proofs.YtiaibggbbkhjlaaDoor.St
namespace Go.Proofs.YtiaibggbbkhjlaaDoor.St
open Go.RowKit
set_option maxRecDepth 100000

/-- from one world to a later one all blocks are as they were, but for some -/
def Fr (X : Nat → Prop) (w u : World) : Prop := w.heap.size ≤ u.heap.size ∧ ∀ k, k < w.heap.size → ¬ X k → u.heap[k]? = w.heap[k]?
theorem Fr.of_below {X : Nat → Prop} {w u : World} (h : Below w.heap.size w u) : Fr X w u := ⟨h.size, fun k hk _ => h.block k hk⟩
theorem Fr.refl (X : Nat → Prop) (w : World) : Fr X w w := ⟨Nat.le_refl _, fun _ _ _ => rfl⟩
theorem Fr.trans {X : Nat → Prop} {w u z : World} (h : Fr X w u) (k : Fr X u z) : Fr X w z := ⟨Nat.le_trans h.1 k.1, fun i hi hx => (k.2 i (Nat.lt_of_lt_of_le hi h.1) hx).trans (h.2 i hi hx)⟩
theorem Fr.next {X : Nat → Prop} {w u z : World} (h : Fr X w u) (k : Below u.heap.size u z) : Fr X w z := h.trans (.of_below k)
theorem Fr.cell {X : Nat → Prop} {w u : World} (h : Fr X w u) {p : Addr} {v : Value} (hp : ¬ X p.block) (hc : w.cell? p = some v) : u.cell? p = some v := by
  have hlt := Dm.cell_lt hc
  have e := h.2 p.block hlt hp
  rw [World.cell?_of_block e]
  exact hc
theorem Fr.set {X : Nat → Prop} {w u : World} (h : Fr X w u) {b : Nat} (hb : X b) (off : Nat) (z : Value) : Fr X w (u.setCell ⟨b, off, none⟩ z) :=
  ⟨by simpa [World.setCell] using h.1, fun k hk hx => (Below.heap_setCell u ⟨b, off, none⟩ z k (fun e => hx (by show X k; rw [e]; exact hb))).trans (h.2 k hk hx)⟩
/-- with a block more, that is not there yet -/
theorem Fr.less {X Y : Nat → Prop} {w u z : World} (h : Fr X w u) (hY : ∀ k, Y k → X k ∨ w.heap.size ≤ k) (k : Fr Y u z) : Fr X w z :=
  ⟨Nat.le_trans h.1 k.1, fun i hi hx => (k.2 i (Nat.lt_of_lt_of_le hi h.1) (fun hy => (hY i hy).elim hx (fun q => by omega))).trans (h.2 i hi hx)⟩
/-- a function that tells of the variable at a place, one of n, whether it keeps a value; it leans on all blocks but some -/
def Keeps (X : Nat → Prop) (w : World) (v : Value) (n : Nat) (K : Nat → Int → Bool) : Prop :=
  ∃ g env, v = .func (.func g) #[] env ∧ Enters Tryd.prog g ∧ ∀ (u : World) (a : Nat) (x : Int), Fr X w u → a < n → -1048576 ≤ x ∧ x ≤ 1048576 → Calls Tryd.prog g (#[.int .i64 a, .int .i64 x] ++ env) u fun e w' => e = .returned (.bool (K a x)) ∧ Below u.heap.size u w'
theorem Keeps.frame {X : Nat → Prop} {w w' : World} {v : Value} {n : Nat} {K : Nat → Int → Bool} (h : Keeps X w v n K) (hB : Fr X w w') : Keeps X w' v n K := by
  obtain ⟨g, env, h1, h2, h3⟩ := h
  exact ⟨g, env, h1, h2, fun u a x hu => h3 u a x (hB.trans hu)⟩
theorem Keeps.less {X Y : Nat → Prop} {w w' : World} {v : Value} {n : Nat} {K : Nat → Int → Bool} (h : Keeps X w v n K) (hB : Fr X w w') (hY : ∀ k, Y k → X k ∨ w.heap.size ≤ k) : Keeps Y w' v n K := by
  obtain ⟨g, env, h1, h2, h3⟩ := h
  exact ⟨g, env, h1, h2, fun u a x hu => h3 u a x (hB.less hY hu)⟩
/-- what is kept by a sum -/
def sumK (ks : List Int) (P : Nat → Int × Int) (n : Nat) (rel ag : Int) (a : Nat) (x : Int) : Bool := mayG ((totTo P n).1 - (P a).1 + ks.getD a 0 * x) ((totTo P n).2 - (P a).2 + ks.getD a 0 * x) rel ag

theorem Row2.frame {X : Nat → Prop} {s b : Nat} {t : TypeId} {w w' : World} {f : Nat → Value × Value} (h : Row2 s t w b f) (hB : Fr X w w') (hb : ¬ X b) : Row2 s t w' b f := by
  have hlt := h.lt
  obtain ⟨cc, h1, h2⟩ := h
  exact ⟨cc, (hB.2 b hlt hb).trans h1, h2⟩
end Go.Proofs.YtiaibggbbkhjlaaDoor.St
