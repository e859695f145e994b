/-
  What awake asks of a linear step: plain data. Nothing of the program but what a step leaves, as lists.
-/
import Derived.Test.YtiaibggbbkhjlaaDoorZYBJ
namespace Go.Proofs.YtiaibggbbkhjlaaDoor.St
open Go.RowKit
set_option maxRecDepth 100000

def conA : PCon := ⟨1, [0, 1], [1, 1], 0, 5, []⟩
def conI : PCon := ⟨3, [0, 1], [1], 5, 2, []⟩
def domA : List Int × Nat := ([0, 1, 2, 3], 15)
def domI : List Int × Nat := ([0, 1, 2], 6)
theorem rightC_A : rightC conA 2 = true := (Gr.lin_on (by decide)).2 ⟨Gr.varsTo_iff.2 ⟨by decide, by decide⟩, by decide⟩
theorem rightC_A1 : rightC conA 1 = false := right_bad fun h => by
  have := (Gr.varsTo_iff.1 h).1 1 (by decide)
  omega
theorem rightC_I : rightC conI 2 = true := by
  rw [right_on (Gr.varsTo_iff.2 ⟨by decide, by decide⟩)]
  decide
theorem step_A : stepP conA [domA, domA] = ([([0, 1, 2, 3], 12), ([0, 1, 2, 3], 12)], 0) := by
  unfold stepP
  have h : rightP conA [domA, domA] = true := by
    unfold rightP
    rw [show ((([domA, domA] : List (List Int × Nat)).length : Nat) : Int) = 2 from rfl, rightC_A]
    decide
  rw [if_pos h]
  decide +kernel
theorem step_A1 : stepP conA [domA] = ([], 1) := by
  unfold stepP
  have h : rightP conA [domA] = false := by
    unfold rightP
    rw [show ((([domA] : List (List Int × Nat)).length : Nat) : Int) = 1 from rfl, rightC_A1]
    decide
  rw [h, if_neg Bool.false_ne_true]
theorem step_I : stepP conI [domI, domA] = ([([0, 1, 2], 2), ([0, 1, 2, 3], 12)], 0) := by
  unfold stepP
  have h : rightP conI [domI, domA] = true := by
    unfold rightP
    rw [show ((([domI, domA] : List (List Int × Nat)).length : Nat) : Int) = 2 from rfl, rightC_I]
    decide
  rw [if_pos h]
  decide +kernel

/- literals in memory -/
theorem blk_new (w : World) (o : Obj) : (w.alloc o).heap[w.heap.size]? = some o := by unfold World.alloc; simp
theorem blk_in {w : World} {b : Nat} {cc : Array Value} {t : TypeId} {fz : Nat × Nat} (h : w.heap[b]? = some (.cells cc t fz)) (off : Nat) : w.cell? ⟨b, off, none⟩ = cc[off]? := by simp [World.cell?, h]
theorem blk_below {w u : World} {k : Nat} {x : Obj} (h : w.heap[k]? = some x) (hB : Below w.heap.size w u) : u.heap[k]? = some x := (hB.block k (Array.getElem?_eq_some_iff.1 h).1).trans h
theorem lit_slc {w : World} {b : Nat} {t : TypeId} (xs : List Int) (h : w.heap[b]? = some (.cells (xs.map (Value.int .i64)).toArray t)) (hf : ∀ x ∈ xs, Fit x) : Slc rNum 1 w (.slice (some ⟨b, 0, none⟩) xs.length xs.length) xs :=
  ⟨_, b, 0, xs.length, xs.length, rfl, ⟨fun h => (by cases h), Nat.le_refl _⟩, rfl, fun _ => rfl, fun k a hk => by
    refine ⟨[.int .i64 a], rfl, fun j hj => ?_, rfl, hf a (List.mem_of_getElem? hk)⟩
    obtain rfl : j = 0 := by omega
    rw [Nat.mul_one, Nat.add_zero, Nat.zero_add, blk_in h]
    simp [hk]⟩
theorem lit_reads {w : World} {b : Nat} {t : TypeId} (xs : List Int) (h : w.heap[b]? = some (.cells (xs.map (Value.int .i64)).toArray t)) : Dm.ReadsN w (.slice (some ⟨b, 0, none⟩) xs.length xs.length) xs :=
  .inr (.inr ⟨b, 0, xs.length, rfl, fun k hk => by
    rw [Nat.zero_add, blk_in h]
    simp [hk]⟩)
theorem nil_slc (w : World) : Slc rNum 1 w (.slice none 0 0) [] := ⟨none, 0, 0, 0, 0, rfl, ⟨fun _ => rfl, Nat.le_refl _⟩, rfl, fun h => by omega, fun k a h => by simp at h⟩
theorem fit_small {n : Int} (h : -2000000000000 ≤ n ∧ n ≤ 2000000000000) : Fit n := by unfold Fit; omega
theorem lit_con {w : World} {c : PCon} {v1 v2 v3 : Value} (hf : Fit c.kind ∧ Fit c.rel ∧ Fit c.const) (h1 : Slc rNum 1 w v1 c.vars) (h2 : Slc rNum 1 w v2 c.coefs) (h3 : Slc rNum 1 w v3 c.nums) : rCon w [.int .i64 c.kind, v1, v2, .int .i64 c.rel, .int .i64 c.const, v3] c :=
  ⟨v1, v2, v3, rfl, hf, h1, h2, h3⟩
theorem lit_dom {w : World} {v : Value} {d : List Int × Nat} (h : Dm.ReadsN w v d.1) (h2 : d.2 < 18446744073709551616) (hl : d.1.length ≤ maxLen) : rDom w [v, .int .u64 d.2] d := ⟨v, rfl, h, h2, hl⟩
theorem lit_doms2 {w : World} {b : Nat} {t : TypeId} {v0 v1 : Value} {d0 d1 : List Int × Nat} (h : w.heap[b]? = some (.cells #[v0, .int .u64 d0.2, v1, .int .u64 d1.2] t)) (r0 : rDom w [v0, .int .u64 d0.2] d0) (r1 : rDom w [v1, .int .u64 d1.2] d1) : Slc rDom 2 w (.slice (some ⟨b, 0, none⟩) 2 2) [d0, d1] :=
  ⟨_, b, 0, 2, 2, rfl, ⟨fun h => (by cases h), Nat.le_refl _⟩, rfl, fun _ => rfl, fun k a hk => by
    match k, hk with
    | 0, hk =>
      obtain rfl : d0 = a := by simpa using hk
      refine ⟨_, rfl, fun j hj => ?_, r0⟩
      rw [blk_in h]
      match j, hj with
      | 0, _ => rfl
      | 1, _ => rfl
    | 1, hk =>
      obtain rfl : d1 = a := by simpa using hk
      refine ⟨_, rfl, fun j hj => ?_, r1⟩
      rw [blk_in h]
      match j, hj with
      | 0, _ => rfl
      | 1, _ => rfl
    | k + 2, hk => simp at hk⟩
theorem lit_doms1 {w : World} {b : Nat} {t : TypeId} {v0 : Value} {d0 : List Int × Nat} (h : w.heap[b]? = some (.cells #[v0, .int .u64 d0.2] t)) (r0 : rDom w [v0, .int .u64 d0.2] d0) : Slc rDom 2 w (.slice (some ⟨b, 0, none⟩) 1 1) [d0] :=
  ⟨_, b, 0, 1, 1, rfl, ⟨fun h => (by cases h), Nat.le_refl _⟩, rfl, fun _ => rfl, fun k a hk => by
    match k, hk with
    | 0, hk =>
      obtain rfl : d0 = a := by simpa using hk
      refine ⟨_, rfl, fun j hj => ?_, r0⟩
      rw [blk_in h]
      match j, hj with
      | 0, _ => rfl
      | 1, _ => rfl
    | k + 1, hk => simp at hk⟩
end Go.Proofs.YtiaibggbbkhjlaaDoor.St
