/-
  Rows of numbers and of constraints that calls lay, and the small constraints that awake asks: plain data.
-/
import Derived.Test.YtkhjnicmbkklpaaVAll
namespace Go.Proofs.Ytkhjnicmbkklpaa.Gr
open Go.RowKit
set_option maxRecDepth 100000

theorem fit_of_small {n : Int} (h : -2000000000000 ≤ n ∧ n ≤ 2000000000000) : Fit n := by unfold Fit; omega
theorem heap_new (w : World) (o : Obj) : (w.alloc o).heap[w.heap.size]? = some o := by
  unfold World.alloc
  simp
theorem heap_old {w : World} {k : Nat} {x : Obj} (o : Obj) (h : w.heap[k]? = some x) : (w.alloc o).heap[k]? = some x :=
  (Below.heap_alloc w o k (Array.getElem?_eq_some_iff.1 h).1).trans h
theorem heap_below {w u : World} {k : Nat} {x : Obj} (h : w.heap[k]? = some x) (hB : Below w.heap.size w u) : u.heap[k]? = some x :=
  (hB.block k (Array.getElem?_eq_some_iff.1 h).1).trans h
theorem cell_in {w : World} {b : Nat} {cc : Array Value} {t : TypeId} {fz : Nat × Nat} (h : w.heap[b]? = some (.cells cc t fz)) (off : Nat) : w.cell? ⟨b, off, none⟩ = cc[off]? := by
  simp [World.cell?, h]
theorem slc_nums {w : World} {b : Nat} {t : TypeId} (xs : List Int) (h : w.heap[b]? = some (.cells (xs.map (Value.int .i64)).toArray t)) (hf : ∀ x ∈ xs, Fit x) : Slc rNum 1 w (.slice (some ⟨b, 0, none⟩) xs.length xs.length) xs :=
  ⟨_, b, 0, xs.length, xs.length, rfl, ⟨fun h => (by cases h), Nat.le_refl _⟩, rfl, fun _ => rfl, fun k a hk => by
    refine ⟨[.int .i64 a], rfl, fun j hj => ?_, rfl, hf a (List.mem_of_getElem? hk)⟩
    obtain rfl : j = 0 := by omega
    rw [Nat.mul_one, Nat.add_zero, Nat.zero_add, cell_in h]
    simp [hk]⟩
theorem none_slcN (w : World) : Slc rNum 1 w (.slice none 0 0) [] := ⟨none, 0, 0, 0, 0, rfl, ⟨fun _ => rfl, Nat.le_refl _⟩, rfl, fun h => by omega, fun k a h => by simp at h⟩
theorem none_slcC (w : World) : Slc rCon 6 w (.slice none 0 0) [] := ⟨none, 0, 0, 0, 0, rfl, ⟨fun _ => rfl, Nat.le_refl _⟩, rfl, fun h => by omega, fun k a h => by simp at h⟩
theorem rcon_mk {w : World} {c : PCon} {v1 v2 v3 : Value} (hf : Fit c.kind ∧ Fit c.rel ∧ Fit c.const) (h1 : Slc rNum 1 w v1 c.vars) (h2 : Slc rNum 1 w v2 c.coefs) (h3 : Slc rNum 1 w v3 c.nums) : rCon w [.int .i64 c.kind, v1, v2, .int .i64 c.rel, .int .i64 c.const, v3] c :=
  ⟨v1, v2, v3, rfl, hf, h1, h2, h3⟩
theorem slc_con1 {w : World} {z : Nat} {t : TypeId} {a0 a1 a2 a3 a4 a5 : Value} {c : PCon} (h : w.heap[z]? = some (.cells #[a0, a1, a2, a3, a4, a5] t)) (r : rCon w [a0, a1, a2, a3, a4, a5] c) : Slc rCon 6 w (.slice (some ⟨z, 0, none⟩) 1 1) [c] :=
  slc_one ⟨cell_in h 0, cell_in h 1, cell_in h 2, cell_in h 3, cell_in h 4, cell_in h 5⟩ r
theorem slc_con2 {w : World} {z : Nat} {t : TypeId} {a0 a1 a2 a3 a4 a5 b0 b1 b2 b3 b4 b5 : Value} {c d : PCon} (h : w.heap[z]? = some (.cells #[a0, a1, a2, a3, a4, a5, b0, b1, b2, b3, b4, b5] t)) (r : rCon w [a0, a1, a2, a3, a4, a5] c) (s : rCon w [b0, b1, b2, b3, b4, b5] d) : Slc rCon 6 w (.slice (some ⟨z, 0, none⟩) 2 2) [c, d] :=
  ⟨_, z, 0, 2, 2, rfl, ⟨fun h => (by cases h), Nat.le_refl _⟩, rfl, fun _ => rfl, fun k a hk => by
    match k, hk with
    | 0, hk =>
      obtain rfl : c = a := by simpa using hk
      refine ⟨[a0, a1, a2, a3, a4, a5], rfl, fun j hj => ?_, r⟩
      rw [cell_in h]
      match j, hj with
      | 0, _ => rfl
      | 1, _ => rfl
      | 2, _ => rfl
      | 3, _ => rfl
      | 4, _ => rfl
      | 5, _ => rfl
    | 1, hk =>
      obtain rfl : d = a := by simpa using hk
      refine ⟨[b0, b1, b2, b3, b4, b5], rfl, fun j hj => ?_, s⟩
      rw [cell_in h]
      match j, hj with
      | 0, _ => rfl
      | 1, _ => rfl
      | 2, _ => rfl
      | 3, _ => rfl
      | 4, _ => rfl
      | 5, _ => rfl
    | k + 2, hk => simp at hk⟩
theorem slc_con3 {w : World} {z : Nat} {t : TypeId} {a0 a1 a2 a3 a4 a5 b0 b1 b2 b3 b4 b5 d0 d1 d2 d3 d4 d5 : Value} {c d e : PCon} (h : w.heap[z]? = some (.cells #[a0, a1, a2, a3, a4, a5, b0, b1, b2, b3, b4, b5, d0, d1, d2, d3, d4, d5] t)) (r : rCon w [a0, a1, a2, a3, a4, a5] c) (s : rCon w [b0, b1, b2, b3, b4, b5] d) (u : rCon w [d0, d1, d2, d3, d4, d5] e) :
    Slc rCon 6 w (.slice (some ⟨z, 0, none⟩) 3 3) [c, d, e] :=
  ⟨_, z, 0, 3, 3, rfl, ⟨fun h => (by cases h), Nat.le_refl _⟩, rfl, fun _ => rfl, fun k a hk => by
    match k, hk with
    | 0, hk =>
      obtain rfl : c = a := by simpa using hk
      refine ⟨[a0, a1, a2, a3, a4, a5], rfl, fun j hj => ?_, r⟩
      rw [cell_in h]
      match j, hj with
      | 0, _ => rfl
      | 1, _ => rfl
      | 2, _ => rfl
      | 3, _ => rfl
      | 4, _ => rfl
      | 5, _ => rfl
    | 1, hk =>
      obtain rfl : d = a := by simpa using hk
      refine ⟨[b0, b1, b2, b3, b4, b5], rfl, fun j hj => ?_, s⟩
      rw [cell_in h]
      match j, hj with
      | 0, _ => rfl
      | 1, _ => rfl
      | 2, _ => rfl
      | 3, _ => rfl
      | 4, _ => rfl
      | 5, _ => rfl
    | 2, hk =>
      obtain rfl : e = a := by simpa using hk
      refine ⟨[d0, d1, d2, d3, d4, d5], rfl, fun j hj => ?_, u⟩
      rw [cell_in h]
      match j, hj with
      | 0, _ => rfl
      | 1, _ => rfl
      | 2, _ => rfl
      | 3, _ => rfl
      | 4, _ => rfl
      | 5, _ => rfl
    | k + 3, hk => simp at hk⟩

/- what awake asks -/
def rowA : List Int := [2, -3, -6]
def conC : PCon := ⟨2, [0, 1, 2], [], 0, 0, []⟩
def conD : PCon := ⟨4, [0, 1], [], 0, 0, [5, 5, -3]⟩
def conE : PCon := ⟨1, [0, 2], [3, 1], 0, 0, []⟩
def conF : PCon := ⟨1, [0], [1], 0, 0, []⟩
def conZ : PCon := ⟨0, [], [], 0, 0, []⟩
def conG : PCon := ⟨6, [0], [], 0, 0, []⟩
theorem short_few {c : PCon} (h : c.vars.length ≤ 3 ∧ c.coefs.length ≤ 3 ∧ c.nums.length ≤ 3) : Short 1000 c := by unfold Short; omega
theorem right_C : rightC conC 3 = true := (rest_on (by decide) (by decide)).2 ⟨varsTo_iff.2 ⟨by decide, by decide⟩, by decide, by decide⟩
theorem right_D : rightC conD 3 = true := (rest_on (by decide) (by decide)).2 ⟨varsTo_iff.2 ⟨by decide, by decide⟩, by decide, by decide⟩
theorem right_E : rightC conE 3 = true := (lin_on (by decide)).2 ⟨varsTo_iff.2 ⟨by decide, by decide⟩, by decide⟩
theorem right_F : rightC conF 3 = true := (lin_on (by decide)).2 ⟨varsTo_iff.2 ⟨by decide, by decide⟩, by decide⟩
theorem right_G : rightC conG 3 = true := (rest_on (by decide) (by decide)).2 ⟨varsTo_iff.2 ⟨by decide, by decide⟩, by decide, by decide⟩
theorem right_Z (n : Int) : rightC conZ n = false := by
  cases q : rightC conZ n
  · rfl
  · have := kind_six q
    exact absurd this (by decide)
theorem right_C2 : rightC conC 2 = false := right_bad fun h => by
  have := (varsTo_iff.1 h).1 2 (by decide)
  omega
theorem ok_A : rowOk rowA = true := by decide
theorem all_C : allG [conC] rowA = true := by
  rw [allG_one, rightG_one, ok_A, show ((rowA.length : Nat) : Int) = 3 from rfl, right_C]; decide
theorem all_D : allG [conD] rowA = true := by
  rw [allG_one, rightG_one, ok_A, show ((rowA.length : Nat) : Int) = 3 from rfl, right_D]; decide
theorem all_E : allG [conE] rowA = true := by
  rw [allG_one, rightG_one, ok_A, show ((rowA.length : Nat) : Int) = 3 from rfl, right_E]; decide
theorem all_CDE : allG [conC, conD, conE] rowA = true := by
  unfold allG rightG
  simp only [List.all_cons, List.all_nil]
  rw [ok_A, show ((rowA.length : Nat) : Int) = 3 from rfl, right_C, right_D, right_E]; decide
theorem all_CF : allG [conC, conF] rowA = false := by
  unfold allG rightG
  simp only [List.all_cons, List.all_nil]
  rw [ok_A, show ((rowA.length : Nat) : Int) = 3 from rfl, right_C, right_F]; decide
theorem all_none_row : allG [] rowA = true := by
  unfold allG rightG
  simp only [List.all_nil]
  rw [ok_A]; rfl
theorem all_Z : allG [conZ] rowA = false := by
  rw [allG_one, rightG_one, right_Z, Bool.and_false, Bool.false_and]
theorem all_G : allG [conG] rowA = false := by
  rw [allG_one, rightG_one, ok_A, show ((rowA.length : Nat) : Int) = 3 from rfl, right_G]; decide
theorem rightG_C : rightG [conC] rowA = true := by
  rw [rightG_one, ok_A, show ((rowA.length : Nat) : Int) = 3 from rfl, right_C]; rfl
theorem rightG_C2 : rightG [conC] [2, -3] = false := by
  rw [rightG_one, show ((([2, -3] : List Int).length : Nat) : Int) = 2 from rfl, right_C2, Bool.and_false]
end Go.Proofs.Ytkhjnicmbkklpaa.Gr
