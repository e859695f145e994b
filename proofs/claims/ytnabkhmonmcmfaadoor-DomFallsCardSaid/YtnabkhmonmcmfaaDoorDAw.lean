/-
  What the calls that awake of layer 4 does answer.
-/
import Derived.Test.YtnabkhmonmcmfaaDoorDNew
import Derived.Test.YtnabkhmonmcmfaaDoorDList
namespace Go.Proofs.YtnabkhmonmcmfaaDoor
open Go.RowKit

def Yes (w : World) (e : Ending) (w' : World) : Prop := e = .returned (.bool true) ∧ Below w.heap.size w w'

def six : List Int := [1, 2, 3, 7, 8, 9]
theorem new_six : newE [(1, 3), (7, 9)] = 0 ∧ newX [(1, 3), (7, 9)] = six ∧ newY [(1, 3), (7, 9)] = 63 := by decide +kernel
theorem new_none : newE [] = 1 ∧ newX [] = [] ∧ newY [] = 0 := by decide +kernel
theorem new_big : newE [(0, 64)] = 5 ∧ newX [(0, 64)] = [] ∧ newY [(0, 64)] = 0 := by decide +kernel
theorem six_between : keepX six 63 = six ∧ keepL six 63 (fun x => decide (2 ≤ x) && decide (x ≤ 8)) = 30 := by decide +kernel
theorem six_only : keepL six 63 (fun z => decide (7 ≤ z) && decide (z ≤ 7)) = 8 := by decide +kernel
theorem six_less : keepX six 30 = six ∧ keepL six 30 (fun z => !(decide (3 ≤ z) && decide (z ≤ 3))) = 26 := by decide +kernel
theorem left_8 : leftM six 8 = [7] := by decide +kernel
theorem left_63 : leftM six 63 = [1, 2, 3, 7, 8, 9] := by decide +kernel
theorem left_30 : leftM six 30 = [2, 3, 7, 8] := by decide +kernel
theorem left_26 : leftM six 26 = [2, 7, 8] := by decide +kernel
theorem may_30 : mayL six 30 = true := by decide +kernel
theorem may_no : mayL [] 1 = false := by decide +kernel

/-- what the calls of awake lean on -/
structure StA (w : World) (d x : Value) (u : World) : Prop where
  tab : B.Tab u
  pos : 0 < u.heap.size
  rd : Reads u d six
  rx : Reads u x six
  below : Below w.heap.size w u
theorem StA.on {w u u' : World} {d x : Value} (h : StA w d x u) (hb : Below u.heap.size u u') : StA w d x u' :=
  ⟨B.Tab.below h.tab h.pos hb, Nat.lt_of_lt_of_le h.pos hb.size, reads_below h.rd hb, reads_below h.rx hb, below_two h.below hb⟩

theorem heldA {w u u' : World} {d x : Value} {p0 p1 p2 p3 : Addr} {a0 a1 a2 a3 : Value} (h : u.cell? p0 = some a0 ∧ u.cell? p1 = some a1 ∧ u.cell? p2 = some a2 ∧ u.cell? p3 = some a3 ∧ Hid (StA w d x u)) (hb : Below u.heap.size u u') :
    u'.cell? p0 = some a0 ∧ u'.cell? p1 = some a1 ∧ u'.cell? p2 = some a2 ∧ u'.cell? p3 = some a3 ∧ Hid (StA w d x u') :=
  ⟨cell_below hb h.1, cell_below hb h.2.1, cell_below hb h.2.2.1, cell_below hb h.2.2.2.1, h.2.2.2.2.out.on hb⟩
theorem heldAs {w u : World} {d x : Value} {p0 p1 p2 p3 : Addr} {a0 a1 a2 a3 : Value} (h : u.cell? p0 = some a0 ∧ u.cell? p1 = some a1 ∧ u.cell? p2 = some a2 ∧ u.cell? p3 = some a3 ∧ Hid (StA w d x u)) : StA w d x u := h.2.2.2.2.out

theorem litS1 (w : World) (q : Nat) (hq : q = w.heap.size) (a b : Int) : Sees (w.alloc (.cells #[.int .i64 a, .int .i64 b] 58)) (.slice (some ⟨q, 0, none⟩) 1 1) [(a, b)] := by
  subst hq
  refine ⟨_, w.heap.size, 0, 1, rfl, fun _ => rfl, fun k hk => ?_⟩
  have : k = 0 := by simpa using hk
  subst this
  simp
theorem litS2 (w : World) (q : Nat) (hq : q = w.heap.size) (a b c d : Int) : Sees (w.alloc (.cells #[.int .i64 a, .int .i64 b, .int .i64 c, .int .i64 d] 58)) (.slice (some ⟨q, 0, none⟩) 2 2) [(a, b), (c, d)] := by
  subst hq
  refine ⟨_, w.heap.size, 0, 2, rfl, fun _ => rfl, fun k hk => ?_⟩
  have : k = 0 ∨ k = 1 := by simp at hk; omega
  rcases this with rfl | rfl <;> simp
theorem litI3 (w : World) (q : Nat) (hq : q = w.heap.size) (a b c : Int) : Reads (w.alloc (.cells #[.int .i64 a, .int .i64 b, .int .i64 c] 3)) (.slice (some ⟨q, 0, none⟩) 3 3) [a, b, c] := by
  subst hq
  refine .inr ⟨w.heap.size, 0, 3, rfl, fun k hk => ?_⟩
  have : k = 0 ∨ k = 1 ∨ k = 2 := by simp at hk; omega
  rcases this with rfl | rfl | rfl <;> simp
theorem litI4 (w : World) (q : Nat) (hq : q = w.heap.size) (a b c d : Int) : Reads (w.alloc (.cells #[.int .i64 a, .int .i64 b, .int .i64 c, .int .i64 d] 3)) (.slice (some ⟨q, 0, none⟩) 4 4) [a, b, c, d] := by
  subst hq
  refine .inr ⟨w.heap.size, 0, 4, rfl, fun k hk => ?_⟩
  have : k = 0 ∨ k = 1 ∨ k = 2 ∨ k = 3 := by simp at hk; omega
  rcases this with rfl | rfl | rfl | rfl <;> simp

theorem spans_48 {L : List (Int × Int)} (h1 : rightL L = true) (h2 : ∀ y, inL L y = decide (y ∈ ([2, 3, 7, 8] : List Int))) : L = [(2, 3), (7, 8)] := by
  refine one h1 (by decide +kernel) fun v => ?_
  rw [h2, Bool.eq_iff_iff]
  simp [inL]
  omega

theorem dom_open {u : World} {base : Nat} {xs : List Int} {y : Nat} {d : Value} (h : DomAt base xs y d u) : ∃ p n c, d = .agg #[.slice p n c, .int .u64 y] ∧ Reads u (.slice p n c) xs := by
  obtain ⟨v', rfl, h2⟩ := h
  have hr := reads_of_owns h2
  obtain ⟨p, n, c, rfl⟩ := reads_slice hr
  exact ⟨_, _, _, rfl, hr⟩

/-- a domain of the six that a call has made -/
def Made (u : World) (x : Int) (e : Ending) (w' : World) : Prop := ∃ p n c, e = .returned (.agg #[.slice p n c, .int .u64 x]) ∧ Reads w' (.slice p n c) six ∧ Below u.heap.size u w'
theorem made_of {u : World} {x : Nat} {e : Ending} {w' : World} (h : ∃ r, e = .returned r ∧ DomAt u.heap.size six x r w' ∧ Below u.heap.size u w') : Made u x e w' := by
  obtain ⟨r, rfl, hd, hB⟩ := h
  obtain ⟨p, n, c, rfl, hr⟩ := dom_open hd
  exact ⟨p, n, c, rfl, hr, hB⟩
/-- what New tells -/
def Told (u : World) (x k : Int) (xs : List Int) (e : Ending) (w' : World) : Prop := ∃ p n c, e = .returned (.tuple #[.agg #[.slice p n c, .int .u64 x], .int .i64 k]) ∧ Reads w' (.slice p n c) xs ∧ Below u.heap.size u w'
theorem told_of {u : World} {x : Nat} {k : Int} {xs : List Int} {e : Ending} {w' : World} (h : ∃ r, e = .returned (.tuple #[r, .int .i64 k]) ∧ DomAt u.heap.size xs x r w' ∧ Below u.heap.size u w') : Told u x k xs e w' := by
  obtain ⟨r, rfl, hd, hB⟩ := h
  obtain ⟨p, n, c, rfl, hr⟩ := dom_open hd
  exact ⟨p, n, c, rfl, hr, hB⟩

section
variable {u : World} {v : Value}
theorem aw_new1 (h : Sees u v [(1, 3), (7, 9)]) : Calls Tryd.prog 7 #[v] u (Told u 63 0 six) := by
  have := new_any h (by decide)
  rw [new_six.1, new_six.2.1, new_six.2.2] at this
  exact this.mono fun e w' h => told_of h
theorem aw_new2 : Calls Tryd.prog 7 #[.slice none 0 0] u (Told u 0 1 []) := by
  have := new_any (w := u) (v := .slice none 0 0) (L := []) ⟨none, 0, 0, 0, rfl, fun h => by simp at h, fun k hk => by simp at hk⟩ (by decide)
  rw [new_none.1, new_none.2.1, new_none.2.2] at this
  exact this.mono fun e w' h => told_of h
theorem aw_new3 (h : Sees u v [(0, 64)]) : Calls Tryd.prog 7 #[v] u (Told u 0 5 []) := by
  have := new_any h (by decide)
  rw [new_big.1, new_big.2.1, new_big.2.2] at this
  exact this.mono fun e w' h => told_of h
variable (h : Reads u v six)
include h
theorem aw_between : Calls Tryd.prog 28 #[.agg #[v, .int .u64 63], .int .i64 2, .int .i64 8] u (Made u 30) := by
  have := dbetween_any h (by decide) 63 (by decide) 2 8
  rw [six_between.1, six_between.2] at this
  exact this.mono fun e w' h => made_of h
theorem aw_only : Calls Tryd.prog 24 #[.agg #[v, .int .u64 63], .int .i64 7] u (Made u 8) := by
  have := donly_any h (by decide) 63 (by decide) 7
  rw [six_between.1, six_only] at this
  exact this.mono fun e w' h => made_of h
theorem aw_less : Calls Tryd.prog 26 #[.agg #[v, .int .u64 30], .int .i64 3] u (Made u 26) := by
  have := dless_any h (by decide) 30 (by decide) 3
  rw [six_less.1, six_less.2] at this
  exact this.mono fun e w' h => made_of h
theorem aw_size : Calls Tryd.prog 16 #[.agg #[v, .int .u64 30]] u fun e w' => e = .returned (.int .i64 4) ∧ Below u.heap.size u w' := by
  have := dsize_any h (by decide) 30 (by decide)
  rw [left_30] at this
  exact this
theorem aw_greatest : Calls Tryd.prog 11 #[.agg #[v, .int .u64 30]] u fun e w' => e = .returned (.tuple #[.int .i64 8, .bool true]) ∧ Below u.heap.size u w' := by
  have := dgreatest_any h (by decide) 30 (by decide)
  rw [left_30] at this
  exact this
theorem aw_has3 : Calls Tryd.prog 21 #[.agg #[v, .int .u64 30], .int .i64 3] u fun e w' => e = .returned (.bool true) ∧ Below u.heap.size u w' := by
  have := dhas_any h (by decide) 30 (by decide) 3
  rw [left_30] at this
  exact this
theorem aw_has1 : Calls Tryd.prog 21 #[.agg #[v, .int .u64 30], .int .i64 1] u fun e w' => e = .returned (.bool false) ∧ Below u.heap.size u w' := by
  have := dhas_any h (by decide) 30 (by decide) 1
  rw [left_30] at this
  exact this
theorem aw_may : Calls Tryd.prog 14 #[.agg #[v, .int .u64 30]] u fun e w' => e = .returned (.bool true) ∧ Below u.heap.size u w' := by
  have := may_any h (by decide) 30 (by decide)
  rw [may_30] at this
  exact this
theorem aw_same : Calls Tryd.prog 29 #[.agg #[v, .int .u64 30], .agg #[v, .int .u64 30]] u fun e w' => e = .returned (.bool true) ∧ Below u.heap.size u w' :=
  dsame_any h h (by decide) (by decide) 30 30
theorem aw_diff {v' : Value} (h' : Reads u v' six) : Calls Tryd.prog 29 #[.agg #[v, .int .u64 30], .agg #[v', .int .u64 63]] u fun e w' => e = .returned (.bool false) ∧ Below u.heap.size u w' :=
  dsame_any h h' (by decide) (by decide) 30 63
variable (hT : B.Tab u) (h0 : 0 < u.heap.size)
include hT h0
theorem aw_single8 : Calls Tryd.prog 12 #[.agg #[v, .int .u64 8]] u fun e w' => e = .returned (.tuple #[.int .i64 7, .bool true]) ∧ Below u.heap.size u w' := by
  have := dsingle_any h (by decide) 8 (by decide) hT h0
  rw [left_8] at this
  exact this
theorem aw_single63 : Calls Tryd.prog 12 #[.agg #[v, .int .u64 63]] u fun e w' => e = .returned (.tuple #[.int .i64 0, .bool false]) ∧ Below u.heap.size u w' := by
  have := dsingle_any h (by decide) 63 (by decide) hT h0
  rw [left_63] at this
  exact this
theorem aw_least : Calls Tryd.prog 10 #[.agg #[v, .int .u64 30]] u fun e w' => e = .returned (.tuple #[.int .i64 2, .bool true]) ∧ Below u.heap.size u w' := by
  have := dleast_any h (by decide) 30 (by decide) hT h0
  rw [left_30] at this
  exact this
theorem aw_list30 : Calls Tryd.prog 18 #[.agg #[v, .int .u64 30]] u fun e w' => ∃ p n c, e = .returned (.slice p n c) ∧ Reads w' (.slice p n c) [2, 3, 7, 8] ∧ Below u.heap.size u w' := by
  have := dlist_any h (by decide) 30 (by decide) hT h0
  rw [left_30] at this
  refine this.mono ?_
  rintro e w' ⟨r, rfl, ho, hB⟩
  have hr := reads_of_owns ho
  obtain ⟨p, n, c, rfl⟩ := reads_slice hr
  exact ⟨p, n, c, rfl, hr, hB⟩
theorem aw_list26 : Calls Tryd.prog 18 #[.agg #[v, .int .u64 26]] u fun e w' => ∃ p n c, e = .returned (.slice p n c) ∧ Reads w' (.slice p n c) [2, 7, 8] ∧ Below u.heap.size u w' := by
  have := dlist_any h (by decide) 26 (by decide) hT h0
  rw [left_26] at this
  refine this.mono ?_
  rintro e w' ⟨r, rfl, ho, hB⟩
  have hr := reads_of_owns ho
  obtain ⟨p, n, c, rfl⟩ := reads_slice hr
  exact ⟨p, n, c, rfl, hr, hB⟩
theorem aw_spans : Calls Tryd.prog 23 #[.agg #[v, .int .u64 30]] u fun e w' => ∃ p n c, e = .returned (.slice p n c) ∧ Sees w' (.slice p n c) [(2, 3), (7, 8)] ∧ Below u.heap.size u w' := by
  have := dspans_any h (by decide) 30 (by decide) hT h0
  rw [left_30] at this
  refine this.mono ?_
  rintro e w' ⟨s, L, rfl, h1, h2, ho, _, hB⟩
  obtain rfl := spans_48 h1 h2
  have hr := sees_of_owns ho
  obtain ⟨p, c, rfl⟩ := spans_shape ho
  exact ⟨p, _, c, rfl, hr, hB⟩
end
theorem aw_mayno {u : World} : Calls Tryd.prog 14 #[.agg #[.slice none 0 0, .int .u64 1]] u fun e w' => e = .returned (.bool false) ∧ Below u.heap.size u w' := by
  have := may_any (w := u) (v := .slice none 0 0) (xs := []) (.inl ⟨_, _, rfl, rfl⟩) (by decide) 1 (by decide)
  rw [may_no] at this
  exact this
theorem aw_ints {u : World} {s t : Value} {xs : List Int} (h : Reads u s xs) (h' : Reads u t xs) (hl : xs.length ≤ 1000000) : Calls Tryd.prog 17 #[s, t] u fun e w' => e = .returned (.bool true) ∧ Below u.heap.size u w' := by
  refine (rsameI_any h h' hl hl).mono ?_
  rintro e w' ⟨rfl, q, rfl⟩
  exact ⟨by simp, below_drewN (Below.refl _ _)⟩

end Go.Proofs.YtnabkhmonmcmfaaDoor
