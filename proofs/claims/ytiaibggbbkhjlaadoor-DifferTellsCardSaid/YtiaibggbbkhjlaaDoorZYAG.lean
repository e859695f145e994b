/-
  Domains as lists of numbers and sets of places: when one may be, what is left, and what is kept. Nothing of the program.
  What Right, Size, Place, Has and At of the program answer, at every list of spans that can be read.
  What Vars of the document's answers answers, at every model that can be read.
-/
import Derived.Test.YtiaibggbbkhjlaaDoorZYAE
import Derived.Test.YtiaibggbbkhjlaaDoorSNum
import Derived.Test.YtiaibggbbkhjlaaDoorRows
import Derived.WalkKit
import Derived.ProofKit
import Derived.OpenShut
import Derived.Outline
import Derived.WalkMore
import Derived.Lib.Hide
import Derived.BigGuardPart
import Derived.Deep.DeepCutAuto
import Derived.Deep.Light
import Derived.Deep.QuietTactic
import Derived.BigQuiet
import Derived.LoopTactic
import Derived.Laws.BitsAllLaws
import Derived.Laws.Bits64b
import Derived.Test.YtiaibggbbkhjlaaDoorZYAB
namespace Go.Proofs.YtiaibggbbkhjlaaDoor.Dm

/-- rising from m on, none above 1048576 -/
def riseF : Int → List Int → Bool
  | _, [] => true
  | m, v :: r => decide (m ≤ v) && decide (v ≤ 1048576) && riseF (v + 1) r
/-- may a domain be? -/
def mayL (xs : List Int) (x : Nat) : Bool := decide (xs.length ≤ 64) && decide (x < 2 ^ xs.length) && riseF (-1048576) xs
/-- the values that are left -/
def left (xs : List Int) (x : Nat) : List Int := (B.mem 64 x).map (fun k => xs.getD k 0)
/-- the places of values of which p is true -/
def placesN (xs : List Int) (p : Int → Bool) : Nat := B.mk 64 (fun k => decide (k < xs.length) && p (xs.getD k 0))
/-- what is left of which p is true -/
def keepN (xs : List Int) (x : Nat) (p : Int → Bool) : Nat := B.mk 64 (fun k => x.testBit k && (decide (k < xs.length) && p (xs.getD k 0)))

theorem may_iff {xs : List Int} {x : Nat} : mayL xs x = true ↔ xs.length ≤ 64 ∧ x < 2 ^ xs.length ∧ riseF (-1048576) xs = true := by
  simp [mayL, and_assoc]
theorem rise_cons {m v : Int} {r : List Int} : riseF m (v :: r) = true ↔ m ≤ v ∧ v ≤ 1048576 ∧ riseF (v + 1) r = true := by
  simp [riseF, and_assoc]
theorem rise_low : ∀ {xs : List Int} {m v : Int}, riseF m xs = true → v ∈ xs → m ≤ v ∧ v ≤ 1048576
  | [], m, v, _, h => by simp at h
  | y :: r, m, v, hr, h => by
    rw [rise_cons] at hr
    rcases List.mem_cons.1 h with rfl | h
    · omega
    · have := rise_low hr.2.2 h
      omega
theorem cnt_zero {xs : List Int} {m t : Int} (hr : riseF m xs = true) (h : t ≤ m) : xs.countP (· < t) = 0 := by
  rw [List.countP_eq_zero]
  intro v hv
  have := rise_low hr hv
  simp
  omega
theorem cnt_at : ∀ {xs : List Int} {m t : Int} {k : Nat}, riseF m xs = true → k < xs.length → (xs.getD k 0 < t ↔ k < xs.countP (· < t))
  | [], m, t, k, _, h => by simp at h
  | v :: r, m, t, k, hr, h => by
    rw [rise_cons] at hr
    rw [List.countP_cons]
    by_cases hv : v < t
    · cases k with
      | zero => simp [hv]
      | succ k =>
        have := cnt_at (t := t) hr.2.2 (by simpa using h : k < r.length)
        simp [hv] at this ⊢
        exact this
    · have hz := cnt_zero (t := t) hr.2.2 (by omega)
      rw [hz]
      cases k with
      | zero => simp [hv]
      | succ k =>
        have hk : k < r.length := by simpa using h
        have hm : r.getD k 0 ∈ r := by
          rw [List.getD_eq_getElem?_getD, List.getElem?_eq_getElem hk]
          exact List.getElem_mem hk
        have := rise_low hr.2.2 hm
        simp [hv] at this ⊢
        omega
theorem cnt_next : ∀ {xs : List Int} {m t : Int}, riseF m xs = true → xs.countP (· < t + 1) = xs.countP (· < t) + (if xs.contains t then 1 else 0)
  | [], m, t, _ => by simp
  | v :: r, m, t, hr => by
    rw [rise_cons] at hr
    rw [List.countP_cons, List.countP_cons]
    by_cases h1 : v < t
    · have hn := cnt_next (t := t) hr.2.2
      rw [hn]
      have h2 : v < t + 1 := by omega
      have h3 : ¬ t = v := by omega
      simp [h1, h2, h3]
      omega
    · by_cases h2 : v = t
      · subst h2
        have hz := cnt_zero (t := v + 1) hr.2.2 (by omega)
        have hz2 := cnt_zero (t := v) hr.2.2 (by omega)
        rw [hz, hz2]
        have h3 : v < v + 1 := by omega
        simp [h3]
      · have hz := cnt_zero (t := t + 1) hr.2.2 (by omega)
        have hz2 := cnt_zero (t := t) hr.2.2 (by omega)
        rw [hz, hz2]
        have h3 : ¬ v < t + 1 := by omega
        have h4 : ¬ t = v := by omega
        have h5 : r.contains t = false := by
          cases e : r.contains t
          · rfl
          · have := rise_low hr.2.2 (by simpa using e : t ∈ r)
            omega
        simp only [List.contains_cons, h5]
        simp [h1, h3, h4]
theorem cnt_le (xs : List Int) (t : Int) : xs.countP (· < t) ≤ xs.length := List.countP_le_length

/-- where the values from low to high stand -/
theorem places_eq {xs : List Int} {m low high : Int} (hr : riseF m xs = true) :
    B.betweenN (xs.countP (· < low) : Nat) (((xs.countP (· < high) : Nat) : Int) - (if xs.contains high then 0 else 1)) = placesN xs (fun y => decide (low ≤ y) && decide (y ≤ high)) := by
  unfold B.betweenN placesN
  refine B.mk_congr fun k _ => ?_
  have h3 := cnt_le xs high
  have h4 := cnt_next (t := high) hr
  have h5 := cnt_le xs (high + 1)
  by_cases hk : k < xs.length
  · have h1 := cnt_at (t := low) hr hk
    have h2 := cnt_at (t := high + 1) hr hk
    rw [Bool.eq_iff_iff]
    simp only [hk, decide_true, Bool.true_and, Bool.and_eq_true, decide_eq_true_eq]
    split at h4 <;> simp_all <;> omega
  · rw [Bool.eq_iff_iff]
    simp only [hk, decide_false, Bool.false_and, Bool.and_eq_true, decide_eq_true_eq]
    split at h4 <;> simp_all <;> omega

theorem places_lt (xs : List Int) (p : Int → Bool) : placesN xs p < 18446744073709551616 := B.mk_lt 64 _
theorem keep_lt (xs : List Int) (x : Nat) (p : Int → Bool) : keepN xs x p < 18446744073709551616 := B.mk_lt 64 _
theorem keep_and {x : Nat} (hx : x < 18446744073709551616) (xs : List Int) (p : Int → Bool) : x &&& placesN xs p = keepN xs x p := by
  refine B.same_bits (Nat.lt_of_le_of_lt Nat.and_le_left hx) (keep_lt _ _ _) fun k hk => ?_
  rw [Nat.testBit_and, placesN, keepN, B.mk_bit, B.mk_bit]
  simp [hk]
theorem bit_len {x n k : Nat} (h : x < 2 ^ n) (hb : x.testBit k = true) : k < n := by
  rcases Nat.lt_or_ge k n with h1 | h1
  · exact h1
  · rw [Nat.testBit_lt_two_pow (Nat.lt_of_lt_of_le h (Nat.pow_le_pow_right (by decide) h1))] at hb
    simp at hb
/-- what the other places keep -/
theorem keep_not {xs : List Int} {x : Nat} (hx : x < 18446744073709551616) (hl : x < 2 ^ xs.length) (p : Int → Bool) : x &&& (18446744073709551615 - placesN xs p) = keepN xs x (fun y => !p y) := by
  refine B.same_bits (Nat.lt_of_le_of_lt Nat.and_le_left hx) (keep_lt _ _ _) fun k hk => ?_
  rw [Nat.testBit_and, B.not_bit hk (places_lt _ _), placesN, keepN, B.mk_bit, B.mk_bit]
  cases hb : x.testBit k
  · simp
  · have := bit_len hl hb
    simp [hk, this]
theorem keep_bit (xs : List Int) (x : Nat) (p : Int → Bool) (k : Nat) (hk : k < 64) : (keepN xs x p).testBit k = (x.testBit k && (decide (k < xs.length) && p (xs.getD k 0))) := by
  rw [keepN, B.mk_bit]
  simp [hk]
theorem may_lt {xs : List Int} {x : Nat} (h : mayL xs x = true) : x < 18446744073709551616 := by
  rw [may_iff] at h
  exact Nat.lt_of_lt_of_le h.2.1 (Nat.pow_le_pow_right (n := 2) (by decide) h.1)
theorem keep_may {xs : List Int} {x : Nat} (h : mayL xs x = true) (p : Int → Bool) : mayL xs (keepN xs x p) = true := by
  rw [may_iff] at h ⊢
  refine ⟨h.1, ?_, h.2.2⟩
  apply Nat.lt_pow_two_of_testBit
  intro k hk
  by_cases h6 : k < 64
  · rw [keep_bit _ _ _ _ h6]
    have : ¬ k < xs.length := by omega
    simp [this]
  · exact Nat.testBit_lt_two_pow (Nat.lt_of_lt_of_le (keep_lt _ _ _) (Nat.pow_le_pow_right (n := 2) (by decide) (by omega : 64 ≤ k)))
theorem keep_keep (xs : List Int) (x : Nat) (p q : Int → Bool) : keepN xs (keepN xs x p) q = keepN xs x (fun y => p y && q y) := by
  refine B.mk_congr fun k hk => ?_
  rw [keep_bit _ _ _ _ hk]
  cases x.testBit k <;> cases decide (k < xs.length) <;> simp
theorem keep_congr {xs : List Int} {x : Nat} {p q : Int → Bool} (h : ∀ k, k < xs.length → x.testBit k = true → p (xs.getD k 0) = q (xs.getD k 0)) : keepN xs x p = keepN xs x q := by
  refine B.mk_congr fun k hk => ?_
  cases hb : x.testBit k
  · simp
  · by_cases hl : k < xs.length
    · rw [h k hl hb]
    · simp [hl]
theorem keep_zero (xs : List Int) (p : Int → Bool) : keepN xs 0 p = 0 := by
  refine B.same_bits (keep_lt _ _ _) (by omega) fun k hk => ?_
  rw [keep_bit _ _ _ _ hk, Nat.zero_testBit]
  rfl

theorem len_lt : ∀ (f x : Nat), x < 2 ^ f → x < 2 ^ Lib.bitLenAux f x
  | 0, x, h => by simpa [Lib.bitLenAux] using h
  | f + 1, x, h => by
    rw [Lib.bitLenAux]
    split
    · subst x
      simp
    · have := len_lt f (x / 2) (by rw [Nat.pow_succ] at h; omega)
      rw [Nat.add_comm 1, Nat.pow_succ]
      omega
/-- the greatest place of a set is below n just if the set is below 2 ^ n -/
theorem greatest_lt {x n : Nat} (hx : x < 18446744073709551616) (hn : n ≤ 64) : B.lastZ (B.mem 64 x) < (n : Int) ↔ x < 2 ^ n := by
  rw [B.greatest_eq x hx]
  constructor
  · intro h
    exact Nat.lt_of_lt_of_le (len_lt 64 x hx) (Nat.pow_le_pow_right (by decide) (by unfold Lib.bitLen at h; omega))
  · intro h
    have := Lib.bitLen_le x n hn h
    omega

theorem mem_snoc (n x : Nat) : B.mem (n + 1) x = B.mem n x ++ (if x.testBit n then [n] else []) := by
  unfold B.mem
  rw [List.range_succ, List.filter_append]
  congr 1
  cases h : x.testBit n <;> simp [h]
theorem mem_same {n x : Nat} (h : x < 2 ^ n) : ∀ d, B.mem (n + d) x = B.mem n x
  | 0 => rfl
  | d + 1 => by
    rw [← Nat.add_assoc, mem_snoc, mem_same h d]
    cases hb : x.testBit (n + d)
    · simp
    · have := bit_len h hb
      omega
theorem left_len {xs : List Int} {x : Nat} (h : mayL xs x = true) : left xs x = (B.mem xs.length x).map (fun k => xs.getD k 0) := by
  rw [may_iff] at h
  have := mem_same h.2.1 (64 - xs.length)
  rw [show xs.length + (64 - xs.length) = 64 by omega] at this
  rw [left, this]
theorem left_mem {xs : List Int} {x : Nat} (h : mayL xs x = true) (v : Int) : v ∈ left xs x ↔ ∃ k, k < xs.length ∧ x.testBit k = true ∧ xs.getD k 0 = v := by
  rw [left_len h]
  simp [B.mem_iff, and_assoc]
theorem left_ok {xs : List Int} {x : Nat} (h : mayL xs x = true) (v : Int) (hv : v ∈ left xs x) : -1048576 ≤ v ∧ v ≤ 1048576 := by
  obtain ⟨k, hk, _, rfl⟩ := (left_mem h v).1 hv
  have hm : xs.getD k 0 ∈ xs := by
    rw [List.getD_eq_getElem?_getD, List.getElem?_eq_getElem hk]
    exact List.getElem_mem hk
  rw [may_iff] at h
  exact rise_low h.2.2 hm
theorem left_length (xs : List Int) (x : Nat) : (left xs x).length = (B.mem 64 x).length := by simp [left]
theorem left_le (xs : List Int) (x : Nat) : (left xs x).length ≤ 64 := by
  rw [left_length]
  exact B.mem_length_le 64 x
theorem left_none (xs : List Int) : left xs 0 = [] := by simp [left, B.mem_none]
/-- is a value left? -/
theorem left_has {xs : List Int} {x : Nat} (h : mayL xs x = true) (v : Int) : (keepN xs x (fun y => decide (v ≤ y) && decide (y ≤ v)) ≠ 0) ↔ v ∈ left xs x := by
  rw [left_mem h]
  have h0 := may_iff.1 h
  constructor
  · intro hne
    obtain ⟨k, hk⟩ := Nat.exists_testBit_of_ne_zero hne
    have hk64 : k < 64 := by
      rcases Nat.lt_or_ge k 64 with h1 | h1
      · exact h1
      · rw [Nat.testBit_lt_two_pow (Nat.lt_of_lt_of_le (keep_lt _ _ _) (Nat.pow_le_pow_right (n := 2) (by decide) h1))] at hk
        simp at hk
    rw [keep_bit _ _ _ _ hk64] at hk
    simp at hk
    exact ⟨k, hk.2.1, hk.1, by simp; omega⟩
  · rintro ⟨k, hk, hb, rfl⟩ h1
    have h2 := keep_bit xs x (fun y => decide (xs.getD k 0 ≤ y) && decide (y ≤ xs.getD k 0)) k (by omega)
    rw [h1, Nat.zero_testBit, hb] at h2
    simp [hk] at h2
/-- the zero domain, if one may not be -/
def keepX (xs : List Int) (x : Nat) : List Int := if mayL xs x = true then xs else []
def keepL (xs : List Int) (x : Nat) (p : Int → Bool) : Nat := if mayL xs x = true then keepN xs x p else 0
def leftM (xs : List Int) (x : Nat) : List Int := if mayL xs x = true then left xs x else []
theorem leftM_le (xs : List Int) (x : Nat) : (leftM xs x).length ≤ 64 := by
  unfold leftM
  split
  · exact left_le xs x
  · simp
end Go.Proofs.YtiaibggbbkhjlaaDoor.Dm
namespace Go.Proofs.YtiaibggbbkhjlaaDoor
open Go.RowKit

/-- the cells of a list of spans, from an address on -/
def Cells (w : World) (b off : Nat) (L : List (Int × Int)) : Prop :=
  ∀ k, k < L.length → w.cell? ⟨b, off + k * 2, none⟩ = some (.int .i64 (L.getD k (0, 0)).1) ∧ w.cell? ⟨b, off + k * 2 + 1, none⟩ = some (.int .i64 (L.getD k (0, 0)).2)
/-- the slice value v reads as the spans L -/
def Sees (w : World) (v : Value) (L : List (Int × Int)) : Prop :=
  ∃ (p : Option Addr) (b off c : Nat), v = .slice p L.length c ∧ (0 < L.length → p = some ⟨b, off, none⟩) ∧ Cells w b off L

theorem cell_below {w wr : World} {p : Addr} {v : Value} (hB : Below w.heap.size w wr) (h : w.cell? p = some v) : wr.cell? p = some v := by
  have hlt : p.block < w.heap.size := by
    unfold World.cell? at h
    cases hh : w.heap[p.block]? with
    | none => simp [hh] at h
    | some q => exact (Array.getElem?_eq_some_iff.1 hh).1
  exact (hB.cell hlt).trans h
theorem cells_below {w wr : World} {b off : Nat} {L : List (Int × Int)} (h : Cells w b off L) (hB : Below w.heap.size w wr) : Cells wr b off L :=
  fun k hk => ⟨cell_below hB (h k hk).1, cell_below hB (h k hk).2⟩
theorem sees_below {w wr : World} {v : Value} {L : List (Int × Int)} (h : Sees w v L) (hB : Below w.heap.size w wr) : Sees wr v L := by
  obtain ⟨p, b, off, c, h1, h2, h3⟩ := h
  exact ⟨p, b, off, c, h1, h2, cells_below h3 hB⟩
theorem drop_cons {L : List (Int × Int)} {k : Nat} (h : k < L.length) : L.drop k = L.getD k (0, 0) :: L.drop (k + 1) := by
  rw [List.getD_eq_getElem?_getD, List.getElem?_eq_getElem h]
  exact List.drop_eq_getElem_cons h
theorem drop_end {L : List (Int × Int)} {k : Nat} (h : L.length ≤ k) : L.drop k = [] := List.drop_eq_nil_of_le h

def RightRel (L : List (Int × Int)) (k : Nat) (z : Int) : Prop := rightL L = rightF z (L.drop k) ∧ -1048576 ≤ z ∧ z ≤ 1048578

theorem below_two {w w1 w2 : World} (h1 : Below w.heap.size w w1) (h2 : Below w1.heap.size w1 w2) : Below w.heap.size w w2 := by
  exact h1.trans (h2.mono h1.size)

/-- behind the spans ahead of place k: what is left is right, from z on -/
def Rest (L : List (Int × Int)) (k : Nat) (z : Int) : Prop := rightF z (L.drop k) = true ∧ -1048576 ≤ z
theorem rest_start {L : List (Int × Int)} (h : rightL L = true) : Rest L 0 (-1048576) := ⟨h, by omega⟩
theorem rest_on {L : List (Int × Int)} {k : Nat} {z x y : Int} (h : Rest L k z) (hk : k < L.length) (ex : x = (L.getD k (0, 0)).1) (ey : y = (L.getD k (0, 0)).2) :
    Rest L (k + 1) (y + 2) ∧ z ≤ x ∧ x ≤ y ∧ y ≤ 1048576 ∧ -1048576 ≤ z ∧ 0 ≤ sizeL (L.drop (k + 1)) := by
  obtain ⟨h1, h2⟩ := h
  rw [drop_cons hk, right_cons, ← ex, ← ey] at h1
  obtain ⟨g1, g2, g3, g4⟩ := h1
  exact ⟨⟨g4, by omega⟩, g1, g2, g3, h2, (size_bound g4).1⟩

def SizeRel (L : List (Int × Int)) (k : Nat) (n : Int) : Prop := sizeL L = n + sizeL (L.drop k) ∧ 0 ≤ n ∧ ∃ z, Rest L k z
theorem size_on {L : List (Int × Int)} {k : Nat} {n x y : Int} (h : SizeRel L k n) (hk : k < L.length) (ex : x = (L.getD k (0, 0)).1) (ey : y = (L.getD k (0, 0)).2) : SizeRel L (k + 1) (n + (y - x + 1)) := by
  obtain ⟨h1, h2, z, h3⟩ := h
  obtain ⟨g1, g2⟩ := rest_on h3 hk ex ey
  refine ⟨?_, by omega, _, g1⟩
  rw [h1, drop_cons hk, sizeL, ex, ey]
  omega

end Go.Proofs.YtiaibggbbkhjlaaDoor
namespace Go.Proofs.YtiaibggbbkhjlaaDoor
open Go.RowKit
set_option maxRecDepth 100000

theorem rDecl_one : rDecl.One := fun w cs a ⟨s, v, h1, _, p, b, off, c, len, h3, _, _⟩ u hu => by
  subst h1 h3
  simp at hu
  rcases hu with rfl | rfl <;> rfl
theorem vars_drop {bs : List PBlock} {k : Nat} {x : PBlock} (e : bs.drop k = x :: bs.drop (k + 1)) : varsL (bs.take (k + 1)) = varsL (bs.take k) ++ x.vars := by
  have hk : k < bs.length := by
    have := congrArg List.length e
    rw [List.length_drop, List.length_cons] at this
    omega
  rw [List.drop_eq_getElem_cons hk] at e
  simp only [List.cons.injEq, and_true] at e
  rw [List.take_add_one, List.getElem?_eq_getElem hk, e]
  simp [varsL]
theorem vars_few (bs : List PBlock) (h : ∀ x ∈ bs, x.vars.length ≤ 1000) : (varsL bs).length ≤ bs.length * 1000 := by
  induction bs with
  | nil => simp [varsL]
  | cons x r ih =>
    have h1 := h x (by simp)
    have h2 := ih fun y hy => h y (by simp [hy])
    have e : varsL (x :: r) = x.vars ++ varsL r := by simp [varsL]
    rw [e, List.length_append, List.length_cons]
    omega

theorem vars_to (bs : List PBlock) (k : Nat) : (varsL (bs.take k)).length ≤ (varsL bs).length := by
  have e : varsL bs = varsL (bs.take k) ++ varsL (bs.drop k) := by
    unfold varsL
    rw [← List.flatMap_append, List.take_append_drop]
  rw [e, List.length_append]
  omega
theorem slc_of_ints {w : World} {base : Nat} {v : Value} {xs : List Int} (h : OwnsI w base v xs) (hf : ∀ x ∈ xs, Fit x) : Slc rNum 1 w v xs := by
  have h0 := h
  rcases h.2 with ⟨rfl, hl⟩ | ⟨g, cap, cur, rfl, hb, hg, hn, hc, hs, ht⟩
  · exact ⟨none, 0, 0, 0, 0, rfl, ⟨fun _ => rfl, Nat.le_refl _⟩, hl.symm, fun h => by omega, fun k a ha => by
      have := (List.getElem?_eq_some_iff.1 ha).1
      omega⟩
  · refine ⟨_, g, 0, cap, xs.length, rfl, ⟨(fun h => by cases h), hn⟩, rfl, fun _ => rfl, fun k a ha => ?_⟩
    have hk := (List.getElem?_eq_some_iff.1 ha).1
    refine ⟨[.int .i64 a], rfl, fun j hj => ?_, rfl, hf a (List.mem_of_getElem? ha)⟩
    obtain rfl : j = 0 := by omega
    rw [Nat.zero_add, Nat.mul_one, Nat.add_zero, h0.cellAt k (by omega)]
    simp [ha]
theorem ends_fit : ∀ (bs : List PBlock) (n : Nat), n + bs.length * 1000 ≤ 1000000 → (∀ x ∈ bs, x.vars.length ≤ 1000) → ∀ z ∈ endsF n bs, Fit z
  | [], _, _, _, z, hz => by simp [endsF] at hz
  | x :: r, n, h, hv, z, hz => by
    have hx := hv x (by simp)
    rw [List.length_cons] at h
    rw [endsF, List.mem_cons] at hz
    rcases hz with rfl | hz
    · unfold Fit; omega
    · exact ends_fit r (n + x.vars.length) (by omega) (fun y hy => hv y (by simp [hy])) z hz
end Go.Proofs.YtiaibggbbkhjlaaDoor
