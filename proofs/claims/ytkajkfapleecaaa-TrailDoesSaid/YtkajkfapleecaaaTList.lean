/-
  Lists of numbers that a call makes: whether two are the same (the document's answer), and sorting one.
-/
import Derived.Test.YtkajkfapleecaaaTSame
import Derived.Test.YtkajkfapleecaaaTSort
import Derived.Test.YtkajkfapleecaaaTOps
import Derived.OwnWalk
import Derived.Maps.AppendAt
import Derived.Laws.OwnMore
import Derived.Lib.OwnBridge
import Derived.Sort.Grow
namespace Go.Proofs.Ytkajkfapleecaaa
open Go.RowKit

theorem cell_below {w wr : World} {p : Addr} {v : Value} (hB : Below w.heap.size w wr) (h : w.cell? p = some v) : wr.cell? p = some v := by
  have hlt : p.block < w.heap.size := by
    unfold World.cell? at h
    cases hh : w.heap[p.block]? with
    | none => simp [hh] at h
    | some q => exact (Array.getElem?_eq_some_iff.1 hh).1
  exact (hB.cell hlt).trans h

def OwnsI (w : World) (base : Nat) (v : Value) (xs : List Int) : Prop := w.ownsRow base 3 1 v xs.length (xs.map (Value.int .i64))

def Reads (w : World) (v : Value) (xs : List Int) : Prop :=
  (∃ (p : Option Addr) (c : Nat), v = .slice p 0 c ∧ xs = []) ∨ ∃ (b off cap : Nat), v = .slice (some ⟨b, off, none⟩) xs.length cap ∧ ∀ k, k < xs.length → w.cell? ⟨b, off + k, none⟩ = some (.int .i64 (xs.getD k 0))

theorem reads_of_owns {w : World} {base : Nat} {v : Value} {xs : List Int} (h : OwnsI w base v xs) : Reads w v xs := by
  have h0 := h
  rcases h.2 with ⟨rfl, h1⟩ | ⟨g, cap, cur, rfl, hb, hg, hn, hc, hs, ht⟩
  · exact .inl ⟨none, 0, rfl, List.eq_nil_of_length_eq_zero h1⟩
  · refine .inr ⟨g, 0, cap, rfl, fun k hk => ?_⟩
    have c0 := h0.cellAt k (by omega)
    rw [Nat.zero_add, c0]
    simp [hk]

theorem reads_below {A B : World} {v : Value} {xs : List Int} (h : Reads A v xs) (hb : Below A.heap.size A B) : Reads B v xs := by
  rcases h with h | ⟨b, off, c, rfl, hx⟩
  · exact .inl h
  · exact .inr ⟨b, off, c, rfl, fun k hk => cell_below hb (hx k hk)⟩

theorem reads_shape {w : World} {v : Value} {xs : List Int} (h : Reads w v xs) :
    ∃ (p : Option Addr) (b off c : Nat), v = .slice p xs.length c ∧ (0 < xs.length → p = some ⟨b, off, none⟩) ∧ ∀ k, k < xs.length → w.cell? ⟨b, off + k, none⟩ = some (.int .i64 (xs.getD k 0)) := by
  rcases h with ⟨p, c, rfl, rfl⟩ | ⟨b, off, c, rfl, hx⟩
  · exact ⟨p, 0, 0, c, rfl, fun h => by simp at h, fun k hk => by simp at hk⟩
  · exact ⟨_, b, off, c, rfl, fun _ => rfl, hx⟩

theorem drop_consI {xs : List Int} {k : Nat} (h : k < xs.length) : xs.drop k = xs.getD k 0 :: xs.drop (k + 1) := by
  rw [List.getD_eq_getElem?_getD, List.getElem?_eq_getElem h]
  exact List.drop_eq_getElem_cons h

theorem drop_endI {xs : List Int} {k : Nat} (h : xs.length ≤ k) : xs.drop k = [] := List.drop_eq_nil_of_le h

set_option maxHeartbeats 1000000 in
theorem rsame_cells (p : Option Addr) (b off c : Nat) (p' : Option Addr) (b' off' c' : Nat) (n n' : Nat) (xs ys : List Int) (w : World) (hl : n = xs.length) (hl' : n' = ys.length) (hm : n ≤ 1000000) (hm' : n' ≤ 1000000)
    (hp : 0 < n → p = some ⟨b, off, none⟩) (hx : ∀ k, k < xs.length → w.cell? ⟨b, off + k, none⟩ = some (.int .i64 (xs.getD k 0))) (hp' : 0 < n' → p' = some ⟨b', off', none⟩) (hy : ∀ k, k < ys.length → w.cell? ⟨b', off' + k, none⟩ = some (.int .i64 (ys.getD k 0))) :
    Calls Try.prog 15 #[.slice p n c, .slice p' n' c'] w fun e w' => e = .returned (.bool (xs == ys)) ∧ ∃ q, w' = w.drewN q := by
  by_cases hnn : n = n'
  · subst hnn
    have HX := Lib.hid hx
    have HY := Lib.hid hy
    have HN := Lib.hid hl
    have HN' := Lib.hid hl'
    obtain ⟨R, hR⟩ : ∃ R, R = (xs == ys) := ⟨_, rfl⟩
    rw [← hR]
    have HR := Lib.hid hR
    have HS : Hid (R = (xs.drop 0 == ys.drop 0)) := hR
    clear hx hy hl hl' hR
    go_enter Try.func15, Try.ntmps15
    go_wp2
    go_loopw [5] (fun i wr => ∃ k : Nat, k ≤ n ∧ i = .int .i64 k ∧ R = (xs.drop k == ys.drop k) ∧ ∃ q, wr = w.drewN q) (fun i _ => n - (intOf i).toNat)
    case atStart => exact ⟨0, by omega, rfl, HS.out, 0, rfl⟩
    case round =>
      obtain ⟨k, hk, rfl, hrel, hw⟩ := hrel
      have HW := Lib.hid hw
      by_cases hlt : k < n
      · obtain rfl := hp (by omega)
        obtain rfl := hp' (by omega)
        have hlx : k < xs.length := by have := HN.out; omega
        have hly : k < ys.length := by have := HN'.out; omega
        have cx : wr.cell? ⟨b, off + k, none⟩ = some (.int .i64 (xs.getD k 0)) := by obtain ⟨q, rfl⟩ := hw; exact HX.out k hlx
        have cy : wr.cell? ⟨b', off' + k, none⟩ = some (.int .i64 (ys.getD k 0)) := by obtain ⟨q, rfl⟩ := hw; exact HY.out k hly
        rw [drop_consI hlx, drop_consI hly] at hrel
        obtain ⟨s, es⟩ : ∃ s, s = xs.getD k 0 := ⟨_, rfl⟩
        obtain ⟨t, et⟩ : ∃ t, t = ys.getD k 0 := ⟨_, rfl⟩
        rw [← es] at cx hrel
        rw [← et] at cy hrel
        have key : R = ((s == t) && (xs.drop (k + 1) == ys.drop (k + 1))) := hrel
        have HK := Lib.hid key
        have d5 : (k : Int) < (n : Int) := by omega
        clear es et hlx hly hrel hw key
        by_cases hst : s = t
        · subst hst
          go_wp2
          go_quiet (fail)
          go_wp2_with fail
          go_roundw
          case rel => exact ⟨k + 1, by omega, by go_num, by rw [HK.out]; simp, by obtain ⟨q, hq⟩ := HW.out; exact ⟨q + nq, by rw [hq, World.drewN_drewN]⟩⟩
          case measure => simp [intOf]; omega
        · have d6 : (s == t) = false := by rw [beq_eq_false_iff_ne]; exact hst
          rw [d6] at HK
          clear hst
          go_wp2
          go_quiet (fail)
          go_wp2_with fail
          go_ret
          exact ⟨by rw [HK.out]; rfl, by obtain ⟨q, hq⟩ := HW.out; exact ⟨q + nq, by rw [hq, World.drewN_drewN]⟩⟩
      · have key : R = true := by rw [hrel, drop_endI (by have := HN.out; omega), drop_endI (by have := HN'.out; omega)]; rfl
        subst key
        clear hrel hw hp hp'
        go_wp2
        go_ret
        exact ⟨rfl, HW.out⟩
  · have e : (xs == ys) = false := by
      rw [beq_eq_false_iff_ne]
      intro e
      exact hnn (by rw [hl, hl', e])
    rw [e]
    have d1 : ((n : Int) == (n' : Int)) = false := by rw [beq_eq_false_iff_ne]; omega
    clear e hl hl' hx hy hp hp'
    go_enter Try.func15, Try.ntmps15
    go_wp2
    go_ret
    exact ⟨rfl, 0, rfl⟩

theorem rsameI_any {w : World} {u v : Value} {xs ys : List Int} (hu : Reads w u xs) (hv : Reads w v ys) (hx : xs.length ≤ 1000000) (hy : ys.length ≤ 1000000) :
    Calls Try.prog 15 #[u, v] w fun e w' => e = .returned (.bool (xs == ys)) ∧ ∃ q, w' = w.drewN q := by
  obtain ⟨p, b, off, c, rfl, hp, hc⟩ := reads_shape hu
  obtain ⟨p', b', off', c', rfl, hp', hc'⟩ := reads_shape hv
  exact rsame_cells p b off c p' b' off' c' _ _ xs ys w rfl rfl hx hy hp hc hp' hc'

theorem info3 : (Try.prog.info? 3).map (fun i => (i.zero, i.size, i.bytes)) = some (some (.int .i64 0), 1, 8) := by kernel_rfl

def sorted (xs : List Int) : List Int := xs.mergeSort fun x y => decide (x ≤ y)

theorem sorted_length (xs : List Int) : (sorted xs).length = xs.length := List.length_mergeSort xs

theorem sorted_mem (xs : List Int) (v : Int) : v ∈ sorted xs ↔ v ∈ xs := List.mem_mergeSort

theorem sorted_up (xs : List Int) : (sorted xs).Pairwise (· ≤ ·) := by
  have := List.pairwise_mergeSort (le := fun x y : Int => decide (x ≤ y)) (by simp; omega) (by simp; omega) xs
  exact this.imp (by simp)

theorem grownBy_grow (w : World) (os : Array Obj) : w.grownBy (Go.Sort.grow w os) none :=
  ⟨rfl, rfl, rfl, by simp [Go.Sort.grow], fun k hk _ => Go.Sort.heap_grow_old w os hk⟩

theorem sort_any {w0 w : World} {base : Nat} {v : Value} {xs : List Int} (h : OwnsI w base v xs) (hB : Below base w0 w) (hb : base ≤ w.heap.size) (hm : xs.length ≤ 100000) :
    Calls Try.prog 32 #[v] w fun e w' => e = .returned (.tuple #[]) ∧ OwnsI w' base v (sorted xs) ∧ Below base w0 w' := by
  by_cases h0 : v = .slice none 0 0
  · subst h0
    have e0 : xs = [] := by
      rcases h.2 with ⟨_, h1⟩ | ⟨g, cap, cur, h1, _⟩
      · exact List.eq_nil_of_length_eq_zero h1
      · simp at h1
    subst e0
    refine (Try.slices_Sort_int_none none 0 w).mono ?_
    rintro e w' ⟨rfl, rfl⟩
    have e1 : sorted [] = [] := List.eq_nil_of_length_eq_zero (sorted_length [])
    rw [e1]
    exact ⟨rfl, h, hB⟩
  · obtain ⟨g, cap, rfl, hbg, hgl, hnc, hcm, hlen, hH⟩ := Lib.holds_of_ownsRow h h0
    have hc := Try.slices_Sort_int g 0 cap xs w hH hgl (by omega)
    refine hc.mono ?_
    rintro e w' ⟨rfl, q, os, rfl⟩
    refine ⟨rfl, ?_, ?_⟩
    · have h1 := Lib.ownsRow_putRow (q := q) (ys := sorted xs) h (sorted_length xs) (Nat.le_refl _)
      rw [← sorted_length xs, List.take_length] at h1
      unfold OwnsI
      rw [sorted_length] at h1 ⊢
      exact h1.kept (grownBy_grow _ os) (.inr (by simp [Value.ownBlock]))
    · have h2 := Lib.below_putRow (enc := Value.int .i64) (q := q) (d := (sorted xs).toArray) hB hbg
      exact h2.grown (grownBy_grow _ os) (by simpa [Go.Sort.putRow, Go.Sort.mapBlock, Go.Sort.ahead] using hb) (by simp)

theorem ownsI_turn {w w' : World} {base : Nat} {v : Value} {xs : List Int} {S : List Nat} (h : OwnsI w base v xs) (ht : Turn S w w') (hS : ∀ b, b ∈ S → b < base) : OwnsI w' base v xs := by
  refine ⟨h.1, ?_⟩
  rcases h.2 with h1 | ⟨g, cap, cur, h1, h2, h3, h4⟩
  · exact .inl h1
  · exact .inr ⟨g, cap, cur, h1, h2, (ht.block g (Array.getElem?_eq_some_iff.1 h3).1 (fun hm => by have := hS g hm; omega)).trans h3, h4⟩
theorem heap3 (w : World) (o1 o2 o3 : Obj) : (((w.alloc o1).alloc o2).alloc o3).drew.heap[w.heap.size]? = some o1 ∧ (((w.alloc o1).alloc o2).alloc o3).drew.heap[w.heap.size + 1]? = some o2 ∧ (((w.alloc o1).alloc o2).alloc o3).drew.heap[w.heap.size + 1 + 1]? = some o3 := by
  have h1 : (((w.alloc o1).alloc o2).alloc o3).drew.heap = ((w.heap.push o1).push o2).push o3 := rfl
  rw [h1]
  refine ⟨?_, ?_, ?_⟩
  · rw [Array.getElem?_push_lt (by simp; omega), Array.getElem_push_lt (by simp), Array.getElem_push_eq]
  · rw [Array.getElem?_push_lt (by simp)]
    have e : w.heap.size + 1 = (w.heap.push o1).size := by simp
    simp only [e, Array.getElem_push_eq]
  · have e : w.heap.size + 1 + 1 = ((w.heap.push o1).push o2).size := by simp
    rw [e, Array.getElem?_push_size]
theorem owns_low {w : World} {base low : Nat} {e : TypeId} {size n : Nat} {v : Value} {xs : List Value} (h : w.ownsRow base e size v n xs) (hl : low ≤ base) : w.ownsRow low e size v n xs := by
  refine ⟨h.1, ?_⟩
  rcases h.2 with h1 | ⟨g, cap, cur, h1, h2, h3⟩
  · exact .inl h1
  · exact .inr ⟨g, cap, cur, h1, by omega, h3⟩
/-- rising lists of the same members are one -/
theorem asc_ext : ∀ {xs ys : List Int}, xs.Pairwise (· < ·) → ys.Pairwise (· < ·) → (∀ y, y ∈ xs ↔ y ∈ ys) → xs = ys
  | [], [], _, _, _ => rfl
  | [], y :: _, _, _, h => by have := (h y).2 (by simp); cases this
  | x :: _, [], _, _, h => by have := (h x).1 (by simp); cases this
  | x :: r, y :: s, hx, hy, h => by
    obtain ⟨h1, h2⟩ := List.pairwise_cons.1 hx
    obtain ⟨h3, h4⟩ := List.pairwise_cons.1 hy
    have e : x = y := by
      rcases List.mem_cons.1 ((h x).1 (by simp)) with e | e
      · exact e
      · rcases List.mem_cons.1 ((h y).2 (by simp)) with e' | e'
        · exact e'.symm
        · have := h3 x e
          have := h1 y e'
          omega
    subst e
    rw [asc_ext h2 h4 (fun z => ⟨fun hz => ?_, fun hz => ?_⟩)]
    · rcases List.mem_cons.1 ((h z).1 (by simp [hz])) with e | e
      · have := h1 z hz
        omega
      · exact e
    · rcases List.mem_cons.1 ((h z).2 (by simp [hz])) with e | e
      · have := h3 z hz
        omega
      · exact e
theorem asc_of {xs : List Int} (h : xs.Pairwise (· ≤ ·)) (hn : xs.Nodup) : xs.Pairwise (· < ·) :=
  (List.pairwise_and_iff.2 ⟨h, hn⟩).imp (fun h => by omega)
end Go.Proofs.Ytkajkfapleecaaa
