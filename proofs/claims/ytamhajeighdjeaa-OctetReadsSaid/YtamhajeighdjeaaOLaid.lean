/-
  Rows of bytes that calls make: laid and Eight, and the document's bytes and Eight.
-/
import Derived.Test.YtamhajeighdjeaaOMark
namespace Go.Proofs.Ytamhajeighdjeaa
open Go.RowKit

theorem info5 : (Try.prog.info? 5).map (fun i => (i.zero, i.size, i.bytes)) = some (some (.int .u8 0), 1, 1) := by kernel_rfl
theorem make_bytes (n : Nat) (hn : n ≤ 1000) (w : World) : (Instr.makeSlice 23 (.int .i64 (n : Int)) (.int .i64 (n : Int))).run Try.prog w = .ok (.slice (some ⟨w.heap.size, 0, none⟩) n n) (w.alloc (.cells (madeCells #[.int .u8 0] n) 5)) := by
  obtain ⟨i0, hi, hz0, hz1, hz2⟩ := info_parts info5
  have hr := run_make (P := Try.prog) w 23 5 i0 _ Try.underlying23 hi hz0 .i64 .i64 n n (by omega) (Int.le_refl _) (by rw [hz2]; omega) (by omega)
  simp only [Int.toNat_natCast, hz1, Nat.mul_one] at hr
  exact hr

/-- block b is a row of s bytes -/
def RowAt (s : Nat) (w : World) (b : Nat) (f : Nat → Nat) : Prop :=
  ∃ cc, w.heap[b]? = some (.cells cc 5 (0, 0)) ∧ cc.size = s ∧ ∀ i, i < s → cc[i]? = some (enc (f i))
section
variable {s : Nat} {w : World} {b : Nat} {f : Nat → Nat}
theorem RowAt.cell (h : RowAt s w b f) {i : Nat} (hi : i < s) : w.cell? ⟨b, i, none⟩ = some (.int .u8 (f i : Nat)) := by
  obtain ⟨cc, h1, h2, h3⟩ := h
  rw [cell_of_heap h1]
  exact h3 i hi
theorem RowAt.frozen (h : RowAt s w b f) (off : Nat) : w.frozen? ⟨b, off, none⟩ = false := by
  obtain ⟨cc, h1, h2, h3⟩ := h
  exact frozen_of_heap h1
theorem RowAt.set (h : RowAt s w b f) {i : Nat} (hi : i < s) {g : Nat → Nat} (x : Int) (hx : x = g i) (hg : ∀ j, j ≠ i → g j = f j) : RowAt s (w.setCell ⟨b, i, none⟩ (.int .u8 x)) b g := by
  obtain ⟨cc, h1, h2, h3⟩ := h
  refine ⟨_, heap_setCell_same h1 _, by simp [h2], fun j hj => ?_⟩
  by_cases e : j = i
  · subst e
    rw [Array.getElem?_setIfInBounds, if_pos rfl, if_pos (by omega), hx]
    rfl
  · rw [Array.getElem?_setIfInBounds, if_neg (by omega), h3 j hj, hg j e]
theorem RowAt.congr {g : Nat → Nat} (h : RowAt s w b f) (e : ∀ i, i < s → g i = f i) : RowAt s w b g := by
  obtain ⟨cc, h1, h2, h3⟩ := h
  exact ⟨cc, h1, h2, fun i hi => by rw [e i hi]; exact h3 i hi⟩
theorem RowAt.owns (h : RowAt s w b f) {base : Nat} (hb : base ≤ b) (hs : s ≤ 1000) (xs : List Nat) (hl : xs.length = s) (hx : ∀ i, i < s → xs.getD i 0 = f i) : Owns w base (.slice (some ⟨b, 0, none⟩) s s) xs := by
  obtain ⟨cc, h1, h2, h3⟩ := h
  refine ⟨by simp, .inr ⟨b, s, cc, by rw [hl], hb, h1, by omega, by unfold maxLen; omega, by simpa using h2, ?_⟩⟩
  apply List.ext_getElem?
  intro i
  by_cases hi : i < s
  · have := h3 i hi
    rw [List.getElem?_take]
    simp [hl, hi, this, ← hx i hi]
  · rw [List.getElem?_eq_none (by simp; omega), List.getElem?_eq_none (by simp; omega)]
end
theorem new_block (w : World) (o : Obj) : (w.alloc o).heap[w.heap.size]? = some o := by
  unfold World.alloc
  simp
theorem row_made (s : Nat) (w : World) : RowAt s (w.alloc (.cells (madeCells #[.int .u8 0] s) 5)) w.heap.size (fun _ => 0) := by
  refine ⟨_, new_block w _, size_madeCells _ _, fun i hi => ?_⟩
  rw [← Array.getElem?_toList, toList_madeCells_one]
  simp [hi, enc]

set_option maxHeartbeats 400000 in
theorem laid_any (n s : Nat) (hs : s ≤ 8) (w : World) :
    Calls Try.prog 27 #[.int .u64 n, .int .i64 s] w fun e w' => ∃ v, e = .returned v ∧ Owns w' w.heap.size v (be s n) ∧ Below w.heap.size w w' := by
  have hm := make_bytes s (by omega)
  go_enter Try.func27, Try.ntmps27
  go_wp2
  go_loopw [11] (fun i wr => (∃ k : Nat, k ≤ s ∧ i = .int .i64 k ∧ RowAt s wr w.heap.size (fun j => if j < k then n / 256 ^ (s - 1 - j) % 256 else 0)) ∧ Below w.heap.size w wr) (fun i _ => s - (intOf i).toNat)
  case atStart => exact ⟨⟨0, by omega, rfl, (row_made s w).congr fun i _ => by simp⟩, (Below.refl _ w).alloc (Nat.le_refl _) _⟩
  case round =>
    obtain ⟨⟨k, hk, rfl, hrow⟩, hB⟩ := hrel
    have hsz := hB.size
    by_cases hlt : k < s
    · have c0 := hrow.cell hlt
      have f0 := hrow.frozen k
      obtain ⟨x, ex⟩ : ∃ x, x = if k < k then n / 256 ^ (s - 1 - k) % 256 else 0 := ⟨_, rfl⟩
      rw [← ex] at c0
      have HR := Lib.hid hrow
      have HB := Lib.hid hB
      clear hrow hB ex
      go_wp2_with fail
      go_roundw
      case rel =>
        refine ⟨⟨k + 1, by omega, by go_num, HR.out.set hlt _ ?_ (fun j hj => ?_)⟩, HB.out.setCell (Nat.le_refl _) _⟩
        · rw [if_pos (by omega), show (256 : Nat) = 2 ^ 8 from rfl, ← Nat.pow_mul]
          simp
        · by_cases h : j < k
          · rw [if_pos h, if_pos (by omega)]
          · rw [if_neg h, if_neg (by omega)]
      case measure => simp [intOf]; omega
    · have e : k = s := by omega
      subst e
      have HR := Lib.hid hrow
      have HB := Lib.hid hB
      clear hrow hB
      go_wp2
      go_ret
      refine ⟨_, rfl, HR.out.owns (Nat.le_refl _) (by omega) _ (be_length _ _) (fun i hi => ?_), HB.out⟩
      rw [be_get _ _ _ hi, if_pos hi]

theorem down (N s j : Nat) (hj : j ≤ s) (hp : 0 < j) : N / 256 ^ (s - (j - 1)) = N / 256 ^ (s - j) / 256 := by
  rw [Nat.div_div_eq_div_mul, ← Nat.pow_succ]
  congr 2
  omega

set_option maxHeartbeats 400000 in
theorem rbytes_any (n s : Nat) (hn : n < 18446744073709551616) (hs : s ≤ 8) (w : World) :
    Calls Try.prog 28 #[.int .u64 n, .int .i64 s] w fun e w' => ∃ v, e = .returned v ∧ Owns w' w.heap.size v (be s n) ∧ Below w.heap.size w w' := by
  have hm := make_bytes s (by omega)
  have H0 := Lib.hid (show n = n / 256 ^ (s - s) from by simp)
  go_enter Try.func28, Try.ntmps28
  go_wp2
  go_loopw [0, 6] (fun a i wr => (∃ j x : Nat, j ≤ s ∧ i = .int .i64 ((j : Int) - 1) ∧ a = .int .u64 x ∧ x = n / 256 ^ (s - j) ∧ RowAt s wr w.heap.size (fun i => if j ≤ i then n / 256 ^ (s - 1 - i) % 256 else 0)) ∧ Below w.heap.size w wr) (fun _ i _ => (intOf i + 1).toNat)
  case atStart => exact ⟨⟨s, n, by omega, by go_num, rfl, H0.out, (row_made s w).congr fun i hi => by rw [if_neg (by omega)]⟩, (Below.refl _ w).alloc (Nat.le_refl _) _⟩
  case round =>
    obtain ⟨⟨j, x, hj, rfl, rfl, ex, hrow⟩, hB⟩ := hrel
    have hsz := hB.size
    by_cases hlt : 0 < j
    · obtain ⟨k, rfl⟩ : ∃ k, j = k + 1 := ⟨j - 1, by omega⟩
      have hlk : k < s := by omega
      have c0 := hrow.cell hlk
      have f0 := hrow.frozen k
      obtain ⟨z, ez⟩ : ∃ z, z = if k + 1 ≤ k then n / 256 ^ (s - 1 - k) % 256 else 0 := ⟨_, rfl⟩
      rw [← ez] at c0
      have hx : x < 18446744073709551616 := by rw [ex]; exact Nat.lt_of_le_of_lt (Nat.div_le_self _ _) hn
      have h1 : x / 256 = n / 256 ^ (s - k) := by
        have := down n s (k + 1) hj (by omega)
        rw [Nat.add_sub_cancel] at this
        rw [this, ex]
      have h2 : x % 256 = n / 256 ^ (s - 1 - k) % 256 := by rw [ex]; congr 3; omega
      have hi : ((k + 1 : Nat) : Int) - 1 = (k : Int) := by omega
      have HR := Lib.hid hrow
      have HB := Lib.hid hB
      have H1 := Lib.hid h1
      have H2 := Lib.hid h2
      rw [hi]
      clear hrow hB ez ex h1 h2 hi
      go_wp2_with fail
      go_roundw
      case rel =>
        refine ⟨⟨k, x / 256, by omega, rfl, by go_num, H1.out, HR.out.set hlk _ ?_ (fun j hj => ?_)⟩, HB.out.setCell (Nat.le_refl _) _⟩
        · rw [if_pos (Nat.le_refl k), ← H2.out]
          omega
        · by_cases h : k ≤ j
          · rw [if_pos h, if_pos (by omega)]
          · rw [if_neg h, if_neg (by omega)]
      case measure => simp [intOf]
    · have e : j = 0 := by omega
      subst e
      have HR := Lib.hid hrow
      have HB := Lib.hid hB
      clear hrow hB
      go_wp2
      go_ret
      refine ⟨_, rfl, HR.out.owns (Nat.le_refl _) (by omega) _ (be_length _ _) (fun i hi => ?_), HB.out⟩
      rw [be_get _ _ _ hi, if_pos (by omega)]

theorem eight_any (n : Nat) (w : World) :
    Calls Try.prog 15 #[.int .u64 n] w fun e w' => ∃ v, e = .returned v ∧ Owns w' w.heap.size v (be 8 n) ∧ Below w.heap.size w w' := by
  have C := Lib.hid (laid_any n 8 (Nat.le_refl _))
  go_enter Try.func15, Try.ntmps15
  go_wp2_with fail
  refine (C.out _).mono ?_
  rintro e w1 ⟨v, rfl, hv, hB⟩
  have HV := Lib.hid hv
  have HB := Lib.hid hB
  clear hv hB
  go_wp2_with fail
  go_ret
  exact ⟨v, rfl, HV.out, HB.out⟩
theorem reight_any (n : Nat) (hn : n < 18446744073709551616) (w : World) :
    Calls Try.prog 16 #[.int .u64 n] w fun e w' => ∃ v, e = .returned v ∧ Owns w' w.heap.size v (be 8 n) ∧ Below w.heap.size w w' := by
  have C := Lib.hid (rbytes_any n 8 hn (Nat.le_refl _))
  go_enter Try.func16, Try.ntmps16
  go_wp2_with fail
  refine (C.out _).mono ?_
  rintro e w1 ⟨v, rfl, hv, hB⟩
  have HV := Lib.hid hv
  have HB := Lib.hid hB
  clear hv hB
  go_wp2_with fail
  go_ret
  exact ⟨v, rfl, HV.out, HB.out⟩
end Go.Proofs.Ytamhajeighdjeaa
