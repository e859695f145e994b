/-
  What Take answers.
-/
import Derived.Test.YtamhajeighdjeaaOPut
namespace Go.Proofs.Ytamhajeighdjeaa
open Go.RowKit

def Took (w : World) (A B C : Nat) (e : Ending) (w' : World) : Prop := e = .returned (.tuple #[.int .u64 A, .int .i64 B, .int .i64 C]) ∧ ∃ n, w' = w.drewN n

set_option maxHeartbeats 400000 in
theorem take_none (p : Option Addr) (c : Nat) (w : World) : Calls Try.prog 10 #[.slice p 0 c] w (Took w 0 0 3) := by
  go_enter Try.func10, Try.ntmps10
  go_wp2_with fail
  go_ret3
  exact ⟨rfl, 0, rfl⟩

theorem kind_at (a : Int) (n : Nat) (h : a = n) (w : World) :
    Calls Try.prog 26 #[.int .u64 a] w fun e w' => e = .returned (.int .u64 (kind n : Nat)) ∧ w' = w := by
  subst h
  exact kind_any n w

set_option maxHeartbeats 1000000 in
theorem take_core (b off c len x k s K m A B C : Nat) (w : World) (h0 : 0 < len) (hm : len ≤ 100000) (hl : len ≤ c) (hx : w.cell? ⟨b, off, none⟩ = some (.int .u8 x)) (hxk : (x : Int) / 64 = k)
    (hc : k = 0 ∧ s = 1 ∧ K = 0 ∨ k = 1 ∧ s = 2 ∧ K = 16384 ∨ k = 2 ∧ s = 4 ∧ K = 2147483648 ∨ k = 3 ∧ s = 8 ∧ K = 13835058055282163712)
    (hN : s ≤ len → ∀ w', (∃ n, w' = w.drewN n) → Calls Try.prog 30 #[.slice (some ⟨b, off, none⟩) s s] w' fun e w'' => e = .returned (.int .u64 (m + K : Nat)) ∧ w'' = w') (hmK : m + K < 18446744073709551616)
    (hR : (A, B, C) = if len < s then (0, 0, 3) else if kind m = k then (m, s, 0) else (0, 0, 2)) :
    Calls Try.prog 10 #[.slice (some ⟨b, off, none⟩) len c] w (Took w A B C) := by
  by_cases hls : len < s
  · rw [if_pos hls] at hR
    obtain ⟨rfl, rfl, rfl⟩ : A = 0 ∧ B = 0 ∧ C = 3 := by simpa using hR
    clear hN hR
    rcases hc with ⟨rfl, rfl, rfl⟩ | ⟨rfl, rfl, rfl⟩ | ⟨rfl, rfl, rfl⟩ | ⟨rfl, rfl, rfl⟩
    · omega
    · go_enter Try.func10, Try.ntmps10
      go_wp2_with (simp only [hxk])
      go_ret3
      exact ⟨rfl, 0, rfl⟩
    · go_enter Try.func10, Try.ntmps10
      go_wp2_with (simp only [hxk])
      go_ret3
      exact ⟨rfl, 0, rfl⟩
    · go_enter Try.func10, Try.ntmps10
      go_wp2_with (simp only [hxk])
      go_ret3
      exact ⟨rfl, 0, rfl⟩
  · rw [if_neg hls] at hR
    have hsl : s ≤ len := by omega
    obtain ⟨j, ej⟩ : ∃ j, j = kind m := ⟨_, rfl⟩
    rw [← ej] at hR
    have KD : Hid (∀ (a : Int) w, a = m → Calls Try.prog 26 #[.int .u64 a] w fun e w' => e = .returned (.int .u64 (j : Nat)) ∧ w' = w) := Lib.hid (fun a w h => by rw [ej]; exact kind_at a m h w)
    have NU := Lib.hid (hN hsl)
    clear hN ej
    rcases hc with ⟨rfl, rfl, rfl⟩ | ⟨rfl, rfl, rfl⟩ | ⟨rfl, rfl, rfl⟩ | ⟨rfl, rfl, rfl⟩
    · have hc1 : (1 : Int) ≤ (c : Int) := by omega
      have hc2 : 1 ≤ c := by omega
      have hl1 : (1 : Int) ≤ (len : Int) := by omega
      by_cases hjk : j = 0
      · rw [if_pos hjk] at hR
        obtain ⟨rfl, rfl, rfl⟩ : A = m ∧ B = 1 ∧ C = 0 := by simpa using hR
        clear hR
        subst hjk
        go_enter Try.func10, Try.ntmps10
        go_wp2_with (simp only [hxk])
        go_quiet ((go_at_call 30; exact Calls.quiet_of_same (NU.out _ ⟨_, rfl⟩)))
        go_wp2_with fail
        refine (KD.out _ _ (by first | omega | (rw [IntKind.wrap_u64]; omega))).mono ?_
        rintro e w1 ⟨rfl, rfl⟩
        go_wp2_with fail
        go_ret3
        exact ⟨rfl, nq, rfl⟩
      · rw [if_neg hjk] at hR
        obtain ⟨rfl, rfl, rfl⟩ : A = 0 ∧ B = 0 ∧ C = 2 := by simpa using hR
        clear hR
        have hjk2 : ((j : Int) == 0) = false := beq_eq_false_iff_ne.2 (by omega)
        go_enter Try.func10, Try.ntmps10
        go_wp2_with (simp only [hxk])
        go_quiet ((go_at_call 30; exact Calls.quiet_of_same (NU.out _ ⟨_, rfl⟩)))
        go_wp2_with fail
        refine (KD.out _ _ (by first | omega | (rw [IntKind.wrap_u64]; omega))).mono ?_
        rintro e w1 ⟨rfl, rfl⟩
        go_wp2_with fail
        go_ret3
        exact ⟨rfl, nq, rfl⟩
    · have hc1 : (2 : Int) ≤ (c : Int) := by omega
      have hc2 : 2 ≤ c := by omega
      have hl1 : (2 : Int) ≤ (len : Int) := by omega
      by_cases hjk : j = 1
      · rw [if_pos hjk] at hR
        obtain ⟨rfl, rfl, rfl⟩ : A = m ∧ B = 2 ∧ C = 0 := by simpa using hR
        clear hR
        subst hjk
        go_enter Try.func10, Try.ntmps10
        go_wp2_with (simp only [hxk])
        go_quiet ((go_at_call 30; exact Calls.quiet_of_same (NU.out _ ⟨_, rfl⟩)))
        go_wp2_with fail
        refine (KD.out _ _ (by first | omega | (rw [IntKind.wrap_u64]; omega))).mono ?_
        rintro e w1 ⟨rfl, rfl⟩
        go_wp2_with fail
        go_ret3
        exact ⟨rfl, nq, rfl⟩
      · rw [if_neg hjk] at hR
        obtain ⟨rfl, rfl, rfl⟩ : A = 0 ∧ B = 0 ∧ C = 2 := by simpa using hR
        clear hR
        have hjk2 : ((j : Int) == 1) = false := beq_eq_false_iff_ne.2 (by omega)
        go_enter Try.func10, Try.ntmps10
        go_wp2_with (simp only [hxk])
        go_quiet ((go_at_call 30; exact Calls.quiet_of_same (NU.out _ ⟨_, rfl⟩)))
        go_wp2_with fail
        refine (KD.out _ _ (by first | omega | (rw [IntKind.wrap_u64]; omega))).mono ?_
        rintro e w1 ⟨rfl, rfl⟩
        go_wp2_with fail
        go_ret3
        exact ⟨rfl, nq, rfl⟩
    · have hc1 : (4 : Int) ≤ (c : Int) := by omega
      have hc2 : 4 ≤ c := by omega
      have hl1 : (4 : Int) ≤ (len : Int) := by omega
      by_cases hjk : j = 2
      · rw [if_pos hjk] at hR
        obtain ⟨rfl, rfl, rfl⟩ : A = m ∧ B = 4 ∧ C = 0 := by simpa using hR
        clear hR
        subst hjk
        go_enter Try.func10, Try.ntmps10
        go_wp2_with (simp only [hxk])
        go_quiet ((go_at_call 30; exact Calls.quiet_of_same (NU.out _ ⟨_, rfl⟩)))
        go_wp2_with fail
        refine (KD.out _ _ (by first | omega | (rw [IntKind.wrap_u64]; omega))).mono ?_
        rintro e w1 ⟨rfl, rfl⟩
        go_wp2_with fail
        go_ret3
        exact ⟨rfl, nq, rfl⟩
      · rw [if_neg hjk] at hR
        obtain ⟨rfl, rfl, rfl⟩ : A = 0 ∧ B = 0 ∧ C = 2 := by simpa using hR
        clear hR
        have hjk2 : ((j : Int) == 2) = false := beq_eq_false_iff_ne.2 (by omega)
        go_enter Try.func10, Try.ntmps10
        go_wp2_with (simp only [hxk])
        go_quiet ((go_at_call 30; exact Calls.quiet_of_same (NU.out _ ⟨_, rfl⟩)))
        go_wp2_with fail
        refine (KD.out _ _ (by first | omega | (rw [IntKind.wrap_u64]; omega))).mono ?_
        rintro e w1 ⟨rfl, rfl⟩
        go_wp2_with fail
        go_ret3
        exact ⟨rfl, nq, rfl⟩
    · have hc1 : (8 : Int) ≤ (c : Int) := by omega
      have hc2 : 8 ≤ c := by omega
      have hl1 : (8 : Int) ≤ (len : Int) := by omega
      by_cases hjk : j = 3
      · rw [if_pos hjk] at hR
        obtain ⟨rfl, rfl, rfl⟩ : A = m ∧ B = 8 ∧ C = 0 := by simpa using hR
        clear hR
        subst hjk
        go_enter Try.func10, Try.ntmps10
        go_wp2_with (simp only [hxk])
        go_quiet ((go_at_call 30; exact Calls.quiet_of_same (NU.out _ ⟨_, rfl⟩)))
        go_wp2_with fail
        refine (KD.out _ _ (by first | omega | (rw [IntKind.wrap_u64]; omega))).mono ?_
        rintro e w1 ⟨rfl, rfl⟩
        go_wp2_with fail
        go_ret3
        exact ⟨rfl, nq, rfl⟩
      · rw [if_neg hjk] at hR
        obtain ⟨rfl, rfl, rfl⟩ : A = 0 ∧ B = 0 ∧ C = 2 := by simpa using hR
        clear hR
        have hjk2 : ((j : Int) == 3) = false := beq_eq_false_iff_ne.2 (by omega)
        go_enter Try.func10, Try.ntmps10
        go_wp2_with (simp only [hxk])
        go_quiet ((go_at_call 30; exact Calls.quiet_of_same (NU.out _ ⟨_, rfl⟩)))
        go_wp2_with fail
        refine (KD.out _ _ (by first | omega | (rw [IntKind.wrap_u64]; omega))).mono ?_
        rintro e w1 ⟨rfl, rfl⟩
        go_wp2_with fail
        go_ret3
        exact ⟨rfl, nq, rfl⟩

theorem num_first (x : Nat) (r : List Nat) : num (x :: r) = num (x % 64 :: r) + x / 64 * 64 * 256 ^ r.length := by
  rw [num_cons, num_cons]
  have e1 : x = x % 64 + x / 64 * 64 := by omega
  have e2 : x * 256 ^ r.length = (x % 64 + x / 64 * 64) * 256 ^ r.length := congrArg (· * 256 ^ r.length) e1
  rw [e2, Nat.add_mul]
  omega
theorem kinds (k : Nat) (hk : k ≤ 3) : k = 0 ∧ 2 ^ k = 1 ∧ k * 64 * 256 ^ (2 ^ k - 1) = 0 ∨ k = 1 ∧ 2 ^ k = 2 ∧ k * 64 * 256 ^ (2 ^ k - 1) = 16384 ∨ k = 2 ∧ 2 ^ k = 4 ∧ k * 64 * 256 ^ (2 ^ k - 1) = 2147483648 ∨ k = 3 ∧ 2 ^ k = 8 ∧ k * 64 * 256 ^ (2 ^ k - 1) = 13835058055282163712 := by
  match k, hk with
  | 0, _ => exact .inl ⟨rfl, rfl, rfl⟩
  | 1, _ => exact .inr (.inl ⟨rfl, rfl, rfl⟩)
  | 2, _ => exact .inr (.inr (.inl ⟨rfl, rfl, rfl⟩))
  | 3, _ => exact .inr (.inr (.inr ⟨rfl, rfl, rfl⟩))

theorem take_any (p : Option Addr) (b off c len : Nat) (xs : List Nat) (hl : len = xs.length) (w : World) (hm : len ≤ 100000) (hc : len ≤ c) (hx : Lies w p b off xs) (hb : Bytes xs) :
    Calls Try.prog 10 #[.slice p len c] w (Took w (take xs).1 (take xs).2.1 (take xs).2.2) := by
  cases xs with
  | nil =>
    have : len = 0 := by simpa using hl
    subst this
    exact take_none p c w
  | cons x r =>
    have hlr : len = r.length + 1 := by simpa using hl
    obtain rfl := hx.at_ (by simp)
    have hx0 := hx.cell 0 (by simp)
    have h256 := hb.head
    have hK := kinds (x / 64) (by omega)
    have h8 : 2 ^ (x / 64) ≤ 8 := by rcases hK with h | h | h | h <;> omega
    have hlt : 2 ^ (x / 64) ≤ len → (r.take (2 ^ (x / 64) - 1)).length = 2 ^ (x / 64) - 1 := fun h => by rw [List.length_take]; omega
    by_cases hs : 2 ^ (x / 64) ≤ len
    · have ht : (x :: r).take (2 ^ (x / 64)) = x :: r.take (2 ^ (x / 64) - 1) := by
        have : (x :: r).take (2 ^ (x / 64)) = (x :: r).take (2 ^ (x / 64) - 1 + 1) := congrArg (fun j => (x :: r).take j) (pow_pos' _)
        rw [this, List.take_succ_cons]
      have hN := num_first x (r.take (2 ^ (x / 64) - 1))
      rw [hlt hs] at hN
      have hlen : 2 ^ (x / 64) = ((x :: r).take (2 ^ (x / 64))).length := by rw [List.length_take]; simp only [List.length_cons]; omega
      have hbig : num ((x :: r).take (2 ^ (x / 64))) < 18446744073709551616 := by
        have h1 := num_lt (hb.take (2 ^ (x / 64)))
        rw [← hlen] at h1
        exact Nat.lt_of_lt_of_le h1 (show 256 ^ 2 ^ (x / 64) ≤ 256 ^ 8 from Nat.pow_le_pow_right (by decide) h8)
      rw [← ht] at hN
      refine take_core b off c len x (x / 64) (2 ^ (x / 64)) _ _ _ _ _ w (by omega) hm hc (by simpa using hx0) (by omega) hK (fun _ w' hw' => ?_) (by rw [← hN]; exact hbig) ?_
      · obtain ⟨n, rfl⟩ := hw'
        rw [← hN]
        exact number_any _ b off _ _ _ hlen _ h8 ((hx.take _).drewN n) (hb.take _)
      · rw [take, if_neg (show ¬ r.length + 1 < 2 ^ (x / 64) from by omega), if_neg (show ¬ len < 2 ^ (x / 64) from by omega)]
    · refine take_core b off c len x (x / 64) (2 ^ (x / 64)) _ 0 _ _ _ w (by omega) hm hc (by simpa using hx0) (by omega) hK (fun h => absurd h hs) (by rcases hK with h | h | h | h <;> omega) ?_
      rw [take, if_pos (by omega), if_pos (by omega)]

/- the document's Take -/
theorem size_iff (m k : Nat) : size m = 2 ^ k ↔ kind m = k := by
  rw [size_kind]
  exact Nat.pow_right_inj (by decide)
theorem size_at (a : Int) (n : Nat) (h : a = n) (w : World) :
    Calls Try.prog 29 #[.int .u64 a] w fun e w' => e = .returned (.int .i64 (size n : Nat)) ∧ w' = w := by
  subst h
  exact size_any n w
def RTook (w : World) (A B C : Nat) (e : Ending) (w' : World) : Prop := e = .returned (.tuple #[.int .u64 A, .int .i64 B, .int .i64 C]) ∧ Below w.heap.size w w'

set_option maxHeartbeats 400000 in
theorem rtake_none (p : Option Addr) (c : Nat) (w : World) : Calls Try.prog 11 #[.slice p 0 c] w (RTook w 0 0 3) := by
  go_enter Try.func11, Try.ntmps11
  go_wp2_with fail
  go_ret3
  exact ⟨rfl, Below.refl _ _⟩

theorem step_num (x : Nat) (r : List Nat) (i : Nat) (hi : i < r.length) : num (x % 64 :: r.take (i + 1)) = 256 * num (x % 64 :: r.take i) + r.getD i 0 := by
  rw [List.take_add_one, List.getElem?_eq_getElem hi, ← List.cons_append]
  simp only [Option.toList_some, num_snoc]
  simp [hi]
theorem low_num (x : Nat) (r : List Nat) (hb : Bytes r) (i : Nat) (hi : i ≤ 7) (hr : i ≤ r.length) : num (x % 64 :: r.take i) < 4611686018427387904 := by
  have h1 : Bytes (x % 64 :: r.take i) := fun y hy => by
    rcases List.mem_cons.1 hy with rfl | h
    · omega
    · exact hb.take i y h
  have hl : (r.take i).length = i := by rw [List.length_take]; omega
  have h2 := num_lt (hb.take i)
  rw [hl] at h2
  rw [num_cons, hl]
  have h3 : 256 ^ i ≤ 256 ^ 7 := Nat.pow_le_pow_right (by decide) hi
  have h4 : x % 64 * 256 ^ i ≤ 63 * 256 ^ i := Nat.mul_le_mul_right _ (by omega)
  have h5 : (256 : Nat) ^ 7 = 72057594037927936 := by decide
  omega

set_option maxHeartbeats 1600000 in
theorem rtake_core (b off c len x k s : Nat) (r : List Nat) (hl : len = r.length + 1) (A B C : Nat) (w : World) (hm : len ≤ 100000) (hx : w.cell? ⟨b, off, none⟩ = some (.int .u8 x)) (hxk : (x : Int) / 64 = k)
    (hr : ∀ i, i < r.length → w.cell? ⟨b, off + (i + 1), none⟩ = some (.int .u8 (r.getD i 0 : Nat))) (hb : Bytes r)
    (hc : k = 0 ∧ s = 1 ∨ k = 1 ∧ s = 2 ∨ k = 2 ∧ s = 4 ∨ k = 3 ∧ s = 8)
    (hR : (A, B, C) = if len < s then (0, 0, 3) else if size (num (x % 64 :: r.take (s - 1))) = s then (num (x % 64 :: r.take (s - 1)), s, 0) else (0, 0, 2)) :
    Calls Try.prog 11 #[.slice (some ⟨b, off, none⟩) len c] w (RTook w A B C) := by
  have HR := Lib.hid hr
  have HB := Lib.hid hb
  have HL := Lib.hid hl
  have hxr : (x : Int) % 64 = ((x % 64 : Nat) : Int) := by omega
  obtain ⟨z, ez⟩ : ∃ z, z = x % 64 := ⟨_, rfl⟩
  rw [← ez] at hxr
  have HZ := Lib.hid ez
  have h0 : 0 < len := by omega
  have hlt := World.block_lt_of_cell? w _ hx
  have hne : b ≠ w.heap.size := by simp only at hlt; omega
  have hx1 : (w.alloc (.cells #[.int .i64 1, .int .i64 2, .int .i64 4, .int .i64 8] 3)).cell? ⟨b, off, none⟩ = some (.int .u8 x) := cell_below ((Below.refl _ w).alloc (Nat.le_refl _) _) hx
  clear hr hb hl ez
  by_cases hls : len < s
  · rw [if_pos hls] at hR
    obtain ⟨rfl, rfl, rfl⟩ : A = 0 ∧ B = 0 ∧ C = 3 := by simpa using hR
    clear hR
    rcases hc with ⟨rfl, rfl⟩ | ⟨rfl, rfl⟩ | ⟨rfl, rfl⟩ | ⟨rfl, rfl⟩
    · omega
    · go_enter Try.func11, Try.ntmps11
      go_wp2_with (simp only [hxk])
      go_ret3
      exact ⟨rfl, (Below.refl _ w).alloc (Nat.le_refl _) _⟩
    · go_enter Try.func11, Try.ntmps11
      go_wp2_with (simp only [hxk])
      go_ret3
      exact ⟨rfl, (Below.refl _ w).alloc (Nat.le_refl _) _⟩
    · go_enter Try.func11, Try.ntmps11
      go_wp2_with (simp only [hxk])
      go_ret3
      exact ⟨rfl, (Below.refl _ w).alloc (Nat.le_refl _) _⟩
  · rw [if_neg hls] at hR
    have HQ := Lib.hid hR
    clear hR
    rcases hc with ⟨rfl, rfl⟩ | ⟨rfl, rfl⟩ | ⟨rfl, rfl⟩ | ⟨rfl, rfl⟩
    · have hl1 : (1 : Int) ≤ (len : Int) := by omega
      go_enter Try.func11, Try.ntmps11
      go_wp2_with (simp only [hxr])
      obtain ⟨u, hu⟩ : ∃ u, u = w.alloc (.cells #[.int .i64 1, .int .i64 2, .int .i64 4, .int .i64 8] 3) := ⟨_, rfl⟩
      rw [← hu]
      have hB : Below w.heap.size w u := by rw [hu]; exact (Below.refl _ w).alloc (Nat.le_refl _) _
      have HR2 := Lib.hid (fun i hi => cell_below hB (HR.out i hi))
      have HB2 := Lib.hid hB
      have HS := Lib.hid (show z = num (x % 64 :: r.take 0) from by rw [← HZ.out]; simp [num])
      clear hu hB HR hx1 hx hxk hxr hlt hne
      go_loopw [6, 7] (fun a i wr => (∃ j y : Nat, j + 1 ≤ 1 ∧ i = .int .i64 ((j : Int) + 1) ∧ a = .int .u64 y ∧ y = num (x % 64 :: r.take j)) ∧ wr = u) (fun _ i _ => 1 - (intOf i).toNat)
      case atStart => exact ⟨⟨0, z, by omega, rfl, rfl, HS.out⟩, rfl⟩
      case round =>
        obtain ⟨⟨j, y, hj, rfl, rfl, ey⟩, rfl⟩ := hrel
        by_cases hjs : j + 1 < 1
        · omega
        · obtain ⟨q, eq⟩ : ∃ q, q = size y := ⟨_, rfl⟩
          have SZ : Hid (∀ w, Calls Try.prog 29 #[.int .u64 y] w fun e w' => e = .returned (.int .i64 (q : Nat)) ∧ w' = w) := Lib.hid (fun w => by rw [eq]; exact size_any y w)
          obtain rfl : j = 1 - 1 := by omega
          have hA : (A, B, C) = if q = 1 then (y, 1, 0) else (0, 0, 2) := by rw [eq, ey]; exact HQ.out
          clear eq ey
          by_cases hq : q = 1
          · rw [if_pos hq] at hA
            obtain ⟨rfl, rfl, rfl⟩ : A = y ∧ B = 1 ∧ C = 0 := by simpa using hA
            clear hA
            subst hq
            go_wp2_with fail
            refine (SZ.out _).mono ?_
            rintro e w1 ⟨rfl, rfl⟩
            go_wp2_with fail
            go_ret3
            exact ⟨rfl, HB2.out⟩
          · rw [if_neg hq] at hA
            obtain ⟨rfl, rfl, rfl⟩ : A = 0 ∧ B = 0 ∧ C = 2 := by simpa using hA
            clear hA
            have hq2 : ((q : Int) == 1) = false := beq_eq_false_iff_ne.2 (by omega)
            go_wp2_with fail
            refine (SZ.out _).mono ?_
            rintro e w1 ⟨rfl, rfl⟩
            go_wp2_with fail
            go_ret3
            exact ⟨rfl, HB2.out⟩
    · have hl1 : (2 : Int) ≤ (len : Int) := by omega
      go_enter Try.func11, Try.ntmps11
      go_wp2_with (simp only [hxr])
      obtain ⟨u, hu⟩ : ∃ u, u = w.alloc (.cells #[.int .i64 1, .int .i64 2, .int .i64 4, .int .i64 8] 3) := ⟨_, rfl⟩
      rw [← hu]
      have hB : Below w.heap.size w u := by rw [hu]; exact (Below.refl _ w).alloc (Nat.le_refl _) _
      have HR2 := Lib.hid (fun i hi => cell_below hB (HR.out i hi))
      have HB2 := Lib.hid hB
      have HS := Lib.hid (show z = num (x % 64 :: r.take 0) from by rw [← HZ.out]; simp [num])
      clear hu hB HR hx1 hx hxk hxr hlt hne
      go_loopw [6, 7] (fun a i wr => (∃ j y : Nat, j + 1 ≤ 2 ∧ i = .int .i64 ((j : Int) + 1) ∧ a = .int .u64 y ∧ y = num (x % 64 :: r.take j)) ∧ wr = u) (fun _ i _ => 2 - (intOf i).toNat)
      case atStart => exact ⟨⟨0, z, by omega, rfl, rfl, HS.out⟩, rfl⟩
      case round =>
        obtain ⟨⟨j, y, hj, rfl, rfl, ey⟩, rfl⟩ := hrel
        by_cases hjs : j + 1 < 2
        · have hjr : j < r.length := by have := HL.out; omega
          have c0 := HR2.out j hjr
          have hs := step_num x r j hjr
          have hlow := low_num x r HB.out (j + 1) (by omega) (by omega)
          obtain ⟨v, ev⟩ : ∃ v, v = r.getD j 0 := ⟨_, rfl⟩
          rw [← ev] at c0 hs
          rw [← ey] at hs
          rw [hs] at hlow
          have hjl : ((j : Int) + 1) < (len : Int) := by omega
          have HS2 := Lib.hid hs
          clear ev hs ey hjr
          go_wp2_with fail
          go_roundw
          case rel => exact ⟨⟨j + 1, 256 * y + v, by omega, by go_num, by go_num, HS2.out.symm⟩, trivial⟩
          case measure => simp [intOf]; omega
        · obtain ⟨q, eq⟩ : ∃ q, q = size y := ⟨_, rfl⟩
          have SZ : Hid (∀ w, Calls Try.prog 29 #[.int .u64 y] w fun e w' => e = .returned (.int .i64 (q : Nat)) ∧ w' = w) := Lib.hid (fun w => by rw [eq]; exact size_any y w)
          obtain rfl : j = 2 - 1 := by omega
          have hA : (A, B, C) = if q = 2 then (y, 2, 0) else (0, 0, 2) := by rw [eq, ey]; exact HQ.out
          clear eq ey
          by_cases hq : q = 2
          · rw [if_pos hq] at hA
            obtain ⟨rfl, rfl, rfl⟩ : A = y ∧ B = 2 ∧ C = 0 := by simpa using hA
            clear hA
            subst hq
            go_wp2_with fail
            refine (SZ.out _).mono ?_
            rintro e w1 ⟨rfl, rfl⟩
            go_wp2_with fail
            go_ret3
            exact ⟨rfl, HB2.out⟩
          · rw [if_neg hq] at hA
            obtain ⟨rfl, rfl, rfl⟩ : A = 0 ∧ B = 0 ∧ C = 2 := by simpa using hA
            clear hA
            have hq2 : ((q : Int) == 2) = false := beq_eq_false_iff_ne.2 (by omega)
            go_wp2_with fail
            refine (SZ.out _).mono ?_
            rintro e w1 ⟨rfl, rfl⟩
            go_wp2_with fail
            go_ret3
            exact ⟨rfl, HB2.out⟩
    · have hl1 : (4 : Int) ≤ (len : Int) := by omega
      go_enter Try.func11, Try.ntmps11
      go_wp2_with (simp only [hxr])
      obtain ⟨u, hu⟩ : ∃ u, u = w.alloc (.cells #[.int .i64 1, .int .i64 2, .int .i64 4, .int .i64 8] 3) := ⟨_, rfl⟩
      rw [← hu]
      have hB : Below w.heap.size w u := by rw [hu]; exact (Below.refl _ w).alloc (Nat.le_refl _) _
      have HR2 := Lib.hid (fun i hi => cell_below hB (HR.out i hi))
      have HB2 := Lib.hid hB
      have HS := Lib.hid (show z = num (x % 64 :: r.take 0) from by rw [← HZ.out]; simp [num])
      clear hu hB HR hx1 hx hxk hxr hlt hne
      go_loopw [6, 7] (fun a i wr => (∃ j y : Nat, j + 1 ≤ 4 ∧ i = .int .i64 ((j : Int) + 1) ∧ a = .int .u64 y ∧ y = num (x % 64 :: r.take j)) ∧ wr = u) (fun _ i _ => 4 - (intOf i).toNat)
      case atStart => exact ⟨⟨0, z, by omega, rfl, rfl, HS.out⟩, rfl⟩
      case round =>
        obtain ⟨⟨j, y, hj, rfl, rfl, ey⟩, rfl⟩ := hrel
        by_cases hjs : j + 1 < 4
        · have hjr : j < r.length := by have := HL.out; omega
          have c0 := HR2.out j hjr
          have hs := step_num x r j hjr
          have hlow := low_num x r HB.out (j + 1) (by omega) (by omega)
          obtain ⟨v, ev⟩ : ∃ v, v = r.getD j 0 := ⟨_, rfl⟩
          rw [← ev] at c0 hs
          rw [← ey] at hs
          rw [hs] at hlow
          have hjl : ((j : Int) + 1) < (len : Int) := by omega
          have HS2 := Lib.hid hs
          clear ev hs ey hjr
          go_wp2_with fail
          go_roundw
          case rel => exact ⟨⟨j + 1, 256 * y + v, by omega, by go_num, by go_num, HS2.out.symm⟩, trivial⟩
          case measure => simp [intOf]; omega
        · obtain ⟨q, eq⟩ : ∃ q, q = size y := ⟨_, rfl⟩
          have SZ : Hid (∀ w, Calls Try.prog 29 #[.int .u64 y] w fun e w' => e = .returned (.int .i64 (q : Nat)) ∧ w' = w) := Lib.hid (fun w => by rw [eq]; exact size_any y w)
          obtain rfl : j = 4 - 1 := by omega
          have hA : (A, B, C) = if q = 4 then (y, 4, 0) else (0, 0, 2) := by rw [eq, ey]; exact HQ.out
          clear eq ey
          by_cases hq : q = 4
          · rw [if_pos hq] at hA
            obtain ⟨rfl, rfl, rfl⟩ : A = y ∧ B = 4 ∧ C = 0 := by simpa using hA
            clear hA
            subst hq
            go_wp2_with fail
            refine (SZ.out _).mono ?_
            rintro e w1 ⟨rfl, rfl⟩
            go_wp2_with fail
            go_ret3
            exact ⟨rfl, HB2.out⟩
          · rw [if_neg hq] at hA
            obtain ⟨rfl, rfl, rfl⟩ : A = 0 ∧ B = 0 ∧ C = 2 := by simpa using hA
            clear hA
            have hq2 : ((q : Int) == 4) = false := beq_eq_false_iff_ne.2 (by omega)
            go_wp2_with fail
            refine (SZ.out _).mono ?_
            rintro e w1 ⟨rfl, rfl⟩
            go_wp2_with fail
            go_ret3
            exact ⟨rfl, HB2.out⟩
    · have hl1 : (8 : Int) ≤ (len : Int) := by omega
      go_enter Try.func11, Try.ntmps11
      go_wp2_with (simp only [hxr])
      obtain ⟨u, hu⟩ : ∃ u, u = w.alloc (.cells #[.int .i64 1, .int .i64 2, .int .i64 4, .int .i64 8] 3) := ⟨_, rfl⟩
      rw [← hu]
      have hB : Below w.heap.size w u := by rw [hu]; exact (Below.refl _ w).alloc (Nat.le_refl _) _
      have HR2 := Lib.hid (fun i hi => cell_below hB (HR.out i hi))
      have HB2 := Lib.hid hB
      have HS := Lib.hid (show z = num (x % 64 :: r.take 0) from by rw [← HZ.out]; simp [num])
      clear hu hB HR hx1 hx hxk hxr hlt hne
      go_loopw [6, 7] (fun a i wr => (∃ j y : Nat, j + 1 ≤ 8 ∧ i = .int .i64 ((j : Int) + 1) ∧ a = .int .u64 y ∧ y = num (x % 64 :: r.take j)) ∧ wr = u) (fun _ i _ => 8 - (intOf i).toNat)
      case atStart => exact ⟨⟨0, z, by omega, rfl, rfl, HS.out⟩, rfl⟩
      case round =>
        obtain ⟨⟨j, y, hj, rfl, rfl, ey⟩, rfl⟩ := hrel
        by_cases hjs : j + 1 < 8
        · have hjr : j < r.length := by have := HL.out; omega
          have c0 := HR2.out j hjr
          have hs := step_num x r j hjr
          have hlow := low_num x r HB.out (j + 1) (by omega) (by omega)
          obtain ⟨v, ev⟩ : ∃ v, v = r.getD j 0 := ⟨_, rfl⟩
          rw [← ev] at c0 hs
          rw [← ey] at hs
          rw [hs] at hlow
          have hjl : ((j : Int) + 1) < (len : Int) := by omega
          have HS2 := Lib.hid hs
          clear ev hs ey hjr
          go_wp2_with fail
          go_roundw
          case rel => exact ⟨⟨j + 1, 256 * y + v, by omega, by go_num, by go_num, HS2.out.symm⟩, trivial⟩
          case measure => simp [intOf]; omega
        · obtain ⟨q, eq⟩ : ∃ q, q = size y := ⟨_, rfl⟩
          have SZ : Hid (∀ w, Calls Try.prog 29 #[.int .u64 y] w fun e w' => e = .returned (.int .i64 (q : Nat)) ∧ w' = w) := Lib.hid (fun w => by rw [eq]; exact size_any y w)
          obtain rfl : j = 8 - 1 := by omega
          have hA : (A, B, C) = if q = 8 then (y, 8, 0) else (0, 0, 2) := by rw [eq, ey]; exact HQ.out
          clear eq ey
          by_cases hq : q = 8
          · rw [if_pos hq] at hA
            obtain ⟨rfl, rfl, rfl⟩ : A = y ∧ B = 8 ∧ C = 0 := by simpa using hA
            clear hA
            subst hq
            go_wp2_with fail
            refine (SZ.out _).mono ?_
            rintro e w1 ⟨rfl, rfl⟩
            go_wp2_with fail
            go_ret3
            exact ⟨rfl, HB2.out⟩
          · rw [if_neg hq] at hA
            obtain ⟨rfl, rfl, rfl⟩ : A = 0 ∧ B = 0 ∧ C = 2 := by simpa using hA
            clear hA
            have hq2 : ((q : Int) == 8) = false := beq_eq_false_iff_ne.2 (by omega)
            go_wp2_with fail
            refine (SZ.out _).mono ?_
            rintro e w1 ⟨rfl, rfl⟩
            go_wp2_with fail
            go_ret3
            exact ⟨rfl, HB2.out⟩
theorem rtake_any (p : Option Addr) (b off c len : Nat) (xs : List Nat) (hl : len = xs.length) (w : World) (hm : len ≤ 100000) (hx : Lies w p b off xs) (hb : Bytes xs) :
    Calls Try.prog 11 #[.slice p len c] w (RTook w (take xs).1 (take xs).2.1 (take xs).2.2) := by
  cases xs with
  | nil =>
    have : len = 0 := by simpa using hl
    subst this
    exact rtake_none p c w
  | cons x r =>
    have hlr : len = r.length + 1 := by simpa using hl
    obtain rfl := hx.at_ (by simp)
    have hx0 := hx.cell 0 (by simp)
    have hr : ∀ i, i < r.length → w.cell? ⟨b, off + (i + 1), none⟩ = some (.int .u8 (r.getD i 0 : Nat)) := fun i hi => by
      have := hx.cell (i + 1) (by simp only [List.length_cons]; omega)
      simpa using this
    have h256 := hb.head
    refine rtake_core b off c len x (x / 64) (2 ^ (x / 64)) r hlr (take (x :: r)).1 (take (x :: r)).2.1 (take (x :: r)).2.2 w hm (by simpa using hx0) (by omega) hr hb.tail ?_ ?_
    · rcases kinds (x / 64) (by omega) with h | h | h | h <;> omega
    · rw [take]
      simp only [hlr, size_iff]
end Go.Proofs.Ytamhajeighdjeaa
