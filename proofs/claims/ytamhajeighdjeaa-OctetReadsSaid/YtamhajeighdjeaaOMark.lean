/-
  What the document's turn and Mark answer.
-/
import Derived.Test.YtamhajeighdjeaaOLeaf
namespace Go.Proofs.Ytamhajeighdjeaa
open Go.RowKit

theorem xor_on (A B k : Nat) : (A ^^^ B) % 2 ^ (k + 1) = if A / 2 ^ k % 2 = B / 2 ^ k % 2 then (A ^^^ B) % 2 ^ k else (A ^^^ B) % 2 ^ k + 2 ^ k := by
  have h1 : (A ^^^ B) / 2 ^ k % 2 = 1 ↔ ¬(A / 2 ^ k % 2 = 1 ↔ B / 2 ^ k % 2 = 1) := by rw [Nat.xor_div_two_pow, Nat.xor_mod_two_eq_one]
  rw [Nat.mod_pow_succ]
  split
  · rename_i h
    have : (A ^^^ B) / 2 ^ k % 2 = 0 := by omega
    rw [this, Nat.mul_zero, Nat.add_zero]
  · rename_i h
    have : (A ^^^ B) / 2 ^ k % 2 = 1 := by omega
    rw [this, Nat.mul_one]
theorem half (A k : Nat) : A / 2 ^ (k + 1) = A / 2 ^ k / 2 := by rw [Nat.pow_succ, Nat.div_div_eq_div_mul]

set_option maxHeartbeats 400000 in
theorem turn_any (A B : Nat) (hA : A < 256) (hB : B < 256) (w : World) :
    Calls Try.prog 31 #[.int .u64 A, .int .u64 B] w fun e w' => e = .returned (.int .u64 (A ^^^ B : Nat)) ∧ w' = w := by
  obtain ⟨R, hR⟩ : ∃ R, R = A ^^^ B := ⟨_, rfl⟩
  have hR8 : R % 2 ^ 8 = R := Nat.mod_eq_of_lt (by rw [hR]; exact Nat.xor_lt_two_pow (n := 8) hA hB)
  have HR := Lib.hid hR
  have H8 := Lib.hid hR8
  have H0 := Lib.hid (show A = A / 2 ^ 0 ∧ B = B / 2 ^ 0 ∧ 0 = R % 2 ^ 0 from ⟨by simp, by simp, by simp [Nat.mod_one]⟩)
  rw [← hR]
  clear hR hR8
  go_enter Try.func31, Try.ntmps31
  go_wp2
  go_loopw [0, 1, 5, 6, 7] (fun a b o t i wr => (∃ k x y z u : Nat, k ≤ 8 ∧ i = .int .i64 k ∧ a = .int .u64 x ∧ b = .int .u64 y ∧ o = .int .u64 z ∧ t = .int .u64 u ∧ x = A / 2 ^ k ∧ y = B / 2 ^ k ∧ z = R % 2 ^ k ∧ u = 2 ^ k) ∧ wr = w) (fun _ _ _ _ i _ => 8 - (intOf i).toNat)
  case atStart => exact ⟨⟨0, A, B, 0, 1, by omega, rfl, rfl, rfl, rfl, rfl, H0.out.1, H0.out.2.1, H0.out.2.2, rfl⟩, rfl⟩
  case round =>
    obtain ⟨⟨k, x, y, z, u, hk, rfl, rfl, rfl, rfl, rfl, ex, ey, ez, eu⟩, rfl⟩ := hrel
    by_cases hlt : k < 8
    · have hx : x < 256 := by rw [ex]; exact Nat.lt_of_le_of_lt (Nat.div_le_self _ _) hA
      have hy : y < 256 := by rw [ey]; exact Nat.lt_of_le_of_lt (Nat.div_le_self _ _) hB
      have hu : u ≤ 128 := by rw [eu]; exact Nat.pow_le_pow_right (n := 2) (by decide) (show k ≤ 7 by omega)
      have hz : z < 256 := by rw [ez]; exact Nat.lt_of_lt_of_le (Nat.mod_lt _ (Nat.pow_pos (by decide))) (by rw [← eu]; omega)
      have hs := xor_on A B k
      rw [← HR.out, ← ex, ← ey, ← ez, ← eu] at hs
      have h2 : x / 2 = A / 2 ^ (k + 1) ∧ y / 2 = B / 2 ^ (k + 1) ∧ 2 * u = 2 ^ (k + 1) := ⟨by rw [half, ex], by rw [half, ey], by rw [Nat.pow_succ, eu, Nat.mul_comm]⟩
      have HS := Lib.hid hs
      have H2 := Lib.hid h2
      clear ex ey ez eu hs h2
      by_cases hq : x % 2 = y % 2
      · have hq2 : (((x : Int) % 2) == ((y : Int) % 2)) = true := beq_iff_eq.2 (by omega)
        go_wp2_with fail
        go_roundw
        case rel => exact ⟨⟨k + 1, x / 2, y / 2, z, 2 * u, by omega, by go_num, by go_num, by go_num, rfl, by go_num, H2.out.1, H2.out.2.1, by rw [HS.out, if_pos hq], H2.out.2.2⟩, trivial⟩
        case measure => simp [intOf]; omega
      · have hq2 : (((x : Int) % 2) == ((y : Int) % 2)) = false := beq_eq_false_iff_ne.2 (by omega)
        go_wp2_with fail
        go_roundw
        case rel => exact ⟨⟨k + 1, x / 2, y / 2, z + u, 2 * u, by omega, by go_num, by go_num, by go_num, by go_num, by go_num, H2.out.1, H2.out.2.1, by rw [HS.out, if_neg hq], H2.out.2.2⟩, trivial⟩
        case measure => simp [intOf]; omega
    · have e : k = 8 := by omega
      subst e
      have key : z = R := by rw [ez]; exact H8.out
      subst key
      clear ex ey ez eu
      go_wp2
      go_ret
      exact ⟨rfl, rfl⟩

theorem turn_at (a b : Int) (A B : Nat) (ha : a = A) (hb : b = B) (hA : A < 256) (hB : B < 256) (w : World) :
    Calls Try.prog 31 #[.int .u64 a, .int .u64 b] w fun e w' => e = .returned (.int .u64 (A ^^^ B : Nat)) ∧ w' = w := by
  subst ha hb
  exact turn_any A B hA hB w
theorem low_xor (m x : Nat) (hx : x < 256) : m - m % 256 + (m % 256 ^^^ x) = m ^^^ x := by
  have h1 : (m ^^^ x) / 2 ^ 8 = m / 2 ^ 8 ^^^ x / 2 ^ 8 := Nat.xor_div_two_pow
  have h2 : (m ^^^ x) % 2 ^ 8 = m % 2 ^ 8 ^^^ x % 2 ^ 8 := Nat.xor_mod_two_pow
  have h3 : x / 2 ^ 8 = 0 := Nat.div_eq_of_lt hx
  have h4 : x % 2 ^ 8 = x := Nat.mod_eq_of_lt hx
  rw [h3, Nat.xor_zero] at h1
  rw [h4] at h2
  have h5 : (2 : Nat) ^ 8 = 256 := by decide
  rw [h5] at h1 h2
  omega

set_option maxHeartbeats 400000 in
theorem rmark_any (p : Option Addr) (b off c len : Nat) (xs : List Nat) (hl : len = xs.length) (w : World) (hm : len ≤ 100000) (hx : Lies w p b off xs) (hb : Bytes xs) :
    Calls Try.prog 14 #[.slice p len c] w fun e w' => e = .returned (.int .u64 (mark xs : Nat)) ∧ w' = w := by
  have HX := Lib.hid hx
  have HN := Lib.hid hl
  have HB := Lib.hid hb
  have hp := hx.at_
  rw [← hl] at hp
  clear hx hl hb
  go_enter Try.func14, Try.ntmps14
  go_wp2
  go_loopw [3, 4] (fun a i wr => (∃ k : Nat, k ≤ len ∧ i = .int .i64 k ∧ a = .int .u64 (mark (xs.take k) : Nat)) ∧ wr = w) (fun _ i _ => len - (intOf i).toNat)
  case atStart => exact ⟨⟨0, by omega, rfl, by rw [List.take_zero]; unfold mark; rw [List.foldl_nil]; rfl⟩, rfl⟩
  case round =>
    obtain ⟨⟨k, hk, rfl, rfl⟩, rfl⟩ := hrel
    by_cases hlt : k < len
    · obtain rfl := hp (by omega)
      have hlx : k < xs.length := by have := HN.out; omega
      have c0 := HX.out.cell k hlx
      obtain ⟨x, ex⟩ : ∃ x, x = xs.getD k 0 := ⟨_, rfl⟩
      rw [← ex] at c0
      have hx2 : x < 256 := by rw [ex]; exact HB.out.getD k
      have hn := mark_lt (xs.take k)
      have hs : mark (xs.take (k + 1)) = mstep (mark (xs.take k)) x := by
        rw [List.take_add_one, List.getElem?_eq_getElem hlx, ex]
        simp only [Option.toList_some, mark_snoc]
        simp [hlx]
      obtain ⟨m, em⟩ : ∃ m, m = mark (xs.take k) := ⟨_, rfl⟩
      rw [← em] at hn hs ⊢
      obtain ⟨q, eq⟩ : ∃ q, q = m % 256 ^^^ x := ⟨_, rfl⟩
      have hq : m - m % 256 + q = m ^^^ x := by rw [eq]; exact low_xor m x hx2
      have hq2 := xor_lt m x hn hx2
      rw [← hq] at hq2
      have hs2 : mark (xs.take (k + 1)) = (m - m % 256 + q) * 1099511628211 % 18446744073709551616 := by rw [hs, hq]; rfl
      have HS := Lib.hid hs2
      have HQ := Lib.hid eq
      clear ex hs hs2 em hlx eq hq
      go_wp2_with fail
      refine (turn_at _ _ (m % 256) x (by omega) (by omega) (by omega) hx2 _).mono ?_
      rintro e w1 ⟨rfl, rfl⟩
      rw [← HQ.out]
      go_wp2_with fail
      go_roundw
      case rel =>
        refine ⟨⟨k + 1, by omega, by go_num, ?_⟩, trivial⟩
        rw [HS.out, IntKind.wrap_u64]
        congr 1
        omega
      case measure => simp [intOf]; omega
    · have e : mark xs = mark (xs.take k) := by rw [List.take_of_length_le (by have := HN.out; omega)]
      obtain ⟨m, em⟩ : ∃ m, m = mark (xs.take k) := ⟨_, rfl⟩
      rw [← em] at e ⊢
      have HE := Lib.hid e
      clear em e
      go_wp2
      go_ret
      exact ⟨by rw [HE.out]; rfl, rfl⟩
end Go.Proofs.Ytamhajeighdjeaa
