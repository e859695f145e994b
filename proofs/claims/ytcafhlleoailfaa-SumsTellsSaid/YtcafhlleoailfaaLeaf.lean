/-
  What Add, unsigned, bits.Mul64, Mul and Holds of the program answer, at every input.
-/
import Derived.Test.YtcafhlleoailfaaRows
import Derived.Test.YtcafhlleoailfaaNum
import Derived.WalkKit
import Derived.ProofKit
import Derived.OpenShut
import Derived.Outline
import Derived.WalkMore
import Derived.ScopeJumps
import Derived.Lib.Hide
namespace Go.Proofs.Ytcafhlleoailfaa
open Go.RowKit

theorem tup_int {k l : IntKind} {a b c d : Int} (h : a = b) (h' : c = d) : Ending.returned (.tuple #[.int k a, .int l c]) = .returned (.tuple #[.int k b, .int l d]) := by rw [h, h']
theorem ret_int {k : IntKind} {a b : Int} (h : a = b) : Ending.returned (.int k a) = .returned (.int k b) := by rw [h]
theorem ret_bool {a b : Bool} (h : a = b) : Ending.returned (.bool a) = .returned (.bool b) := by rw [h]

theorem ne_dec {x y : Int} : (!decide (x < 0) == decide (y < 0)) = true → (x < 0 ∧ 0 ≤ y) ∨ (0 ≤ x ∧ y < 0) := by
  by_cases h : x < 0 <;> by_cases k : y < 0 <;> simp [h, k] <;> omega
theorem eq_dec {x y : Int} : (!decide (x < 0) == decide (y < 0)) = false → (x < 0 ∧ y < 0) ∨ (0 ≤ x ∧ 0 ≤ y) := by
  by_cases h : x < 0 <;> by_cases k : y < 0 <;> simp [h, k] <;> omega

set_option maxHeartbeats 400000 in
theorem add_any (a b : Int) (w : World) (ha : -9223372036854775808 ≤ a ∧ a ≤ 9223372036854775807) (hb : -9223372036854775808 ≤ b ∧ b ≤ 9223372036854775807) :
    Calls Try.prog 7 #[.int .i64 a, .int .i64 b] w fun e w' => e = .returned (.tuple #[.int .i64 (num (a + b)), .int .i64 (err (a + b))]) ∧ w = w' := by
  obtain ⟨ha1, ha2⟩ := ha
  obtain ⟨hb1, hb2⟩ := hb
  by_cases hf : -9223372036854775808 ≤ a + b ∧ a + b ≤ 9223372036854775807
  · have e1 := Lib.hid (num_in hf)
    have e2 := Lib.hid (err_in hf)
    obtain ⟨hf1, hf2⟩ := hf
    go_enter Try.func7, Try.ntmps7
    go_wp2
    · exfalso
      have h1 : a < 0 ↔ b < 0 := by assumption
      have h2 : (!decide (a + b < 0) == decide (b < 0)) = true := by assumption
      have h3 := ne_dec h2
      omega
    · go_ret2
      exact ⟨tup_int e1.out.symm e2.out.symm, rfl⟩
    · go_ret2
      exact ⟨tup_int e1.out.symm e2.out.symm, rfl⟩
  · have e1 := Lib.hid (num_out hf)
    have e2 := Lib.hid (err_out hf)
    have hf' : a + b < -9223372036854775808 ∨ 9223372036854775807 < a + b := by omega
    clear hf
    go_enter Try.func7, Try.ntmps7
    go_wp2
    · go_ret2
      exact ⟨tup_int e1.out.symm e2.out.symm, rfl⟩
    · exfalso
      have h1 : a < 0 ↔ b < 0 := by assumption
      have h2 : (!decide (wrap64 (a + b) < 0) == decide (b < 0)) = false := by assumption
      have h3 := eq_dec h2
      unfold wrap64 at h3
      omega

set_option maxHeartbeats 400000 in
theorem unsigned_any (a X : Int) (hX : X = (a.natAbs : Int)) (w : World) (ha : -9223372036854775808 ≤ a ∧ a ≤ 9223372036854775807) :
    Calls Try.prog 16 #[.int .i64 a] w fun e w' => e = .returned (.int .u64 X) ∧ w = w' := by
  obtain ⟨ha1, ha2⟩ := ha
  have HX := Lib.hid hX
  clear hX
  go_enter Try.func16, Try.ntmps16
  go_wp2
  · go_ret
    have h : a < 0 := by assumption
    refine ⟨ret_int ?_, rfl⟩
    rw [IntKind.wrap_u64, IntKind.wrap_u64, HX.out]
    omega
  · go_ret
    have h : 0 ≤ a := by assumption
    refine ⟨ret_int ?_, rfl⟩
    rw [HX.out]
    omega

set_option maxHeartbeats 1000000 in
theorem mul64_any (x y : Nat) (hx : x < 18446744073709551616) (hy : y < 18446744073709551616) (w : World) :
    Calls Try.prog 15 #[.int .u64 x, .int .u64 y] w fun e w' => e = .returned (.tuple #[.int .u64 ((x * y / 18446744073709551616 : Nat) : Int), .int .u64 ((x * y % 18446744073709551616 : Nat) : Int)]) ∧ w = w' := by
  obtain ⟨bd, bt, bw, hhi⟩ := Lib.mul64_hi x y hx hy
  have ba := Lib.half_mul_le (a := x / 4294967296) (b := y / 4294967296) (by omega) (by omega)
  have bb := Lib.half_mul_le (a := x / 4294967296) (b := y % 4294967296) (by omega) (by omega)
  have bc := Lib.half_mul_le (a := x % 4294967296) (b := y / 4294967296) (by omega) (by omega)
  have ba' : x / 4294967296 * (y / 4294967296) < 18446744073709551616 := by omega
  have bb' : x / 4294967296 * (y % 4294967296) < 18446744073709551616 := by omega
  have bc' : x % 4294967296 * (y / 4294967296) < 18446744073709551616 := by omega
  have bh1 : x / 4294967296 * (y / 4294967296) + (x / 4294967296 * (y % 4294967296) + x % 4294967296 * (y % 4294967296) / 4294967296) / 4294967296 < 18446744073709551616 := by omega
  have bh : x / 4294967296 * (y / 4294967296) + (x / 4294967296 * (y % 4294967296) + x % 4294967296 * (y % 4294967296) / 4294967296) / 4294967296 + ((x / 4294967296 * (y % 4294967296) + x % 4294967296 * (y % 4294967296) / 4294967296) % 4294967296 + x % 4294967296 * (y / 4294967296)) / 4294967296 < 18446744073709551616 := by omega
  go_enter Try.func15, Try.ntmps15
  go_wp2
  simp only [maskN x hx, maskN y hy, divN, mulN, addN, wrapN _ bd, wrapN _ bb', wrapN _ bt, maskN _ bt, wrapN _ bc', wrapN _ bw, wrapN _ ba', wrapN _ bh1, wrapN _ bh, wrapM (x * y)]
  rw [hhi]
  go_ret2
  exact ⟨rfl, rfl⟩

/-- the same over integers, with both halves under names of their own -/
theorem mul64_named (x y H L : Int) (hx : 0 ≤ x ∧ x < 18446744073709551616) (hy : 0 ≤ y ∧ y < 18446744073709551616) (hH : H = x * y / 18446744073709551616) (hL : L = x * y % 18446744073709551616) (w : World) :
    Calls Try.prog 15 #[.int .u64 x, .int .u64 y] w fun e w' => e = .returned (.tuple #[.int .u64 H, .int .u64 L]) ∧ w = w' := by
  obtain ⟨X, rfl⟩ : ∃ X : Nat, x = (X : Int) := ⟨x.toNat, by omega⟩
  obtain ⟨Y, rfl⟩ : ∃ Y : Nat, y = (Y : Int) := ⟨y.toNat, by omega⟩
  have e1 : H = ((X * Y / 18446744073709551616 : Nat) : Int) := by rw [hH, ← Int.natCast_mul]; omega
  have e2 : L = ((X * Y % 18446744073709551616 : Nat) : Int) := by rw [hL, ← Int.natCast_mul]; omega
  rw [e1, e2]
  exact mul64_any X Y (by omega) (by omega) w

/-- a product by the signs and the halves of the product without signs -/
theorem halves {a b X Y H L : Int} (ha : -9223372036854775808 ≤ a ∧ a ≤ 9223372036854775807) (hb : -9223372036854775808 ≤ b ∧ b ≤ 9223372036854775807)
    (hX : X = (a.natAbs : Int)) (hY : Y = (b.natAbs : Int)) (hH : H = X * Y / 18446744073709551616) (hL : L = X * Y % 18446744073709551616) :
    ∃ N : Int, 0 ≤ N ∧ H = N / 18446744073709551616 ∧ L = N % 18446744073709551616 ∧ (((a < 0 ∧ 0 ≤ b) ∨ (0 ≤ a ∧ b < 0)) → a * b = -N) ∧ (((a < 0 ∧ b < 0) ∨ (0 ≤ a ∧ 0 ≤ b)) → a * b = N) := by
  refine ⟨X * Y, ?_, hH, hL, ?_, ?_⟩
  · rw [hX, hY]; exact Int.mul_nonneg (by omega) (by omega)
  · rintro (⟨h1, h2⟩ | ⟨h1, h2⟩)
    · have e1 : X = -a := by omega
      have e2 : Y = b := by omega
      rw [e1, e2, Int.neg_mul]; omega
    · have e1 : X = a := by omega
      have e2 : Y = -b := by omega
      rw [e1, e2, Int.mul_neg]; omega
  · rintro (⟨h1, h2⟩ | ⟨h1, h2⟩)
    · have e1 : X = -a := by omega
      have e2 : Y = -b := by omega
      rw [e1, e2, Int.neg_mul_neg]
    · have e1 : X = a := by omega
      have e2 : Y = b := by omega
      rw [e1, e2]

/-- no number of 64 bits -/
def Over (n : Int) : Prop := ¬ (-9223372036854775808 ≤ n ∧ n ≤ 9223372036854775807)
theorem over_mk {n : Int} (h : n < -9223372036854775808 ∨ 9223372036854775807 < n) : Over n := by unfold Over; omega

set_option maxHeartbeats 1000000 in
theorem mul_any (a b : Int) (w : World) (ha : -9223372036854775808 ≤ a ∧ a ≤ 9223372036854775807) (hb : -9223372036854775808 ≤ b ∧ b ≤ 9223372036854775807) :
    Calls Try.prog 9 #[.int .i64 a, .int .i64 b] w fun e w' => e = .returned (.tuple #[.int .i64 (num (a * b)), .int .i64 (err (a * b))]) ∧ w = w' := by
  obtain ⟨X, hX⟩ : ∃ X : Int, X = (a.natAbs : Int) := ⟨_, rfl⟩
  obtain ⟨Y, hY⟩ : ∃ Y : Int, Y = (b.natAbs : Int) := ⟨_, rfl⟩
  obtain ⟨H, hH⟩ : ∃ H : Int, H = X * Y / 18446744073709551616 := ⟨_, rfl⟩
  obtain ⟨L, hL⟩ : ∃ L : Int, L = X * Y % 18446744073709551616 := ⟨_, rfl⟩
  obtain ⟨N, hN, h1, h2, h3, h4⟩ := halves ha hb hX hY hH hL
  obtain ⟨ha1, ha2⟩ := ha
  obtain ⟨hb1, hb2⟩ := hb
  have hL1 : 0 ≤ L := by omega
  have hL2 : L < 18446744073709551616 := by omega
  have c1 := Lib.hid (unsigned_any a X hX)
  have c2 := Lib.hid (unsigned_any b Y hY)
  have c3 := Lib.hid (mul64_named X Y H L (by omega) (by omega) hH hL)
  have H1 := Lib.hid h1
  have H2 := Lib.hid h2
  have H3 := Lib.hid h3
  have H4 := Lib.hid h4
  clear hX hY hH hL h1 h2 h3 h4
  go_enter Try.func9, Try.ntmps9
  go_wp2_with fail
  refine wp_scope_jumps 0 (fun a' w' => w' = w ∧ Over (a * b) ∧ ∃ (u0 u1 u2 u3 u4 u5 u6 u7 u8 u9 u10 u11 u12 u13 u14 u15 u16 u17 u18 u19 u20 u21 u22 u23 u24 u25 u26 u27 u28 u29 u30 u31 u32 u33 : Value), a' = { tmps := #[u0, u1, u2, u3, u4, u5, u6, u7, u8, u9, u10, u11, u12, u13, u14, u15, u16, u17, u18, u19, u20, u21, u22, u23, u24, u25, u26, u27, u28, u29, u30, u31, u32, u33], defers := [] }) (fun _ _ => 0) rfl ?_ ?_
  · go_wp2_with fail
    refine (c1.out _ ⟨ha1, ha2⟩).mono ?_
    rintro e w' ⟨rfl, rfl⟩
    go_wp2_with fail
    refine (c2.out _ ⟨hb1, hb2⟩).mono ?_
    rintro e w' ⟨rfl, rfl⟩
    go_wp2_with fail
    refine (c3.out _).mono ?_
    rintro e w' ⟨rfl, rfl⟩
    go_wp2_with fail
    · have t1 : (H != 0) = true := by assumption
      have t2 : H ≠ 0 := by simpa using t1
      have g1 := H1.out
      have g3 := H3.out
      have g4 := H4.out
      go_step3
      refine ⟨rfl, rfl, over_mk ?_, _, _, _, _, _, _, _, _, _, _, _, _, _, _, _, _, _, _, _, _, _, _, _, _, _, _, _, _, _, _, _, _, _, _, rfl⟩
      generalize a * b = p at g3 g4 ⊢
      omega
    · have t2 := ne_dec (x := a) (y := b) (by assumption)
      have t3 : 9223372036854775808 < L := by assumption
      have g2 := H2.out
      have g3 := H3.out
      go_step3
      refine ⟨rfl, rfl, over_mk ?_, _, _, _, _, _, _, _, _, _, _, _, _, _, _, _, _, _, _, _, _, _, _, _, _, _, _, _, _, _, _, _, _, _, _, rfl⟩
      generalize a * b = p at g3 ⊢
      omega
    · have t1 : (H != 0) = false := by assumption
      have t2 := ne_dec (x := a) (y := b) (by assumption)
      have t3 : L ≤ 9223372036854775808 := by assumption
      have t4 : H = 0 := by simpa using t1
      have g1 := H1.out
      have g2 := H2.out
      have g3 := H3.out
      simp only [Exit.jump]
      go_ret2
      have g5 : -9223372036854775808 ≤ a * b ∧ a * b ≤ 9223372036854775807 := by
        generalize a * b = p at g3 ⊢
        omega
      refine ⟨tup_int ?_ (err_in g5).symm, rfl⟩
      rw [num_in g5]
      generalize a * b = p at g3 ⊢
      unfold wrap64
      rw [IntKind.wrap_u64]
      omega
    · have t2 := eq_dec (x := a) (y := b) (by assumption)
      have t3 : 9223372036854775808 ≤ L := by assumption
      have g2 := H2.out
      have g4 := H4.out
      go_step3
      refine ⟨rfl, rfl, over_mk ?_, _, _, _, _, _, _, _, _, _, _, _, _, _, _, _, _, _, _, _, _, _, _, _, _, _, _, _, _, _, _, _, _, _, _, rfl⟩
      generalize a * b = p at g4 ⊢
      omega
    · have t1 : (H != 0) = false := by assumption
      have t2 := eq_dec (x := a) (y := b) (by assumption)
      have t3 : L < 9223372036854775808 := by assumption
      have t4 : H = 0 := by simpa using t1
      have g1 := H1.out
      have g2 := H2.out
      have g4 := H4.out
      simp only [Exit.jump]
      go_ret2
      have g5 : -9223372036854775808 ≤ a * b ∧ a * b ≤ 9223372036854775807 := by
        generalize a * b = p at g4 ⊢
        omega
      refine ⟨tup_int ?_ (err_in g5).symm, rfl⟩
      rw [num_in g5]
      generalize a * b = p at g4 ⊢
      omega
  · rintro a' w' ⟨rfl, hf, u0, u1, u2, u3, u4, u5, u6, u7, u8, u9, u10, u11, u12, u13, u14, u15, u16, u17, u18, u19, u20, u21, u22, u23, u24, u25, u26, u27, u28, u29, u30, u31, u32, u33, rfl⟩
    go_wp2
    simp only [Exit.jump]
    go_ret2
    exact ⟨tup_int (num_out hf).symm (err_out hf).symm, rfl⟩

set_option maxHeartbeats 400000 in
theorem holds_any (a r b : Int) (w : World) :
    Calls Try.prog 13 #[.int .i64 a, .int .i64 r, .int .i64 b] w fun e w' => e = .returned (.bool (holdsB a r b)) ∧ w = w' := by
  go_enter Try.func13, Try.ntmps13
  go_wp2
  all_goals
    go_ret
    refine ⟨ret_bool ?_, rfl⟩
    simp_all [holdsB]
  all_goals (rw [Bool.eq_iff_iff]; simp)
end Go.Proofs.Ytcafhlleoailfaa
