/-
  What the document's own Add, Mul and Holds answer, at every input: the same as the program's.
-/
import Derived.Test.YtcafhlleoailfaaDot
import Derived.BigGuardPart
namespace Go.Proofs.Ytcafhlleoailfaa
open Go.RowKit

/-- the answer of a call: two numbers, and the world as it was -/
def Pair (n e : Int) (w : World) (x : Ending) (w' : World) : Prop := x = .returned (.tuple #[.int .i64 n, .int .i64 e]) ∧ w = w'

set_option maxHeartbeats 400000 in
theorem radd_any (a b : Int) (w : World) (ha : -9223372036854775808 ≤ a ∧ a ≤ 9223372036854775807) (hb : -9223372036854775808 ≤ b ∧ b ≤ 9223372036854775807) :
    Calls Try.prog 8 #[.int .i64 a, .int .i64 b] w (Pair (num (a + b)) (err (a + b)) w) := by
  obtain ⟨ha1, ha2⟩ := ha
  obtain ⟨hb1, hb2⟩ := hb
  go_enter Try.func8, Try.ntmps8
  go_wp2
  all_goals go_ret2
  all_goals refine ⟨tup_int ?_ ?_, rfl⟩
  all_goals first
    | (rw [num_out (by omega)])
    | (rw [num_in (by omega)])
    | (rw [err_out (by omega)])
    | (rw [err_in (by omega)])

theorem radd_ok (a b n : Int) (ha : -9223372036854775808 ≤ a ∧ a ≤ 9223372036854775807) (hb : -9223372036854775808 ≤ b ∧ b ≤ 9223372036854775807) (hn : n = a + b) (hf : fits n = true) (w : World) :
    Calls Try.prog 8 #[.int .i64 a, .int .i64 b] w (Pair n 0 w) :=
  (radd_any a b w ha hb).mono fun _ _ ⟨h, k⟩ => ⟨h.trans (tup_int (by rw [← hn]; unfold num; rw [if_pos hf]) (by rw [← hn]; unfold err; rw [if_pos hf])), k⟩
theorem radd_over (a b n : Int) (ha : -9223372036854775808 ≤ a ∧ a ≤ 9223372036854775807) (hb : -9223372036854775808 ≤ b ∧ b ≤ 9223372036854775807) (hn : n = a + b) (hf : ¬ fits n = true) (w : World) :
    Calls Try.prog 8 #[.int .i64 a, .int .i64 b] w (Pair 0 6 w) :=
  (radd_any a b w ha hb).mono fun _ _ ⟨h, k⟩ => ⟨h.trans (tup_int (by rw [← hn]; unfold num; rw [if_neg hf]) (by rw [← hn]; unfold err; rw [if_neg hf])), k⟩

set_option maxHeartbeats 1000000 in
theorem rholds_any (a r b : Int) (w : World) :
    Calls Try.prog 14 #[.int .i64 a, .int .i64 r, .int .i64 b] w fun e w' => e = .returned (.bool (holdsB a r b)) ∧ w = w' := by
  go_enter Try.func14, Try.ntmps14
  go_wp2
  all_goals go_ret
  all_goals
    refine ⟨ret_bool ?_, rfl⟩
    unfold holdsB
    repeat (first | rw [if_pos (by assumption)] | rw [if_neg (by assumption)])
  all_goals (rw [Bool.eq_iff_iff]; simp)
  all_goals omega

/-- a product by halves: p is the half's product -/
theorem by_halves {a b h p : Int} (ha : 2 ≤ a) (hh : h = a / 2) (hp : p = h * b) (hb : b ≠ 0) :
    (a % 2 = 0 → a * b = p + p) ∧ (¬ a % 2 = 0 → a * b = p + p + b) ∧ ((0 < b ∧ b ≤ p) ∨ (b < 0 ∧ p ≤ b)) := by
  refine ⟨fun e => ?_, fun e => ?_, ?_⟩
  · have : a = h + h := by omega
    rw [this, hp, Int.add_mul]
  · have : a = h + h + 1 := by omega
    rw [this, hp, Int.add_mul, Int.add_mul, Int.one_mul]
  · have h1 : 0 ≤ h - 1 := by omega
    rcases Int.lt_or_gt_of_ne hb with g | g
    · right
      have := Int.mul_nonneg h1 (show 0 ≤ -b by omega)
      rw [Int.mul_neg, Int.sub_mul, Int.one_mul, ← hp] at this
      omega
    · left
      have := Int.mul_nonneg h1 (show 0 ≤ b by omega)
      rw [Int.sub_mul, Int.one_mul, ← hp] at this
      omega

set_option maxHeartbeats 1000000 in
theorem rmul_pos (k : Nat) : ∀ (a b : Int) (w : World), 0 ≤ a → a ≤ k → a ≤ 9223372036854775807 → -9223372036854775808 ≤ b → b ≤ 9223372036854775807 →
    Calls Try.prog 10 #[.int .i64 a, .int .i64 b] w (Pair (num (a * b)) (err (a * b)) w) := by
  induction k with
  | zero =>
    intro a b w h0 h1 _ _ _
    obtain rfl : a = 0 := by omega
    rw [Int.zero_mul]
    go_enter Try.func10, Try.ntmps10
    go_wp2_with fail
    go_ret2
    exact ⟨rfl, rfl⟩
  | succ k ih =>
    intro a b w h0 h1 h2 h3 h4
    by_cases a0 : a = 0
    · subst a0
      rw [Int.zero_mul]
      go_enter Try.func10, Try.ntmps10
      go_wp2_with fail
      go_ret2
      exact ⟨rfl, rfl⟩
    by_cases b0 : b = 0
    · subst b0
      rw [Int.mul_zero]
      have t0 : (a == 0) = false := by simpa using a0
      go_enter Try.func10, Try.ntmps10
      go_wp2_with fail
      go_ret2
      exact ⟨rfl, rfl⟩
    by_cases a1 : a = 1
    · subst a1
      rw [Int.one_mul, num_in ⟨h3, h4⟩, err_in ⟨h3, h4⟩]
      have t0 : (b == 0) = false := by simpa using b0
      go_enter Try.func10, Try.ntmps10
      go_wp2_with fail
      go_ret2
      exact ⟨rfl, rfl⟩
    obtain ⟨h, hh⟩ : ∃ h, h = a / 2 := ⟨_, rfl⟩
    obtain ⟨p, hp⟩ : ∃ p, p = h * b := ⟨_, rfl⟩
    obtain ⟨q, hq⟩ : ∃ q, q = a * b := ⟨_, rfl⟩
    obtain ⟨g1, g2, g3⟩ := by_halves (by omega) hh hp b0
    rw [← hq] at g1 g2 ⊢
    have I : ∀ w, Calls Try.prog 10 #[.int .i64 (a / 2), .int .i64 b] w (Pair (num p) (err p) w) := fun w => by
      rw [hp, hh]; exact ih (a / 2) b w (by omega) (by omega) (by omega) h3 h4
    have t0 : (a == 0) = false := by simpa using a0
    have t1 : (b == 0) = false := by simpa using b0
    have t2 : (a == 1) = false := by simpa using a1
    have t3 : (a == -9223372036854775808) = false := by simp; omega
    clear ih hp hq hh a0 b0 a1
    by_cases f1 : fits p = true
    · have pb := fits_iff.mp f1
      rw [num_in pb, err_in pb] at I
      have I' := Lib.hid I
      clear I f1
      obtain ⟨d, hd⟩ : ∃ d, d = p + p := ⟨_, rfl⟩
      rw [← hd] at g1 g2
      by_cases f2 : fits d = true
      · have A := Lib.hid (radd_ok p p d pb pb hd f2)
        have db := fits_iff.mp f2
        clear f2 g3 hd
        by_cases ev : a % 2 = 0
        · have Q := Lib.hid (g1 ev)
          have t4 : (a % 2 == 0) = true := by simpa using ev
          rw [Q.out, num_in db, err_in db]
          clear g1 g2 ev Q pb db
          go_enter Try.func10, Try.ntmps10
          go_wp2_with fail
          refine (I'.out _).mono ?_
          rintro e w' ⟨rfl, rfl⟩
          go_wp2_with fail
          refine (A.out _).mono ?_
          rintro e w' ⟨rfl, rfl⟩
          go_wp2_with fail
          go_ret2
          exact ⟨rfl, rfl⟩
        · have Q := g2 ev
          have t4 : (a % 2 == 0) = false := by simpa using ev
          have B := Lib.hid (fun w => radd_any d b w db ⟨h3, h4⟩)
          rw [← Q] at B
          clear g1 g2 ev Q pb db
          go_enter Try.func10, Try.ntmps10
          go_wp2_with fail
          refine (I'.out _).mono ?_
          rintro e w' ⟨rfl, rfl⟩
          go_wp2_with fail
          refine (A.out _).mono ?_
          rintro e w' ⟨rfl, rfl⟩
          go_wp2_with fail
          refine (B.out _).mono ?_
          rintro e w' ⟨rfl, rfl⟩
          go_wp2_with fail
          go_ret2
          exact ⟨rfl, rfl⟩
      · have A := Lib.hid (radd_over p p d pb pb hd f2)
        have no : ¬ (-9223372036854775808 ≤ q ∧ q ≤ 9223372036854775807) := fun y => f2 (fits_iff.mpr (by omega))
        rw [num_out no, err_out no]
        clear g1 g2 g3 no f2 hd pb
        go_enter Try.func10, Try.ntmps10
        go_wp2_with fail
        refine (I'.out _).mono ?_
        rintro e w' ⟨rfl, rfl⟩
        go_wp2_with fail
        refine (A.out _).mono ?_
        rintro e w' ⟨rfl, rfl⟩
        go_wp2_with fail
        go_ret2
        exact ⟨rfl, rfl⟩
    · have np : ¬ (-9223372036854775808 ≤ p ∧ p ≤ 9223372036854775807) := fun y => f1 (fits_iff.mpr y)
      rw [num_out np, err_out np] at I
      have I' := Lib.hid I
      have no : ¬ (-9223372036854775808 ≤ q ∧ q ≤ 9223372036854775807) := fun y => np (by omega)
      rw [num_out no, err_out no]
      clear I g1 g2 g3 np no f1
      go_enter Try.func10, Try.ntmps10
      go_wp2_with fail
      refine (I'.out _).mono ?_
      rintro e w' ⟨rfl, rfl⟩
      go_wp2_with fail
      go_ret2
      exact ⟨rfl, rfl⟩

set_option maxHeartbeats 1000000 in
theorem rmul_any (a b : Int) (w : World) (ha : -9223372036854775808 ≤ a ∧ a ≤ 9223372036854775807) (hb : -9223372036854775808 ≤ b ∧ b ≤ 9223372036854775807) :
    Calls Try.prog 10 #[.int .i64 a, .int .i64 b] w (Pair (num (a * b)) (err (a * b)) w) := by
  obtain ⟨ha1, ha2⟩ := ha
  obtain ⟨hb1, hb2⟩ := hb
  by_cases a0 : 0 ≤ a
  · exact rmul_pos a.toNat a b w a0 (by omega) ha2 hb1 hb2
  have t0 : (a == 0) = false := by simp; omega
  by_cases b0 : b = 0
  · subst b0
    rw [Int.mul_zero]
    go_enter Try.func10, Try.ntmps10
    go_wp2_with fail
    go_ret2
    exact ⟨rfl, rfl⟩
  have t1 : (b == 0) = false := by simpa using b0
  by_cases am : a = -9223372036854775808
  · by_cases b1 : b = 1
    · subst b1 am
      go_enter Try.func10, Try.ntmps10
      go_wp2_with fail
      go_ret2
      exact ⟨rfl, rfl⟩
    · have t2 : (b == 1) = false := by simpa using b1
      have t3 : (a == -9223372036854775808) = true := by simpa using am
      have no : ¬ (-9223372036854775808 ≤ a * b ∧ a * b ≤ 9223372036854775807) := by rw [am]; omega
      rw [num_out no, err_out no]
      clear no am b0 b1
      go_enter Try.func10, Try.ntmps10
      go_wp2_with fail
      go_ret2
      exact ⟨rfl, rfl⟩
  have t2 : (a == -9223372036854775808) = false := by simpa using am
  have t3 : a < 0 := by omega
  by_cases bm : b = -9223372036854775808
  · have t4 : (b == -9223372036854775808) = true := by simpa using bm
    have no : ¬ (-9223372036854775808 ≤ a * b ∧ a * b ≤ 9223372036854775807) := by rw [bm]; omega
    rw [num_out no, err_out no]
    clear no am b0 bm a0
    go_enter Try.func10, Try.ntmps10
    go_wp2_with fail
    go_ret2
    exact ⟨rfl, rfl⟩
  · have t4 : (b == -9223372036854775808) = false := by simpa using bm
    have I := Lib.hid (fun w => rmul_pos (-a).toNat (-a) (-b) w (by omega) (by omega) (by omega) (by omega) (by omega))
    rw [Int.neg_mul_neg] at I
    have u1 : -a ≤ 9223372036854775807 := by omega
    have u2 : -b ≤ 9223372036854775807 := by omega
    clear am b0 bm a0
    go_enter Try.func10, Try.ntmps10
    go_wp2_with fail
    refine (I.out _).mono ?_
    rintro e w' ⟨rfl, rfl⟩
    go_wp2_with fail
    go_ret2
    exact ⟨rfl, rfl⟩
end Go.Proofs.Ytcafhlleoailfaa
