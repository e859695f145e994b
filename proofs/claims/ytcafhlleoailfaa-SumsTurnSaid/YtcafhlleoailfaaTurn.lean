/-
  SumsTurn answers true at every three numbers, and changes nothing that was there.
-/
import Derived.Test.YtcafhlleoailfaaAwake
import Derived.BigGuardPart
import Derived.Deep.DeepCutAuto
namespace Go.Proofs.Ytcafhlleoailfaa
open Go.RowKit

/-- the answer of a call: two numbers, and the world as it was -/
def Two (n e : Int) (w : World) (x : Ending) (w' : World) : Prop := x = .returned (.tuple #[.int .i64 n, .int .i64 e]) ∧ w = w'

set_option maxRecDepth 100000 in
set_option maxHeartbeats 1000000 in
theorem turn_walk (a b c n e k g x o y p z q s r : Int)
    (ha : -9223372036854775808 ≤ a ∧ a ≤ 9223372036854775807) (hb : -9223372036854775808 ≤ b ∧ b ≤ 9223372036854775807)
    (hn : -9223372036854775808 ≤ n ∧ n ≤ 9223372036854775807) (hk : -9223372036854775808 ≤ k ∧ k ≤ 9223372036854775807)
    (C1 : Hid (∀ w, Calls Try.prog 7 #[.int .i64 a, .int .i64 b] w (Two n e w))) (C2 : Hid (∀ w, Calls Try.prog 7 #[.int .i64 b, .int .i64 a] w (Two n e w)))
    (C3 : Hid (∀ w, Calls Try.prog 9 #[.int .i64 a, .int .i64 b] w (Two k g w))) (C4 : Hid (∀ w, Calls Try.prog 9 #[.int .i64 b, .int .i64 a] w (Two k g w)))
    (C5 : Hid (∀ w, Calls Try.prog 9 #[.int .i64 n, .int .i64 c] w (Two x o w))) (C6 : Hid (∀ w, Calls Try.prog 9 #[.int .i64 a, .int .i64 c] w (Two y p w)))
    (C7 : Hid (∀ w, Calls Try.prog 9 #[.int .i64 b, .int .i64 c] w (Two z q w))) (C8 : Hid (∀ w, Calls Try.prog 7 #[.int .i64 y, .int .i64 z] w (Two s r w)))
    (T1 : Hid (e = 0 → n - a = b)) (T2 : Hid (g = 0 → a ≠ 0 → a ≠ -1 → k.tdiv a = b ∧ k.tmod a = 0)) (T3 : Hid (e = 0 → o = 0 → p = 0 → q = 0 → r = 0 ∧ s = x)) (w : World) :
    Calls Try.prog 4 #[.int .i64 a, .int .i64 b, .int .i64 c] w (Yes w) := by
  obtain ⟨ha1, ha2⟩ := ha
  obtain ⟨hb1, hb2⟩ := hb
  obtain ⟨hn1, hn2⟩ := hn
  obtain ⟨hk1, hk2⟩ := hk
  go_enter Try.func4, Try.ntmps4
  go_wp2_with fail
  refine (awake_any w).mono ?_
  rintro e' w1 ⟨rfl, hg, hb⟩
  have HG := Lib.hid hg
  have HB := Lib.hid hb
  clear hg hb
  go_wp2_with fail
  refine (C1.out _).mono ?_
  rintro e' w' ⟨rfl, rfl⟩
  go_wp2_with fail
  refine (C2.out _).mono ?_
  rintro e' w' ⟨rfl, rfl⟩
  go_wp2_with fail
  refine (C3.out _).mono ?_
  rintro e' w' ⟨rfl, rfl⟩
  go_wp2_with fail
  refine (C4.out _).mono ?_
  rintro e' w' ⟨rfl, rfl⟩
  go_upto_region 9 with fail
  go_cut [100] (fun v wx => v = .bool false ∧ wx = w1)
  case first =>
    go_wp2_with fail
    all_goals first
      | (exfalso
         have t1 : e = 0 := by assumption
         have t2 : ¬ wrap64 (n - a) = b := by assumption
         exact t2 (by rw [T1.out t1]; exact IntWalk.wrap64_in _ ⟨hb1, hb2⟩))
      | (exfalso
         have t1 : g = 0 := by assumption
         have t2 : ¬ a = 0 := by assumption
         have t3 : ¬ a = -1 := by assumption
         have t4 : ¬ wrap64 (k.tdiv a) = b := by assumption
         exact t4 (by rw [(T2.out t1 t2 t3).1]; exact IntWalk.wrap64_in _ ⟨hb1, hb2⟩))
      | (have t1 : g = 0 := by assumption
         have t2 : ¬ a = 0 := by assumption
         have t3 : ¬ a = -1 := by assumption
         go_meet
         exact ⟨congrArg Value.bool (by rw [(T2.out t1 t2 t3).2]; rfl), rfl⟩)
      | (go_meet
         exact ⟨rfl, rfl⟩)
  case rest =>
    obtain ⟨rfl, rfl⟩ := hcut
    clear hn1 hn2 hk1 hk2
    go_wp2_with fail
    refine (C5.out _).mono ?_
    rintro e' w' ⟨rfl, rfl⟩
    go_wp2_with fail
    refine (C6.out _).mono ?_
    rintro e' w' ⟨rfl, rfl⟩
    go_wp2_with fail
    refine (C7.out _).mono ?_
    rintro e' w' ⟨rfl, rfl⟩
    go_wp2_with fail
    refine (C8.out _).mono ?_
    rintro e' w' ⟨rfl, rfl⟩
    go_wp2_with fail
    all_goals first
      | (exfalso
         have t1 : e = 0 := by assumption
         have t2 : o = 0 := by assumption
         have t3 : p = 0 := by assumption
         have t4 : q = 0 := by assumption
         have t5 : ¬ r = 0 := by assumption
         exact t5 (T3.out t1 t2 t3 t4).1)
      | (have t1 : e = 0 := by assumption
         have t2 : o = 0 := by assumption
         have t3 : p = 0 := by assumption
         have t4 : q = 0 := by assumption
         go_ret
         refine ⟨ret_bool ?_, HG.out, HB.out⟩
         rw [(T3.out t1 t2 t3 t4).2]
         simp)
      | (go_ret
         exact ⟨rfl, HG.out, HB.out⟩)

/-- what the three numbers come to: no product or sum is told but its own -/
theorem turn_told (a b c : Int) : (err (a + b) = 0 → num (a + b) - a = b) ∧ (err (a * b) = 0 → a ≠ 0 → a ≠ -1 → (num (a * b)).tdiv a = b ∧ (num (a * b)).tmod a = 0) ∧
    (err (a + b) = 0 → err (num (a + b) * c) = 0 → err (a * c) = 0 → err (b * c) = 0 → err (num (a * c) + num (b * c)) = 0 ∧ num (num (a * c) + num (b * c)) = num (num (a + b) * c)) := by
  have zero : ∀ {n : Int}, err n = 0 → -9223372036854775808 ≤ n ∧ n ≤ 9223372036854775807 := fun {n} h => by
    by_cases k : -9223372036854775808 ≤ n ∧ n ≤ 9223372036854775807
    · exact k
    · rw [err_out k] at h; omega
  refine ⟨fun h => ?_, fun h h0 _ => ?_, fun h1 h2 h3 h4 => ?_⟩
  · rw [num_in (zero h)]; omega
  · rw [num_in (zero h)]
    exact ⟨Int.mul_tdiv_cancel_left b h0, Int.mul_tmod_right a b⟩
  · rw [num_in (zero h1)] at h2 ⊢
    rw [num_in (zero h3), num_in (zero h4), ← Int.add_mul]
    exact ⟨h2, rfl⟩

theorem turn_any (a b c : Int) (ha : -9223372036854775808 ≤ a ∧ a ≤ 9223372036854775807) (hb : -9223372036854775808 ≤ b ∧ b ≤ 9223372036854775807) (hc : -9223372036854775808 ≤ c ∧ c ≤ 9223372036854775807) (w : World) :
    Calls Try.prog 4 #[.int .i64 a, .int .i64 b, .int .i64 c] w (Yes w) := by
  obtain ⟨T1, T2, T3⟩ := turn_told a b c
  have C2 : ∀ w, Calls Try.prog 7 #[.int .i64 b, .int .i64 a] w (Two (num (a + b)) (err (a + b)) w) := by rw [Int.add_comm a b]; exact fun w => add_any b a w hb ha
  have C4 : ∀ w, Calls Try.prog 9 #[.int .i64 b, .int .i64 a] w (Two (num (a * b)) (err (a * b)) w) := by rw [Int.mul_comm a b]; exact fun w => mul_any b a w hb ha
  exact turn_walk a b c _ _ _ _ _ _ _ _ _ _ _ _ ha hb (num_fits _) (num_fits _)
    (Lib.hid fun w => add_any a b w ha hb) (Lib.hid C2) (Lib.hid fun w => mul_any a b w ha hb) (Lib.hid C4)
    (Lib.hid fun w => mul_any _ c w (num_fits _) hc) (Lib.hid fun w => mul_any a c w ha hc) (Lib.hid fun w => mul_any b c w hb hc) (Lib.hid fun w => add_any _ _ w (num_fits _) (num_fits _))
    (Lib.hid T1) (Lib.hid T2) (Lib.hid T3) w
end Go.Proofs.Ytcafhlleoailfaa
