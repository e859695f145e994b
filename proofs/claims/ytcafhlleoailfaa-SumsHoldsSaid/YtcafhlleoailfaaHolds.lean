/-
  SumsHolds answers true at every two numbers, and changes nothing that was there.
-/
import Derived.Test.YtcafhlleoailfaaAwake
import Derived.BigGuardPart
import Derived.Deep.QuietTactic
import Derived.BigQuiet
import Derived.LoopTactic
namespace Go.Proofs.Ytcafhlleoailfaa
open Go.RowKit

theorem holds_same (a r b : Int) (v : Bool) (h : holdsB a r b = v) (w : World) :
    Calls Try.prog 13 #[.int .i64 a, .int .i64 r, .int .i64 b] w fun e w' => e = .returned (.bool v) ∧ w' = w :=
  (holds_is a r b v h w).mono fun _ _ ⟨h, k⟩ => ⟨h, k.symm⟩

def HoldsRel (w : World) (i : Value) (wr : World) : Prop := ∃ k : Nat, k ≤ 3 ∧ i = .int .i64 k ∧ Grown w wr ∧ Below w.heap.size w wr

set_option maxHeartbeats 1000000 in
theorem holds_walk (a b : Int) (v0 v2 : Bool)
    (C0 : Hid (holdsB a 0 b = v0)) (C1 : Hid (holdsB a 1 b = !v0)) (C2 : Hid (holdsB a 2 b = v2)) (C3 : Hid (holdsB a 3 b = (v2 || v0))) (C4 : Hid (holdsB a 4 b = !(v2 || v0))) (C5 : Hid (holdsB a 5 b = !v2))
    (D0 : Hid (holdsB b 0 a = v0)) (D4 : Hid (holdsB b 4 a = v2)) (w : World) :
    Calls Try.prog 5 #[.int .i64 a, .int .i64 b] w (Yes w) := by
  have i0 : ∀ w, (Instr.index 32 (.agg #[.int .i64 0, .int .i64 1, .int .i64 2, .int .i64 5, .int .i64 3, .int .i64 4]) (.int .i64 0)).run Try.prog w = .ok (.agg #[.int .i64 0, .int .i64 1]) w := fun _ => by kernel_rfl
  have i1 : ∀ w, (Instr.index 32 (.agg #[.int .i64 0, .int .i64 1, .int .i64 2, .int .i64 5, .int .i64 3, .int .i64 4]) (.int .i64 1)).run Try.prog w = .ok (.agg #[.int .i64 2, .int .i64 5]) w := fun _ => by kernel_rfl
  have i2 : ∀ w, (Instr.index 32 (.agg #[.int .i64 0, .int .i64 1, .int .i64 2, .int .i64 5, .int .i64 3, .int .i64 4]) (.int .i64 2)).run Try.prog w = .ok (.agg #[.int .i64 3, .int .i64 4]) w := fun _ => by kernel_rfl
  go_enter Try.func5, Try.ntmps5
  go_wp2_with fail
  refine (awake_any w).mono ?_
  rintro e' w1 ⟨rfl, hg, hb⟩
  go_wp2_with fail
  have E01 := Lib.hid (show (holdsB a 0 b == holdsB a 1 b) = false by rw [C0.out, C1.out]; cases v0 <;> rfl)
  have E25 := Lib.hid (show (holdsB a 2 b == holdsB a 5 b) = false by rw [C2.out, C5.out]; cases v2 <;> rfl)
  have E34 := Lib.hid (show (holdsB a 3 b == holdsB a 4 b) = false by rw [C3.out, C4.out]; cases v2 <;> cases v0 <;> rfl)
  go_loopw [13] (fun i wr => HoldsRel w i wr) (fun i _ => 3 - (intOf i).toNat)
  case atStart => exact ⟨0, by omega, rfl, hg, hb⟩
  case round =>
    obtain ⟨k, hk, rfl, hg, hb⟩ := hrel
    have HG := Lib.hid hg
    have HB := Lib.hid hb
    clear hg hb
    obtain rfl | rfl | rfl | rfl : k = 0 ∨ k = 1 ∨ k = 2 ∨ k = 3 := by omega
    · have F : (holdsB a 0 b == holdsB a 1 b) = false := E01.out
      go_wp2_with fail
      go_quiet ((go_at_call 13; exact Calls.quiet_of_same (holds_same _ _ _ _ rfl _)))
      go_wp2_with fail
      go_roundw
      case rel => exact ⟨1, by omega, rfl, grown_drawn (HG.out.alloc _ _) _, below_drawn (HB.out.alloc HB.out.size _) _⟩
      case measure => simp [intOf]
    · have F : (holdsB a 2 b == holdsB a 5 b) = false := E25.out
      go_wp2_with fail
      go_quiet ((go_at_call 13; exact Calls.quiet_of_same (holds_same _ _ _ _ rfl _)))
      go_wp2_with fail
      go_roundw
      case rel => exact ⟨2, by omega, rfl, grown_drawn (HG.out.alloc _ _) _, below_drawn (HB.out.alloc HB.out.size _) _⟩
      case measure => simp [intOf]
    · have F : (holdsB a 3 b == holdsB a 4 b) = false := E34.out
      go_wp2_with fail
      go_quiet ((go_at_call 13; exact Calls.quiet_of_same (holds_same _ _ _ _ rfl _)))
      go_wp2_with fail
      go_roundw
      case rel => exact ⟨3, by omega, rfl, grown_drawn (HG.out.alloc _ _) _, below_drawn (HB.out.alloc HB.out.size _) _⟩
      case measure => simp [intOf]
    · clear E01 E25 E34
      cases v2
      · cases v0
        all_goals
          go_wp2_with fail
          refine (holds_is a 2 b _ C2.out _).mono ?_
          rintro e w' ⟨rfl, rfl⟩
          go_wp2_with fail
          refine (holds_is b 4 a _ D4.out _).mono ?_
          rintro e w' ⟨rfl, rfl⟩
          go_wp2_with fail
          refine (holds_is a 3 b _ C3.out _).mono ?_
          rintro e w' ⟨rfl, rfl⟩
          go_wp2_with fail
          refine (holds_is a 2 b _ C2.out _).mono ?_
          rintro e w' ⟨rfl, rfl⟩
          go_wp2_with fail
          refine (holds_is a 0 b _ C0.out _).mono ?_
          rintro e w' ⟨rfl, rfl⟩
          go_wp2_with fail
          refine (holds_is a 0 b _ C0.out _).mono ?_
          rintro e w' ⟨rfl, rfl⟩
          go_wp2_with fail
          refine (holds_is b 0 a _ D0.out _).mono ?_
          rintro e w' ⟨rfl, rfl⟩
          go_wp2_with fail
          go_ret
          exact ⟨rfl, HG.out, HB.out⟩
      · cases v0
        all_goals
          go_wp2_with fail
          refine (holds_is a 2 b _ C2.out _).mono ?_
          rintro e w' ⟨rfl, rfl⟩
          go_wp2_with fail
          refine (holds_is b 4 a _ D4.out _).mono ?_
          rintro e w' ⟨rfl, rfl⟩
          go_wp2_with fail
          refine (holds_is a 3 b _ C3.out _).mono ?_
          rintro e w' ⟨rfl, rfl⟩
          go_wp2_with fail
          refine (holds_is a 2 b _ C2.out _).mono ?_
          rintro e w' ⟨rfl, rfl⟩
          go_wp2_with fail
          refine (holds_is a 0 b _ C0.out _).mono ?_
          rintro e w' ⟨rfl, rfl⟩
          go_wp2_with fail
          refine (holds_is b 0 a _ D0.out _).mono ?_
          rintro e w' ⟨rfl, rfl⟩
          go_wp2_with fail
          go_ret
          exact ⟨rfl, HG.out, HB.out⟩

theorem holds_law (a b : Int) (w : World) : Calls Try.prog 5 #[.int .i64 a, .int .i64 b] w (Yes w) := by
  refine holds_walk a b (decide (a = b)) (decide (a < b)) (Lib.hid ?_) (Lib.hid ?_) (Lib.hid ?_) (Lib.hid ?_) (Lib.hid ?_) (Lib.hid ?_) (Lib.hid ?_) (Lib.hid ?_) w
  all_goals
    unfold holdsB
    rw [Bool.eq_iff_iff]
    simp
  all_goals omega
end Go.Proofs.Ytcafhlleoailfaa
