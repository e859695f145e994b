/-
  awake of the statements of layer 1 answers true; nothing that was there has changed.
-/
import Derived.Test.YtcafhlleoailfaaDot
namespace Go.Proofs.Ytcafhlleoailfaa
open Go.RowKit

/-- true, with at most new memory -/
def Yes (w : World) (e : Ending) (w' : World) : Prop := e = .returned (.bool true) ∧ Grown w w' ∧ Below w.heap.size w w'

theorem holds_is (a r b : Int) (v : Bool) (h : holdsB a r b = v) (w : World) :
    Calls Try.prog 13 #[.int .i64 a, .int .i64 r, .int .i64 b] w fun e w' => e = .returned (.bool v) ∧ w = w' := by
  rw [← h]; exact holds_any a r b w

theorem awake_dot (w : World) : Calls Try.prog 11 #[.slice (some ⟨w.heap.size, 0, none⟩) 2 2, .slice (some ⟨w.heap.size + 1, 0, none⟩) 2 2]
    ((w.alloc (.cells #[.int .i64 2, .int .i64 3] 2)).alloc (.cells #[.int .i64 4, .int .i64 (-5)] 2)) (Told (-7, 0) ((w.alloc (.cells #[.int .i64 2, .int .i64 3] 2)).alloc (.cells #[.int .i64 4, .int .i64 (-5)] 2))) := by
  have e : dotFrom 0 [2, 3] [4, -5] = (-7, 0) := by decide
  rw [← e]
  refine dot_same w.heap.size 0 2 (w.heap.size + 1) 0 2 [2, 3] [4, -5] _ rfl (by decide) ?_ ?_ ?_ ?_
  · intro k hk
    match k, hk with
    | 0, _ => simp
    | 1, _ => simp
  · intro k hk
    match k, hk with
    | 0, _ => simp
    | 1, _ => simp
  · intro k hk
    match k, hk with
    | 0, _ => simp
    | 1, _ => simp
  · intro k hk
    match k, hk with
    | 0, _ => simp
    | 1, _ => simp

theorem grown_drawn {a w : World} (h : Grown a w) (n : Nat) : Grown a (w.drewN n) := h
theorem below_drawn {B : Nat} {a w : World} (h : Below B a w) (n : Nat) : Below B a (w.drewN n) := ⟨h.os, h.tape, h.output, h.size, h.block⟩

set_option maxHeartbeats 400000 in
theorem awake_any (w : World) : Calls Try.prog 6 #[] w (Yes w) := by
  have c1 := Lib.hid (mul_over 4294967296 2147483648 9223372036854775808 (by omega) (by omega) (by omega) (by decide))
  have c2 := Lib.hid (mul_ok (-4294967296) 2147483648 (-9223372036854775808) (by omega) (by omega) (by omega) (by decide))
  have c3 := Lib.hid (add_over 4611686018427387904 4611686018427387904 9223372036854775808 (by omega) (by omega) (by omega) (by decide))
  have h1 := Lib.hid (holds_is 1 2 2 true (by decide))
  have h2 := Lib.hid (holds_is 2 2 2 false (by decide))
  have h3 := Lib.hid (holds_is 2 5 2 true (by decide))
  go_enter Try.func6, Try.ntmps6
  go_wp2_with fail
  refine (c1.out _).mono ?_
  rintro e w' ⟨rfl, hw⟩
  rw [hw]; clear hw
  go_wp2_with fail
  refine (awake_dot w).mono ?_
  rintro e w' ⟨rfl, n, rfl⟩
  go_wp2_with fail
  refine (c2.out _).mono ?_
  rintro e w' ⟨rfl, hw⟩
  rw [hw]; clear hw
  go_wp2_with fail
  refine (dot_arg _ _ _ _ _ _ (by decide) _).mono ?_
  rintro e w' ⟨rfl, m, rfl⟩
  go_wp2_with fail
  refine (c3.out _).mono ?_
  rintro e w' ⟨rfl, rfl⟩
  go_wp2_with fail
  refine (h1.out _).mono ?_
  rintro e w' ⟨rfl, rfl⟩
  go_wp2_with fail
  refine (h2.out _).mono ?_
  rintro e w' ⟨rfl, rfl⟩
  go_wp2_with fail
  refine (h3.out _).mono ?_
  rintro e w' ⟨rfl, rfl⟩
  go_wp2_with fail
  go_ret
  refine ⟨rfl, ?_, ?_⟩
  · repeat (first | exact Grown.refl _ | refine grown_drawn ?_ _ | refine Grown.alloc ?_ _ _)
  · repeat (first | exact Below.refl _ _ | refine below_drawn ?_ _ | refine Below.alloc ?_ (by simp; try omega) _)
end Go.Proofs.Ytcafhlleoailfaa
