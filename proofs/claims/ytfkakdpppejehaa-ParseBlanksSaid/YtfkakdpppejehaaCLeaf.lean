/-
  What the program's and the document's tests of bytes answer.
-/
import Derived.Test.YtfkakdpppejehaaRows
import Derived.Test.YtfkakdpppejehaaCNum
import Derived.Test.YtfkakdpppejehaaCShelf
import Derived.Below
import Derived.Deep.Draws
import Derived.WalkKit
import Derived.ProofKit
import Derived.OpenShut
import Derived.Outline
import Derived.WalkMore
import Derived.Lib.Hide
import Derived.BigGuardPart
import Derived.Deep.DeepCutAuto
import Derived.Deep.Light
import Derived.Deep.QuietTactic
import Derived.BigQuiet
import Derived.LoopTactic
import Derived.OwnWalk
import Derived.Maps.AppendAt
import Derived.Great.BuildSlice
import Derived.Laws.OwnMore
import Derived.Lib.OwnBridge
namespace Go.Proofs.Ytfkakdpppejehaa.Sc
open Go.RowKit

theorem ret_bool {a b : Bool} (h : a = b) : Ending.returned (.bool a) = .returned (.bool b) := by rw [h]
theorem beq_eq_decide (a b : Int) : (a == b) = decide (a = b) := by rw [Bool.eq_iff_iff]; simp
theorem ret_int {k : IntKind} {a b : Int} (h : a = b) : Ending.returned (.int k a) = .returned (.int k b) := by rw [h]

set_option maxHeartbeats 400000 in
theorem letter_core (z : Int) (w : World) : Calls Try.prog 32 #[.int .u8 z] w fun e w' => e = .returned (.bool (decide (97 ≤ z) && decide (z ≤ 122))) ∧ w' = w := by
  go_enter Try.func32, Try.ntmps32
  go_wp2_with fail
  all_goals go_ret
  all_goals exact ⟨ret_bool (by simp; omega), rfl⟩
set_option maxHeartbeats 400000 in
theorem digit_core (z : Int) (w : World) : Calls Try.prog 34 #[.int .u8 z] w fun e w' => e = .returned (.bool (decide (48 ≤ z) && decide (z ≤ 57))) ∧ w' = w := by
  go_enter Try.func34, Try.ntmps34
  go_wp2_with fail
  all_goals go_ret
  all_goals exact ⟨ret_bool (by simp; omega), rfl⟩
set_option maxHeartbeats 400000 in
theorem between_core (z : Int) (w : World) : Calls Try.prog 20 #[.int .u8 z] w fun e w' => e = .returned (.bool (decide (z = 32) || decide (z = 10))) ∧ w' = w := by
  go_enter Try.func20, Try.ntmps20
  go_wp2_with fail
  all_goals go_ret
  all_goals exact ⟨ret_bool (by simp_all [beq_eq_decide]), rfl⟩
set_option maxHeartbeats 400000 in
theorem rword_core (z : Int) (w : World) : Calls Try.prog 14 #[.int .u8 z] w fun e w' => e = .returned (.bool (decide (97 ≤ z) && decide (z ≤ 122))) ∧ w' = w := by
  go_enter Try.func14, Try.ntmps14
  go_wp2_with fail
  all_goals go_ret
  all_goals exact ⟨ret_bool (by simp; omega), rfl⟩
set_option maxHeartbeats 400000 in
theorem rdigit_core (z : Int) (w : World) : Calls Try.prog 15 #[.int .u8 z] w fun e w' => e = .returned (.bool (decide (48 ≤ z) && decide (z ≤ 57))) ∧ w' = w := by
  go_enter Try.func15, Try.ntmps15
  go_wp2_with fail
  all_goals go_ret
  all_goals exact ⟨ret_bool (by simp; omega), rfl⟩
set_option maxHeartbeats 1000000 in
theorem rpair_core (x y : Int) (w : World) : Calls Try.prog 16 #[.int .u8 x, .int .u8 y] w fun e w' => e = .returned (.bool (decide (x = 46) && decide (y = 46) || (decide (x = 33) || decide (x = 60) || decide (x = 62)) && decide (y = 61))) ∧ w' = w := by
  go_enter Try.func16, Try.ntmps16
  go_wp2_with fail
  all_goals go_ret
  all_goals exact ⟨ret_bool (by simp_all [beq_eq_decide]), rfl⟩

theorem eqn {a b : Nat} : decide ((a : Int) = (b : Int)) = decide (a = b) := by
  rw [Bool.eq_iff_iff]; simp only [decide_eq_true_eq]; omega
theorem letter_any (c : UInt8) (w : World) : Calls Try.prog 32 #[.int .u8 (c.toNat : Int)] w fun e w' => e = .returned (.bool (letter c)) ∧ w' = w := by
  refine (letter_core (c.toNat : Int) w).mono ?_
  rintro e w' ⟨rfl, rfl⟩
  refine ⟨ret_bool ?_, rfl⟩
  unfold letter
  rw [Bool.eq_iff_iff]; simp; omega
theorem digit_any (c : UInt8) (w : World) : Calls Try.prog 34 #[.int .u8 (c.toNat : Int)] w fun e w' => e = .returned (.bool (digit c)) ∧ w' = w := by
  refine (digit_core (c.toNat : Int) w).mono ?_
  rintro e w' ⟨rfl, rfl⟩
  refine ⟨ret_bool ?_, rfl⟩
  unfold digit
  rw [Bool.eq_iff_iff]; simp; omega
theorem between_any (c : UInt8) (w : World) : Calls Try.prog 20 #[.int .u8 (c.toNat : Int)] w fun e w' => e = .returned (.bool (between c)) ∧ w' = w := by
  refine (between_core (c.toNat : Int) w).mono ?_
  rintro e w' ⟨rfl, rfl⟩
  refine ⟨ret_bool ?_, rfl⟩
  unfold between
  rw [Bool.eq_iff_iff]; simp; omega
theorem rword_any (c : UInt8) (w : World) : Calls Try.prog 14 #[.int .u8 (c.toNat : Int)] w fun e w' => e = .returned (.bool (letter c)) ∧ w' = w := by
  refine (rword_core (c.toNat : Int) w).mono ?_
  rintro e w' ⟨rfl, rfl⟩
  refine ⟨ret_bool ?_, rfl⟩
  unfold letter
  rw [Bool.eq_iff_iff]; simp; omega
theorem rdigit_any (c : UInt8) (w : World) : Calls Try.prog 15 #[.int .u8 (c.toNat : Int)] w fun e w' => e = .returned (.bool (digit c)) ∧ w' = w := by
  refine (rdigit_core (c.toNat : Int) w).mono ?_
  rintro e w' ⟨rfl, rfl⟩
  refine ⟨ret_bool ?_, rfl⟩
  unfold digit
  rw [Bool.eq_iff_iff]; simp; omega
theorem rpair_any (a b : UInt8) (w : World) : Calls Try.prog 16 #[.int .u8 (a.toNat : Int), .int .u8 (b.toNat : Int)] w fun e w' => e = .returned (.bool (isPair a b)) ∧ w' = w := by
  refine (rpair_core (a.toNat : Int) (b.toNat : Int) w).mono ?_
  rintro e w' ⟨rfl, rfl⟩
  refine ⟨ret_bool ?_, rfl⟩
  unfold isPair
  rw [Bool.eq_iff_iff]; simp; omega

/- is a byte a mark: the document's -/
def ones : List Nat := [44, 59, 58, 91, 93, 61, 60, 62, 43, 45, 42]
structure OnesAt (w wr : World) : Prop where
  below : Below w.heap.size w wr
  cell : ∀ k, k < 11 → wr.cell? ⟨w.heap.size, k, none⟩ = some (.int .u8 (ones.getD k 0 : Nat))
theorem ones_at (w : World) : OnesAt w (w.alloc (.cells #[.int .u8 44, .int .u8 59, .int .u8 58, .int .u8 91, .int .u8 93, .int .u8 61, .int .u8 60, .int .u8 62, .int .u8 43, .int .u8 45, .int .u8 42] 5)) :=
  ⟨(Below.refl _ w).alloc (Nat.le_refl _) _, fun k hk => by
    rw [World.cell?_alloc_mark]
    match k, hk with
    | 0, _ => rfl
    | 1, _ => rfl
    | 2, _ => rfl
    | 3, _ => rfl
    | 4, _ => rfl
    | 5, _ => rfl
    | 6, _ => rfl
    | 7, _ => rfl
    | 8, _ => rfl
    | 9, _ => rfl
    | 10, _ => rfl⟩
theorem ones_has {n : Nat} (h : ∀ j, j < 11 → ones.getD j 0 ≠ n) : ones.contains n = false := by
  cases e : ones.contains n
  · rfl
  · obtain ⟨j, hj, e⟩ := List.getElem_of_mem (List.contains_iff_mem.1 e)
    have hj2 : j < 11 := hj
    exact absurd (by simp [hj, e]) (h j hj2)
set_option maxHeartbeats 1000000 in
theorem rone_core (n : Nat) (w : World) (hn : n < 256) : Calls Try.prog 17 #[.int .u8 (n : Int)] w fun e w' => e = .returned (.bool (ones.contains n)) ∧ Below w.heap.size w w' := by
  obtain ⟨R, hR⟩ : ∃ R, R = ones.contains n := ⟨_, rfl⟩
  rw [← hR]
  have HR := Lib.hid hR
  have HO := Lib.hid (ones_at w)
  have HZ := Lib.hid (show ∀ j, j < 0 → ones.getD j 0 ≠ n from fun j h => by omega)
  clear hR
  go_enter Try.func17, Try.ntmps17
  go_wp2
  go_loopw [4] (fun i wr => ∃ k : Nat, k ≤ 11 ∧ i = .int .i64 k ∧ (∀ j, j < k → ones.getD j 0 ≠ n) ∧ OnesAt w wr) (fun i _ => 11 - (intOf i).toNat)
  case atStart => exact ⟨0, by omega, rfl, HZ.out, HO.out⟩
  case round =>
    obtain ⟨k, hk, rfl, hne, hat⟩ := hrel
    by_cases hlt : k < 11
    · have c0 := hat.cell k hlt
      have HB := Lib.hid hat
      have HE := Lib.hid hne
      have hin : ones.getD k 0 ∈ ones := by
        rw [List.getD_eq_getElem?_getD, List.getElem?_eq_getElem (show k < ones.length from hlt)]
        exact List.getElem_mem _
      obtain ⟨x, ex⟩ : ∃ x, x = ones.getD k 0 := ⟨_, rfl⟩
      rw [← ex] at c0 hin
      have HX := Lib.hid ex
      have HI := Lib.hid hin
      clear hat hne ex hin
      by_cases hx : x = n
      · subst hx
        have e0 : ((x : Int) == (x : Int)) = true := beq_self_eq_true _
        go_wp2_with fail
        go_ret
        exact ⟨ret_bool (by rw [HR.out]; exact (List.contains_iff_mem.2 HI.out).symm), HB.out.below⟩
      · have e0 : ((x : Int) == (n : Int)) = false := beq_eq_false_iff_ne.2 (by omega)
        have HK := Lib.hid (show ∀ j, j < k + 1 → ones.getD j 0 ≠ n from fun j hj => by
          by_cases h : j < k
          · exact HE.out j h
          · obtain rfl : j = k := by omega
            rw [← HX.out]; exact hx)
        go_wp2_with fail
        go_roundw
        case rel => exact ⟨k + 1, by omega, by go_num, HK.out, HB.out⟩
        case measure => simp [intOf]; omega
    · have HB := Lib.hid hat
      obtain rfl : k = 11 := by omega
      have HE := Lib.hid hne
      clear hat hne
      go_wp2
      go_ret
      exact ⟨ret_bool (by rw [HR.out]; exact (ones_has HE.out).symm), HB.out.below⟩
theorem u8_lt (c : UInt8) : c.toNat < 256 := UInt8.toNat_lt c
theorem rone_any (c : UInt8) (w : World) : Calls Try.prog 17 #[.int .u8 (c.toNat : Int)] w fun e w' => e = .returned (.bool (isOne c)) ∧ Below w.heap.size w w' :=
  rone_core c.toNat w (u8_lt c)

/- the program's: a byte's place in a text -/
theorem index_ge (c : UInt8) : ∀ l : List UInt8, decide (0 ≤ Lib.indexByte l c) = (l.contains c)
  | [] => rfl
  | b :: l => by
    have ih := index_ge c l
    have hg := Lib.indexByte_ge l c
    unfold Lib.indexByte
    rw [List.contains_cons]
    by_cases h : (b == c) = true
    · have h2 : (c == b) = true := by rw [beq_iff_eq] at h ⊢; exact h.symm
      simp [h, h2]
    · have h2 : (c == b) = false := by
        rw [beq_eq_false_iff_ne]
        intro e
        exact h (beq_iff_eq.2 e.symm)
      rw [if_neg h, h2, Bool.false_or, ← ih]
      split
      · rename_i e
        rw [beq_iff_eq] at e
        rw [e]
      · rename_i e
        rw [beq_iff_eq] at e
        rw [Bool.eq_iff_iff]; simp; omega
end Go.Proofs.Ytfkakdpppejehaa.Sc
