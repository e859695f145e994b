/-
  What Of of the program answers, and Has and Same of the document's answers, at every slice that can be read.
-/
import Derived.Test.YtbnbicjnfkhdbaaDoorLeaf
import Derived.Deep.QuietTactic
import Derived.BigQuiet
import Derived.LoopTactic
namespace Go.Proofs.YtbnbicjnfkhdbaaDoor
open Go.RowKit

/-- the slice value v reads as the numbers xs -/
def Reads (w : World) (v : Value) (xs : List Int) : Prop :=
  (∃ (p : Option Addr) (c : Nat), v = .slice p 0 c ∧ xs = []) ∨ ∃ (b off cap : Nat), v = .slice (some ⟨b, off, none⟩) xs.length cap ∧ ∀ k, k < xs.length → w.cell? ⟨b, off + k, none⟩ = some (.int .i64 (xs.getD k 0))

/-- the set of the numbers of l from 0 to 63 -/
def ofN (l : List Int) : Nat := mk 64 (fun k => decide ((k : Int) ∈ l))
theorem of_lt (l : List Int) : ofN l < 18446744073709551616 := mk_lt 64 _

theorem of_step (l : List Int) (x : Int) : ofN l ||| betweenN x x = ofN (l ++ [x]) := by
  refine same_bits (Nat.or_lt_two_pow (n := 64) (of_lt l) (between_lt x x)) (of_lt _) fun k hk => ?_
  rw [Nat.testBit_or, ofN, ofN, betweenN, mk_bit, mk_bit, mk_bit, Bool.eq_iff_iff]
  by_cases hm : (k : Int) ∈ l <;> simp [hm, hk]
  omega
theorem of_none : ofN [] = 0 := by
  refine same_bits (of_lt []) (by omega) fun k _ => ?_
  rw [ofN, mk_bit, Nat.zero_testBit]
  simp

theorem take_on {xs : List Int} {k : Nat} (h : k < xs.length) : xs.take k ++ [xs.getD k 0] = xs.take (k + 1) := by
  rw [List.take_add_one, List.getD_eq_getElem?_getD, List.getElem?_eq_getElem h]
  rfl

def OfRel (xs : List Int) (b i : Value) : Prop :=
  ∃ k : Nat, k ≤ xs.length ∧ i = .int .i64 k ∧ b = .int .u64 (ofN (xs.take k) : Nat)

set_option maxHeartbeats 400000 in
theorem of_some (b off c : Nat) (xs : List Int) (w : World) (hm : xs.length ≤ maxLen)
    (hx : ∀ k, k < xs.length → w.cell? ⟨b, off + k, none⟩ = some (.int .i64 (xs.getD k 0)))
    (fx : ∀ k, k < xs.length → -9223372036854775808 ≤ xs.getD k 0 ∧ xs.getD k 0 ≤ 9223372036854775807) :
    Calls Tryd.prog 18 #[.slice (some ⟨b, off, none⟩) xs.length c] w fun e w' => e = .returned (.int .u64 (ofN xs : Nat)) ∧ w' = w := by
  unfold maxLen at hm
  have HX := Lib.hid hx
  have FX := Lib.hid fx
  clear hx fx
  obtain ⟨len, hl⟩ : ∃ len : Nat, len = xs.length := ⟨_, rfl⟩
  rw [← hl] at hm ⊢
  have HN := Lib.hid hl
  clear hl
  go_enter Tryd.func18, Tryd.ntmps18
  go_wp2
  go_loopw [3, 8] (fun b i wr => OfRel xs b i ∧ wr = w) (fun _ i _ => len - (intOf i).toNat)
  case atStart => exact ⟨⟨0, by omega, rfl, by rw [List.take_zero, of_none]; rfl⟩, rfl⟩
  case round =>
    obtain ⟨⟨k, hk, rfl, rfl⟩, rfl⟩ := hrel
    have hk' : k ≤ len := by have := HN.out; omega
    by_cases hlt : k < len
    · have hlx : k < xs.length := by have := HN.out; omega
      have cx : wr.cell? ⟨b, off + k, none⟩ = some (.int .i64 (xs.getD k 0)) := HX.out k hlx
      have gx := FX.out k hlx
      have R := Lib.hid ((of_step (xs.take k) (xs.getD k 0)).trans (by rw [take_on hlx]))
      have f := Lib.hid (bits_or_u64_nat (ofN (xs.take k)) (betweenN (xs.getD k 0) (xs.getD k 0)) (of_lt _) (between_lt _ _))
      have C := Lib.hid (between_any (xs.getD k 0) (xs.getD k 0) gx.1)
      obtain ⟨x, ex⟩ : ∃ x, x = xs.getD k 0 := ⟨_, rfl⟩
      rw [← ex] at cx gx R f C
      clear ex hlx
      go_wp2_with fail
      refine (C.out _).mono ?_
      rintro e w' ⟨rfl, rfl⟩
      go_wp2_with fail
      go_roundw
      case rel => exact ⟨⟨k + 1, by have := HN.out; omega, by go_num, by rw [f.out, R.out]⟩, trivial⟩
      case measure => simp [intOf]; omega
    · have R : Hid (ofN (xs.take k) = ofN xs) := by
        rw [List.take_of_length_le (by have := HN.out; omega)]; rfl
      go_wp2_with fail
      go_ret
      exact ⟨by rw [R.out]; rfl, rfl⟩

set_option maxHeartbeats 400000 in
theorem of_empty (p : Option Addr) (c : Nat) (w : World) :
    Calls Tryd.prog 18 #[.slice p 0 c] w fun e w' => e = .returned (.int .u64 (ofN [] : Nat)) ∧ w' = w := by
  rw [of_none]
  go_enter Tryd.func18, Tryd.ntmps18
  go_wp2
  go_loopw [3, 8] (fun b i wr => b = .int .u64 0 ∧ i = .int .i64 0 ∧ wr = w) (fun _ _ _ => 0)
  case atStart => exact ⟨rfl, rfl, rfl⟩
  case round =>
    obtain ⟨rfl, rfl, rfl⟩ := hrel
    go_wp2_with fail
    go_ret
    exact ⟨rfl, rfl⟩

/-- Of, at every slice that reads as numbers -/
theorem of_any (v : Value) (xs : List Int) (w : World) (hv : Reads w v xs) (hm : xs.length ≤ maxLen)
    (fx : ∀ k, k < xs.length → -9223372036854775808 ≤ xs.getD k 0 ∧ xs.getD k 0 ≤ 9223372036854775807) :
    Calls Tryd.prog 18 #[v] w fun e w' => e = .returned (.int .u64 (ofN xs : Nat)) ∧ w' = w := by
  rcases hv with ⟨p, c, rfl, rfl⟩ | ⟨b, off, c, rfl, hx⟩
  · exact of_empty p c w
  · exact of_some b off c xs w hm hx fx

theorem half_bit (x k : Nat) : (x / 2 ^ k % 2 = 1) = (x.testBit k = true) := by
  rw [Nat.testBit_eq_decide_div_mod_eq]
  simp

set_option maxHeartbeats 400000 in
/-- Has of the document's answers -/
theorem has_any (x k : Nat) (hx : x < 18446744073709551616) (hk : k < 64) (w : World) :
    Calls Tryd.prog 20 #[.int .u64 x, .int .i64 k] w fun e w' => e = .returned (.bool (x.testBit k)) ∧ w' = w := by
  go_enter Tryd.func20, Tryd.ntmps20
  go_wp2
  go_loopw [0, 5] (fun b i wr => (∃ j : Nat, j ≤ k ∧ i = .int .i64 j ∧ b = .int .u64 (x / 2 ^ j : Nat)) ∧ wr = w) (fun _ i _ => k - (intOf i).toNat)
  case atStart => exact ⟨⟨0, by omega, rfl, by simp⟩, rfl⟩
  case round =>
    obtain ⟨⟨j, hj, rfl, rfl⟩, rfl⟩ := hrel
    have hd : x / 2 ^ j < 18446744073709551616 := Nat.lt_of_le_of_lt (Nat.div_le_self _ _) hx
    by_cases hlt : j < k
    · have R : Hid (x / 2 ^ j / 2 = x / 2 ^ (j + 1)) := by rw [Nat.div_div_eq_div_mul, Nat.pow_succ]; rfl
      obtain ⟨y, hy⟩ : ∃ y, y = x / 2 ^ j := ⟨_, rfl⟩
      rw [← hy] at R hd ⊢
      clear hy
      go_wp2_with fail
      go_roundw
      case rel => exact ⟨⟨j + 1, by omega, by go_num, by rw [← R.out]; simp⟩, trivial⟩
      case measure => simp [intOf]; omega
    · have e : j = k := by omega
      subst e
      have R := Lib.hid (half_bit x j)
      obtain ⟨y, hy⟩ : ∃ y, y = x / 2 ^ j := ⟨_, rfl⟩
      rw [← hy] at R hd ⊢
      clear hy
      go_wp2_with fail
      go_ret
      refine ⟨ret_bool ?_, rfl⟩
      rw [Bool.eq_iff_iff, ← R.out]
      simp
      omega
end Go.Proofs.YtbnbicjnfkhdbaaDoor
