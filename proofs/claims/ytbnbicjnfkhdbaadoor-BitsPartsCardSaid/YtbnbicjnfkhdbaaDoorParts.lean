/-
  BitsParts answers true, at every two sets and every two numbers, where the table of the library lies in its variable.
-/
import Derived.Test.YtbnbicjnfkhdbaaDoorNext
namespace Go.Proofs.YtbnbicjnfkhdbaaDoor
open Go.RowKit

theorem filter_parts {α : Type} (p q : α → Bool) : ∀ l : List α, (l.filter (fun k => p k || q k)).length + (l.filter (fun k => p k && q k)).length = (l.filter p).length + (l.filter q).length
  | [] => by simp
  | x :: l => by
    have h := filter_parts p q l
    simp only [List.filter_cons]
    cases p x <;> cases q x <;> simp <;> omega
theorem filter_not {α : Type} (p : α → Bool) : ∀ l : List α, (l.filter (fun k => !p k)).length + (l.filter p).length = l.length
  | [] => by simp
  | x :: l => by
    have h := filter_not p l
    simp only [List.filter_cons]
    cases p x <;> simp <;> omega

theorem count_parts (a b : Nat) : (mem 64 (a ||| b)).length + (mem 64 (a &&& b)).length = (mem 64 a).length + (mem 64 b).length := by
  have h := filter_parts (fun k => a.testBit k) (fun k => b.testBit k) (List.range 64)
  unfold mem
  simp only [Nat.testBit_or, Nat.testBit_and]
  exact h
theorem count_not (a : Nat) (ha : a < 18446744073709551616) : (mem 64 (18446744073709551615 - a)).length + (mem 64 a).length = 64 := by
  have h := filter_not (fun k => a.testBit k) (List.range 64)
  rw [List.length_range] at h
  have e : mem 64 (18446744073709551615 - a) = (List.range 64).filter (fun k => !a.testBit k) := by
    unfold mem
    apply List.filter_congr
    intro k hk
    exact not_bit (by simpa using hk) ha
  rw [e]
  exact h

theorem flip_nat (a : Nat) (ha : a < 18446744073709551616) : bits .xor .u64 IntKind.u64.max (a : Int) = ((18446744073709551615 - a : Nat) : Int) := by
  have h := bits_xor_u64_nat 18446744073709551615 a (by omega) ha
  have e : 18446744073709551615 ^^^ a = 18446744073709551615 - a := by
    refine same_bits (Nat.xor_lt_two_pow (n := 64) (by omega) ha) (by omega) fun k hk => ?_
    rw [Nat.testBit_xor, not_bit hk ha, show (18446744073709551615 : Nat) = 2 ^ 64 - 1 from rfl, Nat.testBit_two_pow_sub_one]
    simp [hk]
  rw [e] at h
  exact h

theorem upto_low (low high : Int) (h : high < 0) : betweenN low high = 0 := by
  have e := between_eq low high (high + 1) (by omega)
  rw [first_low (high + 1) (by omega), Nat.zero_and] at e
  exact e.symm

set_option maxRecDepth 100000 in
set_option maxHeartbeats 1000000 in
theorem parts_law (a b : Nat) (ha : a < 18446744073709551616) (hb : b < 18446744073709551616) (low high : Int) (hh : -9223372036854775808 ≤ high) (w : World) (hT : Tab w) (h0 : 0 < w.heap.size) :
    Calls Tryd.prog 5 #[.int .u64 a, .int .u64 b, .int .i64 low, .int .i64 high] w (Yes w) := by
  have A := Lib.hid (awake_any w hT h0)
  obtain ⟨n1, e1⟩ : ∃ n, (mem 64 (a ||| b)).length = n := ⟨_, rfl⟩
  obtain ⟨n2, e2⟩ : ∃ n, (mem 64 a).length = n := ⟨_, rfl⟩
  obtain ⟨n3, e3⟩ : ∃ n, (mem 64 b).length = n := ⟨_, rfl⟩
  obtain ⟨n4, e4⟩ : ∃ n, (mem 64 (a &&& b)).length = n := ⟨_, rfl⟩
  obtain ⟨n5, e5⟩ : ∃ n, (mem 64 (18446744073709551615 - a)).length = n := ⟨_, rfl⟩
  have s1 := count_parts a b
  have s2 := count_not a ha
  rw [e1, e2, e3, e4] at s1
  rw [e2, e5] at s2
  have b1 := mem_length_le 64 a
  have b2 := mem_length_le 64 b
  have b3 := mem_length_le 64 (a &&& b)
  rw [e2] at b1
  rw [e3] at b2
  rw [e4] at b3
  have c1 := Lib.hid (count_is (a ||| b) n1 (Nat.or_lt_two_pow (n := 64) ha hb) e1)
  have c2 := Lib.hid (count_is a n2 ha e2)
  have c3 := Lib.hid (count_is b n3 hb e3)
  have c4 := Lib.hid (count_is (a &&& b) n4 (Nat.lt_of_le_of_lt Nat.and_le_left ha) e4)
  have c5 := Lib.hid (count_is (18446744073709551615 - a) n5 (by omega) e5)
  have f1 := Lib.hid (bits_or_u64_nat a b ha hb)
  have f2 := Lib.hid (bits_and_u64_nat a b ha hb)
  have f3 := Lib.hid (flip_nat a ha)
  have B := Lib.hid (between_any low high hh)
  have F := Lib.hid (first_any low)
  have F64 := Lib.hid (first_any 64)
  have FH := Lib.hid (first_any (high + 1))
  have g1 := Lib.hid (u64_andNot_nat (firstN (high + 1)) (firstN low) (first_lt _) (first_lt _))
  have g2 : Hid (bits .andNot .u64 0 (firstN low : Nat) = ((0 &&& (18446744073709551615 - firstN low) : Nat) : Int)) := u64_andNot_nat 0 (firstN low) (by omega) (first_lt _)
  have g3 := Lib.hid (u64_andNot_nat (firstN 64) (firstN low) (first_lt _) (first_lt _))
  have k1 := Lib.hid (between_eq low high (high + 1))
  have k2 := Lib.hid (upto_low low high)
  have k3 := Lib.hid (between_eq low high 64)
  clear e1 e2 e3 e4 e5 hT h0
  go_enter Tryd.func5, Tryd.ntmps5
  go_wp2_with fail
  refine A.out.mono ?_
  rintro e w1 ⟨rfl, hB⟩
  have HB := Lib.hid hB
  clear hB
  go_wp2_with fail
  rw [f1.out]
  refine (c1.out _).mono ?_
  rintro e w' ⟨rfl, rfl⟩
  go_wp2_with fail
  refine (c2.out _).mono ?_
  rintro e w' ⟨rfl, rfl⟩
  go_wp2_with fail
  refine (c3.out _).mono ?_
  rintro e w' ⟨rfl, rfl⟩
  go_wp2_with fail
  rw [f2.out]
  refine (c4.out _).mono ?_
  rintro e w' ⟨rfl, rfl⟩
  go_wp2_with fail
  rw [f3.out]
  refine (c5.out _).mono ?_
  rintro e w' ⟨rfl, rfl⟩
  go_wp2_with fail
  refine (c2.out _).mono ?_
  rintro e w' ⟨rfl, rfl⟩
  go_wp2_with fail
  refine (F64.out _).mono ?_
  rintro e w' ⟨rfl, rfl⟩
  go_wp2_with fail
  · have h1 : high < 64 := by assumption
    have K := Lib.hid (k1.out (by omega))
    refine (FH.out _).mono ?_
    rintro e w' ⟨rfl, rfl⟩
    go_wp2_with fail
    refine (B.out _).mono ?_
    rintro e w' ⟨rfl, rfl⟩
    go_wp2_with fail
    refine (F.out _).mono ?_
    rintro e w' ⟨rfl, rfl⟩
    go_wp2_with fail
    go_ret
    exact ⟨ret_bool (by rw [g1.out, K.out]; simp), HB.out⟩
  · have h1 : high < 0 := by assumption
    have K := Lib.hid (k2.out h1)
    refine (B.out _).mono ?_
    rintro e w' ⟨rfl, rfl⟩
    go_wp2_with fail
    refine (F.out _).mono ?_
    rintro e w' ⟨rfl, rfl⟩
    go_wp2_with fail
    go_ret
    exact ⟨ret_bool (by rw [g2.out, K.out]; simp), HB.out⟩
  · have h1 : 64 ≤ high := by assumption
    have K := Lib.hid (k3.out (by omega))
    refine (B.out _).mono ?_
    rintro e w' ⟨rfl, rfl⟩
    go_wp2_with fail
    refine (F.out _).mono ?_
    rintro e w' ⟨rfl, rfl⟩
    go_wp2_with fail
    go_ret
    exact ⟨ret_bool (by rw [g3.out, K.out]; simp), HB.out⟩
end Go.Proofs.YtbnbicjnfkhdbaaDoor
