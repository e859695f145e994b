/-
  What OnesCount64, TrailingZeros64 and Len64 answer, and Count, Least, Greatest, First and Between of the program, at every input.
  What List of the program answers, at every set: a new slice of all of it, rising.
-/
import Derived.Test.YtakooocmnapjmaaDoorRows
import Derived.Test.YtakooocmnapjmaaDoorZYAD
import Derived.WalkKit
import Derived.ProofKit
import Derived.OpenShut
import Derived.Outline
import Derived.WalkMore
import Derived.Lib.Hide
import Derived.BigGuardPart
import Derived.Deep.DeepCutAuto
import Derived.Deep.Light
import Derived.Laws.BitsAllLaws
import Derived.Laws.Bits64b
import Derived.RangeFuncBox
import Derived.RangeFuncLeaves
import Derived.Shelf.Abstract
import Derived.OwnWalkIn
import Derived.TacticsInMore
import Derived.LoopNIn
import Derived.LoopIn
import Derived.Maps.AppendAt
namespace Go.Proofs.YtakooocmnapjmaaDoor.B
open Go.RowKit

theorem ret_int {k : IntKind} {a b : Int} (h : a = b) : Ending.returned (.int k a) = .returned (.int k b) := by rw [h]
theorem ret_bool {a b : Bool} (h : a = b) : Ending.returned (.bool a) = .returned (.bool b) := by rw [h]

set_option maxHeartbeats 1000000 in
theorem ones_core (x y1 y2 y3 y4 y5 y6 c : Nat) (w : World)
    (e1 : IntKind.u64.wrap (bits .and .u64 ((x : Int) / 2) 6148914691236517205 + bits .and .u64 (x : Int) 6148914691236517205) = (y1 : Int))
    (e2 : IntKind.u64.wrap (bits .and .u64 ((y1 : Int) / 4) 3689348814741910323 + bits .and .u64 (y1 : Int) 3689348814741910323) = (y2 : Int))
    (e3 : bits .and .u64 (IntKind.u64.wrap ((y2 : Int) / 16 + (y2 : Int))) 1085102592571150095 = (y3 : Int))
    (e4 : IntKind.u64.wrap ((y3 : Int) + (y3 : Int) / 256) = (y4 : Int))
    (e5 : IntKind.u64.wrap ((y4 : Int) + (y4 : Int) / 65536) = (y5 : Int))
    (e6 : IntKind.u64.wrap ((y5 : Int) + (y5 : Int) / 4294967296) = (y6 : Int))
    (e7 : bits .and .i64 (y6 : Int) 127 = (c : Int)) (h6 : y6 < 9223372036854775808) :
    Calls Tryd.prog 76 #[.int .u64 x] w fun e w' => e = .returned (.int .i64 c) ∧ w' = w := by
  go_enter Tryd.func76, Tryd.ntmps76
  go_wp2_with (simp only [e1, e2, e3, e4, e5, e6, e7])
  go_ret
  exact ⟨rfl, rfl⟩

theorem wrap_id (n : Nat) (h : n < 18446744073709551616) : IntKind.u64.wrap (n : Int) = (n : Int) := by
  rw [IntKind.wrap_u64]; omega

theorem and_127 (y : Nat) (h : y < 9223372036854775808) : bits .and .i64 (y : Int) 127 = ((y % 128 : Nat) : Int) := by
  have h1 : (BitVec.ofInt 64 (y : Int)).toNat = y := by
    rw [BitVec.ofInt_natCast, BitVec.toNat_ofNat]; exact Nat.mod_eq_of_lt (by omega)
  have h2 : (BitVec.ofInt 64 (127 : Int)).toNat = 127 := by decide
  show IntKind.i64.wrap ((BitVec.ofInt 64 (y : Int) &&& BitVec.ofInt 64 (127 : Int)).toNat : Int) = _
  rw [BitVec.toNat_and, h1, h2, show (127 : Nat) = 2 ^ 7 - 1 from rfl, Nat.and_two_pow_sub_one_eq_mod]
  simp only [IntKind.wrap, IntKind.signed, IntKind.bits]
  simp
  omega

theorem ones_any (x : Nat) (hx : x < 18446744073709551616) (w : World) :
    Calls Tryd.prog 76 #[.int .u64 x] w fun e w' => e = .returned (.int .i64 ((mem 64 x).length : Nat)) ∧ w' = w := by
  rw [mem_length]
  obtain ⟨y1, e1⟩ : ∃ y1, (x / 2 &&& 6148914691236517205) + (x &&& 6148914691236517205) = y1 := ⟨_, rfl⟩
  obtain ⟨y2, e2⟩ : ∃ y2, (y1 / 4 &&& 3689348814741910323) + (y1 &&& 3689348814741910323) = y2 := ⟨_, rfl⟩
  obtain ⟨y3, e3⟩ : ∃ y3, (y2 / 16 + y2) &&& 1085102592571150095 = y3 := ⟨_, rfl⟩
  obtain ⟨y4, y5, y6, e4, e5, e6, h6, e7⟩ := ones x y1 y2 y3 e1 e2 e3
  have a1 : x / 2 &&& 6148914691236517205 ≤ 6148914691236517205 := Nat.and_le_right
  have a2 : x &&& 6148914691236517205 ≤ 6148914691236517205 := Nat.and_le_right
  have b1 : y1 / 4 &&& 3689348814741910323 ≤ 3689348814741910323 := Nat.and_le_right
  have b2 : y1 &&& 3689348814741910323 ≤ 3689348814741910323 := Nat.and_le_right
  have h1 : y1 < 18446744073709551616 := by omega
  have h2 : y2 ≤ 7378697629483820646 := by omega
  rw [← e7]
  refine ones_core x y1 y2 y3 y4 y5 y6 _ w ?_ ?_ ?_ ?_ ?_ ?_ (and_127 y6 h6) h6
  · have r : bits .and .u64 ((x / 2 : Nat) : Int) 6148914691236517205 = ((x / 2 &&& 6148914691236517205 : Nat) : Int) := bits_and_u64_nat (x / 2) 6148914691236517205 (by omega) (by omega)
    have t : bits .and .u64 (x : Int) 6148914691236517205 = ((x &&& 6148914691236517205 : Nat) : Int) := bits_and_u64_nat x 6148914691236517205 (by omega) (by omega)
    rw [show ((x / 2 : Nat) : Int) = (x : Int) / 2 from by omega] at r
    rw [r, t, ← Int.natCast_add, e1, wrap_id _ h1]
  · have r : bits .and .u64 ((y1 / 4 : Nat) : Int) 3689348814741910323 = ((y1 / 4 &&& 3689348814741910323 : Nat) : Int) := bits_and_u64_nat (y1 / 4) 3689348814741910323 (by omega) (by omega)
    have t : bits .and .u64 (y1 : Int) 3689348814741910323 = ((y1 &&& 3689348814741910323 : Nat) : Int) := bits_and_u64_nat y1 3689348814741910323 (by omega) (by omega)
    rw [show ((y1 / 4 : Nat) : Int) = (y1 : Int) / 4 from by omega] at r
    rw [r, t, ← Int.natCast_add, e2, wrap_id _ (by omega)]
  · have r : bits .and .u64 ((y2 / 16 + y2 : Nat) : Int) 1085102592571150095 = (((y2 / 16 + y2) &&& 1085102592571150095 : Nat) : Int) := bits_and_u64_nat (y2 / 16 + y2) 1085102592571150095 (by omega) (by omega)
    rw [show (y2 : Int) / 16 + (y2 : Int) = ((y2 / 16 + y2 : Nat) : Int) from by omega, wrap_id _ (by omega), r, e3]
  · rw [show (y3 : Int) + (y3 : Int) / 256 = ((y3 + y3 / 256 : Nat) : Int) from by omega, e4, wrap_id _ (by omega)]
  · rw [show (y4 : Int) + (y4 : Int) / 65536 = ((y4 + y4 / 65536 : Nat) : Int) from by omega, e5, wrap_id _ (by omega)]
  · rw [show (y5 : Int) + (y5 : Int) / 4294967296 = ((y5 + y5 / 4294967296 : Nat) : Int) from by omega, e6, wrap_id _ (by omega)]

/-- the table of the library in its variable -/
def Tab (w : World) : Prop := ∀ j, j < 64 → w.cell? ⟨0, j, none⟩ = some (.int .u8 (Lib.deBruijn64tab.getD j 0))

set_option maxHeartbeats 1000000 in
theorem tz_core (x k idx : Nat) (w : World) (hx0 : ((x : Int) == 0) = false)
    (key : IntKind.u64.wrap (bits .and .u64 (x : Int) (IntKind.u64.wrap (-(x : Int))) * 285870213051353865) / 288230376151711744 = (idx : Int))
    (hi : idx < 64) (hk : k < 64) (hcell : w.cell? ⟨0, idx, none⟩ = some (.int .u8 k)) :
    Calls Tryd.prog 85 #[.int .u64 x] w fun e w' => e = .returned (.int .i64 k) ∧ w' = w := by
  go_enter Tryd.func85, Tryd.ntmps85
  go_wp2_with (simp only [key])
  go_ret
  exact ⟨rfl, rfl⟩

theorem tz_any (x : Nat) (hx : x < 18446744073709551616) (hx0 : x ≠ 0) (w : World) (hT : Tab w) :
    Calls Tryd.prog 85 #[.int .u64 x] w fun e w' => e = .returned (.int .i64 (Lib.ctzFrom 64 x : Nat)) ∧ w' = w := by
  have same : Lib.ctz 64 x = Lib.ctzFrom 64 x := if_neg hx0
  have low := Lib.lowest_bit 64 x hx0 hx
  rw [same] at low
  have spot := Lib.deBruijn64_at (Lib.ctzFrom 64 x) low.2
  obtain ⟨d, hd⟩ : ∃ d, 2 ^ Lib.ctzFrom 64 x = d := ⟨_, rfl⟩
  rw [hd] at low spot
  have cell := hT _ spot.1
  rw [spot.2] at cell
  have minus : IntKind.u64.wrap (-(x : Int)) = ((2 ^ 64 - x : Nat) : Int) := by
    rw [IntKind.wrap_u64]
    omega
  refine tz_core x _ _ w (by simpa using hx0) ?_ spot.1 low.2 cell
  rw [minus, bits_and_u64_nat x (2 ^ 64 - x) hx (by omega), low.1, IntKind.wrap_u64]
  clear hd minus spot low cell hT
  omega

/-- the first of a list; -1, if there is none -/
def headZ (l : List Nat) : Int := l.head?.elim (-1) (fun k => (k : Int))
/-- the last of a list; -1, if there is none -/
def lastZ (l : List Nat) : Int := l.getLast?.elim (-1) (fun k => (k : Int))
/-- all from 0 to 63 that are less than n -/
def firstN (n : Int) : Nat := mk 64 (fun k => decide ((k : Int) < n))
/-- all from 0 to 63, no less than low, and no more than high -/
def betweenN (low high : Int) : Nat := mk 64 (fun k => decide (low ≤ (k : Int)) && decide ((k : Int) ≤ high))

theorem least_eq (x : Nat) (hx : x < 18446744073709551616) (h0 : x ≠ 0) : headZ (mem 64 x) = (Lib.ctzFrom 64 x : Nat) := by
  rw [mem_cons 64 x h0 hx]
  rfl
theorem least_none : headZ (mem 64 0) = -1 := by
  rw [mem_none]
  rfl
theorem greatest_eq (x : Nat) (hx : x < 18446744073709551616) : lastZ (mem 64 x) = (Lib.bitLen x : Int) - 1 := by
  by_cases h0 : x = 0
  · subst h0
    rw [mem_none]
    decide
  · obtain ⟨l, hl, hp⟩ := mem_last 64 x h0 hx
    rw [hl]
    unfold lastZ Lib.bitLen
    simp
    omega

theorem count_any (x : Nat) (hx : x < 18446744073709551616) (w : World) :
    Calls Tryd.prog 65 #[.int .u64 x] w fun e w' => e = .returned (.int .i64 ((mem 64 x).length : Nat)) ∧ w' = w := by
  have c := Lib.hid (ones_any x hx)
  go_enter Tryd.func65, Tryd.ntmps65
  go_wp2_with fail
  refine (c.out _).mono ?_
  rintro e w' ⟨rfl, rfl⟩
  go_wp2_with fail
  go_ret
  exact ⟨rfl, rfl⟩

theorem least_any (x : Nat) (hx : x < 18446744073709551616) (w : World) (hT : Tab w) :
    Calls Tryd.prog 78 #[.int .u64 x] w fun e w' => e = .returned (.int .i64 (headZ (mem 64 x))) ∧ w' = w := by
  by_cases h0 : x = 0
  · subst h0
    rw [least_none]
    go_enter Tryd.func78, Tryd.ntmps78
    go_wp2_with fail
    go_ret
    exact ⟨rfl, rfl⟩
  · rw [least_eq x hx h0]
    have c := Lib.hid (tz_any x hx h0 w hT)
    have h0' : ((x : Int) == 0) = false := by simp; omega
    clear hT
    go_enter Tryd.func78, Tryd.ntmps78
    go_wp2_with fail
    refine c.out.mono ?_
    rintro e w' ⟨rfl, rfl⟩
    go_wp2_with fail
    go_ret
    exact ⟨rfl, rfl⟩

theorem greatest_any (x : Nat) (hx : x < 18446744073709551616) (w : World) :
    Calls Tryd.prog 62 #[.int .u64 x] w fun e w' => e = .returned (.int .i64 (lastZ (mem 64 x))) ∧ w' = w := by
  rw [greatest_eq x hx]
  have c := Lib.hid (len_any x w (by omega) (by omega))
  have hb : Lib.bitLen x ≤ 64 := Lib.bitLen_le x 64 (by omega) hx
  obtain ⟨n, hn⟩ : ∃ n, Lib.bitLen x = n := ⟨_, rfl⟩
  rw [hn] at hb ⊢
  have c' : Hid (Calls Tryd.prog 75 #[.int .u64 x] w fun e w' => e = .returned (.int .i64 n) ∧ w' = w) := by rw [← hn]; exact c
  clear c hn
  go_enter Tryd.func62, Tryd.ntmps62
  go_wp2_with fail
  refine c'.out.mono ?_
  rintro e w' ⟨rfl, rfl⟩
  go_wp2_with fail
  go_ret
  exact ⟨rfl, rfl⟩

theorem first_low (n : Int) (h : n ≤ 0) : firstN n = 0 := by
  refine same_bits (mk_lt 64 _) (by omega) fun k _ => ?_
  rw [firstN, mk_bit, Nat.zero_testBit]
  simp
  omega
theorem first_high (n : Int) (h : 63 < n) : firstN n = 18446744073709551615 := by
  refine same_bits (mk_lt 64 _) (by omega) fun k hk => ?_
  rw [firstN, mk_bit, show (18446744073709551615 : Nat) = 2 ^ 64 - 1 from rfl, Nat.testBit_two_pow_sub_one]
  simp [hk]
  omega
theorem first_mid (n : Int) (h : 0 < n) (h' : n ≤ 63) : firstN n = 2 ^ n.toNat - 1 := by
  have hp : 2 ^ n.toNat ≤ 2 ^ 64 := Nat.pow_le_pow_right (by decide) (by omega)
  refine same_bits (mk_lt 64 _) (by omega) fun k hk => ?_
  rw [firstN, mk_bit, Nat.testBit_two_pow_sub_one]
  simp [hk]

theorem first_any (n : Int) (w : World) :
    Calls Tryd.prog 90 #[.int .i64 n] w fun e w' => e = .returned (.int .u64 (firstN n : Nat)) ∧ w' = w := by
  have h1 := Lib.hid (first_low n)
  have h2 := Lib.hid (first_high n)
  have h3 := Lib.hid (first_mid n)
  go_enter Tryd.func90, Tryd.ntmps90
  go_wp2_with fail
  · go_ret
    have h : n ≤ 0 := by assumption
    exact ⟨by rw [h1.out h]; rfl, rfl⟩
  · go_ret
    have h : 63 < n := by assumption
    exact ⟨by rw [h2.out h]; rfl, rfl⟩
  · go_ret
    have h : 0 < n := by assumption
    have h' : n ≤ 63 := by assumption
    refine ⟨ret_int ?_, rfl⟩
    rw [h3.out h h']
    have hp : 2 ^ n.toNat ≤ 2 ^ 63 := Nat.pow_le_pow_right (by decide) (by omega)
    have hq : 0 < 2 ^ n.toNat := Nat.two_pow_pos _
    have e : (2 : Int) ^ n.toNat = ((2 ^ n.toNat : Nat) : Int) := by simp
    rw [e]
    generalize 2 ^ n.toNat = q at hp hq
    rw [IntKind.wrap_u64, IntKind.wrap_u64]
    omega

theorem first_lt (n : Int) : firstN n < 18446744073709551616 := mk_lt 64 _
theorem between_lt (a b : Int) : betweenN a b < 18446744073709551616 := mk_lt 64 _

theorem not_bit {y k : Nat} (h : k < 64) (hy : y < 18446744073709551616) : (18446744073709551615 - y).testBit k = !y.testBit k := by
  have := Nat.testBit_two_pow_sub_succ (n := 64) (x := y) hy k
  rw [show 2 ^ 64 - (y + 1) = 18446744073709551615 - y from by omega] at this
  rw [this]
  simp [h]

theorem between_eq (low high m : Int) (hm : m = min high 63 + 1) : firstN m &&& (18446744073709551615 - firstN low) = betweenN low high := by
  refine same_bits (Nat.lt_of_le_of_lt Nat.and_le_left (first_lt m)) (between_lt low high) fun k hk => ?_
  rw [Nat.testBit_and, not_bit hk (first_lt low), firstN, firstN, betweenN, mk_bit, mk_bit, mk_bit, Bool.eq_iff_iff]
  simp [hk]
  omega

theorem between_any (low high : Int) (hh : -9223372036854775808 ≤ high) (w : World) :
    Calls Tryd.prog 87 #[.int .i64 low, .int .i64 high] w fun e w' => e = .returned (.int .u64 (betweenN low high : Nat)) ∧ w' = w := by
  have c2 := Lib.hid (first_any low)
  by_cases h : 63 < high
  · have e := Lib.hid (between_eq low high 64 (by omega))
    have f := Lib.hid (u64_andNot_nat (firstN 64) (firstN low) (first_lt _) (first_lt _))
    have c1 := Lib.hid (first_any 64)
    have e64 : wrap64 64 = 64 := by unfold wrap64; omega
    go_enter Tryd.func87, Tryd.ntmps87
    go_wp2_with fail
    refine (c1.out _).mono ?_
    rintro e w' ⟨rfl, rfl⟩
    go_wp2_with fail
    refine (c2.out _).mono ?_
    rintro e w' ⟨rfl, rfl⟩
    go_wp2_with fail
    go_ret
    exact ⟨ret_int (by rw [f.out, e.out]), rfl⟩
  · have e := Lib.hid (between_eq low high (high + 1) (by omega))
    have f := Lib.hid (u64_andNot_nat (firstN (high + 1)) (firstN low) (first_lt _) (first_lt _))
    have c1 := Lib.hid (first_any (high + 1))
    go_enter Tryd.func87, Tryd.ntmps87
    go_wp2_with fail
    refine (c1.out _).mono ?_
    rintro e w' ⟨rfl, rfl⟩
    go_wp2_with fail
    refine (c2.out _).mono ?_
    rintro e w' ⟨rfl, rfl⟩
    go_wp2_with fail
    go_ret
    exact ⟨ret_int (by rw [f.out, e.out]), rfl⟩

end Go.Proofs.YtakooocmnapjmaaDoor.B
namespace Go.Proofs.YtakooocmnapjmaaDoor.B
open Go.RowKit Go.Shelf

attribute [local go_sem] Oper.semAt_some

/-- the numbers of a set as ints -/
def all (x : Nat) : List Int := (mem 64 x).map (fun k : Nat => (k : Int))

theorem Tab.below {n : Nat} {A B : World} (hT : Tab A) (hn : 0 < n) (h : Below n A B) : Tab B :=
  fun j hj => (h.cell (p := ⟨0, j, none⟩) hn).trans (hT j hj)

theorem all_cons (y : Nat) (hy : y < 18446744073709551616) (h0 : y ≠ 0) : all y = headZ (mem 64 y) :: all (y &&& (y - 1)) := by
  unfold all
  rw [least_eq y hy h0, mem_cons 64 y h0 hy]
  rfl
theorem all_none : all 0 = [] := by
  unfold all
  rw [mem_none]
  rfl
theorem and_less (y : Nat) (h0 : y ≠ 0) : y &&& (y - 1) < y := by
  have : y &&& (y - 1) ≤ y - 1 := Nat.and_le_right
  omega

theorem info3 : (Tryd.prog.info? 3).map (fun i => (i.zero, i.size, i.bytes)) = some (some (.int .i64 0), 1, 8) := by kernel_rfl

theorem all_le (x : Nat) : (all x).length ≤ 64 := by
  unfold all
  rw [List.length_map]
  exact mem_length_le 64 x

end Go.Proofs.YtakooocmnapjmaaDoor.B
