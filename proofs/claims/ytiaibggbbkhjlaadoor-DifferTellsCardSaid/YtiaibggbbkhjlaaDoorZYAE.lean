/-
  What OnesCount64, TrailingZeros64 and Len64 answer, and Count, Least, Greatest, First and Between of the program, at every input.
  What List of the program answers, at every set: a new slice of all of it, rising.
-/
import Derived.Test.YtiaibggbbkhjlaaDoorRows
import Derived.Test.YtiaibggbbkhjlaaDoorZYAD
import Derived.WalkKit
import Derived.ProofKit
import Derived.OpenShut
import Derived.Outline
import Derived.WalkMore
import Derived.Lib.Hide
import Derived.BigGuardPart
import Derived.Deep.DeepCutAuto
import Derived.Deep.Light
import Derived.Laws.BitsAllLaws
import Derived.Laws.Bits64b
import Derived.RangeFuncBox
import Derived.RangeFuncLeaves
import Derived.Shelf.Abstract
import Derived.OwnWalkIn
import Derived.TacticsInMore
import Derived.LoopNIn
import Derived.LoopIn
import Derived.Maps.AppendAt
namespace Go.Proofs.YtiaibggbbkhjlaaDoor.B
open Go.RowKit

theorem ret_int {k : IntKind} {a b : Int} (h : a = b) : Ending.returned (.int k a) = .returned (.int k b) := by rw [h]
theorem ret_bool {a b : Bool} (h : a = b) : Ending.returned (.bool a) = .returned (.bool b) := by rw [h]

set_option maxHeartbeats 1000000 in
theorem ones_core (x y1 y2 y3 y4 y5 y6 c : Nat) (w : World)
    (e1 : IntKind.u64.wrap (bits .and .u64 ((x : Int) / 2) 6148914691236517205 + bits .and .u64 (x : Int) 6148914691236517205) = (y1 : Int))
    (e2 : IntKind.u64.wrap (bits .and .u64 ((y1 : Int) / 4) 3689348814741910323 + bits .and .u64 (y1 : Int) 3689348814741910323) = (y2 : Int))
    (e3 : bits .and .u64 (IntKind.u64.wrap ((y2 : Int) / 16 + (y2 : Int))) 1085102592571150095 = (y3 : Int))
    (e4 : IntKind.u64.wrap ((y3 : Int) + (y3 : Int) / 256) = (y4 : Int))
    (e5 : IntKind.u64.wrap ((y4 : Int) + (y4 : Int) / 65536) = (y5 : Int))
    (e6 : IntKind.u64.wrap ((y5 : Int) + (y5 : Int) / 4294967296) = (y6 : Int))
    (e7 : bits .and .i64 (y6 : Int) 127 = (c : Int)) (h6 : y6 < 9223372036854775808) :
    Calls Tryd.prog 64 #[.int .u64 x] w fun e w' => e = .returned (.int .i64 c) ∧ w' = w := by
  go_enter Tryd.func64, Tryd.ntmps64
  go_wp2_with (simp only [e1, e2, e3, e4, e5, e6, e7])
  go_ret
  exact ⟨rfl, rfl⟩

theorem wrap_id (n : Nat) (h : n < 18446744073709551616) : IntKind.u64.wrap (n : Int) = (n : Int) := by
  rw [IntKind.wrap_u64]; omega

theorem and_127 (y : Nat) (h : y < 9223372036854775808) : bits .and .i64 (y : Int) 127 = ((y % 128 : Nat) : Int) := by
  have h1 : (BitVec.ofInt 64 (y : Int)).toNat = y := by
    rw [BitVec.ofInt_natCast, BitVec.toNat_ofNat]; exact Nat.mod_eq_of_lt (by omega)
  have h2 : (BitVec.ofInt 64 (127 : Int)).toNat = 127 := by decide
  show IntKind.i64.wrap ((BitVec.ofInt 64 (y : Int) &&& BitVec.ofInt 64 (127 : Int)).toNat : Int) = _
  rw [BitVec.toNat_and, h1, h2, show (127 : Nat) = 2 ^ 7 - 1 from rfl, Nat.and_two_pow_sub_one_eq_mod]
  simp only [IntKind.wrap, IntKind.signed, IntKind.bits]
  simp
  omega

theorem ones_any (x : Nat) (hx : x < 18446744073709551616) (w : World) :
    Calls Tryd.prog 64 #[.int .u64 x] w fun e w' => e = .returned (.int .i64 ((mem 64 x).length : Nat)) ∧ w' = w := by
  rw [mem_length]
  obtain ⟨y1, e1⟩ : ∃ y1, (x / 2 &&& 6148914691236517205) + (x &&& 6148914691236517205) = y1 := ⟨_, rfl⟩
  obtain ⟨y2, e2⟩ : ∃ y2, (y1 / 4 &&& 3689348814741910323) + (y1 &&& 3689348814741910323) = y2 := ⟨_, rfl⟩
  obtain ⟨y3, e3⟩ : ∃ y3, (y2 / 16 + y2) &&& 1085102592571150095 = y3 := ⟨_, rfl⟩
  obtain ⟨y4, y5, y6, e4, e5, e6, h6, e7⟩ := ones x y1 y2 y3 e1 e2 e3
  have a1 : x / 2 &&& 6148914691236517205 ≤ 6148914691236517205 := Nat.and_le_right
  have a2 : x &&& 6148914691236517205 ≤ 6148914691236517205 := Nat.and_le_right
  have b1 : y1 / 4 &&& 3689348814741910323 ≤ 3689348814741910323 := Nat.and_le_right
  have b2 : y1 &&& 3689348814741910323 ≤ 3689348814741910323 := Nat.and_le_right
  have h1 : y1 < 18446744073709551616 := by omega
  have h2 : y2 ≤ 7378697629483820646 := by omega
  rw [← e7]
  refine ones_core x y1 y2 y3 y4 y5 y6 _ w ?_ ?_ ?_ ?_ ?_ ?_ (and_127 y6 h6) h6
  · have r : bits .and .u64 ((x / 2 : Nat) : Int) 6148914691236517205 = ((x / 2 &&& 6148914691236517205 : Nat) : Int) := bits_and_u64_nat (x / 2) 6148914691236517205 (by omega) (by omega)
    have t : bits .and .u64 (x : Int) 6148914691236517205 = ((x &&& 6148914691236517205 : Nat) : Int) := bits_and_u64_nat x 6148914691236517205 (by omega) (by omega)
    rw [show ((x / 2 : Nat) : Int) = (x : Int) / 2 from by omega] at r
    rw [r, t, ← Int.natCast_add, e1, wrap_id _ h1]
  · have r : bits .and .u64 ((y1 / 4 : Nat) : Int) 3689348814741910323 = ((y1 / 4 &&& 3689348814741910323 : Nat) : Int) := bits_and_u64_nat (y1 / 4) 3689348814741910323 (by omega) (by omega)
    have t : bits .and .u64 (y1 : Int) 3689348814741910323 = ((y1 &&& 3689348814741910323 : Nat) : Int) := bits_and_u64_nat y1 3689348814741910323 (by omega) (by omega)
    rw [show ((y1 / 4 : Nat) : Int) = (y1 : Int) / 4 from by omega] at r
    rw [r, t, ← Int.natCast_add, e2, wrap_id _ (by omega)]
  · have r : bits .and .u64 ((y2 / 16 + y2 : Nat) : Int) 1085102592571150095 = (((y2 / 16 + y2) &&& 1085102592571150095 : Nat) : Int) := bits_and_u64_nat (y2 / 16 + y2) 1085102592571150095 (by omega) (by omega)
    rw [show (y2 : Int) / 16 + (y2 : Int) = ((y2 / 16 + y2 : Nat) : Int) from by omega, wrap_id _ (by omega), r, e3]
  · rw [show (y3 : Int) + (y3 : Int) / 256 = ((y3 + y3 / 256 : Nat) : Int) from by omega, e4, wrap_id _ (by omega)]
  · rw [show (y4 : Int) + (y4 : Int) / 65536 = ((y4 + y4 / 65536 : Nat) : Int) from by omega, e5, wrap_id _ (by omega)]
  · rw [show (y5 : Int) + (y5 : Int) / 4294967296 = ((y5 + y5 / 4294967296 : Nat) : Int) from by omega, e6, wrap_id _ (by omega)]

/-- the table of the library in its variable -/
def Tab (w : World) : Prop := ∀ j, j < 64 → w.cell? ⟨0, j, none⟩ = some (.int .u8 (Lib.deBruijn64tab.getD j 0))

set_option maxHeartbeats 1000000 in
theorem tz_core (x k idx : Nat) (w : World) (hx0 : ((x : Int) == 0) = false)
    (key : IntKind.u64.wrap (bits .and .u64 (x : Int) (IntKind.u64.wrap (-(x : Int))) * 285870213051353865) / 288230376151711744 = (idx : Int))
    (hi : idx < 64) (hk : k < 64) (hcell : w.cell? ⟨0, idx, none⟩ = some (.int .u8 k)) :
    Calls Tryd.prog 68 #[.int .u64 x] w fun e w' => e = .returned (.int .i64 k) ∧ w' = w := by
  go_enter Tryd.func68, Tryd.ntmps68
  go_wp2_with (simp only [key])
  go_ret
  exact ⟨rfl, rfl⟩

theorem tz_any (x : Nat) (hx : x < 18446744073709551616) (hx0 : x ≠ 0) (w : World) (hT : Tab w) :
    Calls Tryd.prog 68 #[.int .u64 x] w fun e w' => e = .returned (.int .i64 (Lib.ctzFrom 64 x : Nat)) ∧ w' = w := by
  have same : Lib.ctz 64 x = Lib.ctzFrom 64 x := if_neg hx0
  have low := Lib.lowest_bit 64 x hx0 hx
  rw [same] at low
  have spot := Lib.deBruijn64_at (Lib.ctzFrom 64 x) low.2
  obtain ⟨d, hd⟩ : ∃ d, 2 ^ Lib.ctzFrom 64 x = d := ⟨_, rfl⟩
  rw [hd] at low spot
  have cell := hT _ spot.1
  rw [spot.2] at cell
  have minus : IntKind.u64.wrap (-(x : Int)) = ((2 ^ 64 - x : Nat) : Int) := by
    rw [IntKind.wrap_u64]
    omega
  refine tz_core x _ _ w (by simpa using hx0) ?_ spot.1 low.2 cell
  rw [minus, bits_and_u64_nat x (2 ^ 64 - x) hx (by omega), low.1, IntKind.wrap_u64]
  clear hd minus spot low cell hT
  omega

/-- the first of a list; -1, if there is none -/
def headZ (l : List Nat) : Int := l.head?.elim (-1) (fun k => (k : Int))
/-- the last of a list; -1, if there is none -/
def lastZ (l : List Nat) : Int := l.getLast?.elim (-1) (fun k => (k : Int))
/-- all from 0 to 63 that are less than n -/
def firstN (n : Int) : Nat := mk 64 (fun k => decide ((k : Int) < n))
/-- all from 0 to 63, no less than low, and no more than high -/
def betweenN (low high : Int) : Nat := mk 64 (fun k => decide (low ≤ (k : Int)) && decide ((k : Int) ≤ high))

theorem least_eq (x : Nat) (hx : x < 18446744073709551616) (h0 : x ≠ 0) : headZ (mem 64 x) = (Lib.ctzFrom 64 x : Nat) := by
  rw [mem_cons 64 x h0 hx]
  rfl
theorem least_none : headZ (mem 64 0) = -1 := by
  rw [mem_none]
  rfl
theorem greatest_eq (x : Nat) (hx : x < 18446744073709551616) : lastZ (mem 64 x) = (Lib.bitLen x : Int) - 1 := by
  by_cases h0 : x = 0
  · subst h0
    rw [mem_none]
    decide
  · obtain ⟨l, hl, hp⟩ := mem_last 64 x h0 hx
    rw [hl]
    unfold lastZ Lib.bitLen
    simp
    omega

theorem count_any (x : Nat) (hx : x < 18446744073709551616) (w : World) :
    Calls Tryd.prog 58 #[.int .u64 x] w fun e w' => e = .returned (.int .i64 ((mem 64 x).length : Nat)) ∧ w' = w := by
  have c := Lib.hid (ones_any x hx)
  go_enter Tryd.func58, Tryd.ntmps58
  go_wp2_with fail
  refine (c.out _).mono ?_
  rintro e w' ⟨rfl, rfl⟩
  go_wp2_with fail
  go_ret
  exact ⟨rfl, rfl⟩

theorem least_any (x : Nat) (hx : x < 18446744073709551616) (w : World) (hT : Tab w) :
    Calls Tryd.prog 67 #[.int .u64 x] w fun e w' => e = .returned (.int .i64 (headZ (mem 64 x))) ∧ w' = w := by
  by_cases h0 : x = 0
  · subst h0
    rw [least_none]
    go_enter Tryd.func67, Tryd.ntmps67
    go_wp2_with fail
    go_ret
    exact ⟨rfl, rfl⟩
  · rw [least_eq x hx h0]
    have c := Lib.hid (tz_any x hx h0 w hT)
    have h0' : ((x : Int) == 0) = false := by simp; omega
    clear hT
    go_enter Tryd.func67, Tryd.ntmps67
    go_wp2_with fail
    refine c.out.mono ?_
    rintro e w' ⟨rfl, rfl⟩
    go_wp2_with fail
    go_ret
    exact ⟨rfl, rfl⟩

theorem greatest_any (x : Nat) (hx : x < 18446744073709551616) (w : World) :
    Calls Tryd.prog 52 #[.int .u64 x] w fun e w' => e = .returned (.int .i64 (lastZ (mem 64 x))) ∧ w' = w := by
  rw [greatest_eq x hx]
  have c := Lib.hid (len_any x w (by omega) (by omega))
  have hb : Lib.bitLen x ≤ 64 := Lib.bitLen_le x 64 (by omega) hx
  obtain ⟨n, hn⟩ : ∃ n, Lib.bitLen x = n := ⟨_, rfl⟩
  rw [hn] at hb ⊢
  have c' : Hid (Calls Tryd.prog 62 #[.int .u64 x] w fun e w' => e = .returned (.int .i64 n) ∧ w' = w) := by rw [← hn]; exact c
  clear c hn
  go_enter Tryd.func52, Tryd.ntmps52
  go_wp2_with fail
  refine c'.out.mono ?_
  rintro e w' ⟨rfl, rfl⟩
  go_wp2_with fail
  go_ret
  exact ⟨rfl, rfl⟩

theorem first_low (n : Int) (h : n ≤ 0) : firstN n = 0 := by
  refine same_bits (mk_lt 64 _) (by omega) fun k _ => ?_
  rw [firstN, mk_bit, Nat.zero_testBit]
  simp
  omega
theorem first_high (n : Int) (h : 63 < n) : firstN n = 18446744073709551615 := by
  refine same_bits (mk_lt 64 _) (by omega) fun k hk => ?_
  rw [firstN, mk_bit, show (18446744073709551615 : Nat) = 2 ^ 64 - 1 from rfl, Nat.testBit_two_pow_sub_one]
  simp [hk]
  omega
theorem first_mid (n : Int) (h : 0 < n) (h' : n ≤ 63) : firstN n = 2 ^ n.toNat - 1 := by
  have hp : 2 ^ n.toNat ≤ 2 ^ 64 := Nat.pow_le_pow_right (by decide) (by omega)
  refine same_bits (mk_lt 64 _) (by omega) fun k hk => ?_
  rw [firstN, mk_bit, Nat.testBit_two_pow_sub_one]
  simp [hk]

theorem first_lt (n : Int) : firstN n < 18446744073709551616 := mk_lt 64 _
theorem between_lt (a b : Int) : betweenN a b < 18446744073709551616 := mk_lt 64 _

theorem not_bit {y k : Nat} (h : k < 64) (hy : y < 18446744073709551616) : (18446744073709551615 - y).testBit k = !y.testBit k := by
  have := Nat.testBit_two_pow_sub_succ (n := 64) (x := y) hy k
  rw [show 2 ^ 64 - (y + 1) = 18446744073709551615 - y from by omega] at this
  rw [this]
  simp [h]

theorem between_eq (low high m : Int) (hm : m = min high 63 + 1) : firstN m &&& (18446744073709551615 - firstN low) = betweenN low high := by
  refine same_bits (Nat.lt_of_le_of_lt Nat.and_le_left (first_lt m)) (between_lt low high) fun k hk => ?_
  rw [Nat.testBit_and, not_bit hk (first_lt low), firstN, firstN, betweenN, mk_bit, mk_bit, mk_bit, Bool.eq_iff_iff]
  simp [hk]
  omega

end Go.Proofs.YtiaibggbbkhjlaaDoor.B
namespace Go.Proofs.YtiaibggbbkhjlaaDoor.B
open Go.RowKit Go.Shelf

attribute [local go_sem] Oper.semAt_some

/-- the numbers of a set as ints -/
def all (x : Nat) : List Int := (mem 64 x).map (fun k : Nat => (k : Int))

theorem Tab.below {n : Nat} {A B : World} (hT : Tab A) (hn : 0 < n) (h : Below n A B) : Tab B :=
  fun j hj => (h.cell (p := ⟨0, j, none⟩) hn).trans (hT j hj)

theorem all_cons (y : Nat) (hy : y < 18446744073709551616) (h0 : y ≠ 0) : all y = headZ (mem 64 y) :: all (y &&& (y - 1)) := by
  unfold all
  rw [least_eq y hy h0, mem_cons 64 y h0 hy]
  rfl
theorem all_none : all 0 = [] := by
  unfold all
  rw [mem_none]
  rfl
theorem and_less (y : Nat) (h0 : y ≠ 0) : y &&& (y - 1) < y := by
  have : y &&& (y - 1) ≤ y - 1 := Nat.and_le_right
  omega

theorem info3 : (Tryd.prog.info? 3).map (fun i => (i.zero, i.size, i.bytes)) = some (some (.int .i64 0), 1, 8) := by kernel_rfl

set_option maxRecDepth 100000 in
set_option maxHeartbeats 1000000 in
/-- the function that goes through a set -/
theorem each1_in (n : Nat) (hn : 1 ≤ n) (l Bn n₀ x : Nat) (hx : x < 18446744073709551616) (hn₀ : 0 < n₀) (J Jx : List Int → World → Prop)
    (hY : ∀ pre k W, J pre W → pre.length < (all x).length → YieldAt Fence.wide (n - 1) Tryd.prog l #[.int .i64 k] W fun e W' =>
      (e = .returned (.bool true) ∧ J (pre ++ [k]) W' ∧ Below n₀ W W') ∨ (e = .returned (.bool false) ∧ Jx (pre ++ [k]) W'))
    (W : World) (hBn : W.cell? ⟨Bn, 0, none⟩ = some (.int .u64 x)) (hT : Tab W) (h0 : J [] W) :
    CallsIn Fence.wide n Tryd.prog 66 #[.func (.yield l) #[] #[], .pointer (some ⟨Bn, 0, none⟩)] W fun e W' => (∃ v, e = .returned v) ∧
      ((∃ ys, ys = all x ∧ J ys W') ∨ (∃ pre, pre <+: all x ∧ Jx pre W')) := by
  refine callsIn_of_wp Tryd.func66 rfl trivial ?_ rfl
  simp only [Tryd.ntmps66, List.size_toArray, List.length_cons, List.length_nil, Nat.reduceAdd, Nat.reduceSub, Array.replicate_succ, Array.replicate_zero, List.push_toArray, List.append_toArray, List.nil_append, List.cons_append]
  gi_wp2
  gi_loopw [3] (fun p wr => ∃ (pre : List Int) (y : Nat), p = .int .u64 y ∧ y < 18446744073709551616 ∧ all x = pre ++ all y ∧ Tab wr ∧ J pre wr)
    (fun p wr => (intOf p).toNat)
  case atStart =>
    exact ⟨[], x, rfl, hx, rfl, hT, h0⟩
  case round =>
    obtain ⟨pre, y, rfl, hy, hs, ht, hJs⟩ := hrel
    by_cases hy0 : y = 0
    · subst hy0
      gi_wp2
      go_end0
      exact ⟨⟨_, rfl⟩, .inl ⟨pre, by rw [hs, all_none, List.append_nil], hJs⟩⟩
    · have hc := all_cons y hy hy0
      have c := Lib.hid (least_any y hy wr ht)
      have f := bits_and_u64_nat y (y - 1) hy (by omega)
      obtain ⟨fn, tmps, assign, body, hy', hR⟩ := hY pre (headZ (mem 64 y)) wr hJs (by rw [hs, hc]; simp)
      have hl := and_less y hy0
      obtain ⟨k, hk⟩ : ∃ k, headZ (mem 64 y) = k := ⟨_, rfl⟩
      rw [hk] at hc c hy' hR
      have e1 : ((y - 1 : Nat) : Int) = (y : Int) - 1 := by omega
      rw [e1] at f
      have hne : ((y : Int) == 0) = false := by simp; omega
      gi_wp2_with (refine ⟨trivial, ?_⟩; gi_at_call 67; refine (callsIn_wide.2 c.out).mono ?_; rintro e w' ⟨rfl, rfl⟩)
      refine hR.mono ?_
      rintro e W3 (⟨rfl, hJ3, hk3⟩ | ⟨rfl, hJx3⟩)
      · have ht3 := Tab.below ht hn₀ hk3
        have F := Lib.hid f
        clear f
        gi_wp2
        go_roundw
        case rel => exact ⟨pre ++ [k], y &&& (y - 1), by rw [F.out], by omega, by rw [hs, hc, List.append_assoc]; rfl, ht3, hJ3⟩
        case measure => rw [F.out]; simp [intOf]; omega
      · gi_wp2
        refine bodyPost_ret (results_none rfl _ _ _) rfl ?_
        exact ⟨⟨_, rfl⟩, .inr ⟨pre ++ [k], ⟨all (y &&& (y - 1)), by rw [hs, hc, List.append_assoc]; rfl⟩, hJx3⟩⟩

/-- each: the set is boxed, and the function captures the box -/
theorem each_in (n x : Nat) (w : World) :
    CallsIn Fence.wide n Tryd.prog 63 #[.int .u64 x] w fun e w' => e = .returned (.func (.func 66) #[] #[.pointer (some ⟨w.heap.size, 0, none⟩)]) ∧ w' = w.alloc (.cells #[.int .u64 x] 45) := by
  refine callsIn_of_wp Tryd.func63 rfl trivial ?_ rfl
  simp only [Tryd.ntmps63, List.size_toArray, List.length_cons, List.length_nil, Nat.reduceAdd, Nat.reduceSub, Array.replicate_succ, Array.replicate_zero, List.push_toArray, List.append_toArray, List.nil_append, List.cons_append]
  gi_wp2
  go_ret
  exact ⟨rfl, rfl⟩

theorem each_stops (n : Nat) (hn : 1 ≤ n) (Bn n₀ x : Nat) (hx : x < 18446744073709551616) (hn₀ : 0 < n₀) (w : World) (hBn : Bn < w.heap.size) (hle : n₀ ≤ w.heap.size)
    (hc : w.cell? ⟨Bn, 0, none⟩ = some (.int .u64 x)) (hT : Tab w) :
    SeqStopsK Fence.wide n Tryd.prog 66 #[.pointer (some ⟨Bn, 0, none⟩)] (fun k : Int => #[Value.int .i64 k]) (Below n₀) (fun ys => ys = all x) (fun pre => pre <+: all x) (all x).length w := fun l J Jx W hW _ _ hY h0 =>
  each1_in n hn l Bn n₀ x hx hn₀ J Jx hY W ((hW.cell (p := ⟨Bn, 0, none⟩) hBn).trans hc) (Tab.below hT (Nat.lt_of_lt_of_le hn₀ hle) hW) h0

theorem all_le (x : Nat) : (all x).length ≤ 64 := by
  unfold all
  rw [List.length_map]
  exact mem_length_le 64 x

set_option maxRecDepth 100000 in
set_option maxHeartbeats 2000000 in
/-- List, at every set -/
theorem list_any (x : Nat) (hx : x < 18446744073709551616) (w : World) (hT : Tab w) (h0 : 0 < w.heap.size) :
    Calls Tryd.prog 55 #[.int .u64 x] w fun e W' => ∃ v, e = .returned v ∧ W'.ownsRow w.heap.size 3 1 v (all x).length ((all x).map (Value.int .i64)) ∧ (v = .slice none 0 0 ↔ all x = []) ∧ Below w.heap.size w W' := by
  refine (callsIn_wide (n := 3)).1 ?_
  have hlen := all_le x
  obtain ⟨i0, hi, hz0, hz1, hz2⟩ := info_parts info3
  refine callsIn_of_wp_marks Tryd.func55 rfl trivial ?_ rfl
  simp only [Tryd.ntmps55, List.size_toArray, List.length_cons, List.length_nil, Nat.reduceAdd, Nat.reduceSub, Array.replicate_succ, Array.replicate_zero, List.push_toArray, List.append_toArray, List.nil_append, List.cons_append]
  gi_wp2_with (refine ⟨trivial, ?_⟩; gi_at_call 63; refine (each_in _ _ _).mono ?_; rintro e w' ⟨rfl, rfl⟩)
  have bO := Boxed.new w 22 (.slice none 0 0)
  have bN := Boxed.new (w.alloc (.cells #[.slice none 0 0] 22)) 45 (.int .u64 x)
  rw [World.size_alloc] at bN
  have hB0 : Below w.heap.size w ((w.alloc (.cells #[.slice none 0 0] 22)).alloc (.cells #[.int .u64 x] 45)) := ((Below.refl _ w).alloc (Nat.le_refl _) _).alloc (by simp) _
  refine wpIn_rangeFunc_ownG rfl (by omega) (gf := 66) (lb := #[.pointer (some ⟨w.heap.size + 1, 0, none⟩)]) rfl trivial (enters_of Tryd.func66 (by kernel_rfl) rfl)
    (each_stops 2 (by omega) (w.heap.size + 1) w.heap.size x hx h0 _ (by simp) (by simp; omega) bN.cell (Tab.below hT h0 hB0)) belowK_t (belowK_b (by simp; omega)) (Below.refl _ _) (fun _ => rfl)
    (fun pre W => (∃ v, Boxed W w.heap.size 22 v ∧ W.ownsRow w.heap.size 3 1 v pre.length (pre.map (Value.int .i64)) ∧ (v = .slice none 0 0 ↔ pre = [])) ∧ Below w.heap.size w W)
    (fun _ _ _ => False)
    (OwnFrom.and (Own.from (holdsRow_own w.heap.size w.heap.size 22 3 1 (fun pre : List Int => pre.length) (fun pre => pre.map (Value.int .i64)) (fun pre v => v = .slice none 0 0 ↔ pre = [])) _) (ownFrom_below (Nat.le_refl _) (by simp; omega)))
    (fun _ _ _ _ _ hs _ _ => hs)
    ⟨⟨_, bO.alloc _, World.ownsRow_nil _ _ _ _, by simp⟩, hB0⟩
    (fun k => { tmps := #[.int .u64 x, undef, .slice none 0 0, .pointer (some ⟨w.heap.size, 0, none⟩), .int .i64 k, .int .u64 x, .func (.func 66) #[] #[.pointer (some ⟨w.heap.size + 1, 0, none⟩)], .int .i64 k, undef, undef, undef, undef, undef], defers := [] }) ?assign ?body ?done ?stop
  case assign =>
    intro l k W K hK
    gi_wp2
    exact hK
  case body =>
    rintro l pre k W ⟨⟨v, hv, hrow, hnil⟩, hB⟩ hlt
    have hc := hv.cell
    have hmx : pre.length + 1 ≤ maxLen := by unfold maxLen; omega
    gi_wp2_with (gi_at_builtin; refine wpListIn_append_own _ rfl _ _ 22 rfl w.heap.size 3 i0 (.int .i64 0) 1 8 Tryd.underlying22 hi hz0 hz1 hz2 rfl (by decide) _ _ _ rfl (hrow.alloc _) ⟨W.heap.size, 0, none⟩ 1 1 [.int .i64 k] rfl rfl (cell_one_new _ _ _) (by simp [Value.oneCell']) (by omega) (by omega) (by have := hB.size; simp; omega) ?_; intro v' w1 hown' hgrow _; obtain ⟨g', cap', rfl⟩ := ownsRow_succ hown'; obtain ⟨hv1, hv2, hr2, hk2, hb2⟩ := hv.appended (by decide) hrow hB.size (Nat.le_refl _) hown' hgrow; have hc1 := hv1.cell; have hf1 := hv1.frozen)
    exact ⟨hk2.from _, hb2, ⟨_, hv2, by simpa using hr2, by simp⟩, hB.trans hb2⟩
  case done =>
    rintro D ys W hD rfl ⟨⟨v, hv, hrow, hnil⟩, hB⟩ hK
    have hc := hv.cell
    gi_wp2
    refine ⟨by simp, .inl ⟨_, _, rfl, run_takeDeferred hK, ?_⟩⟩
    exact ⟨_, results_tmp rfl _ _ _, v, rfl, ownsRow_putObj hrow _ hK rfl, hnil, hB.trans (belowK_b (w := w) (Nat.le_refl _) W D _ _ (by simp at hD; omega) hK rfl rfl)⟩
  case stop =>
    rintro D c pre W _ _ h _
    exact h.elim
end Go.Proofs.YtiaibggbbkhjlaaDoor.B
