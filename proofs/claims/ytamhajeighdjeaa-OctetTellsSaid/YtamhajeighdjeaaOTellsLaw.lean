/-
  OctetTells: the call answers true, and leaves what was there as it was.
-/
import Derived.Test.YtamhajeighdjeaaOOpen
namespace Go.Proofs.Ytamhajeighdjeaa
open Go.RowKit

/-- a number's bytes, or none, and what goes wrong -/
def PutWay (n : Nat) (L : List Nat) (E : Nat) : Prop := n < 4611686018427387904 ∧ L = put n ∧ E = 0 ∨ 4611686018427387904 ≤ n ∧ L = [] ∧ E = 5
def PutsWay (L : List Nat) (E l : Nat) (w : World) (e : Ending) (w' : World) : Prop :=
  ∃ p g c, e = .returned (.tuple #[.slice p l c, .int .i64 (E : Int)]) ∧ Lies w' p g 0 L ∧ Below w.heap.size w w'
theorem puts_of {w : World} {n : Nat} {e : Ending} {w' : World} (h : Puts w (put n) e w') : PutsWay (put n) 0 (put n).length w e w' := by
  obtain ⟨v, rfl, hv, hB⟩ := h
  obtain ⟨p, g, c, rfl, hl, _⟩ := hv.lies hB.size
  exact ⟨p, g, c, rfl, hl, hB⟩
theorem puts_none (w : World) : PutsWay [] 5 0 w (.returned (.tuple #[.slice none 0 0, .int .i64 5])) w :=
  ⟨none, 0, 0, rfl, ⟨fun h => by simp at h, fun k hk => by simp at hk⟩, Below.refl _ _⟩
theorem puts_any (n : Nat) (L : List Nat) (E l : Nat) (h : PutWay n L E) (hl : l = L.length) (w : World) : Calls Try.prog 8 #[.int .u64 n] w (PutsWay L E l w) := by
  subst hl
  rcases h with ⟨h, rfl, rfl⟩ | ⟨h, rfl, rfl⟩
  · exact (put_any n w h).mono fun e w' h => puts_of h
  · refine (put_big n (by omega) w).mono ?_
    rintro e w' ⟨rfl, rfl⟩
    exact puts_none w
theorem rputs_any (n : Nat) (L : List Nat) (E l : Nat) (h : PutWay n L E) (hl : l = L.length) (w : World) : Calls Try.prog 9 #[.int .u64 n] w (PutsWay L E l w) := by
  subst hl
  rcases h with ⟨h, rfl, rfl⟩ | ⟨h, rfl, rfl⟩
  · exact (rput_any n w h).mono fun e w' h => puts_of h
  · refine (rput_big n (by omega) w).mono ?_
    rintro e w' ⟨rfl, rfl⟩
    exact puts_none w
theorem put_way (n : Nat) : ∃ L E, PutWay n L E ∧ L.length ≤ 8 := by
  by_cases h : n < 4611686018427387904
  · refine ⟨put n, 0, .inl ⟨h, rfl, rfl⟩, ?_⟩
    rw [put_length]
    exact Nat.pow_le_pow_right (n := 2) (by decide) (kind_le n)
  · exact ⟨[], 5, .inr ⟨by omega, rfl, rfl⟩, by simp⟩

theorem tells_skip (p : Option Addr) (c len n : Nat) (W : World) (hm : 400 < len) :
    Calls Try.prog 3 #[.int .u64 n, .slice p len c] W fun e w' => e = .returned (.bool true) ∧ Below W.heap.size W w' := by
  have hm2 : (400 : Int) < len := by omega
  go_enter Try.func3, Try.ntmps3
  go_wp2_with fail
  go_at_call 7
  refine (awake_any _).mono ?_
  rintro e w1 ⟨rfl, hB1⟩
  have B1 := Lib.hid hB1
  clear hB1
  go_wp2_with fail
  go_ret
  exact ⟨rfl, B1.out⟩

set_option maxRecDepth 100000 in
set_option maxHeartbeats 4000000 in
theorem tells_walk (p : Option Addr) (b off c len n : Nat) (xs : List Nat) (W : World) (hI : In W p b off c len xs) (hn : n < 18446744073709551616) (hm : len ≤ 400) :
    Calls Try.prog 3 #[.int .u64 n, .slice p len c] W fun e w' => e = .returned (.bool true) ∧ Below W.heap.size W w' := by
  have hm2 : (len : Int) ≤ 400 := by omega
  obtain ⟨L, E, hL, hL8⟩ := put_way n
  obtain ⟨l, hl⟩ : ∃ l, l = L.length := ⟨_, rfl⟩
  have P := Lib.hid (puts_any n L E l hL hl)
  have Q := Lib.hid (rputs_any n L E l hL hl)
  have T := Lib.hid (fun w (h : Below W.heap.size W w) => take_any p b off c len xs hI.long w (by omega) hI.cap (hI.lies.below h) hI.bytes)
  have RT := Lib.hid (fun w (h : Below W.heap.size W w) => rtake_any p b off c len xs hI.long w (by omega) (hI.lies.below h) hI.bytes)
  have M := Lib.hid (fun w (h : Below W.heap.size W w) => mark_any p b off c len xs hI.long w (by omega) (hI.lies.below h) hI.bytes)
  have RM := Lib.hid (fun w (h : Below W.heap.size W w) => rmark_any p b off c len xs hI.long w (by omega) (hI.lies.below h) hI.bytes)
  have E8 := Lib.hid (eight_any n)
  have RE8 := Lib.hid (reight_any n hn)
  have HL := Lib.hid (And.intro hl hL8)
  obtain ⟨A, hA⟩ : ∃ A, A = (take xs).1 := ⟨_, rfl⟩
  obtain ⟨B, hB⟩ : ∃ B, B = (take xs).2.1 := ⟨_, rfl⟩
  obtain ⟨C, hC⟩ : ∃ C, C = (take xs).2.2 := ⟨_, rfl⟩
  obtain ⟨m, em⟩ : ∃ m, m = mark xs := ⟨_, rfl⟩
  rw [← hA, ← hB, ← hC] at T RT
  rw [← em] at M RM
  have q1 : ((A : Int) == (A : Int)) = true := beq_self_eq_true _
  have q2 : ((B : Int) == (B : Int)) = true := beq_self_eq_true _
  have q3 : ((C : Int) == (C : Int)) = true := beq_self_eq_true _
  have q4 : ((m : Int) == (m : Int)) = true := beq_self_eq_true _
  have q5 : ((E : Int) == (E : Int)) = true := beq_self_eq_true _
  clear hI hL hL8 hl hA hB hC em hn
  go_enter Try.func3, Try.ntmps3
  go_wp2_with fail
  go_at_call 7
  refine (awake_any _).mono ?_
  rintro e w1 ⟨rfl, hB1⟩
  have B1 := Lib.hid hB1
  clear hB1
  go_wp2_with fail
  go_at_call 8
  refine (P.out _).mono ?_
  rintro e w2 ⟨p1, g1, c1, rfl, l1, hB⟩
  have L1 := Lib.hid l1
  have B2 := Lib.hid (below_on B1.out B1.out.size hB)
  clear l1 hB B1
  go_wp2_with fail
  go_at_call 9
  refine (Q.out _).mono ?_
  rintro e w3 ⟨p2, g2, c2, rfl, l2, hB⟩
  have L2 := Lib.hid l2
  have L1 := Lib.hid (L1.out.below hB)
  have B3 := Lib.hid (below_on B2.out B2.out.size hB)
  clear l2 hB B2
  go_wp2_with fail
  go_at_call 10
  refine (T.out _ B3.out).mono ?_
  rintro e w4 ⟨rfl, hn⟩
  have L2 := Lib.hid (L2.out.below (below_drawn hn))
  have L1 := Lib.hid (L1.out.below (below_drawn hn))
  have B4 := Lib.hid (below_on B3.out B3.out.size (below_drawn hn))
  clear hn B3
  go_wp2_with fail
  go_at_call 11
  refine (RT.out _ B4.out).mono ?_
  rintro e w5 ⟨rfl, hB⟩
  have L2 := Lib.hid (L2.out.below hB)
  have L1 := Lib.hid (L1.out.below hB)
  have B5 := Lib.hid (below_on B4.out B4.out.size hB)
  clear hB B4
  go_wp2_with fail
  go_at_call 12
  refine (rsame_any p1 p2 g1 0 c1 g2 0 c2 l l L L HL.out.1 HL.out.1 _ (by have := HL.out; omega) (by have := HL.out; omega) L1.out L2.out).mono ?_
  rw [decide_eq_true rfl]
  rintro e w6 ⟨rfl, hn⟩
  have B6 := Lib.hid (below_on B5.out B5.out.size (below_drawn hn))
  clear hn B5 L1 L2
  go_wp2_with fail
  go_at_call 13
  refine (M.out _ B6.out).mono ?_
  rintro e w' ⟨rfl, rfl⟩
  go_wp2_with fail
  go_at_call 14
  refine (RM.out _ B6.out).mono ?_
  rintro e w' ⟨rfl, rfl⟩
  go_wp2_with fail
  go_at_call 15
  refine (E8.out _).mono ?_
  rintro e w7 ⟨v, rfl, hv, hB⟩
  obtain ⟨p3, g3, c3, rfl, l3, _⟩ := hv.lies hB.size
  have L3 := Lib.hid l3
  have B7 := Lib.hid (below_on B6.out B6.out.size hB)
  clear l3 hv hB B6
  go_wp2_with fail
  go_at_call 16
  refine (RE8.out _).mono ?_
  rintro e w8 ⟨v, rfl, hv, hB⟩
  obtain ⟨p4, g4, c4, rfl, l4, _⟩ := hv.lies hB.size
  have L4 := Lib.hid l4
  have L3 := Lib.hid (L3.out.below hB)
  have B8 := Lib.hid (below_on B7.out B7.out.size hB)
  clear l4 hv hB B7
  go_wp2_with fail
  go_at_call 12
  refine (rsame_any p3 p4 g3 0 c3 g4 0 c4 _ _ (be 8 n) (be 8 n) rfl rfl _ (by rw [be_length]; decide) (by rw [be_length]; decide) L3.out L4.out).mono ?_
  rw [decide_eq_true rfl]
  rintro e w9 ⟨rfl, hn⟩
  have B9 := Lib.hid (below_on B8.out B8.out.size (below_drawn hn))
  clear hn B8 L3 L4
  go_wp2_with fail
  go_ret
  exact ⟨rfl, B9.out⟩

theorem tells_law (p : Option Addr) (b off c len n : Nat) (xs : List Nat) (W : World) (hI : In W p b off c len xs) (hn : n < 18446744073709551616) :
    Calls Try.prog 3 #[.int .u64 n, .slice p len c] W fun e w' => e = .returned (.bool true) ∧ Below W.heap.size W w' := by
  by_cases hl : len ≤ 400
  · exact tells_walk p b off c len n xs W hI hn hl
  · exact tells_skip p c len n W (by omega)
end Go.Proofs.Ytamhajeighdjeaa
