/-
  awake answers true, and leaves what was there as it was.
-/
import Derived.Test.YtamhajeighdjeaaORref
namespace Go.Proofs.Ytamhajeighdjeaa
open Go.RowKit

theorem lies_new (w : World) (xs : List Nat) : Lies (w.alloc (.cells (xs.map enc).toArray 5)) (some ⟨w.heap.size, 0, none⟩) w.heap.size 0 xs := by
  refine ⟨fun _ => rfl, fun k hk => ?_⟩
  rw [cell_of_heap (new_block w _)]
  simp [hk, enc]
theorem below_one (w : World) (o : Obj) : Below w.heap.size w (w.alloc o) := (Below.refl _ w).alloc (Nat.le_refl _) o
theorem below_on {B : Nat} {W a b : World} (h : Below B W a) (hs : B ≤ a.heap.size) (k : Below a.heap.size a b) : Below B W b := h.trans (k.mono hs)
theorem below_drawn {w w' : World} (h : ∃ n, w' = w.drewN n) : Below w.heap.size w w' := by
  obtain ⟨n, rfl⟩ := h
  exact below_drewN (Below.refl _ _)

theorem put16384 : put 16384 = [128, 0, 64, 0] := by kernel_rfl
theorem takeA : take [64, 64, 9] = (64, 2, 0) := by kernel_rfl
theorem takeB : take [64, 63] = (0, 0, 2) := by kernel_rfl
theorem takeC : take [128, 1, 1] = (0, 0, 3) := by kernel_rfl
theorem rnumA : rnum 5 [5, 0, 0, 0, 0, 0, 0, 1, 2, 7] 0 = (5, [0, 0, 0, 0, 0, 0, 1, 2, 7], 0) := by kernel_rfl
theorem reightA : reight [0, 0, 0, 0, 0, 0, 1, 2, 7] 0 = (258, [7], 0) := by kernel_rfl
theorem rnumB : rnum 6 [7] 0 = (0, [7], 5) := by kernel_rfl
theorem markA : mark [] = 14695981039346656037 := by kernel_rfl
theorem markB : mark [97] = 12638187200555641996 := by kernel_rfl
theorem endsA : ends (view [7] 0).length 0 = 4 := by kernel_rfl
theorem endsB : ends (view [7] 5).length 5 = 5 := by kernel_rfl
theorem beA : be 8 258 = [0, 0, 0, 0, 0, 0, 1, 2] := by kernel_rfl
theorem small {xs : List Nat} (h : xs.all (· < 256) = true) : Bytes xs := fun x hx => by
  have := List.all_eq_true.1 h x hx
  simpa using this

set_option maxRecDepth 100000 in
set_option maxHeartbeats 2000000 in
theorem awake_any (w : World) : Calls Try.prog 7 #[] w fun e w' => e = .returned (.bool true) ∧ Below w.heap.size w w' := by
  go_enter Try.func7, Try.ntmps7
  go_wp2_with fail
  go_at_call 8
  refine (put_any 16384 _ (by decide)).mono ?_
  rintro e w1 ⟨v1, rfl, hv1, hB1⟩
  rw [put16384] at hv1
  obtain ⟨p1, g1, c1, rfl, hl1, _⟩ := hv1.lies hB1.size
  have L1 := Lib.hid hl1
  have HW := Lib.hid hB1
  clear hv1 hl1 hB1
  go_wp2_with fail
  go_at_call 8
  refine (put_big 4611686018427387904 (by decide) _).mono ?_
  rintro e w2 ⟨rfl, rfl⟩
  go_wp2_with fail
  go_at_call 10
  refine (take_any _ w1.heap.size 0 3 3 [64, 64, 9] rfl _ (by decide) (by decide) (lies_new w1 _) (small rfl)).mono ?_
  rw [takeA]
  rintro e w2 ⟨rfl, hn⟩
  have B2 := Lib.hid (below_on (below_one w1 _) (below_one w1 _).size (below_drawn hn))
  clear hn
  go_wp2_with fail
  go_at_call 10
  refine (take_any _ w2.heap.size 0 2 2 [64, 63] rfl _ (by decide) (by decide) (lies_new w2 _) (small rfl)).mono ?_
  rw [takeB]
  rintro e w3 ⟨rfl, hn⟩
  have B3 := Lib.hid (below_on B2.out B2.out.size (below_on (below_one w2 _) (below_one w2 _).size (below_drawn hn)))
  clear hn B2
  go_wp2_with fail
  go_at_call 10
  refine (take_any _ w3.heap.size 0 3 3 [128, 1, 1] rfl _ (by decide) (by decide) (lies_new w3 _) (small rfl)).mono ?_
  rw [takeC]
  rintro e w4 ⟨rfl, hn⟩
  have B4 := Lib.hid (below_on B3.out B3.out.size (below_on (below_one w3 _) (below_one w3 _).size (below_drawn hn)))
  clear hn B3
  go_wp2_with fail
  go_at_call 17
  refine (new_at _ w4.heap.size 0 10 10 [5, 0, 0, 0, 0, 0, 0, 1, 2, 7] rfl _ (by decide) (lies_new w4 _) (fun h => by cases h) (small rfl)).mono ?_
  rintro e w5 ⟨a, g, rfl, hr, hB, ha, _⟩
  have R5 := Lib.hid (show RAt 54 w5 a g (view [5, 0, 0, 0, 0, 0, 0, 1, 2, 7] 0) 0 from hr)
  have B5 := Lib.hid (below_on B4.out B4.out.size (below_on (below_one w4 _) (below_one w4 _).size hB))
  have HA := Lib.hid (show ∀ x, x ∈ [a] → w1.heap.size ≤ x from fun x hx => by
    obtain rfl := List.mem_singleton.1 hx
    have := B4.out.size
    have := (below_one w4 (.cells #[.int .u8 5, .int .u8 0, .int .u8 0, .int .u8 0, .int .u8 0, .int .u8 0, .int .u8 0, .int .u8 1, .int .u8 2, .int .u8 7] 5)).size
    exact Nat.le_trans (Nat.le_trans B4.out.size this) ha)
  clear hr hB ha B4
  go_wp2_with fail
  go_at_call 20
  refine (num_at a g 5 _ 0 _ R5.out).mono ?_
  rw [rnumA]
  rintro e w6 ⟨rfl, hr, ht⟩
  have R6 := Lib.hid hr
  have B6 := Lib.hid (Turn.below B5.out ht B5.out.size HA.out)
  clear hr ht B5 R5
  go_wp2_with fail
  go_at_call 18
  refine (eight_at a g _ 0 _ R6.out).mono ?_
  rw [reightA]
  rintro e w7 ⟨rfl, hr, ht⟩
  have R7 := Lib.hid hr
  have B7 := Lib.hid (Turn.below B6.out ht B6.out.size HA.out)
  clear hr ht B6 R6
  obtain ⟨p, off, c, h1, _⟩ := R7.out.ex
  have H1 := Lib.hid h1
  clear h1
  go_wp2_with fail
  go_at_call 22
  refine (left_any a p _ c _ _ H1.out).mono ?_
  rintro e w' ⟨he, rfl⟩
  obtain rfl : e = .returned (.int .i64 1) := he
  go_wp2_with fail
  go_at_call 24
  refine (end_any a p _ c _ _ H1.out).mono ?_
  rintro e w' ⟨he, rfl⟩
  rw [endsA] at he
  obtain rfl : e = .returned (.int .i64 4) := he
  clear H1
  go_wp2_with fail
  go_at_call 20
  refine (num_at a g 6 _ 0 _ R7.out).mono ?_
  rw [rnumB]
  rintro e w8 ⟨rfl, hr, ht⟩
  have R8 := Lib.hid hr
  have B8 := Lib.hid (Turn.below B7.out ht B7.out.size HA.out)
  clear hr ht B7 R7
  go_wp2_with fail
  go_at_call 12
  refine (rsame_any p1 _ g1 0 c1 w8.heap.size 0 4 4 4 [128, 0, 64, 0] [128, 0, 64, 0] rfl rfl _ (by decide) (by decide) ((L1.out.below B8.out).below (below_one w8 _)) (lies_new w8 _)).mono ?_
  rintro e w9 ⟨rfl, hn⟩
  have B9 := Lib.hid (below_on B8.out B8.out.size (below_on (below_one w8 _) (below_one w8 _).size (below_drawn hn)))
  have R9 := Lib.hid (R8.out.below (below_on (below_one w8 _) (below_one w8 _).size (below_drawn hn)))
  clear hn B8 R8
  go_wp2_with fail
  go_at_call 13
  refine (mark_any none 0 0 0 0 [] rfl _ (by decide) ⟨fun h => by simp at h, fun k hk => by simp at hk⟩ (small rfl)).mono ?_
  rw [markA]
  rintro e w' ⟨rfl, rfl⟩
  go_wp2_with fail
  go_at_call 13
  refine (mark_any _ w'.heap.size 0 1 1 [97] rfl _ (by decide) (lies_new w' _) (small rfl)).mono ?_
  rw [markB]
  rintro e w10 ⟨rfl, hw⟩
  have B10 := Lib.hid (show Below w1.heap.size w1 w10 by rw [hw]; exact below_on B9.out B9.out.size (below_one _ _))
  have R10 := Lib.hid (show RAt 54 w10 a g (view [7] 5) 5 by rw [hw]; exact R9.out.below (below_one _ _))
  clear hw B9 R9
  go_wp2_with fail
  go_at_call 15
  refine (eight_any 258 _).mono ?_
  rw [beA]
  rintro e w11 ⟨v, rfl, hv, hB⟩
  obtain ⟨p2, g2, c2, rfl, hl2, _⟩ := hv.lies hB.size
  have L2 := Lib.hid hl2
  have B11 := Lib.hid (below_on B10.out B10.out.size hB)
  have R11 := Lib.hid (R10.out.below hB)
  clear hv hl2 hB B10 R10
  go_wp2_with fail
  go_at_call 12
  refine (rsame_any p2 _ g2 0 c2 w11.heap.size 0 8 8 8 [0, 0, 0, 0, 0, 0, 1, 2] [0, 0, 0, 0, 0, 0, 1, 2] rfl rfl _ (by decide) (by decide) (L2.out.below (below_one w11 _)) (lies_new w11 _)).mono ?_
  rintro e w12 ⟨rfl, hn⟩
  have B12 := Lib.hid (below_on B11.out B11.out.size (below_on (below_one w11 _) (below_one w11 _).size (below_drawn hn)))
  have R12 := Lib.hid (R11.out.below (below_on (below_one w11 _) (below_one w11 _).size (below_drawn hn)))
  clear hn B11 R11 L2
  obtain ⟨p3, off3, c3, h3, _⟩ := R12.out.ex
  have H3 := Lib.hid h3
  clear h3
  go_wp2_with fail
  go_at_call 24
  refine (end_any a p3 _ c3 _ _ H3.out).mono ?_
  rintro e w' ⟨he, rfl⟩
  rw [endsB] at he
  obtain rfl : e = .returned (.int .i64 5) := he
  go_wp2_with fail
  go_at_call 22
  refine (left_any a p3 _ c3 _ _ H3.out).mono ?_
  rintro e w' ⟨he, rfl⟩
  obtain rfl : e = .returned (.int .i64 0) := he
  go_wp2_with fail
  go_ret
  exact ⟨rfl, below_on HW.out HW.out.size B12.out⟩
end Go.Proofs.Ytamhajeighdjeaa
