/-
  What awake of the law answers.
-/
import Derived.Test.YthdchifahgcjnaaCSame
namespace Go.Proofs.Ythdchifahgcjnaa
open Go.RowKit

def lit : List Tok := [⟨1, [120], 0, 0⟩, ⟨3, [60, 61], 0, 1⟩, ⟨3, [45], 0, 3⟩, ⟨2, [49, 50], 12, 4⟩, ⟨3, [46, 46], 0, 6⟩, ⟨1, [121], 0, 8⟩]
theorem lit_one : scanL 0 [120, 60, 61, 45, 49, 50, 46, 46, 121] = .ok lit := by kernel_rfl
theorem lit_two : scanL 0 [120, 32, 46] = .bad 2 2 := by kernel_rfl
theorem lit_three : scanL 0 [32, 32, 49, 48, 57, 57, 53, 49, 49, 54, 50, 55, 55, 55, 55] = .bad 2 5 := by kernel_rfl

theorem lit_sees (w : World) : Sees (w.alloc (.cells #[.int .i64 1, .string ⟨#[120]⟩, .int .i64 0, .int .i64 0, .int .i64 3, .string ⟨#[60, 61]⟩, .int .i64 0, .int .i64 1, .int .i64 3, .string ⟨#[45]⟩, .int .i64 0, .int .i64 3,
    .int .i64 2, .string ⟨#[49, 50]⟩, .int .i64 12, .int .i64 4, .int .i64 3, .string ⟨#[46, 46]⟩, .int .i64 0, .int .i64 6, .int .i64 1, .string ⟨#[121]⟩, .int .i64 0, .int .i64 8] 36)) (.slice (some ⟨w.heap.size, 0, none⟩) 6 6) lit := by
  refine ⟨_, w.heap.size, 0, 6, rfl, fun _ => rfl, fun k hk => ?_⟩
  rw [World.cell?_alloc_mark, World.cell?_alloc_mark, World.cell?_alloc_mark, World.cell?_alloc_mark]
  match k, hk with
  | 0, _ => exact ⟨rfl, rfl, rfl, rfl⟩
  | 1, _ => exact ⟨rfl, rfl, rfl, rfl⟩
  | 2, _ => exact ⟨rfl, rfl, rfl, rfl⟩
  | 3, _ => exact ⟨rfl, rfl, rfl, rfl⟩
  | 4, _ => exact ⟨rfl, rfl, rfl, rfl⟩
  | 5, _ => exact ⟨rfl, rfl, rfl, rfl⟩

set_option maxRecDepth 100000 in
theorem awake_any (w : World) : Calls Try.prog 5 #[] w fun e w' => e = .returned (.bool true) ∧ Below w.heap.size w w' := by
  have S1 := Lib.hid (fun W => scan_any ⟨#[120, 60, 61, 45, 49, 50, 46, 46, 121]⟩ W (by decide))
  have S2 := Lib.hid (fun W => scan_any ⟨#[120, 32, 46]⟩ W (by decide))
  have S3 := Lib.hid (fun W => scan_any ⟨#[32, 32, 49, 48, 57, 57, 53, 49, 49, 54, 50, 55, 55, 55, 55]⟩ W (by decide))
  rw [show txt ⟨#[120, 60, 61, 45, 49, 50, 46, 46, 121]⟩ = [120, 60, 61, 45, 49, 50, 46, 46, 121] from rfl, lit_one] at S1
  rw [show txt ⟨#[120, 32, 46]⟩ = [120, 32, 46] from rfl, lit_two] at S2
  rw [show txt ⟨#[32, 32, 49, 48, 57, 57, 53, 49, 49, 54, 50, 55, 55, 55, 55]⟩ = [32, 32, 49, 48, 57, 57, 53, 49, 49, 54, 50, 55, 55, 55, 55] from rfl, lit_three] at S3
  go_enter Try.func5, Try.ntmps5
  go_wp2_with fail
  refine (S1.out _).mono ?_
  rintro e w1 ⟨⟨v, rfl, ho⟩, hB1⟩
  have HO := Lib.hid ho
  have HB1 := Lib.hid hB1
  clear ho hB1
  go_wp2_with fail
  refine (S2.out _).mono ?_
  rintro e w2 ⟨h2, hB2⟩
  obtain rfl : e = _ := h2
  have HB2 := Lib.hid (below_two HB1.out hB2)
  have HO2 := Lib.hid (owns_below HO.out hB2)
  clear hB2
  go_wp2_with fail
  refine (S3.out _).mono ?_
  rintro e w3 ⟨h3, hB3⟩
  obtain rfl : e = _ := h3
  have HB3 := Lib.hid (below_two HB2.out hB3)
  have HO3 := Lib.hid (owns_below HO2.out hB3)
  have OW := Lib.hid (own_any (sees_of_owns HO3.out) (by decide))
  clear hB3
  go_wp2_with (go_at_call 9; refine OW.out.mono ?_; rintro e w4 ⟨v4, rfl, ho4, hB4⟩)
  refine (same_any (sees_below (sees_of_owns ho4) ((Below.refl _ w4).alloc (Nat.le_refl _) _)) (lit_sees w4) (by decide)).mono ?_
  rintro e w5 ⟨rfl, nq, rfl⟩
  have HB5 : Hid (∀ o, Below w.heap.size w (w4.alloc o)) := Lib.hid (fun o => (below_two HB3.out hB4).trans (((Below.refl _ w4).alloc (Nat.le_refl _) o).mono (below_two HB3.out hB4).size))
  clear ho4 hB4
  go_wp2_with fail
  go_ret
  exact ⟨rfl, below_drewN (HB5.out _)⟩
end Go.Proofs.Ythdchifahgcjnaa
