/-
  SumsTells answers true at every two numbers, every rel and every two slices that read as numbers, and changes nothing that was there.
-/
import Derived.Test.YtcafhlleoailfaaAwake
import Derived.Test.YtcafhlleoailfaaRdot
import Derived.BigGuardPart
namespace Go.Proofs.Ytcafhlleoailfaa
open Go.RowKit

theorem reads_below {W W' : World} {v : Value} {xs : List Int} (h : Reads W v xs) (hb : Below W.heap.size W W') : Reads W' v xs := by
  rcases h with h | ⟨b, off, cap, hv, hc⟩
  · exact Or.inl h
  · exact Or.inr ⟨b, off, cap, hv, fun k hk => (hb.cell (p := ⟨b, off + k, none⟩) (World.block_lt_of_cell? W _ (hc k hk))).trans (hc k hk)⟩
theorem reads_drawn {W : World} {v : Value} {xs : List Int} (h : Reads W v xs) (n : Nat) : Reads (W.drewN n) v xs := h

set_option maxRecDepth 100000 in
set_option maxHeartbeats 1000000 in
theorem tells_law (a b r : Int) (p q : Option Addr) (m n c d : Nat) (xs ys : List Int) (w : World)
    (ha : -9223372036854775808 ≤ a ∧ a ≤ 9223372036854775807) (hb : -9223372036854775808 ≤ b ∧ b ≤ 9223372036854775807)
    (hx : Reads w (.slice p m c) xs) (hy : Reads w (.slice q n d) ys) (hm : xs.length ≤ maxLen)
    (fx : ∀ k, k < xs.length → -9223372036854775808 ≤ xs.getD k 0 ∧ xs.getD k 0 ≤ 9223372036854775807) (fy : ∀ k, k < ys.length → -9223372036854775808 ≤ ys.getD k 0 ∧ ys.getD k 0 ≤ 9223372036854775807) :
    Calls Try.prog 3 #[.int .i64 a, .int .i64 b, .int .i64 r, .slice p m c, .slice q n d] w (Yes w) := by
  have A := Lib.hid (fun w => add_any a b w ha hb)
  have RA := Lib.hid (fun w => radd_any a b w ha hb)
  have M := Lib.hid (fun w => mul_any a b w ha hb)
  have RM := Lib.hid (fun w => rmul_any a b w ha hb)
  obtain ⟨s, hs⟩ : ∃ s, s = dot xs ys := ⟨_, rfl⟩
  have D := Lib.hid (fun w hx hy => dot_any (.slice p m c) (.slice q n d) xs ys w hx hy hm fx fy)
  have RD := Lib.hid (fun w hx hy => rdot_any (.slice p m c) (.slice q n d) xs ys w hx hy hm fx fy)
  rw [← hs] at D RD
  have HX := Lib.hid hx
  have HY := Lib.hid hy
  clear hx hy fx fy hm ha hb hs
  go_enter Try.func3, Try.ntmps3
  go_wp2_with fail
  refine (awake_any w).mono ?_
  rintro e' w1 ⟨rfl, hg, hb⟩
  have HG := Lib.hid hg
  have HB := Lib.hid hb
  have GX := Lib.hid (reads_below HX.out hb)
  have GY := Lib.hid (reads_below HY.out hb)
  clear hg hb HX HY
  go_wp2_with fail
  · go_ret
    exact ⟨rfl, HG.out, HB.out⟩
  · go_ret
    exact ⟨rfl, HG.out, HB.out⟩
  · refine (A.out _).mono ?_
    rintro e w' ⟨rfl, rfl⟩
    go_wp2_with fail
    refine (RA.out _).mono ?_
    rintro e w' ⟨rfl, rfl⟩
    go_wp2_with fail
    refine (M.out _).mono ?_
    rintro e w' ⟨rfl, rfl⟩
    go_wp2_with fail
    refine (RM.out _).mono ?_
    rintro e w' ⟨rfl, rfl⟩
    go_wp2_with fail
    refine (D.out _ GX.out GY.out).mono ?_
    rintro e w' ⟨rfl, i, rfl⟩
    go_wp2_with fail
    refine (RD.out _ (reads_drawn GX.out _) (reads_drawn GY.out _)).mono ?_
    rintro e w' ⟨rfl, j, rfl⟩
    go_wp2_with fail
    refine (holds_any _ _ _ _).mono ?_
    rintro e w' ⟨rfl, rfl⟩
    go_wp2_with fail
    refine (rholds_any _ _ _ _).mono ?_
    rintro e w' ⟨rfl, rfl⟩
    go_wp2_with fail
    go_ret
    exact ⟨rfl, grown_drawn HG.out _, below_drawn HB.out _⟩
end Go.Proofs.Ytcafhlleoailfaa
