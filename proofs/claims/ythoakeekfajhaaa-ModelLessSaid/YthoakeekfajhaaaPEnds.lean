/-
  What Ends of package model answers, at every model that can be read.
-/
import Derived.Test.YthoakeekfajhaaaPVars
namespace Go.Proofs.Ythoakeekfajhaaa
open Go.RowKit

set_option maxRecDepth 100000 in
set_option maxHeartbeats 2000000 in
theorem pends_cells (pb : Option Addr) (bb ob cb lb : Nat) (gv : Value) (m : PModel) (w : World) (h : Mod w pb bb ob cb lb gv m) (hl : lb ≤ 1000) (hv : ∀ x ∈ m.blocks, x.vars.length ≤ 1000) :
    Calls Try.prog 19 #[.agg #[.slice pb lb cb, gv]] w fun e w' => ∃ v, e = .returned v ∧ OwnsI w' w.heap.size v (endsF 0 m.blocks) ∧ Below w.heap.size w w' := by
  obtain ⟨i0, hi, hz0, hz1, hz2⟩ := info_parts info3
  have I := Lib.hid (And.intro hi (And.intro hz0 (And.intro hz1 hz2)))
  have HM := Lib.hid h
  have HV := Lib.hid hv
  have hp := h.blocks.at_
  have HS := Lib.hid (ends_start m.blocks)
  clear h hv hi hz0 hz1 hz2
  go_enter Try.func19, Try.ntmps19
  go_upto_region 1 with fail
  obtain ⟨W0, hW0⟩ : ∃ W0, W0 = w.alloc (.cells #[.slice pb lb cb, gv] 25) := ⟨_, rfl⟩
  rw [← hW0]
  have hB0 : Below w.heap.size w W0 := by rw [hW0]; exact (Below.refl _ w).alloc (Nat.le_refl _) _
  have hb0 : W0.cell? ⟨w.heap.size, 0, none⟩ = some (.slice pb lb cb) := by rw [hW0]; go_simp
  have HB0 := Lib.hid hB0
  have HC0 := Lib.hid hb0
  have HM := Lib.hid (HM.out.below hB0)
  clear hW0 hB0
  go_wp2_with fail
  go_loopw [3, 4, 10] (fun o t i wr => ∃ k n : Nat, k ≤ lb ∧ i = .int .i64 k ∧ t = .int .i64 n ∧ ∃ xs, EndsRel m.blocks k n xs ∧ OwnsI wr W0.heap.size o xs ∧ Below W0.heap.size W0 wr) (fun _ _ i _ => lb - (intOf i).toNat)
  case atStart => exact ⟨0, 0, by omega, rfl, rfl, [], HS.out, World.ownsRow_nil _ _ _ _, Below.refl _ W0⟩
  case round =>
    obtain ⟨k, n, hk, rfl, rfl, xs, hrel, hown, hB⟩ := hrel
    obtain ⟨po, co, rfl⟩ := ints_shape hown
    have hb := cell_stays hB HC0.out
    have HB := Lib.hid hB
    have HO := Lib.hid hown
    have hn := hrel.2.2
    have hxl := hrel.2.1
    by_cases hlt : k < lb
    · obtain rfl := hp (by omega)
      obtain ⟨x, v1, v2, ex, ed, a0, a1, a2, sv, sc⟩ := block_at (HM.out.below hB).blocks hlt
      obtain ⟨p1, b1, o1, c1, l1, rfl, _, hs⟩ := sv
      obtain ⟨p2, l2, c2, rfl⟩ := slc_shape sc
      have hxv := HV.out x (List.mem_of_getElem? ex)
      have hnx := ends_next hrel ed hxv
      have hl1 := hs.long
      rw [← hl1] at hnx hxv
      generalize x.all = xa at a0
      obtain ⟨W3, hW3⟩ : ∃ W3, W3 = wr.alloc (.cells #[.bool xa, .slice p1 l1 c1, .slice p2 l2 c2] 45) := ⟨_, rfl⟩
      have hB3 : Below wr.heap.size wr W3 := by rw [hW3]; exact (Below.refl _ wr).alloc (Nat.le_refl _) _
      have q1 : W3.cell? ⟨wr.heap.size, 1, none⟩ = some (.slice p1 l1 c1) := by rw [hW3]; go_simp
      have HW3 := Lib.hid hW3
      have HB := Lib.hid (HB.out.trans (hB3.mono HB.out.size))
      have HO := Lib.hid (owns_below HO.out hB3)
      have NX := Lib.hid hnx
      have hsz := HB.out.size
      have hi := I.out.1
      have hz0 := I.out.2.1
      have hz1 := I.out.2.2.1
      have hz2 := I.out.2.2.2
      have hmx : xs.length + 1 ≤ maxLen := by unfold maxLen; omega
      clear hrel hown hB ex ed hs hl1 hnx sc hW3 hB3
      go_upto_region 6 with fail
      rw [← HW3.out]
      clear a0 a1 a2
      go_wp2_with (at_builtin; refine wpList_append_own _ rfl _ _ 26 rfl W0.heap.size 3 i0 (.int .i64 0) 1 8 Try.underlying26 hi hz0 hz1 hz2 rfl (by decide) _ _ _ rfl (HO.out.alloc _) ⟨W3.heap.size, 0, none⟩ 1 1 [.int .i64 ((n : Int) + (l1 : Int))] rfl rfl (cells_one _ _ _) (by simp [Value.oneCell']) hmx (by omega) (by simp; omega) ?_; intro v' w1 hown' hgrow _)
      go_roundw
      case rel =>
        refine ⟨k + 1, n + l1, by omega, by go_num, by go_num, _, NX.out, ?_, ?_⟩
        · unfold OwnsI
          simpa using hown'
        · exact (HB.out.alloc hsz _).grown hgrow (by simp; omega) (fun j e => (HO.out.lt j e).1)
      case measure => simp [intOf]; omega
    · have hf : endsF 0 m.blocks = xs := by
        rw [hrel.1, List.drop_of_length_le (by rw [← HM.out.blocks.long]; omega), endsF, List.append_nil]
      have HF := Lib.hid hf
      clear hrel hown hB hf
      go_wp2_with fail
      go_ret
      exact ⟨_, rfl, by rw [HF.out]; exact owns_low HO.out HB0.out.size, HB0.out.trans (HB.out.mono HB0.out.size)⟩
theorem pends_any {w : World} {bv gv : Value} {m : PModel} (h : rModel w [bv, gv] m) (hl : m.blocks.length ≤ 1000) (hv : ∀ x ∈ m.blocks, x.vars.length ≤ 1000) :
    Calls Try.prog 19 #[.agg #[bv, gv]] w fun e w' => ∃ v, e = .returned v ∧ Slc rNum 1 w' v (endsF 0 m.blocks) ∧ Below w.heap.size w w' := by
  obtain ⟨pb, bb, ob, cb, lb, rfl, hm⟩ := mod_of h
  refine (pends_cells pb bb ob cb lb gv m w hm (by rw [hm.blocks.long]; exact hl) hv).mono ?_
  rintro e w' ⟨v, rfl, ho, hB⟩
  exact ⟨v, rfl, slc_of_ints ho (ends_fit m.blocks 0 (by omega) hv), hB⟩
end Go.Proofs.Ythoakeekfajhaaa
