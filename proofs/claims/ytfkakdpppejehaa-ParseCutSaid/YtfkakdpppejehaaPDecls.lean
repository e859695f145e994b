/-
  What decls of package model answers, at every model that can be read.
-/
import Derived.Test.YtfkakdpppejehaaKNum
namespace Go.Proofs.Ytfkakdpppejehaa
open Go.RowKit
set_option maxRecDepth 100000

set_option maxRecDepth 100000 in
set_option maxHeartbeats 2000000 in
theorem pdecls_cells (pb : Option Addr) (bb ob cb lb : Nat) (gv : Value) (m : PModel) (w : World) (h : Mod w pb bb ob cb lb gv m) (hl : lb ≤ 1000) (hv : ∀ x ∈ m.blocks, x.vars.length ≤ 1000) (ht : (varsL m.blocks).length ≤ 100000) :
    Calls Try.prog 46 #[.agg #[.slice pb lb cb, gv]] w fun e w' => ∃ v, e = .returned v ∧ OwnsOf rDecl 2 44 w w' v (varsL m.blocks) ∧ Below w.heap.size w w' := by
  obtain ⟨i0, hi, hz0, hz1, hz2⟩ := info_parts info48
  have I := Lib.hid (And.intro hi (And.intro hz0 (And.intro hz1 hz2)))
  have HM := Lib.hid h
  have HV := Lib.hid hv
  have HT := Lib.hid ht
  have hp := h.blocks.at_
  have hlb : lb = m.blocks.length := h.blocks.long
  have HLB := Lib.hid hlb
  clear h hv ht hi hz0 hz1 hz2 hlb
  go_enter Try.func46, Try.ntmps46
  go_upto_region 1 with fail
  obtain ⟨W0, hW0⟩ : ∃ W0, W0 = w.alloc (.cells #[.slice pb lb cb, gv] 26) := ⟨_, rfl⟩
  rw [← hW0]
  have hB0 : Below w.heap.size w W0 := by rw [hW0]; exact (Below.refl _ w).alloc (Nat.le_refl _) _
  have hb0 : W0.cell? ⟨w.heap.size, 0, none⟩ = some (.slice pb lb cb) := by rw [hW0]; go_simp
  have HB0 := Lib.hid hB0
  clear hW0 hB0
  go_wp2_with fail
  go_loopw [3, 9] (fun o i wr => ∃ k : Nat, k ≤ lb ∧ i = .int .i64 k ∧ OwnsOf rDecl 2 44 w wr o (varsL (m.blocks.take k)) ∧ Below w.heap.size w wr) (fun _ i _ => lb - (intOf i).toNat)
  case atStart => exact ⟨0, by omega, rfl, ownsOf_nil rDecl 2 44 w W0, HB0.out⟩
  case round =>
    obtain ⟨k, hk, rfl, hown, hB⟩ := hrel
    obtain ⟨A, eA⟩ : ∃ A, A = varsL (m.blocks.take k) := ⟨_, rfl⟩
    rw [← eA] at hown
    obtain ⟨po, co, rfl⟩ := hown.shape
    by_cases hlt : k < lb
    · obtain rfl := hp (by omega)
      obtain ⟨x, v1, v2, ex, ed, a0, a1, a2, sv, sc⟩ := block_at HM.out.blocks hlt
      have a0 := cell_stays hB a0
      have a1 := cell_stays hB a1
      have a2 := cell_stays hB a2
      obtain ⟨p1, b1, o1, c1, l1, rfl, hnl, hs⟩ := sv
      obtain ⟨p2, l2, c2, rfl⟩ := slc_shape sc
      have hnl := hnl.1
      have hxv := HV.out x (List.mem_of_getElem? ex)
      have hnx := vars_drop ed
      have hA : A.length ≤ 100000 := by
        rw [eA]
        have h2 := vars_to m.blocks k
        have h3 := HT.out
        omega
      rw [← hs.long] at hxv
      rw [← eA] at hnx
      generalize x.all = xa at a0
      obtain ⟨W1, hW1⟩ : ∃ W1, W1 = wr.alloc (.cells #[.bool xa, .slice p1 l1 c1, .slice p2 l2 c2] 47) := ⟨_, rfl⟩
      have hBa : Below wr.heap.size wr W1 := by rw [hW1]; exact (Below.refl _ wr).alloc (Nat.le_refl _) _
      have q1 : W1.cell? ⟨wr.heap.size, 1, none⟩ = some (.slice p1 l1 c1) := by rw [hW1]; go_simp
      have HO := Lib.hid (hown.below hBa)
      have HB := Lib.hid (hB.trans (hBa.mono hB.size))
      have NX := Lib.hid hnx
      have HSL := Lib.hid hs
      have HNL := Lib.hid hnl
      have HW1 := Lib.hid hW1
      have hsz : w.heap.size ≤ W1.heap.size := HB.out.size
      have hi := I.out.1
      have hz0 := I.out.2.1
      have hz1 := I.out.2.2.1
      have hz2 := I.out.2.2.2
      clear hown hB ex ed hs hnx eA hnl sc hW1 hBa
      go_upto_region 5 with fail
      rw [← HW1.out]
      clear a0 a1 a2
      go_wp2_with (at_builtin; refine append_of rDecl_one rfl _ _ 45 44 2 40 i0 _ Try.underlying45 hi hz0 hz1 hz2 rfl (by decide) (by decide) rfl _ p1 b1 o1 c1 l1 A x.vars rfl rfl HO.out HSL.out HNL.out HB.out (by omega) hsz ?_; intro v' w1 hown' hgrow)
      go_roundw
      case rel =>
        refine ⟨k + 1, by omega, by go_num, ?_, ?_⟩
        · rw [NX.out]
          exact hown'
        · exact HB.out.grown hgrow hsz (fun j e => (HO.out.lt j e).1)
      case measure => simp [intOf]; omega
    · have hf : A = varsL m.blocks := by
        rw [eA, List.take_of_length_le (by rw [← HLB.out]; omega)]
      have HF := Lib.hid hf
      have HB := Lib.hid hB
      have HO := Lib.hid hown
      clear hown hB hf eA
      go_wp2_with fail
      go_ret
      exact ⟨_, rfl, HF.out ▸ HO.out, HB.out⟩
theorem pdecls_any {w : World} {bv gv : Value} {m : PModel} (h : rModel w [bv, gv] m) (hf : Few m) :
    Calls Try.prog 46 #[.agg #[bv, gv]] w fun e w' => ∃ v, e = .returned v ∧ OwnsOf rDecl 2 44 w w' v (varsL m.blocks) ∧ Below w.heap.size w w' := by
  obtain ⟨pb, bb, ob, cb, lb, rfl, hm⟩ := mod_of h
  exact pdecls_cells pb bb ob cb lb gv m w hm (by rw [hm.blocks.long]; exact hf.blocks) hf.vars (by have := hf.few; omega)
end Go.Proofs.Ytfkakdpppejehaa
