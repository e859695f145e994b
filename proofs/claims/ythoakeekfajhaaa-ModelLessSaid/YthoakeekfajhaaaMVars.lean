/-
  What Vars of the document's answers answers, at every model that can be read.
-/
import Derived.Test.YthoakeekfajhaaaMApp
namespace Go.Proofs.Ythoakeekfajhaaa
open Go.RowKit

theorem rDecl_one : rDecl.One := fun w cs a ⟨s, v, h1, _, p, b, off, c, len, h3, _, _⟩ u hu => by
  subst h1 h3
  simp at hu
  rcases hu with rfl | rfl <;> rfl
theorem info48 : (Try.prog.info? 48).map (fun i => (i.zero, i.size, i.bytes)) = some (some (.agg #[.string ⟨#[]⟩, .slice none 0 0]), 2, 40) := by kernel_rfl

theorem vars_drop {bs : List PBlock} {k : Nat} {x : PBlock} (e : bs.drop k = x :: bs.drop (k + 1)) : varsL (bs.take (k + 1)) = varsL (bs.take k) ++ x.vars := by
  have hk : k < bs.length := by
    have := congrArg List.length e
    rw [List.length_drop, List.length_cons] at this
    omega
  rw [List.drop_eq_getElem_cons hk] at e
  simp only [List.cons.injEq, and_true] at e
  rw [List.take_add_one, List.getElem?_eq_getElem hk, e]
  simp [varsL]
theorem vars_few (bs : List PBlock) (h : ∀ x ∈ bs, x.vars.length ≤ 1000) : (varsL bs).length ≤ bs.length * 1000 := by
  induction bs with
  | nil => simp [varsL]
  | cons x r ih =>
    have h1 := h x (by simp)
    have h2 := ih fun y hy => h y (by simp [hy])
    have e : varsL (x :: r) = x.vars ++ varsL r := by simp [varsL]
    rw [e, List.length_append, List.length_cons]
    omega

set_option maxRecDepth 100000 in
set_option maxHeartbeats 2000000 in
theorem vars_cells (pb : Option Addr) (bb ob cb lb : Nat) (gv : Value) (m : PModel) (w : World) (h : Mod w pb bb ob cb lb gv m) (hl : lb ≤ 100) (hv : ∀ x ∈ m.blocks, x.vars.length ≤ 1000) :
    Calls Try.prog 17 #[.agg #[.slice pb lb cb, gv]] w fun e w' => ∃ v, e = .returned v ∧ Slc rDecl 2 w' v (varsL m.blocks) ∧ Below w.heap.size w w' := by
  obtain ⟨i0, hi, hz0, hz1, hz2⟩ := info_parts info48
  have I := Lib.hid (And.intro hi (And.intro hz0 (And.intro hz1 hz2)))
  have HM1 := Lib.hid h
  have HV := Lib.hid hv
  have hp := h.blocks.at_
  have hlb : lb = m.blocks.length := h.blocks.long
  have HLB := Lib.hid hlb
  clear h hv hi hz0 hz1 hz2 hlb
  go_enter Try.func17, Try.ntmps17
  go_upto_region 1 with fail
  obtain ⟨W0, hW0⟩ : ∃ W0, W0 = w.alloc (.cells #[.slice pb lb cb, gv] 25) := ⟨_, rfl⟩
  rw [← hW0]
  have hB0 : Below w.heap.size w W0 := by rw [hW0]; exact (Below.refl _ w).alloc (Nat.le_refl _) _
  have hb0 : W0.cell? ⟨w.heap.size, 0, none⟩ = some (.slice pb lb cb) := by rw [hW0]; go_simp
  have HB0 := Lib.hid hB0
  have HC0 := Lib.hid hb0
  have HM := Lib.hid (HM1.out.below hB0)
  clear hW0 hB0 hb0
  go_wp2_with fail
  go_loopw [3, 4] (fun o i wr => ∃ k : Nat, k ≤ lb ∧ i = .int .i64 k ∧ OwnsOf rDecl 2 48 W0 wr o (varsL (m.blocks.take k)) ∧ Below W0.heap.size W0 wr) (fun _ i _ => lb - (intOf i).toNat)
  case atStart => exact ⟨0, by omega, rfl, ownsOf_made rDecl 2 48 W0 W0 (Nat.le_refl _), (Below.refl _ W0).alloc (Nat.le_refl _) _⟩
  case round =>
    obtain ⟨k, hk, rfl, hown, hB⟩ := hrel
    obtain ⟨A, eA⟩ : ∃ A, A = varsL (m.blocks.take k) := ⟨_, rfl⟩
    rw [← eA] at hown
    obtain ⟨po, co, rfl⟩ := hown.shape
    have hb := cell_stays hB HC0.out
    have HB := Lib.hid hB
    have HO := Lib.hid hown
    have HA := Lib.hid eA
    by_cases hlt : k < lb
    · obtain rfl := hp (by omega)
      obtain ⟨x, v1, v2, ex, ed, a0, a1, a2, sv, _⟩ := block_at HM.out.blocks hlt
      have a1 := cell_stays hB a1
      obtain ⟨p1, b1, o1, c1, l1, rfl, hnl, hs⟩ := sv
      have hnl := hnl.1
      have hxv := HV.out x (List.mem_of_getElem? ex)
      have hnx := vars_drop ed
      have hA : A.length ≤ 100000 := by
        rw [eA]
        have := vars_few (m.blocks.take k) fun y hy => HV.out y (List.mem_of_mem_take hy)
        have h2 : (m.blocks.take k).length ≤ k := List.length_take_le _ _
        omega
      rw [← hs.long] at hxv
      rw [← eA] at hnx
      have NX := Lib.hid hnx
      have HSL := Lib.hid hs
      have HNL := Lib.hid hnl
      have hsz := HB.out.size
      have hi := I.out.1
      have hz0 := I.out.2.1
      have hz1 := I.out.2.2.1
      have hz2 := I.out.2.2.2
      clear hown hB ex ed hs hnx a0 a2 eA hnl
      go_wp2_with (at_builtin; refine append_of rDecl_one rfl _ _ 37 48 2 40 i0 _ Try.underlying37 hi hz0 hz1 hz2 rfl (by decide) (by decide) rfl _ p1 b1 o1 c1 l1 A x.vars rfl rfl HO.out HSL.out HNL.out HB.out (by omega) hsz ?_; intro v' w1 hown' hgrow)
      go_roundw
      case rel =>
        refine ⟨k + 1, by omega, by go_num, ?_, ?_⟩
        · rw [NX.out]
          exact hown'
        · exact HB.out.grown hgrow hsz (fun j e => (HO.out.lt j e).1)
      case measure => simp [intOf]; omega
    · have hf : A = varsL m.blocks := by
        rw [eA, List.take_of_length_le (by rw [← HLB.out]; omega)]
      have HF := Lib.hid hf
      clear hown hB hf
      go_wp2_with fail
      go_ret
      exact ⟨_, rfl, HF.out ▸ HO.out.slc rDecl_stays HB.out, HB0.out.trans (HB.out.mono HB0.out.size)⟩
theorem vars_any {w : World} {bv gv : Value} {m : PModel} (h : rModel w [bv, gv] m) (hl : m.blocks.length ≤ 100) (hv : ∀ x ∈ m.blocks, x.vars.length ≤ 1000) :
    Calls Try.prog 17 #[.agg #[bv, gv]] w fun e w' => ∃ v, e = .returned v ∧ Slc rDecl 2 w' v (varsL m.blocks) ∧ Below w.heap.size w w' := by
  obtain ⟨pb, bb, ob, cb, lb, rfl, hm⟩ := mod_of h
  exact vars_cells pb bb ob cb lb gv m w hm (by rw [hm.blocks.long]; exact hl) hv

theorem slc_of_ints {w : World} {base : Nat} {v : Value} {xs : List Int} (h : OwnsI w base v xs) (hf : ∀ x ∈ xs, Fit x) : Slc rNum 1 w v xs := by
  have h0 := h
  rcases h.2 with ⟨rfl, hl⟩ | ⟨g, cap, cur, rfl, hb, hg, hn, hc, hs, ht⟩
  · exact ⟨none, 0, 0, 0, 0, rfl, ⟨fun _ => rfl, Nat.le_refl _⟩, hl.symm, fun h => by omega, fun k a ha => by
      have := (List.getElem?_eq_some_iff.1 ha).1
      omega⟩
  · refine ⟨_, g, 0, cap, xs.length, rfl, ⟨(fun h => by cases h), hn⟩, rfl, fun _ => rfl, fun k a ha => ?_⟩
    have hk := (List.getElem?_eq_some_iff.1 ha).1
    refine ⟨[.int .i64 a], rfl, fun j hj => ?_, rfl, hf a (List.mem_of_getElem? ha)⟩
    obtain rfl : j = 0 := by omega
    rw [Nat.zero_add, Nat.mul_one, Nat.add_zero, h0.cellAt k (by omega)]
    simp [ha]
theorem ends_fit : ∀ (bs : List PBlock) (n : Nat), n + bs.length * 1000 ≤ 1000000 → (∀ x ∈ bs, x.vars.length ≤ 1000) → ∀ z ∈ endsF n bs, Fit z
  | [], _, _, _, z, hz => by simp [endsF] at hz
  | x :: r, n, h, hv, z, hz => by
    have hx := hv x (by simp)
    rw [List.length_cons] at h
    rw [endsF, List.mem_cons] at hz
    rcases hz with rfl | hz
    · unfold Fit; omega
    · exact ends_fit r (n + x.vars.length) (by omega) (fun y hy => hv y (by simp [hy])) z hz
theorem ends_any {w : World} {bv gv : Value} {m : PModel} (h : rModel w [bv, gv] m) (hl : m.blocks.length ≤ 1000) (hv : ∀ x ∈ m.blocks, x.vars.length ≤ 1000) :
    Calls Try.prog 20 #[.agg #[bv, gv]] w fun e w' => ∃ v, e = .returned v ∧ Slc rNum 1 w' v (endsF 0 m.blocks) ∧ Below w.heap.size w w' := by
  obtain ⟨pb, bb, ob, cb, lb, rfl, hm⟩ := mod_of h
  refine (ends_cells pb bb ob cb lb gv m w hm (by rw [hm.blocks.long]; exact hl) hv).mono ?_
  rintro e w' ⟨v, rfl, ho, hB⟩
  exact ⟨v, rfl, slc_of_ints ho (ends_fit m.blocks 0 (by omega) hv), hB⟩
end Go.Proofs.Ythoakeekfajhaaa
