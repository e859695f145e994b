/-
  What stands of package ground answers: whether values are a row of a table.
-/
import Derived.RangeFuncFrom
import Derived.RangeFuncCalls
import Derived.Shelf.RegionOpen
import Derived.Test.YtkhjnicmbkklpaaVPChunk
import Derived.Test.YtkhjnicmbkklpaaPEqN
namespace Go.Proofs.Ytkhjnicmbkklpaa.Gr
open Go.RowKit Go.Shelf
set_option maxRecDepth 100000

attribute [local go_sem] Oper.semAt_some

theorem tableAt_iff {v nums : List Int} {m rounds : Nat} (hm : m = v.length) (h1 : 1 ≤ m) (hl : nums.length = rounds * m) : ∀ (d j : Nat), j + d = rounds → (tableAt v nums (j * m) = true ↔ ∃ i, j ≤ i ∧ i < rounds ∧ (nums.drop (i * m)).take m = v)
  | 0, j, h => by
    obtain rfl : j = rounds := by omega
    rw [tableAt_end (by omega)]
    constructor
    · intro h; cases h
    · rintro ⟨i, h1, h2, _⟩; omega
  | d + 1, j, h => by
    have hq := (cutAt_in hl (show j < rounds by omega)).2
    have ih := tableAt_iff hm h1 hl d (j + 1) (by omega)
    rw [Nat.add_mul, Nat.one_mul] at ih
    rw [tableAt_next (by omega) (by omega) (by omega), Bool.or_eq_true, rowIs_all (by omega), decide_eq_true_eq, ← hm, ih]
    constructor
    · rintro (q | ⟨i, q1, q2, q3⟩)
      · exact ⟨j, Nat.le_refl _, by omega, q⟩
      · exact ⟨i, by omega, q2, q3⟩
    · rintro ⟨i, q1, q2, q3⟩
      by_cases e : i = j
      · subst e; exact .inl q3
      · exact .inr ⟨i, by omega, q2, q3⟩
theorem table_hit {v nums : List Int} {m rounds j : Nat} (hm : m = v.length) (h1 : 1 ≤ m) (hl : nums.length = rounds * m) (hj : j < rounds) (h : (nums.drop (j * m)).take m = v) : tableG v nums.length nums = true := by
  have := (tableAt_iff hm h1 hl rounds 0 (by omega)).2 ⟨j, by omega, hj, h⟩
  rwa [Nat.zero_mul, tableAt_zero] at this
theorem table_miss {v nums : List Int} {m rounds : Nat} (hm : m = v.length) (h1 : 1 ≤ m) (hl : nums.length = rounds * m) (h : ∀ j, j < rounds → (nums.drop (j * m)).take m ≠ v) : tableG v nums.length nums = false := by
  cases q : tableG v nums.length nums
  · rfl
  · rw [← tableAt_zero, ← Nat.zero_mul m] at q
    obtain ⟨i, _, q2, q3⟩ := (tableAt_iff hm h1 hl rounds 0 (by omega)).1 q
    exact absurd q3 (h i q2)
theorem cut_nums {w : World} {p : Option Addr} {b off len m rounds j : Nat} {xs : List Int} (h : Nums w p b off len xs) (hl : len = rounds * m) (hj : 0 < rounds) :
    Nums w (some ⟨b, off + cutAt m len j, none⟩) b (off + cutAt m len j) m ((xs.drop (cutAt m len j)).take m) := by
  have hm : m ≤ len := by
    have := Nat.mul_le_mul_right m (show 1 ≤ rounds by omega)
    omega
  have hc : cutAt m len j + m ≤ len := by unfold cutAt; omega
  have hx := h.long
  have e : ∀ k, k < m → ((xs.drop (cutAt m len j)).take m).getD k 0 = xs.getD (cutAt m len j + k) 0 := fun k hk => by
    rw [List.getD_eq_getElem?_getD, List.getD_eq_getElem?_getD, List.getElem?_take_of_lt hk, List.getElem?_drop]
  refine ⟨by rw [List.length_take, List.length_drop]; omega, fun _ => rfl, fun k hk => ?_, fun k hk => ?_⟩
  · rw [e k hk, Nat.add_assoc]; exact h.cell _ (by omega)
  · rw [e k hk]; exact h.fit _ (by omega)
theorem grown_sum {W u : World} (h : ∃ n, u = W.drewN n) : KeepsOthers W u := by
  obtain ⟨n, rfl⟩ := h
  exact KeepsOthers.of_grownBy (grown_drewN W n none) (fun j o e => by cases e)

set_option maxHeartbeats 4000000 in
theorem stands_cells (pn pv : Option Addr) (bn on ln cn bv ov lv cv : Nat) (nums v : List Int) (w : World) (hn : Nums w pn bn on ln nums) (hv : Nums w pv bv ov lv v) (hl1 : 1 ≤ lv) (hlv : lv ≤ 1000) (hln : ln ≤ 1000) (hcap : ln ≤ cn) (hdv : ln % lv = 0) :
    Calls Try.prog 38 #[.slice pn ln cn, .slice pv lv cv] w fun e w' => e = .returned (.bool (tableG v nums.length nums)) ∧ Below w.heap.size w w' := by
  refine (callsIn_wide (n := 5)).1 ?_
  obtain ⟨rounds, hrd⟩ : ∃ rounds, ln = rounds * lv := ⟨ln / lv, (Nat.div_mul_cancel (Nat.dvd_of_mod_eq_zero hdv)).symm⟩
  have HN := Lib.hid hn
  have HV := Lib.hid hv
  have HRD := Lib.hid hrd
  have HL := Lib.hid (show nums.length = rounds * lv by rw [← hn.long]; exact hrd)
  obtain ⟨R, hR⟩ : ∃ R, R = tableG v nums.length nums := ⟨_, rfl⟩
  rw [← hR]
  have HR := Lib.hid hR
  clear hn hv hrd hR hdv
  refine callsIn_of_wp_marks Try.func38 rfl trivial ?_ rfl
  simp only [Try.ntmps38, List.size_toArray, List.length_cons, List.length_nil, Nat.reduceAdd, Nat.reduceSub, Array.replicate_succ, Array.replicate_zero, List.push_toArray, List.append_toArray, List.nil_append, List.cons_append]
  gi_wp2_with (refine ⟨trivial, ?_⟩; gi_at_call 42; refine (chunk_any pn ln cn lv hl1 _ _).mono ?_; rintro e w' ⟨rfl, rfl⟩)
  have c0 := Boxed.new w 23 (.slice pv lv cv)
  have c1 := Boxed.new (w.alloc (.cells #[.slice pv lv cv] 23)) 4 (.bool false)
  have c2 := Boxed.new ((w.alloc (.cells #[.slice pv lv cv] 23)).alloc (.cells #[.bool false] 4)) 23 (.slice pn ln cn)
  have c3 := Boxed.new (((w.alloc (.cells #[.slice pv lv cv] 23)).alloc (.cells #[.bool false] 4)).alloc (.cells #[.slice pn ln cn] 23)) 3 (.int .i64 (lv : Int))
  simp only [World.size_alloc] at c1 c2 c3
  have hB0 : Below w.heap.size w ((((w.alloc (.cells #[.slice pv lv cv] 23)).alloc (.cells #[.bool false] 4)).alloc (.cells #[.slice pn ln cn] 23)).alloc (.cells #[.int .i64 (lv : Int)] 3)) := ((((Below.refl _ w).alloc (Nat.le_refl _) _).alloc (by simp) _).alloc (by simp; omega) _).alloc (by simp; omega) _
  refine wpIn_rangeFunc_ownF rfl (by omega) (gf := 45) (lb := #[.pointer (some ⟨w.heap.size + 1 + 1, 0, none⟩), .pointer (some ⟨w.heap.size + 1 + 1 + 1, 0, none⟩)]) rfl trivial (enters_of Try.func45 (by kernel_rfl) rfl)
    (chunk_stops 4 (by omega) (w.heap.size + 1 + 1) (w.heap.size + 1 + 1 + 1) (w.heap.size + 1 + 1 + 1 + 1) bn on ln cn lv rounds pn HN.out.at_ hl1 hlv HRD.out hln hcap (by omega) (by omega) _ (by simp) (c2.alloc _).cell c3.cell) belowK_t (belowK_b (by simp)) (Below.refl _ _) (fun _ => rfl)
    (fun pre W => ((∀ j ∈ pre, (nums.drop (cutAt lv ln j)).take lv ≠ v) ∧ W.cell? ⟨w.heap.size, 0, none⟩ = some (.slice pv lv cv) ∧ W.cell? ⟨w.heap.size + 1, 0, none⟩ = some (.bool false) ∧ W.frozen? ⟨w.heap.size + 1, 0, none⟩ = false) ∧ Below w.heap.size w W)
    (fun c pre W => (c = .ret ∧ (∃ j ∈ pre, (nums.drop (cutAt lv ln j)).take lv = v) ∧ W.cell? ⟨w.heap.size + 1, 0, none⟩ = some (.bool true)) ∧ Below w.heap.size w W)
    (OwnFrom.and (Own.from (fun s A B row hs hg hr => ⟨hs.1, cell_kept hs.2.1 hg hr, cell_kept hs.2.2.1 hg hr, (frozen_kept hs.2.2.1 hg hr).trans hs.2.2.2⟩) _) (ownFrom_below (Nat.le_refl _) (by simp; omega)))
    (fun c => OwnFrom.and (Own.from (fun s A B row hs hg hr => ⟨hs.1, hs.2.1, cell_kept hs.2.2 hg hr⟩) _) (ownFrom_below (Nat.le_refl _) (by simp; omega)))
    ⟨⟨by simp, (((c0.alloc _).alloc _).alloc _).cell, ((c1.alloc _).alloc _).cell, ((c1.alloc _).alloc _).frozen⟩, hB0⟩
    (fun j => { tmps := #[.slice pn ln cn, .slice pv lv cv, undef, .pointer (some ⟨w.heap.size, 0, none⟩), .pointer (some ⟨w.heap.size + 1, 0, none⟩), .slice (some ⟨bn, on + cutAt lv ln j, none⟩) lv lv, .slice pn ln cn, .slice pv lv cv, .int .i64 (lv : Int), .func (.func 45) #[] #[.pointer (some ⟨w.heap.size + 1 + 1, 0, none⟩), .pointer (some ⟨w.heap.size + 1 + 1 + 1, 0, none⟩)], .slice (some ⟨bn, on + cutAt lv ln j, none⟩) lv lv, undef, undef, undef], defers := [] }) ?assign ?body ?done ?stop
  case assign =>
    intro l x W K hK
    gi_wp2
    exact hK
  case body =>
    rintro l pre j W ⟨⟨hp, hcw, hcr, hfr⟩, hB⟩ hlt
    have E := Lib.hid (eqn_cells (some ⟨bn, on + cutAt lv ln j, none⟩) pv bn (on + cutAt lv ln j) lv bv ov cv lv lv _ v W
      (cut_nums (j := j) (⟨HN.out.long, HN.out.at_, fun k hk => cell_stays hB (HN.out.cell k hk), HN.out.fit⟩ : Nums W pn bn on ln nums) HRD.out (by omega)) ⟨HV.out.long, HV.out.at_, fun k hk => cell_stays hB (HV.out.cell k hk), HV.out.fit⟩ (by omega) (by omega))
    have HB := Lib.hid hB
    have HP := Lib.hid hp
    obtain ⟨q, hq⟩ : ∃ q, q = decide ((nums.drop (cutAt lv ln j)).take lv = v) := ⟨_, rfl⟩
    rw [← hq] at E
    have HQ := Lib.hid hq
    clear hB hp hq
    gi_wp2_with (refine ⟨trivial, ?_⟩; gi_at_call 43; refine (CallsIn.inRound l (callsIn_wide.2 E.out)).mono ?_; rintro e W2 ⟨rfl, n2, rfl⟩)
    · rename_i hx
      subst hx
      exact ⟨(grown_sum ⟨n2, rfl⟩).trans (KeepsOthers.setCell _ _ _), ⟨rfl, ⟨j, List.mem_append.2 (.inr (by simp)), of_decide_eq_true HQ.out.symm⟩, World.cell?_setCell_same' _ _ _ (by rw [show (W.drewN n2).cell? ⟨w.heap.size + 1, 0, none⟩ = some (.bool false) from hcr]; rfl)⟩, (below_drewN (n := n2) HB.out).setCell (p := ⟨w.heap.size + 1, 0, none⟩) (by simp) _⟩
    · rename_i hx
      subst hx
      exact ⟨grown_sum ⟨n2, rfl⟩, below_drewN (Below.refl _ _), ⟨fun i hi => (List.mem_append.1 hi).elim (HP.out i) (fun e => by simp at e; subst e; exact of_decide_eq_false HQ.out.symm), hcw, hcr, hfr⟩, below_drewN HB.out⟩
  case done =>
    rintro D ys W hD rfl ⟨⟨hne, _, hcr, hfr⟩, hB⟩ hK
    have key : R = false := by
      rw [HR.out]
      refine table_miss HV.out.long hl1 HL.out fun j hj => ?_
      have := hne j (List.mem_range.2 hj)
      rwa [(cutAt_in HRD.out hj).1] at this
    subst key
    gi_wp2
    have hK' := (KeepsOthers.setCell W ⟨w.heap.size + 1, 0, none⟩ (.bool false)).same D _ hK rfl
    refine ⟨by simp, .inl ⟨_, _, rfl, run_takeDeferred hK', ?_⟩⟩
    have hc5 := cell_kept (World.cell?_setCell_same' W ⟨w.heap.size + 1, 0, none⟩ (.bool false) (by rw [hcr]; rfl)) (grownBy_putObj' _ D (.deferred none)) (fun r e => by cases e; exact ⟨_, hK', rfl⟩)
    refine ⟨.bool false, ?_, rfl, (hB.setCell (p := ⟨w.heap.size + 1, 0, none⟩) (by simp) _).trans (belowK_b (w := w) (Nat.le_refl _) _ D _ _ (by simp at hD; omega) hK' rfl rfl)⟩
    simp [results, Try.f38, go_sem, hc5]
  case stop =>
    rintro D c pre W hD hpre ⟨⟨rfl, hin, hcr⟩, hB⟩ hK
    have key : R = true := by
      rw [HR.out]
      obtain ⟨j, hj, q⟩ := hin
      have hj2 := List.mem_range.1 (hpre.subset hj)
      rw [(cutAt_in HRD.out hj2).1] at q
      exact table_hit HV.out.long hl1 HL.out hj2 q
    subst key
    gi_wp2
    refine ⟨by simp, .inl ⟨_, _, rfl, run_takeDeferred hK, ?_⟩⟩
    have hc5 := cell_kept hcr (grownBy_putObj' _ D (.deferred none)) (fun r e => by cases e; exact ⟨_, hK, rfl⟩)
    refine ⟨.bool true, ?_, rfl, hB.trans (belowK_b (w := w) (Nat.le_refl _) W D _ _ (by simp at hD; omega) hK rfl rfl)⟩
    simp [results, Try.f38, go_sem, hc5]
end Go.Proofs.Ytkhjnicmbkklpaa.Gr
