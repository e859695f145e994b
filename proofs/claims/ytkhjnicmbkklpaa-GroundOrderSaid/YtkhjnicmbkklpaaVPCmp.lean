/-
  What compares and unlike of package ground answer.
-/
import Derived.Test.YtkhjnicmbkklpaaVPLeaf
namespace Go.Proofs.Ytkhjnicmbkklpaa.Gr
open Go.RowKit
set_option maxRecDepth 100000

set_option maxHeartbeats 2000000 in
theorem compares_cells (p1 p2 p3 pv : Option Addr) (b2 o2 l l1 l3 c1 c2 c3 bv ov cv : Nat) (kd rl ct : Int) (ks vs row : List Int) (w : World) (h2 : Nums w p2 b2 o2 l ks) (hv : Nums w pv bv ov l (vs.map (val row)))
    (hl : l ≤ 1000) (hok : rowOk row = true) (hks : allN ks 1048576 = true) :
    Calls Try.prog 32 #[.agg #[.int .i64 kd, .slice p1 l1 c1, .slice p2 l c2, .int .i64 rl, .int .i64 ct, .slice p3 l3 c3], .slice pv l cv] w fun e w' => e = .returned (.bool (sumH row vs ks rl ct)) ∧ Below w.heap.size w w' := by
  obtain ⟨R, hR⟩ : ∃ R, R = sumH row vs ks rl ct := ⟨_, rfl⟩
  rw [← hR]
  have HR := Lib.hid hR
  clear hR
  obtain ⟨W0, hW0⟩ : ∃ W0, W0 = w.alloc (.cells #[.int .i64 kd, .slice p1 l1 c1, .slice p2 l c2, .int .i64 rl, .int .i64 ct, .slice p3 l3 c3] 27) := ⟨_, rfl⟩
  have hB0 : Below w.heap.size w W0 := by rw [hW0]; exact (Below.refl _ w).alloc (Nat.le_refl _) _
  have m2 : W0.cell? ⟨w.heap.size, 2, none⟩ = some (.slice p2 l c2) := by rw [hW0]; go_simp
  have m3 : W0.cell? ⟨w.heap.size, 3, none⟩ = some (.int .i64 rl) := by rw [hW0]; go_simp
  have m4 : W0.cell? ⟨w.heap.size, 4, none⟩ = some (.int .i64 ct) := by rw [hW0]; go_simp
  have HW := Lib.hid hW0
  have HB0 := Lib.hid hB0
  have N2 := Lib.hid (show Nums W0 p2 b2 o2 l ks from ⟨h2.long, h2.at_, fun k hk => cell_stays hB0 (h2.cell k hk), h2.fit⟩)
  have NV := Lib.hid (show Nums W0 pv bv ov l (vs.map (val row)) from ⟨hv.long, hv.at_, fun k hk => cell_stays hB0 (hv.cell k hk), hv.fit⟩)
  have HOK := Lib.hid hok
  have HKS := Lib.hid hks
  have HLV := Lib.hid (show l = vs.length by have := hv.long; rw [List.length_map] at this; exact this)
  clear hW0 hB0 h2 hv hok hks
  go_enter Try.func32, Try.ntmps32
  go_upto_region 1 with fail
  rw [← HW.out]
  go_wp2_with fail
  go_loopw [5, 11] (fun n i wr => (∃ k : Nat, k ≤ l ∧ i = .int .i64 k ∧ n = .int .i64 (sumG row 0 ((vs.zip ks).take k))) ∧ wr = W0) (fun _ i _ => l - (intOf i).toNat)
  case atStart => exact ⟨⟨0, by omega, rfl, rfl⟩, rfl⟩
  case round =>
    obtain ⟨⟨k, hk, rfl, rfl⟩, rfl⟩ := hrel
    by_cases hlt : k < l
    · obtain rfl := NV.out.at_ (by omega)
      obtain rfl := N2.out.at_ (by omega)
      have hvk : k < vs.length := by rw [← HLV.out]; exact hlt
      have hkk : k < ks.length := by rw [← N2.out.long]; omega
      have a0 := NV.out.cell k hlt
      rw [map_get hvk] at a0
      have b0 := N2.out.cell k hlt
      have hs0 := sum_fits (vs := vs) HOK.out HKS.out (k := k) (by omega)
      have hs1 := sum_fits (vs := vs) HOK.out HKS.out (k := k + 1) (by omega)
      rw [sum_next hvk hkk] at hs1
      have hv0 := val_small HOK.out (vs.getD k 0)
      have hk0 : -1048576 ≤ ks.getD k 0 ∧ ks.getD k 0 ≤ 1048576 := by
        have := List.all_eq_true.1 HKS.out (ks.getD k 0) (List.mem_of_getElem? (getD_at hkk))
        simpa [Bool.and_eq_true] using this
      have hm := mul_small hk0 hv0
      have NX := Lib.hid (sum_next (row := row) hvk hkk)
      obtain ⟨s, es⟩ : ∃ s, s = sumG row 0 ((vs.zip ks).take k) := ⟨_, rfl⟩
      obtain ⟨z, ez⟩ : ∃ z, z = val row (vs.getD k 0) := ⟨_, rfl⟩
      obtain ⟨y, ey⟩ : ∃ y, y = ks.getD k 0 := ⟨_, rfl⟩
      rw [← ez] at a0 hs1 hm
      rw [← ey] at b0 hs1 hm
      rw [← es] at hs0 hs1 ⊢
      have NX2 := Lib.hid (show sumG row 0 ((vs.zip ks).take (k + 1)) = s + y * z by rw [NX.out, ← es, ← ey, ← ez])
      clear es ez ey NX hv0 hk0
      go_wp2_with fail
      go_roundw
      case rel => exact ⟨⟨k + 1, by omega, by go_num, by rw [NX2.out]; try go_num⟩, trivial⟩
      case measure => simp [intOf]; omega
    · obtain rfl : k = l := by omega
      have key : R = Su.holdsB (sumG row 0 ((vs.zip ks).take k)) rl ct := by
        rw [HR.out, sum_end (by rw [← HLV.out]; omega)]; rfl
      obtain ⟨s, es⟩ : ∃ s, s = sumG row 0 ((vs.zip ks).take k) := ⟨_, rfl⟩
      rw [← es] at key ⊢
      have HK := Lib.hid key
      have C := Lib.hid (Su.holds_any s rl ct wr)
      rw [← key] at C
      clear es key
      go_wp2_with fail
      refine C.out.mono ?_
      rintro e w2 ⟨rfl, rfl⟩
      go_wp2_with fail
      go_ret
      exact ⟨rfl, HB0.out⟩

set_option maxHeartbeats 2000000 in
theorem unlike_cells (pv : Option Addr) (bv ov l cv : Nat) (vs : List Int) (w : World) (hv : Nums w pv bv ov l vs) (hl : l ≤ 1000) (hcap : l ≤ cv) :
    Calls Try.prog 36 #[.slice pv l cv] w fun e w' => e = .returned (.bool (decide vs.Nodup)) ∧ ∃ n, w' = w.drewN n := by
  obtain ⟨R, hR⟩ : ∃ R, R = decide vs.Nodup := ⟨_, rfl⟩
  rw [← hR]
  have HR := Lib.hid hR
  have NV := Lib.hid hv
  have HL := Lib.hid hv.long
  clear hR hv
  go_enter Try.func36, Try.ntmps36
  go_wp2
  go_loopw [6] (fun i wr => (∃ k : Nat, k ≤ l ∧ i = .int .i64 k ∧ ∀ i', i' < k → ∀ j, j < i' → vs.getD j 0 ≠ vs.getD i' 0) ∧ ∃ n, wr = w.drewN n) (fun i _ => l - (intOf i).toNat)
  case atStart => exact ⟨⟨0, by omega, rfl, fun i' h => by omega⟩, 0, rfl⟩
  case round =>
    obtain ⟨⟨k, hk, rfl, hrel⟩, hw⟩ := hrel
    rename_i wr
    have NW := Lib.hid (show Nums wr pv bv ov l vs by obtain ⟨n, rfl⟩ := hw; exact ⟨NV.out.long, NV.out.at_, fun k hk => NV.out.cell k hk, NV.out.fit⟩)
    have HW := Lib.hid hw
    have HK := Lib.hid hrel
    clear hrel hw
    by_cases hlt : k < l
    · obtain rfl := NV.out.at_ (by omega)
      have c0 := NW.out.cell k hlt
      have hkc : k ≤ cv := by omega
      have hkc2 : (k : Int) ≤ (cv : Int) := by omega
      have C := Lib.hid (fun m => contains_cells (some ⟨bv, ov, none⟩) bv ov cv k vs (vs.getD k 0) (wr.drewN m) (fun _ => rfl) (fun j hj => NW.out.cell j (by omega)) (by omega))
      obtain ⟨x, ex⟩ : ∃ x, x = vs.getD k 0 := ⟨_, rfl⟩
      rw [← ex] at c0 C
      have HE := Lib.hid ex
      clear ex
      cases hh : hasB vs k x
      · rw [hh] at C
        have NX := Lib.hid (show ∀ i', i' < k + 1 → ∀ j, j < i' → vs.getD j 0 ≠ vs.getD i' 0 from fun i' hi' => by
          by_cases h : i' < k
          · exact HK.out i' h
          · obtain rfl : i' = k := by omega
            rw [← HE.out]
            exact has_false hh)
        clear hh
        go_wp2
        go_quiet ((go_at_call 39; exact Calls.quiet_of_same (C.out _)))
        go_wp2_with fail
        go_roundw
        case rel => exact ⟨⟨k + 1, by omega, by go_num, NX.out⟩, drewN_on HW.out⟩
        case measure => simp [intOf]; omega
      · rw [hh] at C
        have key : R = false := by
          rw [HR.out]
          obtain ⟨j, j1, j2⟩ := has_true hh
          refine decide_eq_false fun hv => ?_
          exact nodup_off (by rw [← HL.out]; exact hlt) j1 (by rw [j2, HE.out]) hv
        subst key
        clear hh
        go_wp2
        go_quiet ((go_at_call 39; exact Calls.quiet_of_same (C.out _)))
        go_wp2_with fail
        go_ret
        exact ⟨rfl, drewN_on HW.out⟩
    · have key : R = true := by
        rw [HR.out]
        exact decide_eq_true (nodup_on fun i hi j hj => HK.out i (by have := HL.out; omega) j hj)
      subst key
      go_wp2_with fail
      go_ret
      exact ⟨rfl, HW.out⟩
end Go.Proofs.Ytkhjnicmbkklpaa.Gr
