/-
  What Holds of the document's answers for constraints and values answers, where the constraint may be.
-/
import Derived.Test.YtiaibggbbkhjlaaDoorZYBG
import Derived.Deep.RegionHeld3
namespace Go.Proofs.YtiaibggbbkhjlaaDoor.Gr
open Go.RowKit
set_option maxRecDepth 100000

theorem slice_one (b o l m : Nat) (h : l ≤ m) (h0 : 0 < l) (W : World) : (Instr.slice 22 (.slice (some ⟨b, o, none⟩) (l + 1) (m + 1)) (some (.int .i64 1)) none none).run Tryd.prog W = .ok (.slice (some ⟨b, o + 1, none⟩) l m) W := by
  have hc : m + 1 ≠ 1 := by omega
  have g1 : (1 : Int) ≤ ((l + 1 : Nat) : Int) := by omega
  rw [run_slice_l W 22 (some ⟨b, o, none⟩) (l + 1) (m + 1) Tryd.underlying22 .i64 1 (by decide) g1]
  simp only [Result.andThen]
  go_simp
  all_goals omega
theorem heldR {W0 u u' : World} {p0 p1 p2 p3 p4 p5 p6 : Addr} {a0 a1 a2 a3 a4 a5 a6 : Value} (h : u.cell? p0 = some a0 ∧ u.cell? p1 = some a1 ∧ u.cell? p2 = some a2 ∧ u.cell? p3 = some a3 ∧ u.cell? p4 = some a4 ∧ u.cell? p5 = some a5 ∧ u.cell? p6 = some a6 ∧ Below W0.heap.size W0 u) (hb : Below u.heap.size u u') :
    u'.cell? p0 = some a0 ∧ u'.cell? p1 = some a1 ∧ u'.cell? p2 = some a2 ∧ u'.cell? p3 = some a3 ∧ u'.cell? p4 = some a4 ∧ u'.cell? p5 = some a5 ∧ u'.cell? p6 = some a6 ∧ Below W0.heap.size W0 u' :=
  ⟨cell_stays hb h.1, cell_stays hb h.2.1, cell_stays hb h.2.2.1, cell_stays hb h.2.2.2.1, cell_stays hb h.2.2.2.2.1, cell_stays hb h.2.2.2.2.2.1, cell_stays hb h.2.2.2.2.2.2.1, h.2.2.2.2.2.2.2.trans (hb.mono h.2.2.2.2.2.2.2.size)⟩
theorem heldRb {W0 u : World} {p0 p1 p2 p3 p4 p5 p6 : Addr} {a0 a1 a2 a3 a4 a5 a6 : Value} (h : u.cell? p0 = some a0 ∧ u.cell? p1 = some a1 ∧ u.cell? p2 = some a2 ∧ u.cell? p3 = some a3 ∧ u.cell? p4 = some a4 ∧ u.cell? p5 = some a5 ∧ u.cell? p6 = some a6 ∧ Below W0.heap.size W0 u) : Below W0.heap.size W0 u := h.2.2.2.2.2.2.2

set_option maxHeartbeats 4000000 in
theorem rholds_cells (p1 p2 p3 pr : Option Addr) (b1 o1 c1 l1 b2 o2 c2 l2 b3 o3 c3 l3 br orr cr lr : Nat) (c : PCon) (row : List Int) (w : World) (h1 : Nums w p1 b1 o1 l1 c.vars) (h2 : Nums w p2 b2 o2 l2 c.coefs) (h3 : Nums w p3 b3 o3 l3 c.nums) (hr : Nums w pr br orr lr row)
    (hcap : l1 ≤ c1) (hl1 : l1 ≤ 1000) (hl3 : l3 ≤ 1000) (hok : rowOk row = true) (hrt : rightC c (lr : Int) = true) (hc : Fit c.const) :
    Calls Tryd.prog 16 #[.agg #[.int .i64 c.kind, .slice p1 l1 c1, .slice p2 l2 c2, .int .i64 c.rel, .int .i64 c.const, .slice p3 l3 c3], .slice pr lr cr] w fun e w' => e = .returned (.bool (holdsG c row)) ∧ Below w.heap.size w w' := by
  obtain ⟨R, hR⟩ : ∃ R, R = holdsG c row := ⟨_, rfl⟩
  rw [← hR]
  have HR := Lib.hid hR
  clear hR
  obtain ⟨i0, hi, hz0, hz1, hz2⟩ := info_parts info3
  have I := Lib.hid (And.intro hi (And.intro hz0 (And.intro hz1 hz2)))
  obtain ⟨W0, hW0⟩ : ∃ W0, W0 = w.alloc (.cells #[.int .i64 c.kind, .slice p1 l1 c1, .slice p2 l2 c2, .int .i64 c.rel, .int .i64 c.const, .slice p3 l3 c3] 24) := ⟨_, rfl⟩
  have hB0 : Below w.heap.size w W0 := by rw [hW0]; exact (Below.refl _ w).alloc (Nat.le_refl _) _
  have m0 : W0.cell? ⟨w.heap.size, 0, none⟩ = some (.int .i64 c.kind) := by rw [hW0]; go_simp
  have m1 : W0.cell? ⟨w.heap.size, 1, none⟩ = some (.slice p1 l1 c1) := by rw [hW0]; go_simp
  have m2 : W0.cell? ⟨w.heap.size, 2, none⟩ = some (.slice p2 l2 c2) := by rw [hW0]; go_simp
  have m3 : W0.cell? ⟨w.heap.size, 3, none⟩ = some (.int .i64 c.rel) := by rw [hW0]; go_simp
  have m4 : W0.cell? ⟨w.heap.size, 4, none⟩ = some (.int .i64 c.const) := by rw [hW0]; go_simp
  have m5 : W0.cell? ⟨w.heap.size, 5, none⟩ = some (.slice p3 l3 c3) := by rw [hW0]; go_simp
  have HM0 := Lib.hid m0
  have HM1 := Lib.hid m1
  have HM2 := Lib.hid m2
  have HM3 := Lib.hid m3
  have HM4 := Lib.hid m4
  have HM5 := Lib.hid m5
  have HW := Lib.hid hW0
  have HB0 := Lib.hid hB0
  have N1 := Lib.hid (show Nums W0 p1 b1 o1 l1 c.vars from ⟨h1.long, h1.at_, fun k hk => cell_stays hB0 (h1.cell k hk), h1.fit⟩)
  have N2 := Lib.hid (show Nums W0 p2 b2 o2 l2 c.coefs from ⟨h2.long, h2.at_, fun k hk => cell_stays hB0 (h2.cell k hk), h2.fit⟩)
  have N3 := Lib.hid (show Nums W0 p3 b3 o3 l3 c.nums from ⟨h3.long, h3.at_, fun k hk => cell_stays hB0 (h3.cell k hk), h3.fit⟩)
  have NR := Lib.hid (show Nums W0 pr br orr lr row from ⟨hr.long, hr.at_, fun k hk => cell_stays hB0 (hr.cell k hk), hr.fit⟩)
  have HOK := Lib.hid hok
  have HRT := Lib.hid hrt
  have HCAP := Lib.hid hcap
  have HFC := Lib.hid hc
  have HIN := Lib.hid (show ∀ v ∈ c.vars, 0 ≤ v ∧ v < (lr : Int) from fun v hv => vars_in (vars_on hrt) hv)
  clear hW0 hB0 hcap h1 h2 h3 hr hok hrt hc hi hz0 hz1 hz2 m0 m1 m2 m3 m4 m5
  go_enter Tryd.func16, Tryd.ntmps16
  go_upto_region 1 with fail
  rw [← HW.out]
  go_wp2_with fail
  go_loopw [5, 6] (fun o i wr => ∃ k : Nat, k ≤ l1 ∧ i = .int .i64 k ∧ OwnsI wr W0.heap.size o ((c.vars.take k).map (val row)) ∧ Below W0.heap.size W0 wr) (fun _ i _ => l1 - (intOf i).toNat)
  case atStart => exact ⟨0, by omega, rfl, World.ownsRow_made W0 #[] 0 (Nat.le_refl _) (by decide) rfl, (Below.refl _ W0).alloc (Nat.le_refl _) _⟩
  case round =>
    obtain ⟨k, hk, rfl, hown, hB⟩ := hrel
    obtain ⟨po, co, rfl⟩ := ints_shape hown
    rename_i wr
    have HB := Lib.hid hB
    have HO := Lib.hid hown
    have hb1 := cell_stays hB HM1.out
    have hxl : ((c.vars.take k).map (val row)).length = k := by rw [List.length_map, List.length_take, ← N1.out.long]; omega
    by_cases hlt : k < l1
    · obtain rfl := N1.out.at_ (by omega)
      have hvk : k < c.vars.length := by rw [← N1.out.long]; exact hlt
      have a0 := cell_stays hB (N1.out.cell k hlt)
      have hx := HIN.out (c.vars.getD k 0) (List.mem_of_getElem? (getD_at hvk))
      obtain ⟨rfl, r0⟩ := val_at NR.out hx
      replace r0 := cell_stays hB r0
      have NX := Lib.hid (show (c.vars.take (k + 1)).map (val row) = (c.vars.take k).map (val row) ++ [val row (c.vars.getD k 0)] by
        rw [List.take_add_one, getD_at hvk]; simp)
      obtain ⟨x, ex⟩ : ∃ x, x = c.vars.getD k 0 := ⟨_, rfl⟩
      rw [← ex] at a0 hx r0 NX
      obtain ⟨z, ez⟩ : ∃ z, z = val row x := ⟨_, rfl⟩
      rw [← ez] at r0 NX
      clear ex ez
      obtain ⟨xn, hxn⟩ : ∃ xn : Nat, x = (xn : Int) := ⟨x.toNat, by omega⟩
      subst hxn
      have e9 : ((xn : Int)).toNat = xn := by omega
      rw [e9] at r0
      have hsz := HB.out.size
      have hi := I.out.1
      have hz0 := I.out.2.1
      have hz1 := I.out.2.2.1
      have hz2 := I.out.2.2.2
      have hmx : k + 1 ≤ maxLen := by unfold maxLen; omega
      clear hown hB
      go_wp2_with (at_builtin; refine wpList_append_own _ rfl _ _ 22 rfl W0.heap.size 3 i0 (.int .i64 0) 1 8 Tryd.underlying22 hi hz0 hz1 hz2 rfl (by decide) _ _ _ rfl (HO.out.alloc _) ⟨wr.heap.size, 0, none⟩ 1 1 [.int .i64 z] rfl rfl (cells_one _ _ _) (by simp [Value.oneCell']) (by rw [hxl]; exact hmx) (by omega) (by simp; omega) ?_; intro v' w1 hown' hgrow _)
      go_roundw
      case rel =>
        refine ⟨k + 1, by omega, by go_num, ?_, ?_⟩
        · rw [NX.out]
          unfold OwnsI
          simpa using hown'
        · exact (HB.out.alloc hsz _).grown hgrow (by simp; omega) (fun j e => (HO.out.lt j e).1)
      case measure => simp [intOf]; omega
    · obtain rfl : k = l1 := by omega
      have et : (c.vars.take k).map (val row) = c.vars.map (val row) := by rw [List.take_of_length_le (by rw [← N1.out.long]; omega)]
      rw [et] at hxl hown
      have hm0 := cell_stays hB HM0.out
      have hm2 := cell_stays hB HM2.out
      have hm3 := cell_stays hB HM3.out
      have hm4 := cell_stays hB HM4.out
      have hm5 := cell_stays hB HM5.out
      have K1 := Lib.hid (show Nums wr p1 b1 o1 k c.vars from ⟨N1.out.long, N1.out.at_, fun j hj => cell_stays HB.out (N1.out.cell j hj), N1.out.fit⟩)
      have K2 := Lib.hid (show Nums wr p2 b2 o2 l2 c.coefs from ⟨N2.out.long, N2.out.at_, fun j hj => cell_stays HB.out (N2.out.cell j hj), N2.out.fit⟩)
      have K3 := Lib.hid (show Nums wr p3 b3 o3 l3 c.nums from ⟨N3.out.long, N3.out.at_, fun j hj => cell_stays HB.out (N3.out.cell j hj), N3.out.fit⟩)
      have KR := Lib.hid (show Nums wr pr br orr lr row from ⟨NR.out.long, NR.out.at_, fun j hj => cell_stays HB.out (NR.out.cell j hj), NR.out.fit⟩)
      have HBE := Lib.hid (show Below w.heap.size w wr from HB0.out.trans (HB.out.mono HB0.out.size))
      have hlV : (c.vars.map (val row)).length = k := hxl
      obtain ⟨p', bv, ov, cv', len', ev, _, sv⟩ := slc_of_ints hown (fun x hx => by
        obtain ⟨u, _, rfl⟩ := List.mem_map.1 hx
        have := val_small HOK.out u
        unfold Fit
        omega)
      simp only [Value.slice.injEq] at ev
      obtain ⟨rfl, e2, rfl⟩ := ev
      have NV := Lib.hid (nums_of sv)
      rw [hlV] at e2
      subst e2
      have hrt := HRT.out
      clear sv hown hB hlt et hxl
      have e97 : ∀ {a b : Bool}, a = b → Ending.returned (Value.bool a) = Ending.returned (Value.bool b) := fun h => by rw [h]
      obtain ⟨kd, ekd⟩ : ∃ kd, kd = c.kind := ⟨_, rfl⟩
      rw [← ekd] at hm0
      have HKD := Lib.hid ekd
      rw [← ekd]
      clear ekd
      by_cases k1 : kd = 1
      · subst k1
        have hp := lin_parts.1 (by
          have := ((lin_on HKD.out.symm).1 hrt).2
          simp only [Bool.and_eq_true] at this
          exact this.2)
        obtain rfl : l2 = k := by have h1 := K1.out.long; have h2 := K2.out.long; omega
        have CS := Lib.hid (rsum_cells p1 p2 p3 p1 pr b2 o2 l2 l3 c1 c2 c3 b1 o1 l2 c1 br orr lr cr 1 c.rel c.const c.coefs c.vars row wr K2.out K1.out KR.out hl1 HIN.out HOK.out hp.2.2.2.1 ⟨hp.2.2.2.2.1, hp.2.2.2.2.2.1⟩ HFC.out)
        have key : R = sumH row c.vars c.coefs c.rel c.const := by rw [HR.out, lin_is_sum HKD.out.symm]
        rw [← key] at CS
        clear hp hrt key
        go_wp2_with fail
        refine CS.out.mono ?_
        rintro e w' ⟨rfl, hw⟩
        have HW2 := Lib.hid (HBE.out.trans (hw.mono HBE.out.size))
        clear hw
        go_wp2_with fail
        go_ret
        exact ⟨rfl, HW2.out⟩
      · by_cases k2 : kd = 2
        · subst k2
          have hl : c.vars.length = 3 := by
            have := ((rest_on (by rw [← HKD.out]; decide) (by rw [← HKD.out]; decide)).1 hrt).2.2
            unfold kindR at this
            rw [← HKD.out] at this
            simp only [if_true, Bool.and_eq_true, decide_eq_true_eq] at this
            exact this.1
          obtain rfl : k = 3 := by have := K1.out.long; omega
          obtain rfl := NV.out.at_ (by omega)
          have key : R = decide ((c.vars.map (val row)).getD 0 0 * (c.vars.map (val row)).getD 1 0 = (c.vars.map (val row)).getD 2 0) := by
            rw [HR.out]
            unfold holdsG
            rw [← HKD.out]
            rfl
          have HSM := Lib.hid (fun (j : Nat) (hj : j < 3) => (show -1048576 ≤ (c.vars.map (val row)).getD j 0 ∧ (c.vars.map (val row)).getD j 0 ≤ 1048576 from by
            have h9 : j < (c.vars.map (val row)).length := by rw [hlV]; exact hj
            rw [List.getD_eq_getElem?_getD, List.getElem?_eq_getElem h9]
            simp only [Option.getD_some, List.getElem_map]
            exact val_small HOK.out _))
          have x0 := NV.out.cell 0 (by omega)
          rw [Nat.add_zero] at x0
          have x1 := NV.out.cell 1 (by omega)
          have x2 := NV.out.cell 2 (by omega)
          have s0 := HSM.out 0 (by omega)
          have s1 := HSM.out 1 (by omega)
          have s2 := HSM.out 2 (by omega)
          obtain ⟨a, ea⟩ : ∃ a, a = (c.vars.map (val row)).getD 0 0 := ⟨_, rfl⟩
          obtain ⟨b, eb⟩ : ∃ b, b = (c.vars.map (val row)).getD 1 0 := ⟨_, rfl⟩
          obtain ⟨d, ed⟩ : ∃ d, d = (c.vars.map (val row)).getD 2 0 := ⟨_, rfl⟩
          rw [← ea] at x0 s0 key
          rw [← eb] at x1 s1 key
          rw [← ed] at x2 s2 key
          have hm := mul_small s0 s1
          have HK := Lib.hid key
          clear ea eb ed key hrt hl
          go_wp2
          go_quiet (fail)
          go_wp2_with fail
          go_ret
          refine ⟨e97 ?_, below_drewN HBE.out⟩
          rw [HK.out]
          rw [Bool.eq_iff_iff]
          simp
        · by_cases k5 : kd = 5
          · subst k5
            have key : R = decide (c.vars.map (val row)).Nodup := by
              rw [HR.out]
              unfold holdsG
              rw [← HKD.out]
              rfl
            have HK := Lib.hid key
            clear key hrt
            go_wp2_with fail
            go_loopw [8] (fun i wx => (∃ j : Nat, j ≤ k ∧ i = .int .i64 j ∧ ∀ i', i' < j → ∀ j', j' < i' → (c.vars.map (val row)).getD j' 0 ≠ (c.vars.map (val row)).getD i' 0) ∧ ∃ n, wx = wr.drewN n) (fun i _ => k - (intOf i).toNat)
            case atStart => exact ⟨⟨0, by omega, rfl, fun i' hi' => by omega⟩, 0, rfl⟩
            case round =>
              obtain ⟨⟨j, hj, rfl, hrel⟩, n, rfl⟩ := hrel
              have HJ := Lib.hid hrel
              clear hrel
              by_cases hlj : j < k
              · obtain rfl := NV.out.at_ (by omega)
                have a0 := NV.out.cell j hlj
                obtain ⟨x, ex⟩ : ∃ x, x = (c.vars.map (val row)).getD j 0 := ⟨_, rfl⟩
                rw [← ex] at a0
                have HE := Lib.hid ex
                clear ex
                have HJ0 := Lib.hid (show ∀ j', j' < 0 → (c.vars.map (val row)).getD j' 0 ≠ x from fun j' h => by omega)
                go_wp2_with fail
                go_loopw [9] (fun i wx => (∃ j2 : Nat, j2 ≤ j ∧ i = .int .i64 j2 ∧ ∀ j', j' < j2 → (c.vars.map (val row)).getD j' 0 ≠ x) ∧ ∃ n, wx = wr.drewN n) (fun i _ => j - (intOf i).toNat)
                case atStart => exact ⟨⟨0, by omega, rfl, HJ0.out⟩, n, rfl⟩
                case round =>
                  obtain ⟨⟨j2, hj2, rfl, hrel⟩, n2, rfl⟩ := hrel
                  have HJ2 := Lib.hid hrel
                  clear hrel
                  by_cases hl2 : j2 < j
                  · have b0 := NV.out.cell j2 (by omega)
                    obtain ⟨y, ey⟩ : ∃ y, y = (c.vars.map (val row)).getD j2 0 := ⟨_, rfl⟩
                    rw [← ey] at b0
                    by_cases hxy : x = y
                    · have key : R = false := by
                        rw [HK.out]
                        refine decide_eq_false (nodup_off (i := j) (j := j2) (by rw [hlV]; exact hlj) hl2 ?_)
                        rw [← ey, ← HE.out]
                        exact hxy.symm
                      have HKK := Lib.hid key
                      have exy : (x == y) = true := beq_iff_eq.2 hxy
                      clear hxy ey key
                      go_wp2
                      go_quiet (fail)
                      go_wp2_with fail
                      all_goals try (exfalso; have e96 := beq_iff_eq.1 exy; omega)
                      go_ret
                      exact ⟨e97 HKK.out.symm, below_drewN (below_drewN HBE.out)⟩
                    · have exy : (x == y) = false := beq_eq_false_iff_ne.2 hxy
                      have NX := Lib.hid (show ∀ j', j' < j2 + 1 → (c.vars.map (val row)).getD j' 0 ≠ x from fun j' hj' => by
                        by_cases h : j' < j2
                        · exact HJ2.out j' h
                        · obtain rfl : j' = j2 := by omega
                          rw [← ey]; exact fun h => hxy h.symm)
                      clear ey hxy
                      go_wp2
                      go_quiet (fail)
                      go_wp2_with fail
                      go_roundw
                      case rel => exact ⟨⟨j2 + 1, by omega, by go_num, NX.out⟩, _, rfl⟩
                      case measure => simp [intOf]; omega
                  · obtain rfl : j2 = j := by omega
                    have NX := Lib.hid (show ∀ i', i' < j2 + 1 → ∀ j', j' < i' → (c.vars.map (val row)).getD j' 0 ≠ (c.vars.map (val row)).getD i' 0 from fun i' hi' => by
                      by_cases h : i' < j2
                      · exact HJ.out i' h
                      · obtain rfl : i' = j2 := by omega
                        rw [← HE.out]
                        exact HJ2.out)
                    go_wp2_with fail
                    go_roundw
                    case rel => exact ⟨⟨j2 + 1, by omega, by go_num, NX.out⟩, _, rfl⟩
                    case measure => simp [intOf]; omega
              · obtain rfl : j = k := by omega
                have key : R = true := by
                  rw [HK.out]
                  exact decide_eq_true (nodup_on fun i' hi' => HJ.out i' (by rw [← hlV]; exact hi'))
                subst key
                go_wp2_with fail
                go_ret
                exact ⟨rfl, below_drewN HBE.out⟩
          · by_cases k4 : kd = 4
            · subst k4
              have hl : c.vars.length = 2 := by
                have := ((rest_on (by rw [← HKD.out]; decide) (by rw [← HKD.out]; decide)).1 hrt).2.2
                unfold kindR at this
                rw [← HKD.out] at this
                simp only [Int.reduceEq, if_false, if_true, Bool.and_eq_true, decide_eq_true_eq] at this
                exact this.1
              obtain rfl : k = 2 := by have := K1.out.long; omega
              obtain rfl := NV.out.at_ (by omega)
              have key : R = decide (0 ≤ (c.vars.map (val row)).getD 0 0 ∧ ((c.vars.map (val row)).getD 0 0).toNat < c.nums.length ∧ c.nums.getD ((c.vars.map (val row)).getD 0 0).toNat 0 = (c.vars.map (val row)).getD 1 0) := by
                rw [HR.out]
                unfold holdsG
                rw [← HKD.out]
                rfl
              have x0 := NV.out.cell 0 (by omega)
              rw [Nat.add_zero] at x0
              have x1 := NV.out.cell 1 (by omega)
              obtain ⟨a, ea⟩ : ∃ a, a = (c.vars.map (val row)).getD 0 0 := ⟨_, rfl⟩
              obtain ⟨b, eb⟩ : ∃ b, b = (c.vars.map (val row)).getD 1 0 := ⟨_, rfl⟩
              rw [← ea] at x0 key
              rw [← eb] at x1 key
              have HK := Lib.hid key
              clear ea eb key hrt hl
              go_wp2_with fail
              go_loopw [7] (fun i wx => (∃ j : Nat, j ≤ l3 ∧ i = .int .i64 j ∧ ∀ j' : Nat, j' < j → a ≠ (j' : Int)) ∧ ∃ n, wx = wr.drewN n) (fun i _ => l3 - (intOf i).toNat)
              case atStart => exact ⟨⟨0, by omega, rfl, fun i' hi' => by omega⟩, 0, rfl⟩
              case round =>
                obtain ⟨⟨j, hj, rfl, hrel⟩, n, rfl⟩ := hrel
                have HJ := Lib.hid hrel
                clear hrel
                by_cases hlj : j < l3
                · obtain rfl := K3.out.at_ (by omega)
                  have y0 := K3.out.cell j hlj
                  obtain ⟨y, ey⟩ : ∃ y, y = c.nums.getD j 0 := ⟨_, rfl⟩
                  rw [← ey] at y0
                  by_cases hxy : a = (j : Int)
                  · have key : R = (y == b) := by
                      rw [HK.out, hxy, ey]
                      have h9 : j < c.nums.length := by rw [← K3.out.long]; exact hlj
                      rw [Bool.eq_iff_iff]
                      simp [h9]
                    have HKK := Lib.hid key
                    have exy : (a == (j : Int)) = true := beq_iff_eq.2 hxy
                    clear hxy ey key
                    go_wp2
                    go_quiet (fail)
                    go_wp2_with fail
                    go_ret
                    exact ⟨e97 HKK.out.symm, below_drewN (below_drewN HBE.out)⟩
                  · have exy : (a == (j : Int)) = false := beq_eq_false_iff_ne.2 hxy
                    have NX := Lib.hid (show ∀ j' : Nat, j' < j + 1 → a ≠ (j' : Int) from fun j' hj' => by
                      by_cases h : j' < j
                      · exact HJ.out j' h
                      · obtain rfl : j' = j := by omega
                        exact hxy)
                    clear ey hxy
                    go_wp2_with fail
                    go_roundw
                    case rel => exact ⟨⟨j + 1, by omega, by go_num, NX.out⟩, _, rfl⟩
                    case measure => simp [intOf]; omega
                · obtain rfl : j = l3 := by omega
                  have key : R = false := by
                    rw [HK.out]
                    refine decide_eq_false fun ⟨h1, h2, _⟩ => ?_
                    exact HJ.out a.toNat (by rw [K3.out.long]; exact h2) (by omega)
                  subst key
                  go_wp2_with fail
                  go_ret
                  exact ⟨rfl, below_drewN HBE.out⟩
            · by_cases k6 : kd = 6
              · subst k6
                have hl : 1 ≤ c.vars.length ∧ c.nums.length % c.vars.length = 0 := by
                  have := ((rest_on (by rw [← HKD.out]; decide) (by rw [← HKD.out]; decide)).1 hrt).2.2
                  unfold kindR at this
                  rw [← HKD.out] at this
                  simp only [Int.reduceEq, if_false, if_true, Bool.and_eq_true, decide_eq_true_eq] at this
                  exact ⟨this.1, this.2.2⟩
                rw [← K1.out.long, ← K3.out.long] at hl
                obtain ⟨hk1, hdv⟩ := hl
                obtain rfl := NV.out.at_ (by omega)
                have key : R = tableAt (c.vars.map (val row)) c.nums 0 := by
                  rw [HR.out]
                  unfold holdsG
                  rw [← HKD.out]
                  rfl
                have HK := Lib.hid key
                have HDV := Lib.hid hdv
                have H0 := Lib.hid (show 0 % k = 0 from Nat.zero_mod k)
                clear key hrt hdv
                go_wp2_with fail
                go_loopw [10] (fun i wx => (∃ a : Nat, a ≤ l3 ∧ i = .int .i64 a ∧ a % k = 0 ∧ R = tableAt (c.vars.map (val row)) c.nums a) ∧ ∃ n, wx = wr.drewN n) (fun i _ => l3 - (intOf i).toNat)
                case atStart => exact ⟨⟨0, by omega, rfl, H0.out, HK.out⟩, 0, rfl⟩
                case round =>
                  obtain ⟨⟨a, ha, rfl, hmod, hrel⟩, n, rfl⟩ := hrel
                  have HJ := Lib.hid hrel
                  have HMD := Lib.hid hmod
                  clear hrel hmod
                  by_cases hla : a < l3
                  · obtain rfl := K3.out.at_ (by omega)
                    obtain ⟨hw1, hw2⟩ := whole_row HDV.out HMD.out hla
                    have HW2 := Lib.hid hw2
                    have NXT := Lib.hid (show R = (rowIs (c.vars.map (val row)) c.nums a k || tableAt (c.vars.map (val row)) c.nums (a + k)) by
                      rw [HJ.out, tableAt_next (by rw [hlV]; exact hk1) (by rw [← K3.out.long]; exact hla) (by rw [hlV, ← K3.out.long]; exact hw1), hlV])
                    have HZ := Lib.hid (show true = rowIs (c.vars.map (val row)) c.nums a 0 from rowIs_zero.symm)
                    clear hw2
                    go_wp2_with fail
                    go_loopw [11, 12] (fun t i wx => (∃ j : Nat, j ≤ k ∧ i = .int .i64 j ∧ t = .bool (rowIs (c.vars.map (val row)) c.nums a j)) ∧ ∃ n, wx = wr.drewN n) (fun _ i _ => k - (intOf i).toNat)
                    case atStart => exact ⟨⟨0, by omega, rfl, by rw [← HZ.out]⟩, n, rfl⟩
                    case round =>
                      obtain ⟨⟨j, hj, rfl, rfl⟩, n2, rfl⟩ := hrel
                      by_cases hlj : j < k
                      · have a0 := NV.out.cell j hlj
                        have b0 := K3.out.cell (a + j) (by omega)
                        have NX := Lib.hid (rowIs_next (v := c.vars.map (val row)) (nums := c.nums) (a := a) (k := j))
                        obtain ⟨x, ex⟩ : ∃ x, x = (c.vars.map (val row)).getD j 0 := ⟨_, rfl⟩
                        obtain ⟨y, ey⟩ : ∃ y, y = c.nums.getD (a + j) 0 := ⟨_, rfl⟩
                        rw [← ex] at a0 NX
                        rw [← ey] at b0 NX
                        obtain ⟨b, eb⟩ : ∃ b, b = rowIs (c.vars.map (val row)) c.nums a j := ⟨_, rfl⟩
                        rw [← eb] at NX ⊢
                        clear ex ey eb
                        cases b
                        · have NX2 := Lib.hid (show rowIs (c.vars.map (val row)) c.nums a (j + 1) = false by rw [NX.out, Bool.false_and])
                          go_wp2
                          go_quiet (fail)
                          go_wp2_with fail
                          go_roundw
                          case rel => exact ⟨⟨j + 1, by omega, by go_num, by rw [NX2.out]⟩, _, rfl⟩
                          case measure => simp [intOf]; omega
                        · have NX2 := Lib.hid (show rowIs (c.vars.map (val row)) c.nums a (j + 1) = (y == x) by rw [NX.out, Bool.true_and, Bool.eq_iff_iff]; simp)
                          go_wp2
                          go_quiet (fail)
                          go_wp2_with fail
                          go_roundw
                          case rel => exact ⟨⟨j + 1, by omega, by go_num, by rw [NX2.out]⟩, _, rfl⟩
                          case measure => simp [intOf]; omega
                      · obtain rfl : j = k := by omega
                        obtain ⟨b, eb⟩ : ∃ b, b = rowIs (c.vars.map (val row)) c.nums a j := ⟨_, rfl⟩
                        have HEB := Lib.hid eb
                        rw [← eb]
                        clear eb
                        cases b
                        · have NX2 := Lib.hid (show R = tableAt (c.vars.map (val row)) c.nums (a + j) by rw [NXT.out, ← HEB.out, Bool.false_or])
                          go_wp2_with fail
                          go_roundw
                          case rel => exact ⟨⟨a + j, by omega, by go_num, HW2.out, NX2.out⟩, _, rfl⟩
                          case measure => simp [intOf]; omega
                        · have key : R = true := by rw [NXT.out, ← HEB.out, Bool.true_or]
                          subst key
                          go_wp2_with fail
                          go_ret
                          exact ⟨rfl, below_drewN HBE.out⟩
                  · have key : R = false := by
                      rw [HJ.out]
                      exact tableAt_end (by rw [← K3.out.long]; omega)
                    subst key
                    go_wp2_with fail
                    go_ret
                    exact ⟨rfl, below_drewN HBE.out⟩
              · obtain rfl : kd = 3 := by
                  have q : c.kind = 1 ∨ c.kind = 2 ∨ c.kind = 3 ∨ c.kind = 4 ∨ c.kind = 5 ∨ c.kind = 6 := Classical.byContradiction fun q => by
                    have := ((rest_on (by omega) (by omega)).1 hrt).2.2
                    unfold kindR at this
                    rw [if_neg (by omega), if_neg (by omega), if_neg (by omega), if_neg (by omega)] at this
                    cases this
                  have := HKD.out
                  omega
                have hp := lin_parts.1 (by
                  have := hrt
                  rw [right_on (vars_on hrt), if_neg (by rw [← HKD.out]; decide), if_pos HKD.out.symm] at this
                  simp only [Bool.and_eq_true] at this
                  exact this.2)
                have hk2 : 2 ≤ k := by have := K1.out.long; omega
                obtain ⟨k, rfl⟩ : ∃ k', k = k' + 1 := ⟨k - 1, by omega⟩
                obtain rfl : l2 = k := by have h1 := K1.out.long; have h2 := K2.out.long; omega
                obtain rfl := NV.out.at_ (by omega)
                obtain rfl := K1.out.at_ (by omega)
                have KD : Nums wr (some ⟨b1, o1 + 1, none⟩) b1 (o1 + 1) l2 (c.vars.drop 1) := by
                  have e : ∀ j, (c.vars.drop 1).getD j 0 = c.vars.getD (j + 1) 0 := fun j => by
                    rw [List.getD_eq_getElem?_getD, List.getD_eq_getElem?_getD, List.getElem?_drop, Nat.add_comm]
                  refine ⟨by rw [List.length_drop, ← K1.out.long]; omega, fun _ => rfl, fun j hj => ?_, fun j hj => ?_⟩
                  · rw [e]
                    have := K1.out.cell (j + 1) (by omega)
                    rw [show o1 + 1 + j = o1 + (j + 1) by omega]
                    exact this
                  · rw [e]
                    exact K1.out.fit (j + 1) (by omega)
                have CS := Lib.hid (fun (u : World) (hu : Below wr.heap.size wr u) (cx : Nat) => rsum_cells (some ⟨b1, o1, none⟩) p2 p3 (some ⟨b1, o1 + 1, none⟩) pr b2 o2 (l2 + 1) l3 c1 c2 c3 b1 (o1 + 1) l2 cx br orr lr cr 3 c.rel c.const c.coefs (c.vars.drop 1) row u
                  ⟨K2.out.long, K2.out.at_, fun j hj => cell_stays hu (K2.out.cell j hj), K2.out.fit⟩ ⟨KD.long, KD.at_, fun j hj => cell_stays hu (KD.cell j hj), KD.fit⟩ ⟨KR.out.long, KR.out.at_, fun j hj => cell_stays hu (KR.out.cell j hj), KR.out.fit⟩
                  (by omega) (fun v hv => HIN.out v (List.mem_of_mem_drop hv)) HOK.out hp.2.2.2.1 ⟨hp.2.2.2.2.1, hp.2.2.2.2.2.1⟩ HFC.out)
                obtain ⟨S, eS⟩ : ∃ S, S = sumH row (c.vars.drop 1) c.coefs c.rel c.const := ⟨_, rfl⟩
                rw [← eS] at CS
                have hvl : 0 < c.vars.length := by rw [← K1.out.long]; omega
                have ev : (c.vars.map (val row)).getD 0 0 = val row (c.vars.getD 0 0) := by
                  rw [List.getD_eq_getElem?_getD, List.getD_eq_getElem?_getD, List.getElem?_map, List.getElem?_eq_getElem hvl]; rfl
                have x0 := NV.out.cell 0 (by omega)
                rw [Nat.add_zero, ev] at x0
                obtain ⟨a, ea⟩ : ∃ a, a = val row (c.vars.getD 0 0) := ⟨_, rfl⟩
                rw [← ea] at x0
                have key : R = (decide (a = 0 ∨ a = 1) && (S == decide (a = 1))) := by
                  rw [HR.out, eS, ea]
                  unfold holdsG
                  rw [← HKD.out]
                  rfl
                have HK := Lib.hid key
                have hcap := HCAP.out
                obtain ⟨m, rfl⟩ : ∃ m, c1 = m + 1 := ⟨c1 - 1, by omega⟩
                have hsl := fun W => slice_one b1 o1 l2 m (by omega) (by omega) W
                clear ea eS ev hp hrt KD key
                by_cases a0 : a = 0
                · subst a0
                  have key : R = (S == false) := by rw [HK.out]; simp
                  have HKK := Lib.hid key
                  clear key
                  have H0 := Lib.hid (And.intro hm0 (And.intro hb1 (And.intro hm2 (And.intro hm3 (And.intro hm4 (And.intro hm5 (And.intro x0 (Below.refl wr.heap.size wr))))))))
                  go_wp2_with fail
                  go_region_held3 (fun w' => w'.cell? ⟨w.heap.size, 0, none⟩ = some (.int .i64 3) ∧ w'.cell? ⟨w.heap.size, 1, none⟩ = some (.slice (some ⟨b1, o1, none⟩) (l2 + 1) (m + 1)) ∧ w'.cell? ⟨w.heap.size, 2, none⟩ = some (.slice p2 l2 c2) ∧ w'.cell? ⟨w.heap.size, 3, none⟩ = some (.int .i64 c.rel) ∧ w'.cell? ⟨w.heap.size, 4, none⟩ = some (.int .i64 c.const) ∧ w'.cell? ⟨w.heap.size, 5, none⟩ = some (.slice p3 l3 c3) ∧ w'.cell? ⟨bv, ov, none⟩ = some (.int .i64 0) ∧ Below wr.heap.size wr w')
                    (first | exact heldR (by assumption) (by assumption) | exact heldR H0.out (below_drewN (n := 1) (Below.refl _ _)) | exact heldR H0.out (below_drewN (below_drewN (n := 1) (Below.refl _ _))))
                    (first | (go_at_call 37; refine (CS.out _ (heldRb (by assumption)) _).mono ?_; rintro e w' ⟨rfl, hB⟩))
                  have hb := heldRb (by assumption)
                  have HH := Lib.hid hb
                  clear hb
                  go_wp2_with fail
                  go_ret
                  refine ⟨e97 ?_, HBE.out.trans (HH.out.mono HBE.out.size)⟩
                  rw [HKK.out]
                  cases S <;> rfl
                · by_cases a1 : a = 1
                  · subst a1
                    have key : R = (S == true) := by rw [HK.out]; simp
                    have HKK := Lib.hid key
                    clear key a0
                    have H0 := Lib.hid (And.intro hm0 (And.intro hb1 (And.intro hm2 (And.intro hm3 (And.intro hm4 (And.intro hm5 (And.intro x0 (Below.refl wr.heap.size wr))))))))
                    go_wp2_with fail
                    go_region_held3 (fun w' => w'.cell? ⟨w.heap.size, 0, none⟩ = some (.int .i64 3) ∧ w'.cell? ⟨w.heap.size, 1, none⟩ = some (.slice (some ⟨b1, o1, none⟩) (l2 + 1) (m + 1)) ∧ w'.cell? ⟨w.heap.size, 2, none⟩ = some (.slice p2 l2 c2) ∧ w'.cell? ⟨w.heap.size, 3, none⟩ = some (.int .i64 c.rel) ∧ w'.cell? ⟨w.heap.size, 4, none⟩ = some (.int .i64 c.const) ∧ w'.cell? ⟨w.heap.size, 5, none⟩ = some (.slice p3 l3 c3) ∧ w'.cell? ⟨bv, ov, none⟩ = some (.int .i64 1) ∧ Below wr.heap.size wr w')
                      (first | exact heldR (by assumption) (by assumption) | exact heldR H0.out (below_drewN (n := 1) (Below.refl _ _)) | exact heldR H0.out (below_drewN (below_drewN (n := 1) (Below.refl _ _))))
                      (first | (go_at_call 37; refine (CS.out _ (heldRb (by assumption)) _).mono ?_; rintro e w' ⟨rfl, hB⟩))
                    have hb := heldRb (by assumption)
                    have HH := Lib.hid hb
                    clear hb
                    go_wp2_with fail
                    go_ret
                    refine ⟨e97 ?_, HBE.out.trans (HH.out.mono HBE.out.size)⟩
                    rw [HKK.out]
                    cases S <;> rfl
                  · have key : R = false := by rw [HK.out]; simp [a0, a1]
                    subst key
                    have d0 : (a == 0) = false := beq_eq_false_iff_ne.2 a0
                    have d1 : (a == 1) = false := beq_eq_false_iff_ne.2 a1
                    go_wp2_with fail
                    go_ret
                    exact ⟨rfl, HBE.out⟩
end Go.Proofs.YtiaibggbbkhjlaaDoor.Gr
