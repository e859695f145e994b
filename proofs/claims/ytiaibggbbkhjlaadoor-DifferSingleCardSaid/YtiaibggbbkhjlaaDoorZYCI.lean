/-
  What domains, single and empty of package differ answer.
  What counted of package differ answers: a map of how often each value is the only one left.
-/
import Derived.Test.YtiaibggbbkhjlaaDoorZYCA
import Derived.Test.YtiaibggbbkhjlaaDoorZYAZ
import Derived.Test.YtiaibggbbkhjlaaDoorZYAU
import Derived.Test.YtiaibggbbkhjlaaDoorZYCB
import Derived.Test.YtiaibggbbkhjlaaDoorZYCD
import Derived.Test.YtiaibggbbkhjlaaDoorZYBC
namespace Go.Proofs.YtiaibggbbkhjlaaDoor.Ge.Di
open Go.RowKit St
set_option maxRecDepth 100000

set_option maxHeartbeats 1000000 in
theorem domains_any {w : World} {pv p : Option Addr} {bv ov lv cv b off c len : Nat} {vars : List Int} {L : List (List Int × Nat)} (hv : Nums w pv bv ov lv vars) (h : SliceOf rDom 2 w p b off len L) (hl : lv ≤ 1000) (hin : ∀ k, k < vars.length → 0 ≤ vars.getD k 0 ∧ vars.getD k 0 < (L.length : Int)) :
    Calls Tryd.prog 20 #[.slice pv lv cv, .slice p len c] w fun e w' => e = .returned (.slice (some ⟨w.heap.size, 0, none⟩) lv lv) ∧ SliceOf rDom 2 w' (some ⟨w.heap.size, 0, none⟩) w.heap.size 0 lv (domsOf L vars) ∧ Below w.heap.size w w' := by
  have hm := make_doms lv hl
  have NV := Lib.hid hv
  have HS := Lib.hid h
  have hp := h.at_
  obtain ⟨F, hF⟩ := dom_fun h
  have HF := Lib.hid hF
  have HIN := Lib.hid (show ∀ k, k < lv → 0 ≤ vars.getD k 0 ∧ vars.getD k 0 < (len : Int) by rw [h.long, hv.long]; exact hin)
  clear hv h hin hF
  go_enter Tryd.func20, Tryd.ntmps20
  go_wp2
  go_loopw [13] (fun i wr => ∃ k : Nat, k ≤ lv ∧ i = .int .i64 k ∧ Row2 lv 47 wr w.heap.size (fun j => if j < k then F (vars.getD j 0).toNat else (.slice none 0 0, .int .u64 0)) ∧ Below w.heap.size w wr) (fun i _ => lv - (intOf i).toNat)
  case atStart => exact ⟨0, by omega, rfl, (row2_made lv _ _ _ w).congr fun i _ => by simp, new_below _ _⟩
  case round =>
    rename_i wr
    obtain ⟨k, hk, rfl, hrow, hB⟩ := hrel
    have hsz := hB.size
    by_cases hlt : k < lv
    · obtain rfl := NV.out.at_ (by omega)
      have hx := HIN.out k hlt
      have a0 := cell_below hB (NV.out.cell k hlt)
      have f0 := hrow.frozen (k * 2)
      have f1 := hrow.frozen (k * 2 + 1)
      have c0 := hrow.cell0 hlt
      have c1 := hrow.cell1 hlt
      rw [if_neg (Nat.lt_irrefl k)] at c0 c1
      obtain ⟨x, ex⟩ : ∃ x, x = vars.getD k 0 := ⟨_, rfl⟩
      rw [← ex] at a0 hx
      obtain ⟨x, rfl⟩ := Int.eq_ofNat_of_zero_le hx.1
      have hxl : x < len := by omega
      obtain rfl := hp (by omega)
      obtain ⟨r0, r1, hr⟩ := HF.out x hxl
      obtain ⟨p9, l9, c9, n9, e9⟩ := rDom_pair hr
      rw [e9] at r0 r1
      replace r0 := cell_below hB r0
      replace r1 := cell_below hB r1
      have HZ := Lib.hid (show F (vars.getD k 0).toNat = (.slice p9 l9 c9, .int .u64 (n9 : Int)) by rw [← ex, ← e9]; simp)
      have HR := Lib.hid hrow
      have HB := Lib.hid hB
      have hx2 : (x : Int) < (len : Int) := hx.2
      have hx1 : (0 : Int) ≤ (x : Int) := hx.1
      clear hrow hB ex hr e9 hx
      go_wp2_with fail
      go_roundw
      case rel =>
        refine ⟨k + 1, by omega, by go_num, HR.out.set hlt _ _ ?_ (fun j hj => ?_), (HB.out.setCell (Nat.le_refl _) _).setCell (Nat.le_refl _) _⟩
        · rw [if_pos (by omega)]; exact HZ.out
        · by_cases h : j < k
          · rw [if_pos h, if_pos (by omega)]
          · rw [if_neg h, if_neg (by omega)]
      case measure => simp [intOf]; omega
    · have e : k = lv := by omega
      subst e
      have HR := Lib.hid hrow
      have HB := Lib.hid hB
      clear hrow hB
      go_wp2
      go_ret
      have hl := NV.out.long
      refine ⟨rfl, ⟨by unfold domsOf; rw [List.length_map]; exact hl, fun _ => rfl, fun j a ha => ?_⟩, HB.out⟩
      have hj : j < k := by
        have := (List.getElem?_eq_some_iff.1 ha).1
        unfold domsOf at this
        rw [List.length_map] at this
        omega
      have ea : a = L.getD (vars.getD j 0).toNat ([], 0) := by
        rw [← doms_get (by omega), List.getD_eq_getElem?_getD, ha]; rfl
      have hx := HIN.out j hj
      obtain ⟨_, _, hr⟩ := HF.out (vars.getD j 0).toNat (by omega)
      refine ⟨[(F (vars.getD j 0).toNat).1, (F (vars.getD j 0).toNat).2], rfl, fun i hi => ?_, by rw [ea]; exact rDom_stays _ _ _ _ HB.out hr⟩
      have c0 := HR.out.cell0 hj
      have c1 := HR.out.cell1 hj
      rw [if_pos hj] at c0 c1
      rw [Nat.zero_add]
      match i, hi with
      | 0, _ => exact c0
      | 1, _ => exact c1

theorem left_length_le {d : List Int × Nat} : (St.leftOf d).length ≤ 64 := Dm.leftM_le _ _

set_option maxHeartbeats 1000000 in
theorem sole_any {u : World} {v1 : Value} {d : List Int × Nat} (hr : rDom u [v1, .int .u64 d.2] d) (hm : d.1.length ≤ 1000) : Calls Tryd.prog 24 #[.agg #[v1, .int .u64 d.2]] u fun e w' => e = .returned (.int .i64 (soleZ d)) ∧ Below u.heap.size u w' := by
  obtain ⟨h1, h2, _⟩ := rDom_parts hr
  obtain ⟨p, n, c, rfl⟩ := rDom_shape hr
  have h0 := new_below u (.cells #[.slice p n c, .int .u64 d.2] 47)
  have M := Lib.hid (Dm.dsize_any (Dm.reads_below (Dm.reads_of_readsN h1) h0) (Nat.le_trans hm (by decide)) d.2 h2)
  have HB := Lib.hid h0
  obtain ⟨l, hl⟩ : ∃ l, l = (Dm.leftM d.1 d.2).length := ⟨_, rfl⟩
  have HR := Lib.hid (show soleZ d = if l = 1 then 1 else 0 by rw [hl]; rfl)
  rw [← hl] at M
  generalize d.2 = y at M HB ⊢
  obtain ⟨R, hR⟩ : ∃ R, R = soleZ d := ⟨_, rfl⟩
  rw [← hR] at HR ⊢
  clear hr h1 h2 h0 hl hm hR
  by_cases k1 : l = 1
  · subst k1
    go_enter Tryd.func24, Tryd.ntmps24
    go_wp2_with fail
    refine M.out.mono ?_
    rintro e w2 ⟨rfl, hB2⟩
    have HB2 := Lib.hid (below_two HB.out hB2)
    clear hB2
    go_wp2_with fail
    go_ret
    exact ⟨by rw [HR.out]; rfl, HB2.out⟩
  · have HR2 := Lib.hid (show R = 0 by rw [HR.out, if_neg k1])
    have d1 : ((l : Int) == 1) = false := beq_eq_false_iff_ne.2 (by omega)
    have d2 : ¬ (l : Int) = 1 := by omega
    clear HR k1
    go_enter Tryd.func24, Tryd.ntmps24
    go_wp2_with fail
    refine M.out.mono ?_
    rintro e w2 ⟨rfl, hB2⟩
    have HB2 := Lib.hid (below_two HB.out hB2)
    clear hB2
    go_wp2_with fail
    go_ret
    exact ⟨by rw [HR2.out]; rfl, HB2.out⟩

set_option maxHeartbeats 1000000 in
theorem empty_any {u : World} {v1 : Value} {d : List Int × Nat} (hr : rDom u [v1, .int .u64 d.2] d) (hm : d.1.length ≤ 1000) : Calls Tryd.prog 23 #[.agg #[v1, .int .u64 d.2]] u fun e w' => e = .returned (.bool (decide ((St.leftOf d).length = 0))) ∧ Below u.heap.size u w' := by
  obtain ⟨h1, h2, _⟩ := rDom_parts hr
  obtain ⟨p, n, c, rfl⟩ := rDom_shape hr
  have h0 := new_below u (.cells #[.slice p n c, .int .u64 d.2] 47)
  have M := Lib.hid (Dm.dsize_any (Dm.reads_below (Dm.reads_of_readsN h1) h0) (Nat.le_trans hm (by decide)) d.2 h2)
  have HB := Lib.hid h0
  obtain ⟨l, hl⟩ : ∃ l, l = (Dm.leftM d.1 d.2).length := ⟨_, rfl⟩
  have HR := Lib.hid (show decide ((St.leftOf d).length = 0) = ((l : Int) == 0) by rw [hl, Bool.eq_iff_iff, decide_eq_true_eq, beq_iff_eq]; exact ⟨fun q => by have q2 : (Dm.leftM d.1 d.2).length = 0 := q; omega, fun q => by show (Dm.leftM d.1 d.2).length = 0; omega⟩)
  rw [← hl] at M
  generalize d.2 = y at M HB ⊢
  obtain ⟨R, hR⟩ : ∃ R, R = decide ((St.leftOf d).length = 0) := ⟨_, rfl⟩
  rw [← hR] at HR ⊢
  clear hr h1 h2 h0 hl hm hR
  go_enter Tryd.func23, Tryd.ntmps23
  go_wp2_with fail
  refine M.out.mono ?_
  rintro e w2 ⟨rfl, hB2⟩
  have HB2 := Lib.hid (below_two HB.out hB2)
  clear hB2
  go_wp2_with fail
  go_ret
  exact ⟨by rw [HR.out]; first | rfl | simp, HB2.out⟩
end Go.Proofs.YtiaibggbbkhjlaaDoor.Ge.Di
namespace Go.Proofs.YtiaibggbbkhjlaaDoor.Ge.Di
open Go.RowKit Go.MapKept St
set_option maxRecDepth 100000

/-- a cell stays where only a map turns -/
theorem cell_grown {w w' : World} {m : Nat} {ks : List Int} {f : Int → Int} (hg : w.grownBy w' (some m)) (hm : CntAt w m ks f) {a : Addr} {v : Value} (h : w.cell? a = some v) : w'.cell? a = some v := by
  have hne : a.block ≠ m := by
    rintro rfl
    obtain ⟨D, ⟨es, clock, hb, _⟩, _⟩ := hm
    unfold World.cell? at h
    rw [hb] at h
    cases h
  exact (World.cell?_of_block (hg.block a.block (Dm.cell_lt h) (fun e => hne (Option.some.inj e)))).trans h

set_option maxHeartbeats 4000000 in
theorem counted_any {w : World} {p : Option Addr} {b off cc n : Nat} {D : List (List Int × Nat)} (hT : B.Tab w) (h0 : 0 < w.heap.size) (h : SliceOf rDom 2 w p b off n D) (hn : n ≤ 100) (hm : ∀ i, i < n → Dm.mayL (D.getD i ([], 0)).1 (D.getD i ([], 0)).2 = true) :
    Calls Tryd.prog 21 #[.slice p n cc] w fun e w' => ∃ m, e = .returned (.map (some m)) ∧ CntAt w' m (unD D n) (cntD D n) ∧ w.heap.size ≤ m ∧ Below w.heap.size w w' := by
  obtain ⟨W2, hW2⟩ : ∃ W2, W2 = w.alloc (.map #[] 0) := ⟨_, rfl⟩
  have HB2 := Lib.hid (show Below w.heap.size w W2 by rw [hW2]; exact new_below _ _)
  have hM2 : CntAt W2 w.heap.size [] (fun _ => 0) := by rw [hW2]; exact cnt_made w
  obtain ⟨m, hmm⟩ : ∃ m, m = w.heap.size := ⟨_, rfl⟩
  have HBM := Lib.hid (show w.heap.size ≤ m by omega)
  have HMQ := Lib.hid (show Value.map (some w.heap.size) = .map (some m) by rw [hmm])
  have hmk := make_plain w
  rw [← hmm] at hM2
  have HM2 := Lib.hid hM2
  have HW2 := Lib.hid hW2
  have HS := Lib.hid h
  have hp := h.at_
  have HMY := Lib.hid hm
  have TB := Lib.hid (fun (u : World) (hu : Below w.heap.size w u) => And.intro (B.Tab.below hT h0 hu) (Nat.lt_of_lt_of_le h0 hu.size))
  have HUN := Lib.hid (fun (k : Nat) (hk : k ≤ n) => show (unD D k).length ≤ 6400 by
    have := unD_len (D := D) (fun i => left_length_le) (j := k)
    omega)
  clear hT h0 h hm hmm hM2 hW2
  go_enter Tryd.func21, Tryd.ntmps21
  go_upto_region 2 with fail
  rw [← HW2.out, HMQ.out]
  clear hmk
  go_wp2_with fail
  go_loopw [12] (fun i wr => ∃ k : Nat, k ≤ n ∧ i = .int .i64 k ∧ CntAt wr m (unD D k) (cntD D k) ∧ Below w.heap.size w wr) (fun i _ => n - (intOf i).toNat)
  case atStart => exact ⟨0, by omega, rfl, HM2.out, HB2.out⟩
  case round =>
    rename_i wr
    obtain ⟨k, hk, rfl, hC, hB⟩ := hrel
    have HC := Lib.hid hC
    have HB := Lib.hid hB
    by_cases hlt : k < n
    · obtain rfl := hp (by omega)
      obtain ⟨d, v9, ed, ⟨a0, a1⟩, hx⟩ := dom_at2 (HS.out.below rDom_stays hB) hlt
      have hd : D.getD k ([], 0) = d := by rw [List.getD_eq_getElem?_getD, ed]; rfl
      have my := HMY.out k hlt
      rw [hd] at my
      obtain ⟨p9, l9, c9, rfl⟩ := rDom_shape hx
      obtain ⟨r1, r2, _⟩ := rDom_parts hx
      obtain ⟨W9, hW9⟩ : ∃ z, z = wr.alloc (.cells #[.slice p9 l9 c9, .int .u64 d.2] 47) := ⟨_, rfl⟩
      have hb9 : Below wr.heap.size wr W9 := by rw [hW9]; exact new_below _ _
      have hO9 : Own2 W9 wr.heap.size 47 (.slice p9 l9 c9) (.int .u64 d.2) := by rw [hW9]; exact Own2.new _ _ _ _
      have h64 : d.1.length ≤ 64 := (Dm.may_iff.1 my).1
      have SG := Lib.hid (sole_any (rDom_stays _ _ _ _ hb9 hx) (Nat.le_trans h64 (by decide)))
      have LS := Lib.hid (fun (u : World) (hu : Below wr.heap.size wr u) => Dm.dlist_any (Dm.reads_below (Dm.reads_of_readsN r1) hu) (Nat.le_trans h64 (by decide)) d.2 r2 (TB.out u (below_two hB hu)).1 (TB.out u (below_two hB hu)).2)
      obtain ⟨l, hl⟩ : ∃ l, l = St.leftOf d := ⟨_, rfl⟩
      have HLL := Lib.hid (show l.length ≤ 64 by rw [hl]; exact left_length_le)
      have HLS := Lib.hid (show ∀ t ∈ l, -1048576 ≤ t ∧ t ≤ 1048576 by rw [hl]; exact leftM_small)
      have HSO := Lib.hid (show soleZ d = if l.length = 1 then 1 else 0 by rw [hl]; rfl)
      have HD := Lib.hid (show St.leftOf (D.getD k ([], 0)) = l by rw [hd, hl])
      replace LS := Lib.hid (fun (u : World) (hu : Below wr.heap.size wr u) => show Calls Tryd.prog 41 #[.agg #[.slice p9 l9 c9, .int .u64 d.2]] u fun e w' => ∃ r, e = .returned r ∧ Dm.OwnsI w' u.heap.size r l ∧ Below u.heap.size u w' by rw [hl]; exact LS.out u hu)
      obtain ⟨one, hone⟩ : ∃ z, z = soleZ d := ⟨_, rfl⟩
      rw [← hone] at SG HSO
      obtain ⟨y, hy⟩ : ∃ y, y = d.2 := ⟨_, rfl⟩
      rw [← hy] at a1 hO9 hW9 SG LS
      have HO9 := Lib.hid hO9
      have HB9 := Lib.hid hb9
      have HW9 := Lib.hid hW9
      have g0 := hO9.cell0
      have g1 := hO9.cell1
      have d5 : (k : Int) < (n : Int) := by omega
      clear hC hB hb9 hO9 hW9 my h64 hl hd ed hx r1 r2 hone hy
      go_upto_region 5 with fail
      rw [← HW9.out]
      clear a0 a1
      go_wp2_with fail
      refine SG.out.mono ?_
      rintro e w3 ⟨rfl, hB3⟩
      have hO3 := HO9.out.below hB3
      have HB3 := Lib.hid (below_two HB9.out hB3)
      clear g0 g1 hB3
      have g0 := hO3.cell0
      have g1 := hO3.cell1
      clear hO3
      go_wp2_with fail
      refine (LS.out _ HB3.out).mono ?_
      rintro e w5 ⟨v5, rfl, ho5, hB5⟩
      obtain ⟨p5, b5, c5, rfl, hp5, hc5⟩ := Dm.ints_shape ho5
      have HC5 := Lib.hid hc5
      have HB5 := Lib.hid (below_two HB3.out hB5)
      have hM5 := HC.out.below HB5.out
      have HM5 := Lib.hid hM5
      have HB6 := Lib.hid (below_two HB.out HB5.out)
      clear hM5 hB5 ho5 hc5 g0 g1
      obtain ⟨q, hq⟩ : ∃ q, q = l.length := ⟨_, rfl⟩
      rw [← hq] at hp5 HSO ⊢
      have HQ := Lib.hid hq
      have hq64 : q ≤ 64 := by rw [hq]; exact HLL.out
      clear hq
      go_wp2_with fail
      go_loopw [21] (fun i wi => ∃ j : Nat, j ≤ q ∧ i = .int .i64 j ∧ CntAt wi m (addAll (unD D k) (l.take j)) (cntI l (cntD D k) j) ∧ w5.grownBy wi (some m)) (fun i _ => q - (intOf i).toNat)
      case atStart => exact ⟨0, by omega, rfl, by rw [cntI_zero]; exact HM5.out, ⟨rfl, rfl, rfl, Nat.le_refl _, fun _ _ _ => rfl⟩⟩
      case round =>
        obtain ⟨wi, rfl⟩ : ∃ z, z = wr := ⟨_, rfl⟩
        obtain ⟨j, hj, rfl, hCi, hG⟩ := hrel
        have HCi := Lib.hid hCi
        have HG := Lib.hid hG
        by_cases hjl : j < q
        · obtain rfl := hp5 (by omega)
          have hjk : j < l.length := by have := HQ.out; omega
          have dj : (j : Int) < (q : Int) := by omega
          have cv := cell_grown hG HM5.out (HC5.out j hjk)
          have hxs := HLS.out _ (St.getD_mem hjk)
          have hT2 := addAll_step (l := unD D k) hjk
          have hT3 := cntI_step (f := cntD D k) hjk
          obtain ⟨x, hxe⟩ : ∃ x, x = l.getD j 0 := ⟨_, rfl⟩
          rw [← hxe] at cv hxs hT2 hT3
          have hlook := hCi.look hxs
          have hlen : (addAll (unD D k) (l.take j)).length ≤ 100000 := by
            have h1 := addAll_len (l := unD D k) (m := l.take j)
            have h2 := HUN.out k hk
            have h3 := HLL.out
            rw [List.length_take] at h1
            omega
          have gb1 := cntI_bound (l := l) (f := cntD D k) (k := j) (x := x)
          have gb2 := cntD_bound (D := D) (j := k) (x := x)
          obtain ⟨g, hg⟩ : ∃ g, g = cntI l (cntD D k) j x := ⟨_, rfl⟩
          rw [← HQ.out, ← HSO.out, ← hg] at hT3
          rw [← hg] at hlook gb1
          have hob : 0 ≤ one ∧ one ≤ 1 := by rw [HSO.out]; split <;> omega
          have hwr : IntKind.i64.wrap (g + one) = g + one := IntWalk.i64_in _ (by omega)
          obtain ⟨w7, hrun, hC7, hG7⟩ := hCi.store (z := g + one) hxs hlen
          rw [hT3, ← hT2] at hC7
          have HN7 := Lib.hid (And.intro hC7 (hG.andThen hG7 (fun a e => .inr e)))
          clear hCi hG hT2 hT3 hxe hxs hlen gb1 gb2 hg hC7 hG7 hob
          go_wp2_with fail
          go_roundw
          case rel => exact ⟨j + 1, by omega, by go_num, HN7.out.1, HN7.out.2⟩
          case measure => simp [intOf]; omega
        · obtain rfl : j = q := by omega
          have dj : ¬ ((j : Int) < (j : Int)) := by omega
          have HEND := Lib.hid (show CntAt wi m (unD D (k + 1)) (cntD D (k + 1)) by
            have e1 : unD D (k + 1) = addAll (unD D k) (l.take j) := by rw [unD_succ, HD.out, HQ.out, List.take_length]
            have e2 : cntD D (k + 1) = cntI l (cntD D k) j := by
              funext x
              rw [cntD_succ, HD.out, HQ.out, cntI_end]
            rw [e1, e2]
            exact hCi)
          have HBE := Lib.hid (show Below w.heap.size w wi from below_grown HB6.out HB6.out.size hG (fun a e => by have := HBM.out; rw [Option.some.injEq] at e; omega))
          clear hCi hG
          go_wp2_with fail
          go_roundw
          case rel => exact ⟨k + 1, by omega, by go_num, HEND.out, HBE.out⟩
          case measure => simp [intOf]; omega
    · obtain rfl : k = n := by omega
      have d6 : ¬ ((k : Int) < (k : Int)) := by omega
      clear hC hB
      go_wp2_with fail
      go_ret
      exact ⟨m, rfl, HC.out, HBM.out, HB.out⟩
end Go.Proofs.YtiaibggbbkhjlaaDoor.Ge.Di
