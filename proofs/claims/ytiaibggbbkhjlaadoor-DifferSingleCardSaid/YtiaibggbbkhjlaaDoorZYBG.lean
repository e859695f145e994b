/-
  What Right of the document's answers for constraints and values answers.
  What sum of the document's answers for constraints and values answers.
-/
import Derived.Test.YtiaibggbbkhjlaaDoorZYBF
import Derived.Test.YtiaibggbbkhjlaaDoorZYAW
namespace Go.Proofs.YtiaibggbbkhjlaaDoor.Gr
open Go.RowKit
set_option maxRecDepth 100000

set_option maxHeartbeats 1000000 in
theorem rright_cells (pl : Option Addr) (bl ol cl ll : Nat) (pr : Option Addr) (br orr cr lr : Nat) (l : List PCon) (row : List Int) (w : World) (h : SliceOf rCon 6 w pl bl ol ll l) (hr : Nums w pr br orr lr row) (hll : ll ≤ 1000) (hlr : lr ≤ 1000) (hs : ∀ c ∈ l, Short 1000 c) :
    Calls Tryd.prog 15 #[.slice pl ll cl, .slice pr lr cr] w fun e w' => e = .returned (.bool (rightG l row)) ∧ Below w.heap.size w w' := by
  obtain ⟨R, hR⟩ : ∃ R, R = rightG l row := ⟨_, rfl⟩
  rw [← hR]
  have HR := Lib.hid hR
  have HL := Lib.hid h
  have HN := Lib.hid hr
  have HS := Lib.hid hs
  have q1 := h.at_
  have q2 := hr.at_
  have e1 := Lib.hid h.long
  have e2 := Lib.hid hr.long
  clear hR h hr hs
  go_enter Tryd.func15, Tryd.ntmps15
  go_wp2_with fail
  go_loopw [5] (fun i wr => (∃ k : Nat, k ≤ lr ∧ i = .int .i64 k ∧ ∀ j, j < k → -1048576 ≤ row.getD j 0 ∧ row.getD j 0 ≤ 1048576) ∧ ∃ n, wr = w.drewN n) (fun i _ => lr - (intOf i).toNat)
  case atStart => exact ⟨⟨0, by omega, rfl, fun j h => by omega⟩, 0, rfl⟩
  case round =>
    obtain ⟨⟨k, hk, rfl, hrel⟩, n, rfl⟩ := hrel
    have HK := Lib.hid hrel
    clear hrel
    by_cases hlt : k < lr
    · obtain rfl := q2 (by omega)
      have a0 := HN.out.cell k hlt
      have hfx := HN.out.fit k hlt
      obtain ⟨x, ex⟩ : ∃ x, x = row.getD k 0 := ⟨_, rfl⟩
      rw [← ex] at a0 hfx
      unfold Fit at hfx
      have HE := Lib.hid ex
      clear ex
      by_cases g1 : x < -1048576
      · have key : R = false := by
          rw [HR.out, rightG, row_bad (k := k) (by rw [← e2.out]; exact hlt) (Or.inl (by rw [← HE.out]; exact g1))]; rfl
        subst key
        have d1 : decide (x < (-1048576 : Int)) = true := decide_eq_true g1
        go_wp2_with fail
        go_ret
        exact ⟨rfl, below_drewN (Below.refl _ w)⟩
      · have d1 : decide (x < (-1048576 : Int)) = false := decide_eq_false g1
        by_cases g2 : 1048576 < x
        · have key : R = false := by
            rw [HR.out, rightG, row_bad (k := k) (by rw [← e2.out]; exact hlt) (Or.inr (by rw [← HE.out]; exact g2))]; rfl
          subst key
          have d2 : decide ((1048576 : Int) < x) = true := decide_eq_true g2
          go_wp2_with fail
          go_ret
          exact ⟨rfl, below_drewN (Below.refl _ w)⟩
        · have d2 : decide ((1048576 : Int) < x) = false := decide_eq_false g2
          have NX := Lib.hid (show ∀ j, j < k + 1 → -1048576 ≤ row.getD j 0 ∧ row.getD j 0 ≤ 1048576 from fun j hj => by
            by_cases h : j < k
            · exact HK.out j h
            · obtain rfl : j = k := by omega
              rw [← HE.out]
              omega)
          go_wp2_with fail
          go_roundw
          case rel => exact ⟨⟨k + 1, by omega, by go_num, NX.out⟩, _, rfl⟩
          case measure => simp [intOf]; omega
    · obtain rfl : k = lr := by omega
      have hon : R = l.all fun c => rightC c (k : Int) := by
        rw [HR.out, rightG, row_good fun j hj => HK.out j (by rw [e2.out]; exact hj), Bool.true_and, ← e2.out]
      have HON := Lib.hid hon
      clear hon
      go_wp2_with fail
      go_loopw [6] (fun i wr => (∃ j : Nat, j ≤ ll ∧ i = .int .i64 j ∧ ∀ (j' : Nat) (c : PCon), j' < j → l[j']? = some c → rightC c (k : Int) = true) ∧ Below w.heap.size w wr) (fun i _ => ll - (intOf i).toNat)
      case atStart => exact ⟨⟨0, by omega, rfl, fun j c h => by omega⟩, below_drewN (Below.refl _ w)⟩
      case round =>
        rename_i wr
        obtain ⟨⟨j, hj, rfl, hrel⟩, hB⟩ := hrel
        have HJ := Lib.hid hrel
        have HB := Lib.hid hB
        clear hrel hB
        by_cases hlj : j < ll
        · obtain rfl := q1 (by omega)
          obtain ⟨c, v1, v2, v3, hc, ⟨c0, c1, c2, c3, c4, c5⟩, hrc⟩ := con_at2 (HL.out.below rCon_stays HB.out) hlj
          have HC := Lib.hid hc
          have CA := Lib.hid (show ∀ u, Below wr.heap.size wr u → Calls Tryd.prog 36 #[.agg #[.int .i64 c.kind, v1, v2, .int .i64 c.rel, .int .i64 c.const, v3], .int .i64 (k : Int)] u fun e w' => e = .returned (.bool (rightC c (k : Int))) ∧ Below u.heap.size u w' from
            fun u hu => rrcon_any (k : Int) (by unfold Fit; omega) (rCon_stays _ _ _ _ hu hrc) (HS.out c (List.mem_of_getElem? hc)))
          clear hc hrc
          obtain ⟨b, hb⟩ : ∃ b, b = rightC c (k : Int) := ⟨_, rfl⟩
          rw [← hb] at CA
          have HBB := Lib.hid hb
          clear hb
          cases b
          · have key : R = false := by rw [HON.out]; exact cons_bad HC.out HBB.out.symm
            subst key
            go_wp2_with fail
            refine (CA.out _ (Below.refl _ _)).mono ?_
            rintro e w' ⟨rfl, hw⟩
            have HB2 := Lib.hid (HB.out.trans (hw.mono HB.out.size))
            clear hw
            go_wp2_with fail
            go_ret
            exact ⟨rfl, HB2.out⟩
          · have NX := Lib.hid (show ∀ (j' : Nat) (c : PCon), j' < j + 1 → l[j']? = some c → rightC c (k : Int) = true from fun j' c' hj' hc' => by
              by_cases h : j' < j
              · exact HJ.out j' c' h hc'
              · obtain rfl : j' = j := by omega
                rw [HC.out] at hc'
                obtain rfl := Option.some.inj hc'
                exact HBB.out.symm)
            go_wp2_with fail
            refine (CA.out _ (Below.refl _ _)).mono ?_
            rintro e w' ⟨rfl, hw⟩
            have HB2 := Lib.hid (HB.out.trans (hw.mono HB.out.size))
            clear hw
            go_wp2_with fail
            go_roundw
            case rel => exact ⟨⟨j + 1, by omega, by go_num, NX.out⟩, HB2.out⟩
            case measure => simp [intOf]; omega
        · obtain rfl : j = ll := by omega
          have key : R = true := by
            rw [HON.out]
            exact cons_good fun i c hc => HJ.out i c (by
              have := (List.getElem?_eq_some_iff.1 hc).1
              rw [← e1.out] at this
              exact this) hc
          subst key
          go_wp2_with fail
          go_ret
          exact ⟨rfl, HB.out⟩
end Go.Proofs.YtiaibggbbkhjlaaDoor.Gr
namespace Go.Proofs.YtiaibggbbkhjlaaDoor.Gr
open Go.RowKit
set_option maxRecDepth 100000

theorem val_at {w : World} {p : Option Addr} {b off len : Nat} {row : List Int} (h : Nums w p b off len row) {v : Int} (hv : 0 ≤ v ∧ v < len) : p = some ⟨b, off, none⟩ ∧ w.cell? ⟨b, off + v.toNat, none⟩ = some (.int .i64 (val row v)) := by
  refine ⟨h.at_ (by omega), ?_⟩
  exact h.cell v.toNat (by omega)

set_option maxHeartbeats 2000000 in
theorem rsum_cells (p1 p2 p3 pv pr : Option Addr) (b2 o2 l1 l3 c1 c2 c3 bv ov lv cv br orr lr cr : Nat) (kd rl ct : Int) (ks vs row : List Int) (w : World) (h2 : Nums w p2 b2 o2 lv ks) (hv : Nums w pv bv ov lv vs) (hr : Nums w pr br orr lr row)
    (hlv : lv ≤ 1000) (hin : ∀ v ∈ vs, 0 ≤ v ∧ v < lr) (hok : rowOk row = true) (hks : allN ks 1048576 = true) (hrl : 0 ≤ rl ∧ rl ≤ 5) (_ : Fit ct) :
    Calls Tryd.prog 37 #[.agg #[.int .i64 kd, .slice p1 l1 c1, .slice p2 lv c2, .int .i64 rl, .int .i64 ct, .slice p3 l3 c3], .slice pv lv cv, .slice pr lr cr] w fun e w' => e = .returned (.bool (sumH row vs ks rl ct)) ∧ Below w.heap.size w w' := by
  obtain ⟨R, hR⟩ : ∃ R, R = sumH row vs ks rl ct := ⟨_, rfl⟩
  rw [← hR]
  have HR := Lib.hid hR
  clear hR
  obtain ⟨W0, hW0⟩ : ∃ W0, W0 = w.alloc (.cells #[.int .i64 kd, .slice p1 l1 c1, .slice p2 lv c2, .int .i64 rl, .int .i64 ct, .slice p3 l3 c3] 24) := ⟨_, rfl⟩
  have hB0 : Below w.heap.size w W0 := by rw [hW0]; exact (Below.refl _ w).alloc (Nat.le_refl _) _
  have m2 : W0.cell? ⟨w.heap.size, 2, none⟩ = some (.slice p2 lv c2) := by rw [hW0]; go_simp
  have m3 : W0.cell? ⟨w.heap.size, 3, none⟩ = some (.int .i64 rl) := by rw [hW0]; go_simp
  have m4 : W0.cell? ⟨w.heap.size, 4, none⟩ = some (.int .i64 ct) := by rw [hW0]; go_simp
  have HW := Lib.hid hW0
  have HB0 := Lib.hid hB0
  have N2 := Lib.hid (show Nums W0 p2 b2 o2 lv ks from ⟨h2.long, h2.at_, fun k hk => cell_stays hB0 (h2.cell k hk), h2.fit⟩)
  have NV := Lib.hid (show Nums W0 pv bv ov lv vs from ⟨hv.long, hv.at_, fun k hk => cell_stays hB0 (hv.cell k hk), hv.fit⟩)
  have NR := Lib.hid (show Nums W0 pr br orr lr row from ⟨hr.long, hr.at_, fun k hk => cell_stays hB0 (hr.cell k hk), hr.fit⟩)
  have HIN := Lib.hid hin
  have HOK := Lib.hid hok
  have HKS := Lib.hid hks
  clear hW0 hB0 h2 hv hr hin hok hks
  go_enter Tryd.func37, Tryd.ntmps37
  go_wp2_with fail
  rw [← HW.out]
  go_loopw [7, 8] (fun n i wr => (∃ k : Nat, k ≤ lv ∧ i = .int .i64 k ∧ n = .int .i64 (sumG row 0 ((vs.zip ks).take k))) ∧ ∃ n, wr = W0.drewN n) (fun _ i _ => lv - (intOf i).toNat)
  case atStart => exact ⟨⟨0, by omega, rfl, rfl⟩, 0, rfl⟩
  case round =>
    obtain ⟨⟨k, hk, rfl, rfl⟩, n, rfl⟩ := hrel
    by_cases hlt : k < lv
    · obtain rfl := NV.out.at_ (by omega)
      obtain rfl := N2.out.at_ (by omega)
      have a0 := NV.out.cell k hlt
      have b0 := N2.out.cell k (by omega)
      have hvk : k < vs.length := by rw [← NV.out.long]; exact hlt
      have hkk : k < ks.length := by rw [← N2.out.long]; omega
      have hx := HIN.out (vs.getD k 0) (List.mem_of_getElem? (getD_at hvk))
      obtain ⟨rfl, r0⟩ := val_at NR.out hx
      have hs0 := sum_fits (vs := vs) HOK.out HKS.out (k := k) (by omega)
      have hs1 := sum_fits (vs := vs) HOK.out HKS.out (k := k + 1) (by omega)
      rw [sum_next hvk hkk] at hs1
      have hv0 := val_small HOK.out (vs.getD k 0)
      have hk0 : -1048576 ≤ ks.getD k 0 ∧ ks.getD k 0 ≤ 1048576 := by
        have := List.all_eq_true.1 HKS.out (ks.getD k 0) (List.mem_of_getElem? (getD_at hkk))
        simpa [Bool.and_eq_true] using this
      have hm := mul_small hk0 hv0
      have NX := Lib.hid (sum_next (row := row) hvk hkk)
      obtain ⟨s, es⟩ : ∃ s, s = sumG row 0 ((vs.zip ks).take k) := ⟨_, rfl⟩
      obtain ⟨x, ex⟩ : ∃ x, x = vs.getD k 0 := ⟨_, rfl⟩
      obtain ⟨y, ey⟩ : ∃ y, y = ks.getD k 0 := ⟨_, rfl⟩
      rw [← ex] at a0 hx r0 hs1 hm
      rw [← ey] at b0 hs1 hm
      rw [← es] at hs0 hs1 ⊢
      obtain ⟨z, ez⟩ : ∃ z, z = val row x := ⟨_, rfl⟩
      rw [← ez] at r0 hs1 hm
      have NX2 := Lib.hid (show sumG row 0 ((vs.zip ks).take (k + 1)) = s + y * z by rw [NX.out, ← es, ← ex, ← ey, ← ez])
      clear es ex ey ez NX hv0 hk0
      obtain ⟨xn, hxn⟩ : ∃ xn : Nat, x = (xn : Int) := ⟨x.toNat, by omega⟩
      subst hxn
      have e9 : ((xn : Int)).toNat = xn := by omega
      rw [e9] at r0
      go_wp2
      go_quiet (fail)
      go_wp2_with fail
      go_roundw
      case rel => exact ⟨⟨k + 1, by omega, by go_num, by rw [NX2.out]; try go_num⟩, _, rfl⟩
      case measure => simp [intOf]; omega
    · obtain rfl : k = lv := by omega
      have key : R = Su.holdsB (sumG row 0 ((vs.zip ks).take k)) rl ct := by
        rw [HR.out, sum_end (by rw [← NV.out.long]; omega)]; rfl
      have hs0 := sum_fits (vs := vs) HOK.out HKS.out (k := k) (by omega)
      obtain ⟨s, es⟩ : ∃ s, s = sumG row 0 ((vs.zip ks).take k) := ⟨_, rfl⟩
      rw [← es] at hs0 key ⊢
      clear es
      have m3a : ∀ a b c d e f : Bool, ((W0.drewN n).alloc (.cells #[.bool a, .bool b, .bool c, .bool d, .bool e, .bool f] 4)).cell? ⟨w.heap.size, 3, none⟩ = some (.int .i64 rl) := fun a b c d e f =>
        cell_stays (show Below (W0.drewN n).heap.size (W0.drewN n) ((W0.drewN n).alloc _) from (Below.refl _ _).alloc (Nat.le_refl _) _) (show (W0.drewN n).cell? ⟨w.heap.size, 3, none⟩ = some (.int .i64 rl) from m3)
      have g0 : ∀ a b c d e f : Bool, ((W0.drewN n).alloc (.cells #[.bool a, .bool b, .bool c, .bool d, .bool e, .bool f] 4)).cell? ⟨W0.heap.size, 0, none⟩ = some (.bool a) := fun a b c d e f => by
        show ((W0.drewN n).alloc _).cell? ⟨(W0.drewN n).heap.size, 0, none⟩ = _
        rw [World.cell?_alloc_mark]
        rfl
      have g1 : ∀ a b c d e f : Bool, ((W0.drewN n).alloc (.cells #[.bool a, .bool b, .bool c, .bool d, .bool e, .bool f] 4)).cell? ⟨W0.heap.size, 1, none⟩ = some (.bool b) := fun a b c d e f => by
        show ((W0.drewN n).alloc _).cell? ⟨(W0.drewN n).heap.size, 1, none⟩ = _
        rw [World.cell?_alloc_mark]
        rfl
      have g2 : ∀ a b c d e f : Bool, ((W0.drewN n).alloc (.cells #[.bool a, .bool b, .bool c, .bool d, .bool e, .bool f] 4)).cell? ⟨W0.heap.size, 2, none⟩ = some (.bool c) := fun a b c d e f => by
        show ((W0.drewN n).alloc _).cell? ⟨(W0.drewN n).heap.size, 2, none⟩ = _
        rw [World.cell?_alloc_mark]
        rfl
      have g3 : ∀ a b c d e f : Bool, ((W0.drewN n).alloc (.cells #[.bool a, .bool b, .bool c, .bool d, .bool e, .bool f] 4)).cell? ⟨W0.heap.size, 3, none⟩ = some (.bool d) := fun a b c d e f => by
        show ((W0.drewN n).alloc _).cell? ⟨(W0.drewN n).heap.size, 3, none⟩ = _
        rw [World.cell?_alloc_mark]
        rfl
      have g4 : ∀ a b c d e f : Bool, ((W0.drewN n).alloc (.cells #[.bool a, .bool b, .bool c, .bool d, .bool e, .bool f] 4)).cell? ⟨W0.heap.size, 4, none⟩ = some (.bool e) := fun a b c d e f => by
        show ((W0.drewN n).alloc _).cell? ⟨(W0.drewN n).heap.size, 4, none⟩ = _
        rw [World.cell?_alloc_mark]
        rfl
      have g5 : ∀ a b c d e f : Bool, ((W0.drewN n).alloc (.cells #[.bool a, .bool b, .bool c, .bool d, .bool e, .bool f] 4)).cell? ⟨W0.heap.size, 5, none⟩ = some (.bool f) := fun a b c d e f => by
        show ((W0.drewN n).alloc _).cell? ⟨(W0.drewN n).heap.size, 5, none⟩ = _
        rw [World.cell?_alloc_mark]
        rfl
      have HK := Lib.hid key
      clear key
      rcases (by omega : rl = 0 ∨ rl = 1 ∨ rl = 2 ∨ rl = 3 ∨ rl = 4 ∨ rl = 5) with rfl | rfl | rfl | rfl | rfl | rfl
      all_goals
        go_wp2_with fail
        all_goals
          go_ret
          refine ⟨?_, (below_drewN HB0.out).alloc (by have := HB0.out.size; simpa using this) _⟩
          rw [HK.out]
          have e97 : ∀ {a b : Bool}, a = b → Ending.returned (Value.bool a) = Ending.returned (Value.bool b) := fun h => by rw [h]
          refine e97 ?_
          simp [Su.holdsB]
          all_goals try (rw [Bool.eq_iff_iff]; simp)
          all_goals try omega
end Go.Proofs.YtiaibggbbkhjlaaDoor.Gr
