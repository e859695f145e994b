/-
  What keeperOf of package linear answers: a function that tells what a step keeps.
-/
import Derived.Test.YtakooocmnapjmaaDoorZZReg
namespace Go.Proofs.YtakooocmnapjmaaDoor.St
open Go.RowKit
set_option maxRecDepth 100000

/-- what a step keeps of the domains of a constraint's own variables -/
def keepK (k : Int) (ks : List Int) (D : List (List Int × Nat)) (rel ag : Int) : Nat → Int → Bool :=
  if (D.any fun d => decide ((leftOf d).length = 0)) = true then fun _ _ => false
  else if k = 1 then sumK ks (endP ks D) D.length rel ag
  else iffK (mayG (totTo (endP ks (D.drop 1)) (D.length - 1)).1 (totTo (endP ks (D.drop 1)) (D.length - 1)).2 rel ag) (mayG (totTo (endP ks (D.drop 1)) (D.length - 1)).1 (totTo (endP ks (D.drop 1)) (D.length - 1)).2 (contrary rel) ag)
    (othK (decide ((1 : Int) ∈ leftOf (D.getD 0 ([], 0)))) (decide ((0 : Int) ∈ leftOf (D.getD 0 ([], 0)))) ks (endP ks (D.drop 1)) (D.length - 1) rel ag)
theorem keep_none {k : Int} {ks : List Int} {D : List (List Int × Nat)} {rel ag : Int} (h : true = D.any fun d => decide ((leftOf d).length = 0)) : keepK k ks D rel ag = fun _ _ => false := by unfold keepK; rw [← h]; rfl
theorem keep_one {k : Int} {ks : List Int} {D : List (List Int × Nat)} {rel ag : Int} (h : false = D.any fun d => decide ((leftOf d).length = 0)) (hk : k = 1) : keepK k ks D rel ag = sumK ks (endP ks D) D.length rel ag := by unfold keepK; rw [← h, if_neg (by simp), if_pos hk]
theorem keep_three {k : Int} {ks : List Int} {D : List (List Int × Nat)} {rel ag : Int} (h : false = D.any fun d => decide ((leftOf d).length = 0)) (hk : k ≠ 1) : keepK k ks D rel ag = iffK (mayG (totTo (endP ks (D.drop 1)) (D.length - 1)).1 (totTo (endP ks (D.drop 1)) (D.length - 1)).2 rel ag) (mayG (totTo (endP ks (D.drop 1)) (D.length - 1)).1 (totTo (endP ks (D.drop 1)) (D.length - 1)).2 (contrary rel) ag)
    (othK (decide ((1 : Int) ∈ leftOf (D.getD 0 ([], 0)))) (decide ((0 : Int) ∈ leftOf (D.getD 0 ([], 0)))) ks (endP ks (D.drop 1)) (D.length - 1) rel ag) := by unfold keepK; rw [← h, if_neg (by simp), if_neg hk]
theorem doms_drop {w : World} {b off l : Nat} {D : List (List Int × Nat)} (h : SliceOf rDom 2 w (some ⟨b, off, none⟩) b off (l + 1) D) : SliceOf rDom 2 w (some ⟨b, off + 2, none⟩) b (off + 2) l (D.drop 1) := by
  have hl := h.long
  refine ⟨by rw [List.length_drop]; omega, fun _ => rfl, fun k a ha => ?_⟩
  rw [List.getElem?_drop, Nat.add_comm] at ha
  obtain ⟨cs, c1, c2, c3⟩ := h.cell (k + 1) a ha
  exact ⟨cs, c1, fun j hj => by have := c2 j hj; rw [show off + 2 + k * 2 + j = off + (k + 1) * 2 + j by omega]; exact this, c3⟩

set_option maxHeartbeats 8000000 in
theorem keeper_any {X : Nat → Prop} {w : World} {p2 : Option Addr} {b2 o2 l2 c2 b off len : Nat} {k r t : Int} {v1 v3 : Value} {ks : List Int} {D : List (List Int × Nat)} (hX : ∀ k, X k → k < w.heap.size) (hT : B.Tab w) (h0 : 0 < w.heap.size) (hk : ∀ z, Fr X w z → Nums z p2 b2 o2 l2 ks) (h : SliceOf rDom 2 w (some ⟨b, off, none⟩) b off len D) (hl : len ≤ 1000) (hkd : k = 1 ∧ len ≤ l2 ∨ k = 3 ∧ len = l2 + 1 ∧ 1 ≤ l2) (hD : ∀ d ∈ D, d.1.length ≤ 1000) (hkb : ∀ k, k < ks.length → -1048576 ≤ ks.getD k 0 ∧ ks.getD k 0 ≤ 1048576) (hr : 0 ≤ r ∧ r ≤ 5) :
    Calls Tryd.prog 21 #[.agg #[.int .i64 k, v1, .slice p2 l2 c2, .int .i64 r, .int .i64 t, v3], .slice (some ⟨b, off, none⟩) len len] w fun e w' => ∃ v, e = .returned v ∧ Keeps X w' v len (keepK k ks D r t) ∧ Below w.heap.size w w' := by
  obtain ⟨W0, hW0⟩ : ∃ W0, W0 = w.alloc (.cells #[.int .i64 k, v1, .slice p2 l2 c2, .int .i64 r, .int .i64 t, v3] 24) := ⟨_, rfl⟩
  have hb0 : Below w.heap.size w W0 := by rw [hW0]; exact new_below _ _
  have hc0 : ∀ j u, [Value.int .i64 k, v1, .slice p2 l2 c2, .int .i64 r, .int .i64 t, v3][j]? = some u → W0.cell? ⟨w.heap.size, j, none⟩ = some u := fun j u e => by rw [hW0]; exact six_at _ _ _ _ _ _ _ _ j u e
  have HM := Lib.hid (hasM_any 44 (enters_of Tryd.func44 (by kernel_rfl) rfl) #[] (fun d => decide ((leftOf d).length = 0)) (some ⟨b, off, none⟩) b off len len D W0 (h.below rDom_stays hb0) (by omega) (fun u x v1 hu hx hrd => keeper1_any hrd (hD x hx)))
  have HC := Lib.hid (fun (z : World) (hz : Below W0.heap.size W0 z) => And.intro (cell_below hz (hc0 0 _ rfl)) (And.intro (cell_below hz (hc0 1 _ rfl)) (And.intro (cell_below hz (hc0 2 _ rfl)) (And.intro (cell_below hz (hc0 3 _ rfl)) (And.intro (cell_below hz (hc0 4 _ rfl)) (cell_below hz (hc0 5 _ rfl)))))))
  obtain ⟨AN, hAN⟩ : ∃ z, z = D.any fun d => decide ((leftOf d).length = 0) := ⟨_, rfl⟩
  rw [← hAN] at HM
  have HAN := Lib.hid hAN
  have HB0 := Lib.hid hb0
  have HW := Lib.hid hW0
  have HLN := Lib.hid h.long
  have HKD := Lib.hid hkd
  clear hkd
  obtain ⟨q0, q1, q2, q3, q4, q5⟩ := HC.out W0 (Below.refl _ _)
  have HR := Lib.hid hr
  have BYX := Lib.hid (fun (z : World) (hz : Below W0.heap.size W0 z) (hll : len ≤ l2) => bysum_any (X := X) (k := k) (r := r) (t := t) (v1 := v1) (v3 := v3) (c2 := c2) (c := len) (rel := r) (fun i hi => Nat.lt_of_lt_of_le (hX i hi) (below_two hb0 hz).size) (B.Tab.below hT h0 (below_two hb0 hz)) (Nat.lt_of_lt_of_le h0 (below_two hb0 hz).size) (fun y hy => hk y ((Fr.of_below (below_two hb0 hz)).trans hy)) (h.below rDom_stays (below_two hb0 hz)) hl hll hD hkb hr)
  clear hW0 hc0 hAN
  go_enter Tryd.func21, Tryd.ntmps21
  go_wp2_with fail
  rw [← HW.out]
  refine HM.out.mono ?_
  rintro e w1 ⟨rfl, hB1⟩
  have HB1 := Lib.hid hB1
  obtain ⟨q0, q1, q2, q3, q4, q5⟩ := HC.out _ hB1
  clear hB1
  cases AN
  · by_cases hk1 : k = 1
    · have HK := Lib.hid (keep_one (ks := ks) (rel := r) (ag := t) HAN.out hk1)
      have hll : len ≤ l2 := by have := HKD.out; omega
      have BY := Lib.hid (BYX.out _ HB1.out hll)
      clear hT hk h hD hkb hr hX hb0
      have dk : (k == 1) = true := by simpa using hk1
      clear hk1
      go_wp2_with fail
      refine BY.out.mono ?_
      rintro e w2 ⟨v, rfl, hv, hB2⟩
      have HV := Lib.hid hv
      have HB2 := Lib.hid hB2
      clear hv hB2
      go_wp2_with fail
      go_ret
      exact ⟨_, rfl, by rw [HK.out, ← HLN.out]; exact HV.out, below_two HB0.out (below_two HB1.out HB2.out)⟩
    · have HK := Lib.hid (keep_three (ks := ks) (rel := r) (ag := t) HAN.out hk1)
      obtain ⟨rfl, hlk, hl1⟩ : k = 3 ∧ len = l2 + 1 ∧ 1 ≤ l2 := by rcases HKD.out with q | q; exact absurd q.1 hk1; exact q
      subst hlk
      have hD1 : ∀ d ∈ D.drop 1, d.1.length ≤ 1000 := fun d hd => hD d (List.drop_subset 1 D hd)
      have RC := Lib.hid (fun (z : World) (hz : Below W0.heap.size W0 z) => (show Calls Tryd.prog 49 #[.slice p2 l2 c2, .slice (some ⟨b, off + 2, none⟩) l2 l2] z fun e w' => ∃ g, e = .returned (.slice (some ⟨g, 0, none⟩) l2 l2) ∧ Row2 l2 78 w' g (fun j => cellP (endP ks (D.drop 1) j)) ∧ Below z.heap.size z w' from (reaches_any (ck := c2) (c := l2) (B.Tab.below hT h0 (below_two hb0 hz)) (Nat.lt_of_lt_of_le h0 (below_two hb0 hz).size) (hk z (.of_below (below_two hb0 hz))) (doms_drop (h.below rDom_stays (below_two hb0 hz))) (by omega) (Nat.le_refl _) hD1 hkb).mono (fun _ _ q => ⟨_, q⟩)))
      have TC := Lib.hid (fun (z : World) (g : Nat) (hz : Row2 l2 78 z g (fun j => cellP (endP ks (D.drop 1) j))) => total_any hz (by omega) (fun j hj => endP_small (hkb j (by rw [← (hk w (.refl _ _)).long]; exact hj))))
      have hs1 := fun W => slice_doms b off l2 l2 (Nat.le_refl _) hl1 W
      have HBQ := Lib.hid (show ∀ q, Below W0.heap.size W0 (w1.drewN q) from fun q => below_two HB1.out (below_drewN (Below.refl _ _)))
      have HBA := Lib.hid (show ∀ q, Below W0.heap.size W0 ((w1.alloc (.cells #[.int .i64 0, .int .i64 0] 78)).drewN q) from fun q => below_two HB1.out (below_two (new_below _ _) (below_drewN (Below.refl _ _))))
      have OBA := Lib.hid (show Own2 ((w1.alloc (.cells #[.int .i64 0, .int .i64 0] 78)).drewN 1) w1.heap.size 78 (.int .i64 0) (.int .i64 0) from Own2.new _ _ _ _)
      obtain ⟨t1, ht1⟩ : ∃ z, z = (totTo (endP ks (D.drop 1)) l2).1 := ⟨_, rfl⟩
      obtain ⟨t2, ht2⟩ : ∃ z, z = (totTo (endP ks (D.drop 1)) l2).2 := ⟨_, rfl⟩
      rw [← ht1, ← ht2] at TC
      have HT12 := Lib.hid (And.intro ht1 ht2)
      clear ht1 ht2
      have hlt1 : w.heap.size < w1.heap.size := Dm.cell_lt q2
      go_upto_region 5 with fail
      go_cut [5] (fun p wx => ∃ g, p = .pointer (some ⟨g, 0, none⟩) ∧ W0.heap.size ≤ g ∧ wx.cell? ⟨g, 0, none⟩ = some (.int .i64 t1) ∧ wx.cell? ⟨g, 1, none⟩ = some (.int .i64 t2) ∧ Below W0.heap.size W0 wx)
      case first =>
        clear hT h0 hk h hD hD1 hkb hr hX hb0
        go_region_law (first
          | (go_simp; go_at_call 49; refine (RC.out _ (by first | exact HBQ.out _ | exact HBA.out _)).mono ?_; rintro e w2 ⟨g2, rfl, hrow, hB2⟩; have hw2 : Below W0.heap.size W0 w2 := below_two (by first | exact HBQ.out _ | exact HBA.out _) hB2; (first | (have ob2 := Own2.below OBA.out hB2) | skip))
          | (go_simp; go_at_call 48; (first | (have TT := TC.out _ _ hrow; refine TT.mono ?_) | (have TT := TC.out _ _ (hrow.below (new_below w2 (.cells #[.int .i64 0, .int .i64 0] 78))); refine TT.mono ?_)); rintro e w3 ⟨rfl, hB3⟩; have hw3 : Below W0.heap.size W0 w3 := below_two (by first | exact hw2 | exact below_two hw2 (new_below _ _)) hB3; (first | (have ob3 := Own2.below ob2 hB3) | (have ob3 := Own2.below (Own2.new _ _ _ _) hB3) | skip); (first | (have f0 := ob3.frozen 0; have f1 := ob3.frozen 1; have c0 := ob3.cell0; have c1 := ob3.cell1) | skip)))
        all_goals go_wp2_with fail
        all_goals go_meet
        all_goals first
          | with_reducible exact ⟨_, rfl, hw3.size, (Own2.new _ _ _ _).cell0, (Own2.new _ _ _ _).cell1, below_two hw3 (new_below _ _)⟩
          | with_reducible exact ⟨_, rfl, hw2.size, ((ob3.set0 _).set1 _).cell0, ((ob3.set0 _).set1 _).cell1, (hw3.setCell hw2.size _).setCell hw2.size _⟩
          | with_reducible exact ⟨_, rfl, HB1.out.size, ((ob3.set0 _).set1 _).cell0, ((ob3.set0 _).set1 _).cell1, (hw3.setCell HB1.out.size _).setCell HB1.out.size _⟩
      case rest =>
        obtain ⟨g, rfl, hge, g0, g1, hB⟩ := hcut
        obtain ⟨wz, rfl⟩ : ∃ z, z = wc := ⟨_, rfl⟩
        have HBW := Lib.hid hB
        clear q0 q1 q2 q3 q4 q5
        obtain ⟨q0, q1, q2, q3, q4, q5⟩ := HC.out _ hB
        have HG := Lib.hid (And.intro g0 (And.intro g1 (And.intro q3 q4)))
        have HBZ := Lib.hid (show Below wz.heap.size wz wz.drew from (Below.refl _ _).drew)
        have CR := Lib.hid (fun u => pcontrary_any r u)
        have MA0 := Lib.hid (fun u => mayHold_any t1 t2 r t HR.out u)
        have MB0 := Lib.hid (fun u => mayHold_any t1 t2 (contrary r) t (contrary_in HR.out) u)
        obtain ⟨A, hA⟩ : ∃ z, z = mayG t1 t2 r t := ⟨_, rfl⟩
        obtain ⟨B0, hB0⟩ : ∃ z, z = mayG t1 t2 (contrary r) t := ⟨_, rfl⟩
        have MA : Hid (∀ u, Calls Tryd.prog 50 #[.agg #[.int .i64 t1, .int .i64 t2], .int .i64 r, .int .i64 t] u fun e w' => e = .returned (.bool A) ∧ Below u.heap.size u w') := by rw [hA]; exact MA0
        have MB : Hid (∀ u, Calls Tryd.prog 50 #[.agg #[.int .i64 t1, .int .i64 t2], .int .i64 (contrary r), .int .i64 t] u fun e w' => e = .returned (.bool B0) ∧ Below u.heap.size u w') := by rw [hB0]; exact MB0
        have HAB := Lib.hid (And.intro hA hB0)
        clear MA0 MB0 hA hB0 hB g0 g1
        go_upto_region 6 with fail
        go_cut [6, 7] (fun p q wx => ∃ b6 b7, p = .pointer (some ⟨b6, 0, none⟩) ∧ q = .pointer (some ⟨b7, 0, none⟩) ∧ W0.heap.size ≤ b6 ∧ W0.heap.size ≤ b7 ∧ wx.cell? ⟨b6, 0, none⟩ = some (.bool A) ∧ wx.cell? ⟨b7, 0, none⟩ = some (.bool B0) ∧ Below wz.heap.size wz wx)
        case first =>
          refine wp_region_at (γ := GS6) (JS6 wz w.heap.size t1 t2 r (contrary r) t A B0) putS6 ⟨0, 0, u25, u26, u27, u28, u29, u30, u31, u32, u33, u34, u35, u36, u37, undef, undef⟩ ?hm ?ho ?hput ?h0 ?hs ?hd
          case hm => kernel_rfl
          case ho => kernel_rfl
          case hput => (simp only [putS6, List.setIfInBounds_toArray, List.set_cons_zero, List.set_cons_succ])
          case h0 => exact ⟨HBZ.out, nofun, nofun, nofun, nofun, nofun, nofun, nofun, nofun, nofun, nofun, nofun, nofun, nofun, nofun, nofun, nofun, nofun, nofun⟩
          case hs =>
            as_aux_lemma =>
            refine ⟨?s0, ?s1, ?s2, ?s3, ?s4, ?s5, ?s6, ?s7, ?s8, ?s9, ?s10, ?s11, ?s12, ?s13, ?s14, ?s15, ?s16, trivial⟩
            case s0 =>
              rintro l ⟨b6, b7, v25, v26, v27, v28, v29, v30, v31, v32, v33, v34, v35, v36, v37, v6, v7⟩ u hl haf S K hK
              simp only [JS6] at S
              have c0 := cell_below S.base HG.out.1
              have c1 := cell_below S.base HG.out.2.1
              refine ⟨?_⟩
              simp only [putS6, List.setIfInBounds_toArray, List.set_cons_zero, List.set_cons_succ]
              go_simp
              have nx := hK.out ⟨b6, b7, (.agg #[.int .i64 t1, .int .i64 t2]), v26, v27, v28, v29, v30, v31, v32, v33, v34, v35, v36, v37, v6, v7⟩ u (S.s0 hl)
              clear hK
              simp only [putS6, List.setIfInBounds_toArray, List.set_cons_zero, List.set_cons_succ] at nx
              exact nx
            case s1 =>
              rintro l ⟨b6, b7, v25, v26, v27, v28, v29, v30, v31, v32, v33, v34, v35, v36, v37, v6, v7⟩ u hl haf S K hK
              simp only [JS6] at S
              refine ⟨?_⟩
              simp only [putS6, List.setIfInBounds_toArray, List.set_cons_zero, List.set_cons_succ]
              go_simp
              have nx := hK.out ⟨b6, b7, v25, (.pointer (some ⟨w.heap.size, 3, none⟩)), v27, v28, v29, v30, v31, v32, v33, v34, v35, v36, v37, v6, v7⟩ u (S.s1 hl)
              clear hK
              simp only [putS6, List.setIfInBounds_toArray, List.set_cons_zero, List.set_cons_succ] at nx
              exact nx
            case s2 =>
              rintro l ⟨b6, b7, v25, v26, v27, v28, v29, v30, v31, v32, v33, v34, v35, v36, v37, v6, v7⟩ u hl haf S K hK
              simp only [JS6] at S
              have c0 := cell_below S.base HG.out.2.2.1
              obtain rfl := S.f1 (haf 1 (by kernel_rfl))
              refine ⟨?_⟩
              simp only [putS6, List.setIfInBounds_toArray, List.set_cons_zero, List.set_cons_succ]
              go_simp
              have nx := hK.out ⟨b6, b7, v25, _, (.int .i64 r), v28, v29, v30, v31, v32, v33, v34, v35, v36, v37, v6, v7⟩ u (S.s2 hl)
              clear hK
              simp only [putS6, List.setIfInBounds_toArray, List.set_cons_zero, List.set_cons_succ] at nx
              exact nx
            case s3 =>
              rintro l ⟨b6, b7, v25, v26, v27, v28, v29, v30, v31, v32, v33, v34, v35, v36, v37, v6, v7⟩ u hl haf S K hK
              simp only [JS6] at S
              refine ⟨?_⟩
              simp only [putS6, List.setIfInBounds_toArray, List.set_cons_zero, List.set_cons_succ]
              go_simp
              have nx := hK.out ⟨b6, b7, v25, v26, v27, (.pointer (some ⟨w.heap.size, 4, none⟩)), v29, v30, v31, v32, v33, v34, v35, v36, v37, v6, v7⟩ u (S.s3 hl)
              clear hK
              simp only [putS6, List.setIfInBounds_toArray, List.set_cons_zero, List.set_cons_succ] at nx
              exact nx
            case s4 =>
              rintro l ⟨b6, b7, v25, v26, v27, v28, v29, v30, v31, v32, v33, v34, v35, v36, v37, v6, v7⟩ u hl haf S K hK
              simp only [JS6] at S
              have c0 := cell_below S.base HG.out.2.2.2
              obtain rfl := S.f3 (haf 3 (by kernel_rfl))
              refine ⟨?_⟩
              simp only [putS6, List.setIfInBounds_toArray, List.set_cons_zero, List.set_cons_succ]
              go_simp
              have nx := hK.out ⟨b6, b7, v25, v26, v27, _, (.int .i64 t), v30, v31, v32, v33, v34, v35, v36, v37, v6, v7⟩ u (S.s4 hl)
              clear hK
              simp only [putS6, List.setIfInBounds_toArray, List.set_cons_zero, List.set_cons_succ] at nx
              exact nx
            case s5 =>
              rintro l ⟨b6, b7, v25, v26, v27, v28, v29, v30, v31, v32, v33, v34, v35, v36, v37, v6, v7⟩ u hl haf S K hK
              simp only [JS6] at S
              obtain rfl := S.f0 (haf 0 (by kernel_rfl))
              obtain rfl := S.f2 (haf 2 (by kernel_rfl))
              obtain rfl := S.f4 (haf 4 (by kernel_rfl))
              refine ⟨?_⟩
              simp only [putS6, List.setIfInBounds_toArray, List.set_cons_zero, List.set_cons_succ]
              go_simp
              refine (MA.out _).mono ?_
              rintro e u2 ⟨rfl, hB⟩
              have nx := hK.out ⟨b6, b7, _, v26, _, v28, _, (.bool A), v31, v32, v33, v34, v35, v36, v37, v6, v7⟩ u2 (S.s5 hl hB)
              clear hK
              simp only [putS6, List.setIfInBounds_toArray, List.set_cons_zero, List.set_cons_succ] at nx
              exact nx
            case s6 =>
              rintro l ⟨b6, b7, v25, v26, v27, v28, v29, v30, v31, v32, v33, v34, v35, v36, v37, v6, v7⟩ u hl haf S K hK
              simp only [JS6] at S
              have c0 := cell_below S.base HG.out.1
              have c1 := cell_below S.base HG.out.2.1
              refine ⟨?_⟩
              simp only [putS6, List.setIfInBounds_toArray, List.set_cons_zero, List.set_cons_succ]
              go_simp
              have nx := hK.out ⟨b6, b7, v25, v26, v27, v28, v29, v30, (.agg #[.int .i64 t1, .int .i64 t2]), v32, v33, v34, v35, v36, v37, v6, v7⟩ u (S.s6 hl)
              clear hK
              simp only [putS6, List.setIfInBounds_toArray, List.set_cons_zero, List.set_cons_succ] at nx
              exact nx
            case s7 =>
              rintro l ⟨b6, b7, v25, v26, v27, v28, v29, v30, v31, v32, v33, v34, v35, v36, v37, v6, v7⟩ u hl haf S K hK
              simp only [JS6] at S
              refine ⟨?_⟩
              simp only [putS6, List.setIfInBounds_toArray, List.set_cons_zero, List.set_cons_succ]
              go_simp
              have nx := hK.out ⟨b6, b7, v25, v26, v27, v28, v29, v30, v31, (.pointer (some ⟨w.heap.size, 3, none⟩)), v33, v34, v35, v36, v37, v6, v7⟩ u (S.s7 hl)
              clear hK
              simp only [putS6, List.setIfInBounds_toArray, List.set_cons_zero, List.set_cons_succ] at nx
              exact nx
            case s8 =>
              rintro l ⟨b6, b7, v25, v26, v27, v28, v29, v30, v31, v32, v33, v34, v35, v36, v37, v6, v7⟩ u hl haf S K hK
              simp only [JS6] at S
              have c0 := cell_below S.base HG.out.2.2.1
              obtain rfl := S.f7 (haf 7 (by kernel_rfl))
              refine ⟨?_⟩
              simp only [putS6, List.setIfInBounds_toArray, List.set_cons_zero, List.set_cons_succ]
              go_simp
              have nx := hK.out ⟨b6, b7, v25, v26, v27, v28, v29, v30, v31, _, (.int .i64 r), v34, v35, v36, v37, v6, v7⟩ u (S.s8 hl)
              clear hK
              simp only [putS6, List.setIfInBounds_toArray, List.set_cons_zero, List.set_cons_succ] at nx
              exact nx
            case s9 =>
              rintro l ⟨b6, b7, v25, v26, v27, v28, v29, v30, v31, v32, v33, v34, v35, v36, v37, v6, v7⟩ u hl haf S K hK
              simp only [JS6] at S
              obtain rfl := S.f8 (haf 8 (by kernel_rfl))
              refine ⟨?_⟩
              simp only [putS6, List.setIfInBounds_toArray, List.set_cons_zero, List.set_cons_succ]
              go_simp
              refine (CR.out _).mono ?_
              rintro e u2 ⟨rfl, hB⟩
              have nx := hK.out ⟨b6, b7, v25, v26, v27, v28, v29, v30, v31, v32, _, (.int .i64 (contrary r)), v35, v36, v37, v6, v7⟩ u2 (S.s9 hl hB)
              clear hK
              simp only [putS6, List.setIfInBounds_toArray, List.set_cons_zero, List.set_cons_succ] at nx
              exact nx
            case s10 =>
              rintro l ⟨b6, b7, v25, v26, v27, v28, v29, v30, v31, v32, v33, v34, v35, v36, v37, v6, v7⟩ u hl haf S K hK
              simp only [JS6] at S
              refine ⟨?_⟩
              simp only [putS6, List.setIfInBounds_toArray, List.set_cons_zero, List.set_cons_succ]
              go_simp
              have nx := hK.out ⟨b6, b7, v25, v26, v27, v28, v29, v30, v31, v32, v33, v34, (.pointer (some ⟨w.heap.size, 4, none⟩)), v36, v37, v6, v7⟩ u (S.s10 hl)
              clear hK
              simp only [putS6, List.setIfInBounds_toArray, List.set_cons_zero, List.set_cons_succ] at nx
              exact nx
            case s11 =>
              rintro l ⟨b6, b7, v25, v26, v27, v28, v29, v30, v31, v32, v33, v34, v35, v36, v37, v6, v7⟩ u hl haf S K hK
              simp only [JS6] at S
              have c0 := cell_below S.base HG.out.2.2.2
              obtain rfl := S.f10 (haf 10 (by kernel_rfl))
              refine ⟨?_⟩
              simp only [putS6, List.setIfInBounds_toArray, List.set_cons_zero, List.set_cons_succ]
              go_simp
              have nx := hK.out ⟨b6, b7, v25, v26, v27, v28, v29, v30, v31, v32, v33, v34, _, (.int .i64 t), v37, v6, v7⟩ u (S.s11 hl)
              clear hK
              simp only [putS6, List.setIfInBounds_toArray, List.set_cons_zero, List.set_cons_succ] at nx
              exact nx
            case s12 =>
              rintro l ⟨b6, b7, v25, v26, v27, v28, v29, v30, v31, v32, v33, v34, v35, v36, v37, v6, v7⟩ u hl haf S K hK
              simp only [JS6] at S
              obtain rfl := S.f6 (haf 6 (by kernel_rfl))
              obtain rfl := S.f9 (haf 9 (by kernel_rfl))
              obtain rfl := S.f11 (haf 11 (by kernel_rfl))
              refine ⟨?_⟩
              simp only [putS6, List.setIfInBounds_toArray, List.set_cons_zero, List.set_cons_succ]
              go_simp
              refine (MB.out _).mono ?_
              rintro e u2 ⟨rfl, hB⟩
              have nx := hK.out ⟨b6, b7, v25, v26, v27, v28, v29, v30, _, v32, v33, _, v35, _, (.bool B0), v6, v7⟩ u2 (S.s12 hl hB)
              clear hK
              simp only [putS6, List.setIfInBounds_toArray, List.set_cons_zero, List.set_cons_succ] at nx
              exact nx
            case s13 =>
              rintro l ⟨b6, b7, v25, v26, v27, v28, v29, v30, v31, v32, v33, v34, v35, v36, v37, v6, v7⟩ u hl haf S K hK
              simp only [JS6] at S
              refine ⟨?_⟩
              simp only [putS6, List.setIfInBounds_toArray, List.set_cons_zero, List.set_cons_succ]
              go_simp
              have nx := hK.out ⟨u.heap.size, b7, v25, v26, v27, v28, v29, v30, v31, v32, v33, v34, v35, v36, v37, (.pointer (some ⟨u.heap.size, 0, none⟩)), v7⟩ _ (S.s13 hl _ rfl)
              clear hK
              simp only [putS6, List.setIfInBounds_toArray, List.set_cons_zero, List.set_cons_succ] at nx
              exact nx
            case s14 =>
              rintro l ⟨b6, b7, v25, v26, v27, v28, v29, v30, v31, v32, v33, v34, v35, v36, v37, v6, v7⟩ u hl haf S K hK
              simp only [JS6] at S
              refine ⟨?_⟩
              simp only [putS6, List.setIfInBounds_toArray, List.set_cons_zero, List.set_cons_succ]
              go_simp
              have nx := hK.out ⟨b6, u.heap.size, v25, v26, v27, v28, v29, v30, v31, v32, v33, v34, v35, v36, v37, v6, (.pointer (some ⟨u.heap.size, 0, none⟩))⟩ _ (S.s14 hl _ rfl)
              clear hK
              simp only [putS6, List.setIfInBounds_toArray, List.set_cons_zero, List.set_cons_succ] at nx
              exact nx
            case s15 =>
              rintro l ⟨b6, b7, v25, v26, v27, v28, v29, v30, v31, v32, v33, v34, v35, v36, v37, v6, v7⟩ u hl haf S K hK
              simp only [JS6] at S
              have hb := haf 13 (by kernel_rfl)
              obtain ⟨hp, hlo, z, ho, ⟨qz, rfl⟩, hz⟩ := S.f13 hb
              have hv := S.f5 (haf 5 (by kernel_rfl))
              have c0 := ho.cell
              have f0 := ho.frozen 0
              refine ⟨?_⟩
              simp only [hv, hp, putS6, List.setIfInBounds_toArray, List.set_cons_zero, List.set_cons_succ]
              go_simp
              have nx := hK.out ⟨b6, b7, v25, v26, v27, v28, v29, v30, v31, v32, v33, v34, v35, v36, v37, v6, v7⟩ _ (S.s15 hl hb)
              clear hK
              simp only [hv, hp, putS6, List.setIfInBounds_toArray, List.set_cons_zero, List.set_cons_succ] at nx
              exact nx
            case s16 =>
              rintro l ⟨b6, b7, v25, v26, v27, v28, v29, v30, v31, v32, v33, v34, v35, v36, v37, v6, v7⟩ u hl haf S K hK
              simp only [JS6] at S
              have hb := haf 14 (by kernel_rfl)
              obtain ⟨hp, hlo, z, ho, ⟨qz, rfl⟩, hz⟩ := S.f14 hb
              have hv := S.f12 (haf 12 (by kernel_rfl))
              have c0 := ho.cell
              have f0 := ho.frozen 0
              refine ⟨?_⟩
              simp only [hv, hp, putS6, List.setIfInBounds_toArray, List.set_cons_zero, List.set_cons_succ]
              go_simp
              have nx := hK.out ⟨b6, b7, v25, v26, v27, v28, v29, v30, v31, v32, v33, v34, v35, v36, v37, v6, v7⟩ _ (S.s16 hl hb)
              clear hK
              simp only [hv, hp, putS6, List.setIfInBounds_toArray, List.set_cons_zero, List.set_cons_succ] at nx
              exact nx
          case hd =>
            rintro ⟨b6, b7, v25, v26, v27, v28, v29, v30, v31, v32, v33, v34, v35, v36, v37, v6, v7⟩ u l hall S
            simp only [JS6] at S
            obtain ⟨hp6, hl6, z6, ho6, -, hz6⟩ := S.f13 (hall 13 (by decide))
            obtain rfl := hz6 (hall 15 (by decide))
            obtain ⟨hp7, hl7, z7, ho7, -, hz7⟩ := S.f14 (hall 14 (by decide))
            obtain rfl := hz7 (hall 16 (by decide))
            refine ⟨?_⟩
            simp only [hp6, hp7, putS6, List.setIfInBounds_toArray, List.set_cons_zero, List.set_cons_succ]
            have HX6 := Lib.hid (And.intro ho6.cell (And.intro ho7.cell S.base))
            clear S
            go_wp2_with fail
            go_meet
            exact ⟨_, _, rfl, rfl, Nat.le_trans HBW.out.size hl6, Nat.le_trans HBW.out.size hl7, HX6.out.1, HX6.out.2.1, HX6.out.2.2⟩
        case rest =>
          obtain ⟨b6, b7, rfl, rfl, hb6, hb7, c6, c7, hB⟩ := hcut
          obtain ⟨wy, rfl⟩ : ∃ z, z = wc := ⟨_, rfl⟩
          have HBY := Lib.hid (below_two HBW.out hB)
          have HB67 := Lib.hid (And.intro hb6 (And.intro hb7 (And.intro c6 c7)))
          have hl6 := Dm.cell_lt c6
          clear q0 q1 q2 q3 q4 q5 hB
          obtain ⟨q0, q1, q2, q3, q4, q5⟩ := HC.out _ HBY.out
          obtain ⟨x0, u0, ex0, ⟨a0, a1⟩, hx0⟩ := dom_at2 (k := 0) (h.below rDom_stays (below_two hb0 HBY.out)) (by omega)
          rw [Nat.zero_mul, Nat.add_zero] at a0 a1
          obtain ⟨pd, ld, cd, rfl⟩ := rDom_shape hx0
          obtain ⟨r1, r2, _⟩ := rDom_parts hx0
          have eD0 : D.getD 0 ([], 0) = x0 := by rw [List.getD_eq_getElem?_getD, ex0]; rfl
          have hm0 : x0.1.length ≤ 1000 := hD x0 (List.mem_of_getElem? ex0)
          have BF := Lib.hid (fun (z : World) (hz : Below wy.heap.size wy z) (bb : Nat) (g1 : W0.heap.size ≤ bb) (g2 : bb < z.heap.size) =>
            byfirst_any (X := fun i => X i ∨ i = bb) (k := 3) (r := r) (t := t) (v1 := v1) (v3 := v3) (c2 := c2) (c := l2) (fun i hi => hi.elim (fun q => Nat.lt_of_lt_of_le (hX i q) (below_two hb0 (below_two HBY.out hz)).size) (fun e => e ▸ g2)) (B.Tab.below hT h0 (below_two hb0 (below_two HBY.out hz))) (Nat.lt_of_lt_of_le h0 (below_two hb0 (below_two HBY.out hz)).size)
              (fun y hy => hk y ((Fr.of_below (below_two hb0 (below_two HBY.out hz))).less (fun i hi => hi.elim .inl (fun e => .inr (by have := hb0.size; omega))) hy)) (doms_drop (h.below rDom_stays (below_two hb0 (below_two HBY.out hz)))) (by omega) (Nat.le_refl _) hD1 hkb hr (Dm.reads_below (Dm.reads_of_readsN r1) hz) r2 hm0)
          have BF1 := Lib.hid (BF.out wy.drew (Below.refl _ _).drew b6 hb6 hl6)
          have BF2 := Lib.hid (BF.out (wy.alloc (.cells #[.nilFunc] 50)).drew (new_below _ _).drew wy.heap.size HBY.out.size (by show wy.heap.size < (wy.alloc _).heap.size; rw [World.size_alloc]; omega))
          have OB8 := Lib.hid (show Own1 (wy.alloc (.cells #[.nilFunc] 50)).drew wy.heap.size 50 .nilFunc from Own1.new _ _ _)
          have HX := Lib.hid (show ∀ i, X i → i < W0.heap.size from fun i hi => Nat.lt_of_lt_of_le (hX i hi) hb0.size)
          have hk7 : keepK 3 ks D r t = iffK A B0 (othK (decide ((1 : Int) ∈ Dm.leftM x0.1 x0.2)) (decide ((0 : Int) ∈ Dm.leftM x0.1 x0.2)) ks (endP ks (D.drop 1)) l2 r t) := by
            rw [HK.out, HAB.out.1, HAB.out.2, eD0, show D.length - 1 = l2 by have := HLN.out; omega, ← HT12.out.1, ← HT12.out.2]
            rfl
          obtain ⟨O, hO⟩ : ∃ O, O = othK (decide ((1 : Int) ∈ Dm.leftM x0.1 x0.2)) (decide ((0 : Int) ∈ Dm.leftM x0.1 x0.2)) ks (endP ks (D.drop 1)) l2 r t := ⟨_, rfl⟩
          rw [← hO] at BF1 BF2 hk7
          have HK7 := Lib.hid hk7
          obtain ⟨y0, hy0⟩ : ∃ z, z = x0.2 := ⟨_, rfl⟩
          rw [← hy0] at a1 BF1 BF2
          have hlb : b < wy.heap.size := Dm.cell_lt a0
          have hlc : w.heap.size < wy.heap.size := Dm.cell_lt q2
          clear BF hT h0 hk h hD hD1 hkb hr hX hb0 hx0 r1 r2 eD0 hm0 hO hy0 ex0 hb6 hb7 c6 c7 hk7
          go_upto_region 7 with fail
          go_cut [8] (fun p wx => ∃ b8 v, p = .pointer (some ⟨b8, 0, none⟩) ∧ W0.heap.size ≤ b8 ∧ wx.cell? ⟨b8, 0, none⟩ = some v ∧ Keeps X wx v l2 O ∧ wx.cell? ⟨b6, 0, none⟩ = some (.bool A) ∧ wx.cell? ⟨b7, 0, none⟩ = some (.bool B0) ∧ Below W0.heap.size W0 wx)
          case first =>
            go_region_law (first
              | (go_simp; go_at_call 51; (with_reducible refine BF1.out.mono ?_); rintro e w9 ⟨v9, rfl, ⟨gg, env, rfl, hE, hf⟩, hB9⟩; have hsf := run_store_func gg env; have KP : Keeps (fun i => X i ∨ i = b6) w9 (.func (.func gg) #[] env) l2 O := ⟨gg, env, rfl, hE, hf⟩; have hB9 := (show Below wy.heap.size wy w9 from (below_two (Below.refl _ _).drew hB9)); clear hf)
              | (go_simp; go_at_call 51; (with_reducible refine BF2.out.mono ?_); rintro e w9 ⟨v9, rfl, ⟨gg, env, rfl, hE, hf⟩, hB9⟩; have hsf := run_store_func gg env; have KP : Keeps (fun i => X i ∨ i = wy.heap.size) w9 (.func (.func gg) #[] env) l2 O := ⟨gg, env, rfl, hE, hf⟩; clear hf; have ob8 := Own1.below OB8.out hB9; have c0 := ob8.cell; have f0 := ob8.frozen 0; have hB9 := (show Below wy.heap.size wy w9 from (below_two (new_below _ _).drew hB9))))
            all_goals go_wp2_with fail
            all_goals go_meet
            all_goals first
              | with_reducible exact ⟨_, _, rfl, Nat.le_trans HBY.out.size hB9.size, (Own1.new _ _ _).cell, KP.less (.of_below (new_below _ _)) (fun k hk => .inl (.inl hk)), cell_below (below_two hB9 (new_below _ _)) HB67.out.2.2.1, cell_below (below_two hB9 (new_below _ _)) HB67.out.2.2.2, below_two HBY.out (below_two hB9 (new_below _ _))⟩
              | with_reducible exact ⟨_, _, rfl, HBY.out.size, (ob8.set _).cell, KP.less ((Fr.refl _ _).set (.inr rfl) 0 _) (fun k hk => .inl (.inl hk)), cell_below (hB9.setCell (Nat.le_refl _) _) HB67.out.2.2.1, cell_below (hB9.setCell (Nat.le_refl _) _) HB67.out.2.2.2, below_two HBY.out (hB9.setCell (Nat.le_refl _) _)⟩
          case rest =>
            obtain ⟨b8, v8, rfl, hb8, c8, hK8, c6, c7, hB⟩ := hcut
            have HB8 := Lib.hid hB
            have HKP := Lib.hid (show Keeps X wc (.func (.func 52) #[] #[.pointer (some ⟨b6, 0, none⟩), .pointer (some ⟨b7, 0, none⟩), .pointer (some ⟨b8, 0, none⟩)]) (l2 + 1) (iffK A B0 O) from
              ⟨_, _, rfl, enters_of Tryd.func52 (by kernel_rfl) rfl, fun u a x hu ha hx => keep2_any (hu.cell (fun q => absurd (HX.out _ q) (by show ¬ b6 < _; have := HB67.out.1; omega)) c6) (hu.cell (fun q => absurd (HX.out _ q) (by show ¬ b7 < _; have := HB67.out.2.1; omega)) c7) (hu.cell (fun q => absurd (HX.out _ q) (by show ¬ b8 < _; omega)) c8) (hK8.frame hu) a x ha (by omega) hx⟩)
            clear hB hK8 c6 c7 c8 hb8
            go_wp2_with fail
            go_ret
            exact ⟨_, rfl, by rw [HK7.out]; exact HKP.out, below_two HB0.out HB8.out⟩
  · have HK := Lib.hid (keep_none (k := k) (ks := ks) (rel := r) (ag := t) HAN.out)
    clear hT hk h hD hkb hr hX hb0
    go_wp2_with fail
    go_ret
    exact ⟨_, rfl, by rw [HK.out]; exact keeps_none _ _ _, below_two HB0.out HB1.out⟩
end Go.Proofs.YtakooocmnapjmaaDoor.St
