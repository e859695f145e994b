/-
  What bySum of package linear answers.
  What byFirst of package linear answers: what Iff keeps of the variables of its sum.
-/
import Derived.Test.YtakooocmnapjmaaDoorZYBD
import Derived.Test.YtakooocmnapjmaaDoorZYAL
import Derived.Deep.RegionHeld3
namespace Go.Proofs.YtakooocmnapjmaaDoor.St
open Go.RowKit
set_option maxRecDepth 100000

theorem sum_keeps {X : Nat → Prop} {u : World} {bp bc bt br g len b2 o2 l2 c2 : Nat} {k r t rel : Int} {v1 v3 : Value} {p2 : Option Addr} {P : Nat → Int × Int} {ks : List Int} (h : SumAt u bp bc bt br g len k r t v1 v3 p2 l2 c2 P rel) (x0 : ¬ X bp) (x1 : ¬ X bc) (x2 : ¬ X bt) (x3 : ¬ X br) (x4 : ¬ X g) (hk : ∀ z, Fr X u z → Nums z p2 b2 o2 l2 ks) (hlk : len ≤ l2) (hl : len ≤ 1000) (hr : 0 ≤ rel ∧ rel ≤ 5)
    (hkb : ∀ k, k < ks.length → -1048576 ≤ ks.getD k 0 ∧ ks.getD k 0 ≤ 1048576) (hP : ∀ k, k < len → (-1099511627776 ≤ (P k).1 ∧ (P k).1 ≤ 1099511627776) ∧ (-1099511627776 ≤ (P k).2 ∧ (P k).2 ≤ 1099511627776)) :
    Keeps X u (.func (.func 66) #[] #[.pointer (some ⟨bp, 0, none⟩), .pointer (some ⟨bc, 0, none⟩), .pointer (some ⟨bt, 0, none⟩), .pointer (some ⟨br, 0, none⟩)]) len (sumK ks P len rel t) :=
  ⟨_, _, rfl, enters_of Tryd.func66 (by kernel_rfl) rfl, fun z a x hz ha hx => sum1_any (h.frame hz x0 x1 x2 x3 x4) (hk z hz) hlk hl hr hkb hP a x ha hx⟩
theorem endP_small {ks : List Int} {D : List (List Int × Nat)} {k : Nat} (h : -1048576 ≤ ks.getD k 0 ∧ ks.getD k 0 ≤ 1048576) : (-1099511627776 ≤ (endP ks D k).1 ∧ (endP ks D k).1 ≤ 1099511627776) ∧ (-1099511627776 ≤ (endP ks D k).2 ∧ (endP ks D k).2 ≤ 1099511627776) := by
  have m0 := mul_le h (left_small (d := D.getD k ([], 0)) 0)
  have m1 := mul_le h (left_small (d := D.getD k ([], 0)) ((leftOf (D.getD k ([], 0))).length - 1))
  unfold endP
  simp only
  omega

set_option maxHeartbeats 4000000 in
theorem bysum_any {X : Nat → Prop} {w : World} {p2 p : Option Addr} {b2 o2 l2 c2 b off c len : Nat} {k r t rel : Int} {v1 v3 : Value} {ks : List Int} {D : List (List Int × Nat)} (hX : ∀ k, X k → k < w.heap.size) (hT : B.Tab w) (h0 : 0 < w.heap.size) (hk : ∀ z, Fr X w z → Nums z p2 b2 o2 l2 ks) (h : SliceOf rDom 2 w p b off len D) (hl : len ≤ 1000) (hlk : len ≤ l2) (hD : ∀ d ∈ D, d.1.length ≤ 1000) (hkb : ∀ k, k < ks.length → -1048576 ≤ ks.getD k 0 ∧ ks.getD k 0 ≤ 1048576) (hr : 0 ≤ rel ∧ rel ≤ 5) :
    Calls Tryd.prog 47 #[.agg #[.int .i64 k, v1, .slice p2 l2 c2, .int .i64 r, .int .i64 t, v3], .int .i64 rel, .slice p len c] w fun e w' => ∃ v, e = .returned v ∧ Keeps X w' v len (sumK ks (endP ks D) len rel t) ∧ Below w.heap.size w w' := by
  have hP : ∀ k, k < len → (-1099511627776 ≤ (endP ks D k).1 ∧ (endP ks D k).1 ≤ 1099511627776) ∧ (-1099511627776 ≤ (endP ks D k).2 ∧ (endP ks D k).2 ≤ 1099511627776) := fun j hj => endP_small (hkb j (by rw [← (hk w (.refl _ _)).long]; omega))
  obtain ⟨W0, hW0⟩ : ∃ W0, W0 = (w.alloc (.cells #[.int .i64 k, v1, .slice p2 l2 c2, .int .i64 r, .int .i64 t, v3] 24)).alloc (.cells #[.int .i64 rel] 3) := ⟨_, rfl⟩
  have hb0 : Below w.heap.size w W0 := by rw [hW0]; exact below_two (new_below _ _) (new_below _ _)
  have hc0 : ∀ j u, [Value.int .i64 k, v1, .slice p2 l2 c2, .int .i64 r, .int .i64 t, v3][j]? = some u → W0.cell? ⟨w.heap.size, j, none⟩ = some u := fun j u e => by rw [hW0]; exact cell_below (new_below _ _) (six_at _ _ _ _ _ _ _ _ j u e)
  have hrl : W0.cell? ⟨w.heap.size + 1, 0, none⟩ = some (.int .i64 rel) := by rw [hW0]; have := one_cell (w.alloc (.cells #[.int .i64 k, v1, .slice p2 l2 c2, .int .i64 r, .int .i64 t, v3] 24)) (.int .i64 rel) 3 0 _ rfl; rwa [World.size_alloc] at this
  have hs0 : W0.heap.size = w.heap.size + 2 := by rw [hW0, World.size_alloc, World.size_alloc]
  have T0 : B.Tab W0 := B.Tab.below hT h0 hb0
  have RC := Lib.hid (reaches_any (ck := c2) (c := c) T0 (by omega) (hk _ (.of_below hb0)) (h.below rDom_stays hb0) hl hlk hD hkb)
  have TC := Lib.hid (fun (z : World) (hz : Row2 len 78 z W0.heap.size (fun j => cellP (endP ks D j))) => total_any hz hl hP)
  have SK := Lib.hid (fun (z : World) (bp bt : Nat) (hz : Below W0.heap.size W0 z) (x0 : W0.heap.size ≤ bp) (x2 : W0.heap.size ≤ bt) (hs : SumAt z bp w.heap.size bt (w.heap.size + 1) W0.heap.size len k r t v1 v3 p2 l2 c2 (endP ks D) rel) => sum_keeps (X := X) hs (fun h => by have := hX _ h; omega) (fun h => by have := hX _ h; omega) (fun h => by have := hX _ h; omega) (fun h => by have := hX _ h; omega) (fun h => by have := hX _ h; omega) (fun y hy => hk y ((Fr.of_below (below_two hb0 hz)).trans hy)) hlk hl hr hkb hP)
  have q2 := hc0 2 _ rfl
  have HC0 := Lib.hid hc0
  have HRL := Lib.hid hrl
  have HB0 := Lib.hid hb0
  have HW := Lib.hid hW0
  clear hX hT hk h hD hkb hr hP hb0 hc0 T0 hW0 hs0 hrl
  go_enter Tryd.func47, Tryd.ntmps47
  go_upto_region 1 with fail
  rw [← HW.out]
  go_wp2_with fail
  refine RC.out.mono ?_
  rintro e w1 ⟨rfl, hrow, hB1⟩
  obtain ⟨W2, hW2⟩ : ∃ W2, W2 = w1.alloc (.cells #[.slice (some ⟨W0.heap.size, 0, none⟩) len len] 80) := ⟨_, rfl⟩
  have hb2 : Below w1.heap.size w1 W2 := by rw [hW2]; exact new_below _ _
  have p0 : W2.cell? ⟨w1.heap.size, 0, none⟩ = some (.slice (some ⟨W0.heap.size, 0, none⟩) len len) := by rw [hW2]; exact one_cell w1 _ _ 0 _ rfl
  have TX := Lib.hid (TC.out W2 (hrow.below hb2))
  have HROW := Lib.hid (hrow.below hb2)
  have HB2 := Lib.hid (below_two hB1 hb2)
  have HBZ := Lib.hid hB1.size
  have HP0 := Lib.hid p0
  have HW2 := Lib.hid hW2
  obtain ⟨bp, hbp⟩ : ∃ z, z = w1.heap.size := ⟨_, rfl⟩
  rw [← hbp] at p0 HP0
  have HBP := Lib.hid hbp
  rw [← hbp] at HBZ
  clear hrow hB1 hb2 hW2 p0
  go_upto_region 2 with fail
  rw [← HBP.out, ← HW2.out]
  clear hbp
  have p0 := HP0.out
  go_wp2_with fail
  refine TX.out.mono ?_
  rintro e w3 ⟨rfl, hB3⟩
  have HB3 := Lib.hid (below_two HB2.out hB3)
  have HR3 := Lib.hid (HROW.out.below hB3)
  have HP3 := Lib.hid (cell_below hB3 HP0.out)
  clear hB3 p0
  obtain ⟨t1, ht1⟩ : ∃ z, z = (totTo (endP ks D) len).1 := ⟨_, rfl⟩
  obtain ⟨t2, ht2⟩ : ∃ z, z = (totTo (endP ks D) len).2 := ⟨_, rfl⟩
  rw [← ht1, ← ht2]
  have h4 := two_cells w3 (.int .i64 t1) (.int .i64 t2) 78
  have HB4 := Lib.hid (below_two HB3.out (new_below w3 (.cells #[.int .i64 t1, .int .i64 t2] 78)))
  have K4 := Lib.hid (SK.out _ bp w3.heap.size HB4.out HBZ.out HB3.out.size ⟨cell_below (new_below _ _) HP3.out, fun j u e => cell_below HB4.out (HC0.out j u e), by rw [← ht1, ← ht2]; exact ⟨h4 0 _ rfl, h4 1 _ rfl⟩, cell_below HB4.out HRL.out, HR3.out.below (new_below _ _)⟩)
  clear h4 ht1 ht2
  go_wp2_with fail
  go_ret
  exact ⟨_, rfl, K4.out, below_two HB0.out HB4.out⟩
end Go.Proofs.YtakooocmnapjmaaDoor.St
namespace Go.Proofs.YtakooocmnapjmaaDoor.St
open Go.RowKit
set_option maxRecDepth 100000

/-- what is kept of the others -/
def othK (Y N : Bool) (ks : List Int) (P : Nat → Int × Int) (n : Nat) (rel ag : Int) : Nat → Int → Bool :=
  if Y = true then (if N = true then fun _ _ => true else sumK ks P n rel ag) else if N = true then sumK ks P n (contrary rel) ag else fun _ _ => false
theorem contrary_in {r : Int} (h : 0 ≤ r ∧ r ≤ 5) : 0 ≤ contrary r ∧ contrary r ≤ 5 := by
  rcases (by omega : r = 0 ∨ r = 1 ∨ r = 2 ∨ r = 3 ∨ r = 4 ∨ r = 5) with rfl | rfl | rfl | rfl | rfl | rfl <;> decide
theorem heldF {W0 u u' : World} {p0 p1 : Addr} {a0 a1 : Value} (h : u.cell? p0 = some a0 ∧ u.cell? p1 = some a1 ∧ Below W0.heap.size W0 u) (hb : Below u.heap.size u u') :
    u'.cell? p0 = some a0 ∧ u'.cell? p1 = some a1 ∧ Below W0.heap.size W0 u' :=
  ⟨cell_below hb h.1, cell_below hb h.2.1, below_two h.2.2 hb⟩
theorem heldFb {W0 u : World} {p0 p1 : Addr} {a0 a1 : Value} (h : u.cell? p0 = some a0 ∧ u.cell? p1 = some a1 ∧ Below W0.heap.size W0 u) : Below W0.heap.size W0 u := h.2.2

set_option maxHeartbeats 4000000 in
theorem byfirst_any {X : Nat → Prop} {w : World} {p2 p pd : Option Addr} {b2 o2 l2 c2 b off c len ld cd x : Nat} {k r t : Int} {v1 v3 : Value} {ks xs : List Int} {D : List (List Int × Nat)} (hX : ∀ k, X k → k < w.heap.size) (hT : B.Tab w) (h0 : 0 < w.heap.size) (hk : ∀ z, Fr X w z → Nums z p2 b2 o2 l2 ks) (h : SliceOf rDom 2 w p b off len D) (hl : len ≤ 1000) (hlk : len ≤ l2) (hD : ∀ d ∈ D, d.1.length ≤ 1000) (hkb : ∀ k, k < ks.length → -1048576 ≤ ks.getD k 0 ∧ ks.getD k 0 ≤ 1048576) (hr : 0 ≤ r ∧ r ≤ 5)
    (hd : Dm.Reads w (.slice pd ld cd) xs) (hx : x < 18446744073709551616) (hm : xs.length ≤ 1000) :
    Calls Tryd.prog 51 #[.agg #[.int .i64 k, v1, .slice p2 l2 c2, .int .i64 r, .int .i64 t, v3], .agg #[.slice pd ld cd, .int .u64 x], .slice p len c] w fun e w' => ∃ v, e = .returned v ∧ Keeps X w' v len (othK (decide ((1 : Int) ∈ Dm.leftM xs x)) (decide ((0 : Int) ∈ Dm.leftM xs x)) ks (endP ks D) len r t) ∧ Below w.heap.size w w' := by
  obtain ⟨W0, hW0⟩ : ∃ W0, W0 = (w.alloc (.cells #[.int .i64 k, v1, .slice p2 l2 c2, .int .i64 r, .int .i64 t, v3] 24)).alloc (.cells #[.slice pd ld cd, .int .u64 x] 47) := ⟨_, rfl⟩
  have hb0 : Below w.heap.size w W0 := by rw [hW0]; exact below_two (new_below _ _) (new_below _ _)
  have hc0 : ∀ j u, [Value.int .i64 k, v1, .slice p2 l2 c2, .int .i64 r, .int .i64 t, v3][j]? = some u → W0.cell? ⟨w.heap.size, j, none⟩ = some u := fun j u e => by rw [hW0]; exact cell_below (new_below _ _) (six_at _ _ _ _ _ _ _ _ j u e)
  have hd0 : W0.cell? ⟨w.heap.size + 1, 0, none⟩ = some (.slice pd ld cd) ∧ W0.cell? ⟨w.heap.size + 1, 1, none⟩ = some (.int .u64 x) := by
    have := two_cells (w.alloc (.cells #[.int .i64 k, v1, .slice p2 l2 c2, .int .i64 r, .int .i64 t, v3] 24)) (.slice pd ld cd) (.int .u64 x) 47
    rw [World.size_alloc] at this
    rw [hW0]
    exact ⟨this 0 _ rfl, this 1 _ rfl⟩
  have HAS := Lib.hid (fun (z : World) (hz : Below W0.heap.size W0 z) y => Dm.dhas_any (Dm.reads_below hd (below_two hb0 hz)) (Nat.le_trans hm (by decide)) x hx y)
  have BY := Lib.hid (fun (z : World) (hz : Below W0.heap.size W0 z) (rel : Int) (hrel : 0 ≤ rel ∧ rel ≤ 5) => bysum_any (X := X) (k := k) (r := r) (t := t) (v1 := v1) (v3 := v3) (c2 := c2) (c := c) (rel := rel) (fun i hi => Nat.lt_of_lt_of_le (hX i hi) (below_two hb0 hz).size) (B.Tab.below hT h0 (below_two hb0 hz)) (Nat.lt_of_lt_of_le h0 (below_two hb0 hz).size) (fun y hy => hk y ((Fr.of_below (below_two hb0 hz)).trans hy)) (h.below rDom_stays (below_two hb0 hz)) hl hlk hD hkb hrel)
  have HC := Lib.hid (fun (z : World) (hz : Below W0.heap.size W0 z) => And.intro (cell_below hz (hc0 0 _ rfl)) (And.intro (cell_below hz (hc0 1 _ rfl)) (And.intro (cell_below hz (hc0 2 _ rfl)) (And.intro (cell_below hz (hc0 3 _ rfl)) (And.intro (cell_below hz (hc0 4 _ rfl)) (cell_below hz (hc0 5 _ rfl)))))))
  have H0 := Lib.hid (And.intro hd0.1 (And.intro hd0.2 (Below.refl W0.heap.size W0)))
  have HB0 := Lib.hid hb0
  have HR := Lib.hid hr
  have HW := Lib.hid hW0
  obtain ⟨Y, hY⟩ : ∃ z, z = decide ((1 : Int) ∈ Dm.leftM xs x) := ⟨_, rfl⟩
  obtain ⟨N, hN⟩ : ∃ z, z = decide ((0 : Int) ∈ Dm.leftM xs x) := ⟨_, rfl⟩
  have HAS1 := Lib.hid (fun z hz => HAS.out z hz 1)
  have HAS0 := Lib.hid (fun z hz => HAS.out z hz 0)
  rw [← hY] at HAS1 ⊢
  rw [← hN] at HAS0 ⊢
  clear HAS
  obtain ⟨d0, d1⟩ := hd0
  clear hX hT hk h hD hkb hd hb0 hc0 hW0 hr hY hN h0 hl hlk hm
  go_enter Tryd.func51, Tryd.ntmps51
  go_upto_region 1 with fail
  rw [← HW.out]
  go_cut [7, 8] (fun y n wx => y = .bool Y ∧ n = .bool N ∧ Below W0.heap.size W0 wx)
  case first =>
    go_region_held3 (fun u => u.cell? ⟨w.heap.size + 1, 0, none⟩ = some (.slice pd ld cd) ∧ u.cell? ⟨w.heap.size + 1, 1, none⟩ = some (.int .u64 x) ∧ Below W0.heap.size W0 u)
      (first | exact heldF (by assumption) (by assumption) | exact heldF H0.out (below_drewN (n := 1) (Below.refl _ _)) | exact heldF H0.out (below_drewN (below_drewN (n := 1) (Below.refl _ _))))
      (first
        | (go_at_call_of 70 (Value.int .i64 1); refine (HAS1.out _ (heldFb (by assumption))).mono ?_; rintro e w' ⟨rfl, hB⟩)
        | (go_at_call_of 70 (Value.int .i64 0); refine (HAS0.out _ (heldFb (by assumption))).mono ?_; rintro e w' ⟨rfl, hB⟩))
    all_goals have HBX := Lib.hid (heldFb (by assumption : w'.cell? ⟨w.heap.size + 1, 0, none⟩ = some (.slice pd ld cd) ∧ w'.cell? ⟨w.heap.size + 1, 1, none⟩ = some (.int .u64 x) ∧ Below W0.heap.size W0 w'))
    all_goals go_wp2_with fail
    all_goals go_meet
    all_goals exact ⟨rfl, rfl, HBX.out⟩
  case rest =>
    obtain ⟨rfl, rfl, hB⟩ := hcut
    have HB := Lib.hid hB
    obtain ⟨wz, rfl⟩ : ∃ z, z = wc := ⟨_, rfl⟩
    obtain ⟨q0, q1, q2, q3, q4, q5⟩ := HC.out _ hB
    clear hB d0 d1
    cases Y <;> cases N
    · go_wp2_with fail
      go_ret
      exact ⟨_, rfl, keeps_none _ _ _, below_two HB0.out HB.out⟩
    · go_upto_region 7 with fail
      have HBQ := Lib.hid (show ∀ q, Below W0.heap.size W0 (wz.drewN q) from fun q => below_two HB.out (below_drewN (Below.refl _ _)))
      go_region_law (first
        | (go_simp; go_at_call 19; refine (pcontrary_any _ _).mono ?_; rintro e w9 ⟨rfl, hB9⟩; have HBR := Lib.hid (below_two (HBQ.out 1) hB9); clear hB9; obtain ⟨q0, q1, q2, q3, q4, q5⟩ := HC.out _ HBR.out)
        | (go_simp; go_at_call 47; refine (BY.out _ HBR.out _ (contrary_in HR.out)).mono ?_; rintro e w10 ⟨x10, rfl, hx10, hB10⟩; have X10 := Lib.hid hx10; have HB10 := Lib.hid (below_two HBR.out hB10); clear hx10 hB10))
      all_goals go_wp2_with fail
      all_goals go_ret
      all_goals exact ⟨_, rfl, X10.out, below_two HB0.out HB10.out⟩
    · go_wp2_with fail
      refine (BY.out _ HB.out _ HR.out).mono ?_
      rintro e w10 ⟨x10, rfl, hx10, hB10⟩
      have X10 := Lib.hid hx10
      have HB10 := Lib.hid (below_two HB.out hB10)
      clear hx10 hB10
      go_wp2_with fail
      go_ret
      exact ⟨_, rfl, X10.out, below_two HB0.out HB10.out⟩
    · go_wp2_with fail
      go_ret
      exact ⟨_, rfl, keeps_all _ _ _, below_two HB0.out HB.out⟩
end Go.Proofs.YtakooocmnapjmaaDoor.St
