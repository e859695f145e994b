/-
  What follows from a constraint that may be, and domains that may: variables, coefs and rows are small; what a linear step leaves, as a list. Nothing of the program.
  What reaches and total of package linear answer: of each variable the least and the greatest that its Coef times a value makes; their sums.
  What total of package linear answers: the least and the greatest sum of all.
-/
import Derived.Test.YtakooocmnapjmaaDoorZYAZ
import Derived.Test.YtakooocmnapjmaaDoorZYBB
import Derived.Test.YtakooocmnapjmaaDoorZYBA
namespace Go.Proofs.YtakooocmnapjmaaDoor.St
open Go.RowKit
set_option maxRecDepth 100000

theorem leftM_small {xs : List Int} {x : Nat} : ∀ y ∈ Dm.leftM xs x, -1048576 ≤ y ∧ y ≤ 1048576 := by
  intro y hy
  unfold Dm.leftM at hy
  split at hy
  · rename_i hm
    unfold Dm.left at hy
    obtain ⟨k, _, rfl⟩ := List.mem_map.1 hy
    by_cases hk : k < xs.length
    · refine Dm.rise_low (Dm.may_iff.1 hm).2.2 ?_
      rw [List.getD_eq_getElem?_getD, List.getElem?_eq_getElem hk]
      exact List.getElem_mem hk
    · rw [List.getD_eq_getElem?_getD, List.getElem?_eq_none (by omega)]
      simp
  · simp at hy
theorem lefts_small (L : List (List Int × Nat)) : ∀ l ∈ leftsOf L, l.length ≤ 1000 ∧ ∀ x ∈ l, -1048576 ≤ x ∧ x ≤ 1048576 := by
  intro l hl
  obtain ⟨d, _, rfl⟩ := List.mem_map.1 hl
  exact ⟨Nat.le_trans (Dm.leftM_le _ _) (by decide), leftM_small⟩
theorem lefts_length (L : List (List Int × Nat)) : (leftsOf L).length = L.length := by simp [leftsOf]
theorem rightS_parts {c : PCon} {L : List (List Int × Nat)} {K : List Int} (h : rightS c L K = true) : c.kind ∈ K ∧ mayTo L L.length = true ∧ rightC c L.length = true := by
  unfold rightS at h
  simp only [Bool.and_eq_true] at h
  exact ⟨by have := h.1.1; rw [inK_all] at this; exact of_decide_eq_true this, h.1.2, h.2⟩
open Classical in
theorem right_vars {c : PCon} {n : Int} (h : rightC c n = true) : VarsTo c.vars n c.vars.length := by
  unfold rightC at h
  rw [Bool.and_eq_true] at h
  exact of_decide_eq_true h.1
theorem right_lin {c : PCon} {n : Int} (h : rightC c n = true) : (c.kind = 1 → linR 0 c = true) ∧ (c.kind = 3 → linR 1 c = true) := by
  rw [right_on (right_vars h)] at h
  constructor
  · intro e
    rw [if_pos e, Bool.and_eq_true] at h
    exact h.2
  · intro e
    rw [if_neg (by omega), if_pos e, Bool.and_eq_true] at h
    exact h.2
theorem vars_mem {c : PCon} {n : Int} (h : VarsTo c.vars n c.vars.length) : ∀ v ∈ c.vars, 0 ≤ v ∧ v < n := by
  intro v hv
  obtain ⟨i, hi, rfl⟩ := List.getElem_of_mem hv
  have := (h i hi).1
  simpa [List.getD, List.getElem?_eq_getElem hi] using this
theorem full_of {M : List (List Int)} {vars : List Int} (h : wipeTo M vars vars.length = false) {v : Int} (hv : v ∈ vars) : 0 < (M.getD v.toNat []).length := by
  unfold wipeTo at h
  rw [List.take_length, List.any_eq_false] at h
  have := h v hv
  simp only [decide_eq_true_eq] at this
  omega
theorem coefs_in {ks : List Int} (h : allN ks 1048576 = true) : ∀ k, k < ks.length → -1048576 ≤ ks.getD k 0 ∧ ks.getD k 0 ≤ 1048576 := by
  intro k hk
  have := List.all_eq_true.1 h (ks.getD k 0) (by rw [List.getD_eq_getElem?_getD, List.getElem?_eq_getElem hk]; exact List.getElem_mem hk)
  simpa [Bool.and_eq_true] using this
theorem ok_of {c : PCon} {L : List (List Int × Nat)} (hv : VarsTo c.vars L.length c.vars.length) (hw : wipeTo (leftsOf L) c.vars c.vars.length = false) {b : Nat} (hl : linR b c = true) (_hb : b ≤ c.vars.length) : Ok (c.vars.drop b) c.coefs (leftsOf L) := by
  obtain ⟨h1, h2, h3, h4, _⟩ := Gr.lin_parts.1 hl
  refine ⟨fun k hk => ?_, lefts_small L, by rw [List.length_drop]; omega, coefs_in h4, by rw [List.length_drop]; omega⟩
  have hk2 : b + k < c.vars.length := by rw [List.length_drop] at hk; omega
  have e : (c.vars.drop b).getD k 0 = c.vars.getD (b + k) 0 := by simp [List.getD, List.getElem?_drop]
  have hm : c.vars.getD (b + k) 0 ∈ c.vars := by rw [List.getD_eq_getElem?_getD, List.getElem?_eq_getElem hk2]; exact List.getElem_mem hk2
  rw [e, lefts_length]
  exact ⟨(vars_mem hv _ hm).1, (vars_mem hv _ hm).2, full_of hw hm⟩

/-- what is left of the first variable of an Iff -/
def firstL (M : List (List Int)) (c : PCon) : List Int :=
  let e := endsTo (c.vars.drop 1) c.coefs M (-1) (c.vars.drop 1).length
  let row := M.getD (c.vars.getD 0 0).toNat []
  (if decide (0 ∈ row) && mayG e.1 e.2 (contrary c.rel) c.const then [0] else []) ++ (if decide (1 ∈ row) && mayG e.1 e.2 c.rel c.const then [1] else [])
/-- what is left of the others -/
def othersL (M : List (List Int)) (c : PCon) : List (List Int) :=
  let row := M.getD (c.vars.getD 0 0).toNat []
  if 1 ∈ row then (if 0 ∈ row then M else sumL (c.vars.drop 1) c.coefs M c.rel c.const) else sumL (c.vars.drop 1) c.coefs M (contrary c.rel) c.const
/-- what a step leaves, as lists -/
def stepLeft (M : List (List Int)) (c : PCon) : List (List Int) :=
  if wipeTo M c.vars c.vars.length = true then noneL M c.vars else if c.kind = 1 then sumL c.vars c.coefs M c.rel c.const else
    if 0 ∉ M.getD (c.vars.getD 0 0).toNat [] ∧ 1 ∉ M.getD (c.vars.getD 0 0).toNat [] then noneL M c.vars else (othersL M c).set (c.vars.getD 0 0).toNat (firstL M c)
/-- the document's answer -/
noncomputable def stepD (c : PCon) (L : List (List Int × Nat)) : List (List Int × Nat) × Int :=
  if rightS c L [1, 3] = true then (keepTo L (stepLeft (leftsOf L) c) L.length, 0) else ([], 1)
end Go.Proofs.YtakooocmnapjmaaDoor.St
namespace Go.Proofs.YtakooocmnapjmaaDoor.St
open Go.RowKit
set_option maxRecDepth 100000

/-- what one variable's part of a sum may be -/
def endP (ks : List Int) (D : List (List Int × Nat)) (k : Nat) : Int × Int :=
  (min (ks.getD k 0 * (leftOf (D.getD k ([], 0))).getD 0 0) (ks.getD k 0 * (leftOf (D.getD k ([], 0))).getD ((leftOf (D.getD k ([], 0))).length - 1) 0),
   max (ks.getD k 0 * (leftOf (D.getD k ([], 0))).getD 0 0) (ks.getD k 0 * (leftOf (D.getD k ([], 0))).getD ((leftOf (D.getD k ([], 0))).length - 1) 0))
def cellP (q : Int × Int) : Value × Value := (.int .i64 q.1, .int .i64 q.2)
theorem left_small {d : List Int × Nat} (k : Nat) : -1048576 ≤ (leftOf d).getD k 0 ∧ (leftOf d).getD k 0 ≤ 1048576 := by
  by_cases h : k < (leftOf d).length
  · exact lefts_small [d] (leftOf d) (by simp [leftsOf]) |>.2 _ (getD_mem h)
  · rw [List.getD_eq_getElem?_getD, List.getElem?_eq_none (by omega)]
    simp

set_option maxHeartbeats 4000000 in
theorem reaches_any {w : World} {pk p : Option Addr} {bk ok lk ck b off c len : Nat} {ks : List Int} {D : List (List Int × Nat)} (hT : B.Tab w) (h0 : 0 < w.heap.size) (hk : Nums w pk bk ok lk ks) (h : SliceOf rDom 2 w p b off len D) (hl : len ≤ 1000) (hlk : len ≤ lk) (hD : ∀ d ∈ D, d.1.length ≤ 1000) (hkb : ∀ k, k < ks.length → -1048576 ≤ ks.getD k 0 ∧ ks.getD k 0 ≤ 1048576) :
    Calls Tryd.prog 49 #[.slice pk lk ck, .slice p len c] w fun e w' => e = .returned (.slice (some ⟨w.heap.size, 0, none⟩) len len) ∧ Row2 len 78 w' w.heap.size (fun j => cellP (endP ks D j)) ∧ Below w.heap.size w w' := by
  have hm := make_reaches len hl
  have NK := Lib.hid hk
  have HS := Lib.hid h
  have hp := h.at_
  have HD := Lib.hid hD
  have HT := Lib.hid hT
  have HKB := Lib.hid (show ∀ k, k < lk → -1048576 ≤ ks.getD k 0 ∧ ks.getD k 0 ≤ 1048576 by rw [hk.long]; exact hkb)
  have HLD := Lib.hid h.long
  clear hk h hD hT hkb
  go_enter Tryd.func49, Tryd.ntmps49
  go_wp2_with fail
  go_loopw [19] (fun i wr => ∃ k : Nat, k ≤ len ∧ i = .int .i64 k ∧ Row2 len 78 wr w.heap.size (fun j => if j < k then cellP (endP ks D j) else (.int .i64 0, .int .i64 0)) ∧ Below w.heap.size w wr) (fun i _ => len - (intOf i).toNat)
  case atStart => exact ⟨0, by omega, rfl, (row2_made len _ _ _ w).congr fun i _ => by simp, new_below _ _⟩
  case round =>
    rename_i wr
    obtain ⟨k, hk, rfl, hrow, hB⟩ := hrel
    have HR := Lib.hid hrow
    have HB := Lib.hid hB
    clear hrow hB
    by_cases hlt : k < len
    · obtain rfl := hp (by omega)
      have hlt2 : k < lk := by omega
      obtain rfl := NK.out.at_ (by omega)
      have hkD : k < D.length := by have := HLD.out; omega
      obtain ⟨x, u, ex, ⟨a0, a1⟩, hx⟩ := dom_at2 (HS.out.below rDom_stays HB.out) hlt
      obtain ⟨p9, l9, c9, rfl⟩ := rDom_shape hx
      obtain ⟨r1, r2, _⟩ := rDom_parts hx
      have hxl : x.1.length ≤ 1000000 := Nat.le_trans (HD.out x (List.mem_of_getElem? ex)) (by decide)
      have eD : D.getD k ([], 0) = x := by rw [List.getD_eq_getElem?_getD, ex]; rfl
      have B1 := Lib.hid (new_below wr (.cells #[.slice p9 l9 c9, .int .u64 x.2] 47))
      have T1 := Lib.hid (show B.Tab (wr.alloc (.cells #[.slice p9 l9 c9, .int .u64 x.2] 47)) from B.Tab.below HT.out h0 (below_two HB.out B1.out))
      have h1 : 0 < (wr.alloc (.cells #[.slice p9 l9 c9, .int .u64 x.2] 47)).heap.size := by rw [World.size_alloc]; omega
      have LS := Lib.hid (Dm.dleast_any (Dm.reads_below (Dm.reads_of_readsN r1) B1.out) hxl x.2 r2 T1.out h1)
      have GR := Lib.hid (fun z (hz : Below (wr.alloc (.cells #[.slice p9 l9 c9, .int .u64 x.2] 47)).heap.size (wr.alloc (.cells #[.slice p9 l9 c9, .int .u64 x.2] 47)) z) => Dm.dgreatest_any (Dm.reads_below (Dm.reads_below (Dm.reads_of_readsN r1) B1.out) hz) hxl x.2 r2)
      have cb := two_cells wr (.slice p9 l9 c9) (.int .u64 x.2) 47
      have CB := Lib.hid (And.intro (cb 0 _ rfl) (cb 1 _ rfl))
      have hE : endP ks D k = (min (ks.getD k 0 * (Dm.leftM x.1 x.2).getD 0 0) (ks.getD k 0 * (Dm.leftM x.1 x.2).getD ((Dm.leftM x.1 x.2).length - 1) 0), max (ks.getD k 0 * (Dm.leftM x.1 x.2).getD 0 0) (ks.getD k 0 * (Dm.leftM x.1 x.2).getD ((Dm.leftM x.1 x.2).length - 1) 0)) := by
        unfold endP
        rw [eD]
        rfl
      have sl := left_small (d := x) 0
      have sh := left_small (d := x) ((Dm.leftM x.1 x.2).length - 1)
      have m0 := mul_le (HKB.out k hlt2) sl
      have m1 := mul_le (HKB.out k hlt2) sh
      rw [show leftOf x = Dm.leftM x.1 x.2 from rfl] at m0 m1
      have ck2 := NK.out.cell k hlt2
      obtain ⟨kk, ekk⟩ : ∃ z, z = ks.getD k 0 := ⟨_, rfl⟩
      rw [← ekk] at m0 m1 hE ck2
      obtain ⟨lo, elo⟩ : ∃ z, z = (Dm.leftM x.1 x.2).getD 0 0 := ⟨_, rfl⟩
      obtain ⟨hi, ehi⟩ : ∃ z, z = (Dm.leftM x.1 x.2).getD ((Dm.leftM x.1 x.2).length - 1) 0 := ⟨_, rfl⟩
      rw [← elo] at LS m0 hE
      rw [← ehi] at GR m1 hE
      obtain ⟨y, ey⟩ : ∃ y, y = x.2 := ⟨_, rfl⟩
      rw [← ey] at a1 B1 T1 h1 LS GR CB
      generalize decide (0 < (Dm.leftM x.1 x.2).length) = bb at LS GR
      have d5 : (k : Int) < (len : Int) := by omega
      have d6 : (k : Int) < (lk : Int) := by omega
      have HE := Lib.hid hE
      have HCK := Lib.hid ck2
      clear hE ekk elo ehi ey sl sh cb eD hxl r1 r2 hx ex ck2 T1 hkD
      go_wp2_with fail
      refine LS.out.mono ?_
      rintro e w1 ⟨rfl, hB1⟩
      have HB1 := Lib.hid hB1
      have c0 := cell_below hB1 CB.out.1
      have c1 := cell_below hB1 CB.out.2
      clear hB1
      go_wp2_with fail
      refine (GR.out _ HB1.out).mono ?_
      rintro e w2 ⟨rfl, hB2⟩
      have HB2 := Lib.hid (below_two B1.out (below_two HB1.out hB2))
      have ck3 := cell_below HB2.out (cell_below HB.out HCK.out)
      have HR2 := HR.out.below HB2.out
      have f0 := HR2.frozen (k * 2)
      have f1 := HR2.frozen (k * 2 + 1)
      have z0 := HR2.cell0 hlt
      have z1 := HR2.cell1 hlt
      rw [if_neg (Nat.lt_irrefl k)] at z0 z1
      have HRX := Lib.hid HR2
      clear hB2 c0 c1 a0 a1 HR2
      go_wp2_with fail
      go_quiet (fail)
      go_wp2_with fail
      go_roundw
      case rel =>
        refine ⟨k + 1, by omega, by go_num, (HRX.out.below (below_drewN (Below.refl _ _))).set hlt _ _ ?_ (fun j hj => ?_), ((HB.out.trans ((HB2.out.mono HB.out.size).trans (below_drewN (Below.refl _ _)))).setCell (Nat.le_refl _) _).setCell (Nat.le_refl _) _⟩
        · rw [if_pos (by omega), HE.out]; rfl
        · by_cases h : j < k
          · rw [if_pos h, if_pos (by omega)]
          · rw [if_neg h, if_neg (by omega)]
      case measure => simp [intOf]; omega
    · have e : k = len := by omega
      subst e
      go_wp2_with fail
      go_ret
      exact ⟨rfl, HR.out.congr fun i hi => by rw [if_pos hi], HB.out⟩
end Go.Proofs.YtakooocmnapjmaaDoor.St
namespace Go.Proofs.YtakooocmnapjmaaDoor.St
open Go.RowKit
set_option maxRecDepth 100000

/-- block b holds two cells -/
def Own2 (w : World) (b : Nat) (t : TypeId) (x y : Value) : Prop := w.heap[b]? = some (.cells #[x, y] t (0, 0))
section
variable {w w' : World} {b b' : Nat} {t : TypeId} {x y : Value}
theorem Own2.cell0 (h : Own2 w b t x y) : w.cell? ⟨b, 0, none⟩ = some x := by unfold Own2 at h; simp [World.cell?, h]
theorem Own2.cell1 (h : Own2 w b t x y) : w.cell? ⟨b, 1, none⟩ = some y := by unfold Own2 at h; simp [World.cell?, h]
theorem Own2.frozen (h : Own2 w b t x y) (off : Nat) : w.frozen? ⟨b, off, none⟩ = false := by unfold Own2 at h; simp [World.frozen?, h]
theorem Own2.lt (h : Own2 w b t x y) : b < w.heap.size := (Array.getElem?_eq_some_iff.1 h).1
theorem Own2.set0 (h : Own2 w b t x y) (z : Value) : Own2 (w.setCell ⟨b, 0, none⟩ z) b t z y := by unfold Own2 at h ⊢; simp [World.setCell, Array.getElem?_modify, h]
theorem Own2.set1 (h : Own2 w b t x y) (z : Value) : Own2 (w.setCell ⟨b, 1, none⟩ z) b t x z := by unfold Own2 at h ⊢; simp [World.setCell, Array.getElem?_modify, h]
theorem Own2.other (h : Own2 w b t x y) (hne : b ≠ b') (off : Nat) (z : Value) : Own2 (w.setCell ⟨b', off, none⟩ z) b t x y := by unfold Own2 at h ⊢; simp [World.setCell, Array.getElem?_modify, h, Ne.symm hne]
theorem Own2.below (h : Own2 w b t x y) (hB : Below w.heap.size w w') : Own2 w' b t x y := (hB.block b h.lt).trans h
theorem Own2.new (w : World) (t : TypeId) (x y : Value) : Own2 (w.alloc (.cells #[x, y] t)) w.heap.size t x y := by unfold Own2 World.alloc; simp
end
theorem results_reach {fn : Func} {p : Tmp} (h : fn.results = #[.cell p 78]) (tmps : Array Value) (w : World) (b : Nat) (v0 v1 : Value) (hp : tmps.getD p undef = .pointer (some ⟨b, 0, none⟩)) (c0 : w.cell? ⟨b, 0, none⟩ = some v0) (c1 : w.cell? ⟨b, 1, none⟩ = some v1) :
    (results fn tmps).run Tryd.prog w = .ok (.agg #[v0, v1]) w := by
  have hp' : tmps[p]?.getD undef = .pointer (some ⟨b, 0, none⟩) := by simpa using hp
  simp only [results, h]
  simp [hp', asAddr]
  go_simp
/-- sums of the first j -/
def totTo (P : Nat → Int × Int) : Nat → Int × Int
  | 0 => (0, 0)
  | j + 1 => ((totTo P j).1 + (P j).1, (totTo P j).2 + (P j).2)
theorem tot_small {P : Nat → Int × Int} {n : Nat} (h : ∀ k, k < n → (-1099511627776 ≤ (P k).1 ∧ (P k).1 ≤ 1099511627776) ∧ (-1099511627776 ≤ (P k).2 ∧ (P k).2 ≤ 1099511627776)) : ∀ j, j ≤ n → (-(1099511627776 * (j : Int)) ≤ (totTo P j).1 ∧ (totTo P j).1 ≤ 1099511627776 * (j : Int)) ∧ (-(1099511627776 * (j : Int)) ≤ (totTo P j).2 ∧ (totTo P j).2 ≤ 1099511627776 * (j : Int))
  | 0, _ => by simp [totTo]
  | j + 1, hj => by
    have h1 := tot_small h j (by omega)
    have h2 := h j (by omega)
    simp only [totTo]
    omega

set_option maxHeartbeats 4000000 in
theorem total_any {w : World} {g len : Nat} {P : Nat → Int × Int} (h : Row2 len 78 w g (fun j => cellP (P j))) (hl : len ≤ 1000) (hP : ∀ k, k < len → (-1099511627776 ≤ (P k).1 ∧ (P k).1 ≤ 1099511627776) ∧ (-1099511627776 ≤ (P k).2 ∧ (P k).2 ≤ 1099511627776)) :
    Calls Tryd.prog 48 #[.slice (some ⟨g, 0, none⟩) len len] w fun e w' => e = .returned (.agg #[.int .i64 (totTo P len).1, .int .i64 (totTo P len).2]) ∧ Below w.heap.size w w' := by
  have HR := Lib.hid h
  have HP := Lib.hid hP
  have HS := Lib.hid (tot_small hP)
  obtain ⟨W0, hW0⟩ : ∃ W0, W0 = (w.alloc (.cells #[.int .i64 0, .int .i64 0] 78)).alloc (.cells #[.int .i64 0, .int .i64 0] 78) := ⟨_, rfl⟩
  have HB0 := Lib.hid (show Below w.heap.size w W0 by rw [hW0]; exact below_two (new_below _ _) (new_below _ _))
  have O0 := Lib.hid (show Own2 W0 w.heap.size 78 (.int .i64 0) (.int .i64 0) by rw [hW0]; exact (Own2.new _ _ _ _).below (new_below _ _))
  have O1 := Lib.hid (show Own2 W0 (w.heap.size + 1) 78 (.int .i64 0) (.int .i64 0) by rw [hW0]; have := Own2.new (w.alloc (.cells #[.int .i64 0, .int .i64 0] 78)) 78 (.int .i64 0) (.int .i64 0); rwa [World.size_alloc] at this)
  have HW := Lib.hid hW0
  clear h hP hW0
  go_enter Tryd.func48, Tryd.ntmps48
  go_wp2_with fail
  rw [← HW.out]
  go_loopw [8] (fun i wr => ∃ k : Nat, k ≤ len ∧ i = .int .i64 k ∧ Own2 wr w.heap.size 78 (.int .i64 0) (.int .i64 0) ∧ Own2 wr (w.heap.size + 1) 78 (.int .i64 (totTo P k).1) (.int .i64 (totTo P k).2) ∧ Below w.heap.size w wr) (fun i _ => len - (intOf i).toNat)
  case atStart => exact ⟨0, by omega, rfl, O0.out, O1.out, HB0.out⟩
  case round =>
    rename_i wr
    obtain ⟨k, hk, rfl, ho0, ho1, hB⟩ := hrel
    have H0 := Lib.hid ho0
    have H1 := Lib.hid ho1
    have HB := Lib.hid hB
    have c0 := ho1.cell0
    have c1 := ho1.cell1
    have f0 := ho1.frozen 0
    have f1 := ho1.frozen 1
    have l1 := ho1.lt
    by_cases hlt : k < len
    · have hrow := HR.out.below hB
      have r0 := hrow.cell0 hlt
      have r1 := hrow.cell1 hlt
      have hg := hrow.lt
      have hs := HS.out k (by omega)
      have hs2 := HS.out (k + 1) (by omega)
      have e2 : totTo P (k + 1) = ((totTo P k).1 + (P k).1, (totTo P k).2 + (P k).2) := rfl
      rw [e2] at hs2
      have HE2 := Lib.hid e2
      rw [show cellP (P k) = (.int .i64 (P k).1, .int .i64 (P k).2) from rfl] at r0 r1
      obtain ⟨s1, es1⟩ : ∃ s, s = (totTo P k).1 := ⟨_, rfl⟩
      obtain ⟨s2, es2⟩ : ∃ s, s = (totTo P k).2 := ⟨_, rfl⟩
      rw [← es1, ← es2] at HE2 hs2 H1
      rw [← es1] at c0
      rw [← es2] at c1
      obtain ⟨p1, ep1⟩ : ∃ s, s = (P k).1 := ⟨_, rfl⟩
      obtain ⟨p2, ep2⟩ : ∃ s, s = (P k).2 := ⟨_, rfl⟩
      rw [← ep1, ← ep2] at HE2 hs2
      rw [← ep1] at r0
      rw [← ep2] at r1
      have hs3 : (-1099511627776000 ≤ s1 + p1 ∧ s1 + p1 ≤ 1099511627776000) ∧ (-1099511627776000 ≤ s2 + p2 ∧ s2 + p2 ≤ 1099511627776000) := by simp only at hs2; omega
      obtain ⟨⟨t1, t2⟩, t3, t4⟩ := hs3
      have hnn : w.heap.size + 1 ≠ wr.heap.size := by omega
      have hnn2 : ¬ (wr.heap.size = w.heap.size + 1) := by omega
      have d5 : (k : Int) < (len : Int) := by omega
      clear hs hs2 e2 es1 es2 ep1 ep2 hrow ho0 ho1 hB
      go_wp2_with fail
      go_roundw
      case rel =>
        refine ⟨k + 1, by omega, by go_num, ?_, ?_, ?_⟩
        · exact ((H0.out.other (Nat.ne_of_lt (Nat.lt_succ_self _)) _ _).other (Nat.ne_of_lt (Nat.lt_succ_self _)) _ _).below (new_below _ _)
        · rw [HE2.out]
          exact ((H1.out.set0 _).set1 _).below (new_below _ _)
        · exact below_two ((HB.out.setCell (Nat.le_succ _) _).setCell (Nat.le_succ _) _) (new_below _ _)
      case measure => simp [intOf]; omega
    · have e : k = len := by omega
      subst e
      have g0 := H0.out.cell0
      have g1 := H0.out.cell1
      have k0 := H0.out.frozen 0
      have k1 := H0.out.frozen 1
      clear ho0 ho1 hB
      go_wp2_with fail
      (try simp only [Exit.inBlock, Exit.then])
      refine bodyPost_ret (results_reach rfl _ _ w.heap.size (.int .i64 (totTo P k).1) (.int .i64 (totTo P k).2) rfl ?c0a ?c1a) rfl ?resta
      case c0a => go_simp
      case c1a => go_simp
      exact ⟨rfl, (HB.out.setCell (Nat.le_refl _) _).setCell (Nat.le_refl _) _⟩
end Go.Proofs.YtakooocmnapjmaaDoor.St
