/-
  What great, values, compares and unlike of package ground answer, and slices.IndexFunc and slices.ContainsFunc of numbers.
-/
import Derived.Test.YtkhjnicmbkklpaaVRsum
import Derived.Test.YtkhjnicmbkklpaaPFun
import Derived.Test.YtkhjnicmbkklpaaULeaf
namespace Go.Proofs.Ytkhjnicmbkklpaa.Gr
open Go.RowKit
set_option maxRecDepth 100000

set_option maxHeartbeats 400000 in
theorem great_any (n : Int) (w : World) : Calls Try.prog 15 #[.int .i64 n] w fun e w' => e = .returned (.bool (!okN n)) ∧ w' = w := by
  unfold okN
  by_cases g1 : n < -1048576
  · have d1 : decide (n < (-1048576 : Int)) = true := decide_eq_true g1
    rw [decide_eq_false (show ¬ (-1048576 ≤ n ∧ n ≤ 1048576) by omega)]
    clear g1
    go_enter Try.func15, Try.ntmps15
    go_wp2_with fail
    go_ret
    exact ⟨rfl, rfl⟩
  · have d1 : decide (n < (-1048576 : Int)) = false := decide_eq_false g1
    by_cases g2 : 1048576 < n
    · have d2 : decide ((1048576 : Int) < n) = true := decide_eq_true g2
      rw [decide_eq_false (show ¬ (-1048576 ≤ n ∧ n ≤ 1048576) by omega)]
      clear g1 g2
      go_enter Try.func15, Try.ntmps15
      go_wp2_with fail
      go_ret
      exact ⟨rfl, rfl⟩
    · have d2 : decide ((1048576 : Int) < n) = false := decide_eq_false g2
      rw [decide_eq_true (show (-1048576 ≤ n ∧ n ≤ 1048576) by omega)]
      clear g1 g2
      go_enter Try.func15, Try.ntmps15
      go_wp2_with fail
      go_ret
      exact ⟨rfl, rfl⟩
theorem enters_great : Enters Try.prog 15 := enters_of Try.func15 (by kernel_rfl) rfl

set_option maxHeartbeats 400000 in
theorem indexI_cells (g : Nat) (hE : Enters Try.prog g) (f : Int → Bool) (p : Option Addr) (b off c len : Nat) (L : List Int) (w : World) (h : Nums w p b off len L) (hl : len ≤ 1000000)
    (hf : ∀ (u : World) (x : Int), Calls Try.prog g #[.int .i64 x] u fun e w' => e = .returned (.bool (f x)) ∧ w' = u) :
    Calls Try.prog 24 #[.slice p len c, .func (.func g) #[] #[]] w fun e w' => ∃ z : Int, e = .returned (.int .i64 z) ∧ decide (0 ≤ z) = L.any f ∧ -1 ≤ z ∧ w' = w := by
  have HX := Lib.hid h
  have hp := h.at_
  have HN := Lib.hid h.long
  have HF := Lib.hid hf
  have HE := Lib.hid hE
  obtain ⟨R, hR⟩ : ∃ R, R = L.any f := ⟨_, rfl⟩
  rw [← hR]
  have HR := Lib.hid hR
  have HS := Lib.hid (show R = (L.drop 0).any f by rw [hR]; simp)
  clear h hf hE hR
  go_enter Try.func24, Try.ntmps24
  go_wp2
  go_loopw [8] (fun i wr => (∃ k : Nat, k ≤ len ∧ i = .int .i64 k ∧ R = (L.drop k).any f) ∧ wr = w) (fun i _ => len - (intOf i).toNat)
  case atStart => exact ⟨⟨0, by omega, rfl, HS.out⟩, rfl⟩
  case round =>
    obtain ⟨⟨k, hk, rfl, hrel⟩, rfl⟩ := hrel
    by_cases hlt : k < len
    · obtain rfl := hp (by omega)
      have a0 := HX.out.cell k hlt
      have hstep := hrel.trans (any_at f (getD_at (by rw [← HN.out]; exact hlt)))
      obtain ⟨x, ex⟩ : ∃ x, x = L.getD k 0 := ⟨_, rfl⟩
      rw [← ex] at a0 hstep
      have C := Lib.hid (HF.out wr x)
      cases hfx : f x
      · rw [hfx] at C hstep
        have NX := Lib.hid (hstep.trans (Bool.false_or _))
        clear hstep hrel ex hfx
        go_wp2_with fail
        simp only [HE.out _ _]
        refine C.out.mono ?_
        rintro e w2 ⟨rfl, rfl⟩
        go_wp2_with fail
        go_roundw
        case rel => exact ⟨⟨k + 1, by omega, by go_num, NX.out⟩, trivial⟩
        case measure => simp [intOf]; omega
      · rw [hfx] at C hstep
        have key : R = true := hstep.trans (Bool.true_or _)
        subst key
        clear hstep hrel ex hfx
        go_wp2_with fail
        simp only [HE.out _ _]
        refine C.out.mono ?_
        rintro e w2 ⟨rfl, rfl⟩
        go_wp2_with fail
        go_ret
        exact ⟨_, rfl, by simp, by omega, rfl⟩
    · have key : R = false := hrel.trans (any_end f (by rw [← HN.out]; omega))
      subst key
      clear hrel
      go_wp2_with fail
      go_ret
      exact ⟨_, rfl, by simp, by omega, rfl⟩
theorem any_great (row : List Int) : (row.any fun n => !okN n) = !rowOk row := by
  unfold rowOk
  induction row with
  | nil => rfl
  | cons a r ih => rw [List.any_cons, List.all_cons, ih, Bool.not_and]
set_option maxHeartbeats 400000 in
theorem hasI_any (p : Option Addr) (b off c len : Nat) (L : List Int) (w : World) (h : Nums w p b off len L) (hl : len ≤ 1000000) :
    Calls Try.prog 14 #[.slice p len c, .func (.func 15) #[] #[]] w fun e w' => e = .returned (.bool (!rowOk L)) ∧ w' = w := by
  have C := Lib.hid (indexI_cells 15 enters_great (fun n => !okN n) p b off c len L w h hl (fun u x => great_any x u))
  obtain ⟨R, hR⟩ : ∃ R, R = L.any (fun n => !okN n) := ⟨_, rfl⟩
  rw [← hR] at C
  rw [any_great] at hR
  rw [← hR]
  clear hR hl h
  go_enter Try.func14, Try.ntmps14
  go_wp2_with fail
  refine C.out.mono ?_
  rintro e w2 ⟨z, rfl, hz, hz1, rfl⟩
  have HZ := Lib.hid hz
  clear hz
  cases R
  · have d : decide (0 ≤ z) = false := HZ.out
    go_wp2_with fail
    go_ret
    exact ⟨rfl, rfl⟩
  · have d : decide (0 ≤ z) = true := HZ.out
    go_wp2_with fail
    go_ret
    exact ⟨rfl, rfl⟩

/- rows of ints that a call makes -/
theorem make_ints (n : Nat) (hn : n ≤ 1000) (w : World) : (Instr.makeSlice 23 (.int .i64 (n : Int)) (.int .i64 (n : Int))).run Try.prog w = .ok (.slice (some ⟨w.heap.size, 0, none⟩) n n) (w.alloc (.cells (madeCells #[.int .i64 0] n) 3)) := by
  obtain ⟨i0, hi, hz0, hz1, hz2⟩ := info_parts info3
  have hr := run_make (P := Try.prog) w 23 3 i0 _ Try.underlying23 hi hz0 .i64 .i64 n n (by omega) (Int.le_refl _) (by rw [hz2]; omega) (by omega)
  simp only [Int.toNat_natCast, hz1, Nat.mul_one] at hr
  exact hr
/-- block b is a row of s numbers -/
def IRow (s : Nat) (w : World) (b : Nat) (f : Nat → Int) : Prop :=
  ∃ cc, w.heap[b]? = some (.cells cc 3 (0, 0)) ∧ cc.size = s ∧ ∀ i, i < s → cc[i]? = some (.int .i64 (f i))
section
variable {s : Nat} {w : World} {b : Nat} {f : Nat → Int}
theorem IRow.cell (h : IRow s w b f) {i : Nat} (hi : i < s) : w.cell? ⟨b, i, none⟩ = some (.int .i64 (f i)) := by
  obtain ⟨cc, h1, h2, h3⟩ := h
  simp [World.cell?, h1, h3 i hi]
theorem IRow.frozen (h : IRow s w b f) (off : Nat) : w.frozen? ⟨b, off, none⟩ = false := by
  obtain ⟨cc, h1, h2, h3⟩ := h
  simp [World.frozen?, h1]
theorem IRow.set (h : IRow s w b f) {i : Nat} (hi : i < s) {g : Nat → Int} (x : Int) (hx : x = g i) (hg : ∀ j, j ≠ i → g j = f j) : IRow s (w.setCell ⟨b, i, none⟩ (.int .i64 x)) b g := by
  obtain ⟨cc, h1, h2, h3⟩ := h
  refine ⟨cc.setIfInBounds i (.int .i64 x), by simp [World.setCell, Array.getElem?_modify, h1], by simp [h2], fun j hj => ?_⟩
  by_cases e : j = i
  · subst e
    rw [Array.getElem?_setIfInBounds, if_pos rfl, if_pos (by omega), hx]
  · rw [Array.getElem?_setIfInBounds, if_neg (by omega), h3 j hj, hg j e]
theorem IRow.congr {g : Nat → Int} (h : IRow s w b f) (e : ∀ i, i < s → g i = f i) : IRow s w b g := by
  obtain ⟨cc, h1, h2, h3⟩ := h
  exact ⟨cc, h1, h2, fun i hi => by rw [e i hi]; exact h3 i hi⟩
theorem IRow.nums (h : IRow s w b f) (xs : List Int) (hl : s = xs.length) (hx : ∀ i, i < s → f i = xs.getD i 0) (hf : ∀ i, i < s → Fit (xs.getD i 0)) : Nums w (some ⟨b, 0, none⟩) b 0 s xs :=
  ⟨hl, fun _ => rfl, fun k hk => by rw [Nat.zero_add, h.cell hk, hx k hk], hf⟩
end
theorem irow_made (s : Nat) (w : World) : IRow s (w.alloc (.cells (madeCells #[.int .i64 0] s) 3)) w.heap.size (fun _ => 0) := by
  refine ⟨madeCells #[.int .i64 0] s, by unfold World.alloc; simp, size_madeCells _ _, fun i hi => ?_⟩
  rw [← Array.getElem?_toList, toList_madeCells_one]
  simp [hi]
theorem map_get {row vs : List Int} {k : Nat} (h : k < vs.length) : (vs.map (val row)).getD k 0 = val row (vs.getD k 0) := by
  rw [List.getD_eq_getElem?_getD, List.getD_eq_getElem?_getD, List.getElem?_map, List.getElem?_eq_getElem h]; rfl

set_option maxHeartbeats 1000000 in
theorem values_cells (pv pr : Option Addr) (bv ov lv cv br orr lr cr : Nat) (vs row : List Int) (w : World) (hv : Nums w pv bv ov lv vs) (hr : Nums w pr br orr lr row) (hlv : lv ≤ 1000) (hin : ∀ v ∈ vs, 0 ≤ v ∧ v < lr) :
    Calls Try.prog 22 #[.slice pv lv cv, .slice pr lr cr] w fun e w' => e = .returned (.slice (some ⟨w.heap.size, 0, none⟩) lv lv) ∧ Nums w' (some ⟨w.heap.size, 0, none⟩) w.heap.size 0 lv (vs.map (val row)) ∧ Below w.heap.size w w' := by
  have hm := make_ints lv hlv
  have NV := Lib.hid hv
  have NR := Lib.hid hr
  have HIN := Lib.hid hin
  clear hv hr hin
  go_enter Try.func22, Try.ntmps22
  go_wp2
  go_loopw [13] (fun i wr => (∃ k : Nat, k ≤ lv ∧ i = .int .i64 k ∧ IRow lv wr w.heap.size (fun j => if j < k then val row (vs.getD j 0) else 0)) ∧ Below w.heap.size w wr) (fun i _ => lv - (intOf i).toNat)
  case atStart => exact ⟨⟨0, by omega, rfl, (irow_made lv w).congr fun i _ => by simp⟩, (Below.refl _ w).alloc (Nat.le_refl _) _⟩
  case round =>
    obtain ⟨⟨k, hk, rfl, hrow⟩, hB⟩ := hrel
    rename_i wr
    have hsz := hB.size
    by_cases hlt : k < lv
    · have f0 := hrow.frozen k
      have c0 := hrow.cell hlt
      obtain ⟨y, ey⟩ : ∃ y, y = if k < k then val row (vs.getD k 0) else 0 := ⟨_, rfl⟩
      rw [← ey] at c0
      obtain rfl := NV.out.at_ (by omega)
      have hvk : k < vs.length := by rw [← NV.out.long]; exact hlt
      have a0 := cell_stays hB (NV.out.cell k hlt)
      have hx := HIN.out (vs.getD k 0) (List.mem_of_getElem? (getD_at hvk))
      obtain ⟨rfl, r0⟩ := val_at NR.out hx
      replace r0 := cell_stays hB r0
      obtain ⟨x, ex⟩ : ∃ x, x = vs.getD k 0 := ⟨_, rfl⟩
      rw [← ex] at a0 hx r0
      obtain ⟨z, ez⟩ : ∃ z, z = val row x := ⟨_, rfl⟩
      rw [← ez] at r0
      have HR := Lib.hid hrow
      have HB := Lib.hid hB
      have HZ := Lib.hid (show z = val row (vs.getD k 0) by rw [ez, ex])
      clear hrow hB ey ex ez
      obtain ⟨xn, hxn⟩ : ∃ xn : Nat, x = (xn : Int) := ⟨x.toNat, by omega⟩
      subst hxn
      have e9 : ((xn : Int)).toNat = xn := by omega
      rw [e9] at r0
      go_wp2_with fail
      go_roundw
      case rel =>
        refine ⟨⟨k + 1, by omega, by go_num, HR.out.set hlt _ ?_ (fun j hj => ?_)⟩, HB.out.setCell (Nat.le_refl _) _⟩
        · rw [if_pos (by omega)]; exact HZ.out
        · by_cases h : j < k
          · rw [if_pos h, if_pos (by omega)]
          · rw [if_neg h, if_neg (by omega)]
      case measure => simp [intOf]; omega
    · have e : k = lv := by omega
      subst e
      have HR := Lib.hid hrow
      have HB := Lib.hid hB
      clear hrow hB
      go_wp2
      go_ret
      have hl := NV.out.long
      refine ⟨rfl, HR.out.nums _ (by rw [List.length_map]; exact hl) (fun i hi => ?_) (fun i hi => ?_), HB.out⟩
      · rw [if_pos hi, map_get (by omega)]
      · rw [map_get (by omega)]
        have hx := HIN.out (vs.getD i 0) (List.mem_of_getElem? (getD_at (by omega)))
        exact NR.out.fit _ (by omega)
end Go.Proofs.Ytkhjnicmbkklpaa.Gr
