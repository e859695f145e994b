/-
  What None and Wiped of the document's answers for steps answer.
  What Wiped of the document's answers for steps answers.
  What may, Contrary and has of the document's answers for linear steps answer.
-/
import Derived.Test.YtiaibggbbkhjlaaDoorZYAW
namespace Go.Proofs.YtiaibggbbkhjlaaDoor.St
open Go.RowKit
set_option maxRecDepth 100000

/-- lists, some of which are set anew, place by place -/
def setTo (M : List (List Int)) (vars : List Int) (f : Nat → List Int) (j : Nat) : List (List Int) := (List.range j).foldl (fun A k => A.set (vars.getD k 0).toNat (f k)) M
theorem setTo_succ (M : List (List Int)) (vars : List Int) (f : Nat → List Int) (j : Nat) : setTo M vars f (j + 1) = (setTo M vars f j).set (vars.getD j 0).toNat (f j) := by
  unfold setTo
  rw [List.range_succ, List.foldl_append]
  rfl
theorem setTo_length (M : List (List Int)) (vars : List Int) (f : Nat → List Int) : ∀ j, (setTo M vars f j).length = M.length
  | 0 => rfl
  | j + 1 => by rw [setTo_succ, List.length_set, setTo_length M vars f j]
def noneL (M : List (List Int)) (vars : List Int) : List (List Int) := setTo M vars (fun _ => []) vars.length

theorem cell_lies {w W0 wr : World} {B : Nat} {p : Addr} {x : Value} (h0 : Below w.heap.size w W0) (h : Below B W0 wr) (hB : w.heap.size ≤ B) (hc : w.cell? p = some x) : wr.cell? p = some x := by
  have h1 := cell_below h0 hc
  have h2 := Dm.cell_lt hc
  exact (h.cell (Nat.lt_of_lt_of_le h2 hB)).trans h1

set_option maxHeartbeats 4000000 in
theorem rsnone_any {w : World} {k r t : Int} {v1 v2 v3 vl : Value} {c : PCon} {M : List (List Int)} (hc : rCon w [.int .i64 k, v1, v2, .int .i64 r, .int .i64 t, v3] c) (hs : Short 1000 c) (hM : ListsAt w 0 vl M) (hn : M.length ≤ 1000) (hv : ∀ v ∈ c.vars, 0 ≤ v ∧ v < (M.length : Int)) :
    Calls Tryd.prog 32 #[.agg #[.int .i64 k, v1, v2, .int .i64 r, .int .i64 t, v3], vl] w fun e w' => ∃ x, e = .returned x ∧ ListsAt w' w.heap.size x (noneL M c.vars) ∧ Below w.heap.size w w' := by
  obtain ⟨u1, u2, u3, e, _, ⟨p1, b1, o1, c1, l1, e1, _, h1⟩, _⟩ := hc
  subst e1
  simp only [List.cons.injEq, and_true] at e
  obtain ⟨_, rfl, rfl, _, _, rfl⟩ := e
  have hp := h1.at_
  have HL := Lib.hid h1.long
  have HS := Lib.hid h1
  have HV := Lib.hid hv
  have HX := Lib.hid hM
  obtain ⟨R, hR⟩ : ∃ R, R = noneL M c.vars := ⟨_, rfl⟩
  rw [← hR]
  have HR := Lib.hid hR
  have hl1 : l1 ≤ 1000 := by rw [h1.long]; exact hs.1
  obtain ⟨W0, hW0⟩ : ∃ W0, W0 = w.alloc (.cells #[.int .i64 k, .slice p1 l1 c1, v2, .int .i64 r, .int .i64 t, v3] 24) := ⟨_, rfl⟩
  have HB0 := Lib.hid (show Below w.heap.size w W0 by rw [hW0]; exact new_below _ _)
  have HQ0 := Lib.hid (show W0.cell? ⟨w.heap.size, 1, none⟩ = some (.slice p1 l1 c1) by rw [hW0]; exact six_at _ _ _ _ _ _ _ _ 1 _ rfl)
  have HSZ := Lib.hid (show W0.heap.size = w.heap.size + 1 by rw [hW0, World.size_alloc])
  obtain ⟨W1, hW1⟩ : ∃ W1, W1 = W0.alloc (.cells #[] 22) := ⟨_, rfl⟩
  have HW := Lib.hid (show W1 = (w.alloc (.cells #[.int .i64 k, .slice p1 l1 c1, v2, .int .i64 r, .int .i64 t, v3] 24)).alloc (.cells #[] 22) by rw [hW1, hW0])
  have B1 := Lib.hid (show Below W0.heap.size W0 W1 by rw [hW1]; exact new_below _ _)
  have HOWN := Lib.hid (show ListsAt W1 (w.heap.size + 1) (.slice (some ⟨w.heap.size + 1, 0, none⟩) 0 0) [] by rw [hW1, ← HSZ.out]; exact ownsP_made _ _ _ _ (Nat.le_refl _))
  have HM1 := Lib.hid (hM.below (below_two HB0.out B1.out))
  have HLV := Lib.hid (show w.heap.size + 1 ≤ W1.heap.size by rw [← HSZ.out]; exact B1.out.size)
  have HBB := Lib.hid (show Below (w.heap.size + 1) W0 W1 by rw [← HSZ.out]; exact B1.out)
  have hsm : ([] : List (List Int)).length + M.length ≤ 100000 := by simp; omega
  obtain ⟨pm, capm, rfl⟩ := hM.shape
  clear h1 hs hM hv hR hW0 hW1
  go_enter Tryd.func32, Tryd.ntmps32
  go_wp2_with (at_builtin; rw [← HW.out]; refine put_all rfl _ _ rfl rfl rfl HOWN.out HM1.out hsm HLV.out ?_; intro p8 cap8 w8 hp1 hp2; rw [List.nil_append] at hp1; have HN := Lib.hid (lists_all HOWN.out hp1 hp2 HBB.out HLV.out); clear hp1 hp2; rw [List.length_nil, Nat.zero_add] at *)
  go_loopw [6] (fun i wr => ∃ j : Nat, j ≤ l1 ∧ i = .int .i64 j ∧ ListsAt wr (w.heap.size + 1) (.slice p8 M.length cap8) (setTo M c.vars (fun _ => []) j) ∧ Below (w.heap.size + 1) W0 wr) (fun i _ => l1 - (intOf i).toNat)
  case atStart => exact ⟨0, by omega, rfl, HN.out.1, HN.out.2⟩
  case round =>
    rename_i wr
    obtain ⟨j, hj, rfl, hown, hB⟩ := hrel
    have HO := Lib.hid hown
    have HB := Lib.hid hB
    clear hown hB
    by_cases hlt : j < l1
    · obtain rfl := hp (by omega)
      have hjv : j < c.vars.length := by have := HL.out; omega
      have hvj := HV.out (c.vars.getD j 0) (by rw [List.getD_eq_getElem?_getD, List.getElem?_eq_getElem hjv]; exact List.getElem_mem hjv)
      have hsc := setTo_succ M c.vars (fun _ => []) j
      have hsl := setTo_length M c.vars (fun _ => []) j
      have cv := cell_lies HB0.out HB.out (show w.heap.size ≤ w.heap.size + 1 by omega) ((nums_of HS.out).cell j hlt)
      have cq := (HB.out.cell (p := ⟨w.heap.size, 1, none⟩) (Nat.lt_succ_self _)).trans HQ0.out
      obtain ⟨y, hy⟩ : ∃ y, y = c.vars.getD j 0 := ⟨_, rfl⟩
      rw [← hy] at hvj hsc cv
      obtain ⟨y, rfl⟩ := Int.eq_ofNat_of_zero_le hvj.1
      obtain ⟨N, hN⟩ : ∃ N, N = setTo M c.vars (fun _ => []) j := ⟨_, rfl⟩
      rw [← hN] at hsc hsl HO
      have hyM : y < N.length := by omega
      obtain ⟨g, cap, u, ev, hg1, hg2, hg3, cg, fg, _⟩ := HO.out.row hyM
      simp only [Value.slice.injEq] at ev
      obtain ⟨rfl, _, rfl⟩ := ev
      have HNX := Lib.hid (show ListsAt (wr.setCell ⟨g, y, none⟩ (.slice none 0 0)) (w.heap.size + 1) (.slice (some ⟨g, 0, none⟩) M.length cap8) (setTo M c.vars (fun _ => []) (j + 1)) by rw [hsc]; simpa using HO.out.stored hyM (ints_nil wr 0))
      have HBX := Lib.hid (show Below (w.heap.size + 1) W0 (wr.setCell ⟨g, y, none⟩ (.slice none 0 0)) from HB.out.setCell hg1 _)
      have d5 : (j : Int) < (l1 : Int) := by omega
      have d7 : (y : Int) < (M.length : Int) := hvj.2
      clear hvj hsc hN hy hg3 hyM hsl hjv
      go_wp2_with fail
      go_roundw
      case rel => exact ⟨j + 1, by omega, by go_num, HNX.out, HBX.out⟩
      case measure => simp [intOf]; omega
    · have d6 : ¬ ((j : Int) < (l1 : Int)) := by omega
      have cq := (HB.out.cell (p := ⟨w.heap.size, 1, none⟩) (Nat.lt_succ_self _)).trans HQ0.out
      have hall : R = setTo M c.vars (fun _ => []) j := by rw [HR.out, noneL]; congr 1; have := HL.out; omega
      rw [← hall] at HO
      clear hall
      go_wp2_with fail
      go_ret
      exact ⟨_, rfl, HO.out.low (Nat.le_succ _), below_two HB0.out (HB.out.mono (by have := HSZ.out; omega))⟩
end Go.Proofs.YtiaibggbbkhjlaaDoor.St
namespace Go.Proofs.YtiaibggbbkhjlaaDoor.St
open Go.RowKit
set_option maxRecDepth 100000

/-- is nothing left of one of the first j variables? -/
def wipeTo (M : List (List Int)) (vars : List Int) (j : Nat) : Bool := (vars.take j).any fun v => decide ((M.getD v.toNat []).length = 0)
theorem wipeTo_succ {M : List (List Int)} {vars : List Int} {j : Nat} (h : j < vars.length) : wipeTo M vars (j + 1) = (wipeTo M vars j || decide ((M.getD (vars.getD j 0).toNat []).length = 0)) := by
  unfold wipeTo
  rw [List.take_succ_eq_append_getElem h, List.any_append]
  simp [List.getD, List.getElem?_eq_getElem h]
def wipedL (M : List (List Int)) (vars : List Int) : List (List Int) := if wipeTo M vars vars.length = true then noneL M vars else M

set_option maxHeartbeats 4000000 in
theorem rswiped_any {w : World} {k r t : Int} {v1 v2 v3 vl : Value} {c : PCon} {M : List (List Int)} (hc : rCon w [.int .i64 k, v1, v2, .int .i64 r, .int .i64 t, v3] c) (hs : Short 1000 c) (hM : ListsAt w 0 vl M) (hn : M.length ≤ 1000) (hv : ∀ v ∈ c.vars, 0 ≤ v ∧ v < (M.length : Int)) :
    Calls Tryd.prog 28 #[.agg #[.int .i64 k, v1, v2, .int .i64 r, .int .i64 t, v3], vl] w fun e w' => ∃ x, e = .returned (.tuple #[x, .bool (wipeTo M c.vars c.vars.length)]) ∧ ListsAt w' 0 x (wipedL M c.vars) ∧ Below w.heap.size w w' := by
  have hc0 := hc
  obtain ⟨u1, u2, u3, e, _, ⟨p1, b1, o1, c1, l1, e1, _, h1⟩, _⟩ := hc
  subst e1
  simp only [List.cons.injEq, and_true] at e
  obtain ⟨_, rfl, rfl, _, _, rfl⟩ := e
  have hp := h1.at_
  have HL := Lib.hid h1.long
  have HS := Lib.hid h1
  have HV := Lib.hid hv
  have HX := Lib.hid hM
  have hl1 : l1 ≤ 1000 := by rw [h1.long]; exact hs.1
  obtain ⟨W0, hW0⟩ : ∃ W0, W0 = w.alloc (.cells #[.int .i64 k, .slice p1 l1 c1, v2, .int .i64 r, .int .i64 t, v3] 24) := ⟨_, rfl⟩
  have HB0 := Lib.hid (show Below w.heap.size w W0 by rw [hW0]; exact new_below _ _)
  have HQ0 := Lib.hid (show ∀ j u, [Value.int .i64 k, .slice p1 l1 c1, v2, .int .i64 r, .int .i64 t, v3][j]? = some u → W0.cell? ⟨w.heap.size, j, none⟩ = some u by rw [hW0]; exact six_at _ _ _ _ _ _ _ _)
  have HW := Lib.hid hW0
  have NX := Lib.hid (fun u (hb : Below w.heap.size w u) => rsnone_any (rCon_stays _ _ _ _ hb hc0) hs (hM.below hb) hn hv)
  have H0 := Lib.hid (show wipeTo M c.vars 0 = false from rfl)
  clear h1 hs hM hv hW0 hc0
  go_enter Tryd.func28, Tryd.ntmps28
  go_wp2_with fail
  rw [← HW.out]
  go_loopw [6, 7] (fun is i wr => ∃ j : Nat, j ≤ l1 ∧ i = .int .i64 j ∧ is = .bool (wipeTo M c.vars j) ∧ wr = W0) (fun _ i _ => l1 - (intOf i).toNat)
  case atStart => exact ⟨0, by omega, rfl, by rw [H0.out], rfl⟩
  case round =>
    obtain ⟨j, hj, rfl, rfl, rfl⟩ := hrel
    have cq := HQ0.out 1 _ rfl
    by_cases hlt : j < l1
    · obtain rfl := hp (by omega)
      have hjv : j < c.vars.length := by have := HL.out; omega
      have hvj := HV.out (c.vars.getD j 0) (by rw [List.getD_eq_getElem?_getD, List.getElem?_eq_getElem hjv]; exact List.getElem_mem hjv)
      have hsc := wipeTo_succ (M := M) hjv
      have cv := cell_below HB0.out ((nums_of HS.out).cell j hlt)
      obtain ⟨y, hy⟩ : ∃ y, y = c.vars.getD j 0 := ⟨_, rfl⟩
      rw [← hy] at hvj hsc cv
      obtain ⟨y, rfl⟩ := Int.eq_ofNat_of_zero_le hvj.1
      have hyM : y < M.length := by omega
      obtain ⟨g, cap, u, rfl, _, _, _, cg, _, hu⟩ := (HX.out.below HB0.out).row hyM
      obtain ⟨pu, _, cu, rfl, _, _⟩ := Dm.ints_shape hu
      have d5 : (j : Int) < (l1 : Int) := by omega
      have d7 : (y : Int) < (M.length : Int) := hvj.2
      obtain ⟨n, hn2⟩ : ∃ n, n = (M.getD y []).length := ⟨_, rfl⟩
      replace hsc : wipeTo M c.vars (j + 1) = (wipeTo M c.vars j || decide (n = 0)) := by subst hn2; simpa using hsc
      rw [← hn2] at cg
      obtain ⟨A, hA⟩ : ∃ A, A = wipeTo M c.vars j := ⟨_, rfl⟩
      rw [← hA] at hsc ⊢
      have HSC := Lib.hid hsc
      clear hsc hy hvj hyM hu hn2 hA hjv
      cases A
      · by_cases hz : n = 0
        · subst hz
          go_wp2_with fail
          go_roundw
          case rel => exact ⟨j + 1, by omega, by go_num, by rw [HSC.out]; rfl, trivial⟩
          case measure => simp [intOf]; omega
        · have dz : ((n : Int) == 0) = false := by rw [beq_eq_false_iff_ne]; omega
          have dn : decide (n = 0) = false := decide_eq_false hz
          rw [dn] at HSC
          go_wp2_with fail
          go_roundw
          case rel => exact ⟨j + 1, by omega, by go_num, by rw [HSC.out]; first | rfl | simp [dz, hz], trivial⟩
          case measure => simp [intOf]; omega
      · go_wp2_with fail
        go_roundw
        case rel => exact ⟨j + 1, by omega, by go_num, by rw [HSC.out]; rfl, trivial⟩
        case measure => simp [intOf]; omega
    · have d6 : ¬ ((j : Int) < (l1 : Int)) := by omega
      obtain rfl : j = c.vars.length := by have := HL.out; omega
      have HWL := Lib.hid (show wipedL M c.vars = if wipeTo M c.vars c.vars.length = true then noneL M c.vars else M from rfl)
      obtain ⟨A, hA⟩ : ∃ A, A = wipeTo M c.vars c.vars.length := ⟨_, rfl⟩
      rw [← hA] at HWL ⊢
      have HX0 := Lib.hid (HX.out.below HB0.out)
      have q0 := HQ0.out 0 _ rfl
      have q2 := HQ0.out 2 _ rfl
      have q3 := HQ0.out 3 _ rfl
      have q4 := HQ0.out 4 _ rfl
      have q5 := HQ0.out 5 _ rfl
      have NY := Lib.hid (NX.out wr HB0.out)
      have HA := Lib.hid hA
      clear hA
      cases A
      · go_wp2_with fail
        go_ret2
        exact ⟨_, by rw [← HA.out]; rfl, by rw [HWL.out]; exact HX0.out, HB0.out⟩
      · go_wp2_with fail
        refine NY.out.mono ?_
        rintro e w7 ⟨x, rfl, hx, hB7⟩
        have HX7 := Lib.hid hx
        have HB7 := Lib.hid (below_two HB0.out hB7)
        clear hx hB7
        go_wp2_with fail
        go_ret2
        exact ⟨_, by rw [← HA.out]; rfl, by rw [HWL.out]; exact HX7.out.low (Nat.zero_le _), HB7.out⟩
end Go.Proofs.YtiaibggbbkhjlaaDoor.St
namespace Go.Proofs.YtiaibggbbkhjlaaDoor.St
open Go.RowKit
set_option maxRecDepth 100000

/-- may a rel hold? -/
def mayG (low high rel ag : Int) : Bool :=
  if rel = 0 then decide (low ≤ ag) && decide (ag ≤ high) else if rel = 1 then !decide (low = ag) || !decide (high = ag) else if rel = 2 then decide (low < ag) else if rel = 3 then decide (low ≤ ag) else if rel = 4 then decide (ag < high) else decide (ag ≤ high)
/-- the contrary rel -/
def contrary (rel : Int) : Int := if rel < 0 ∨ 5 < rel then rel else if rel = 0 then 1 else if rel = 1 then 0 else if rel = 2 then 5 else if rel = 3 then 4 else if rel = 4 then 3 else 2

/-- is a number in a list? -/
theorem inK_all {K : List Int} {x : Int} : inK K x K.length = decide (x ∈ K) := by
  unfold inK
  rw [List.take_length, Bool.eq_iff_iff]
  simp

theorem inK_up {K : List Int} {x : Int} {j n : Nat} (h : inK K x j = true) (hn : j ≤ n) : inK K x n = true := by
  unfold inK at h ⊢
  rw [List.contains_iff_mem] at h ⊢
  exact (List.take_subset_take_left K hn) h

end Go.Proofs.YtiaibggbbkhjlaaDoor.St
