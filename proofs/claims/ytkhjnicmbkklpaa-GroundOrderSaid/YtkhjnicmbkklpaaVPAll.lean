/-
  What Right, All and Holds of package ground answer, at every constraints and every row that can be read; and All of the document's answers.
-/
import Derived.Test.YtkhjnicmbkklpaaVPEach
namespace Go.Proofs.Ytkhjnicmbkklpaa.Gr
open Go.RowKit
set_option maxRecDepth 100000

theorem enters_all1 : Enters Try.prog 20 := enters_of Try.func20 (by kernel_rfl) rfl
theorem enters_right1 : Enters Try.prog 17 := enters_of Try.func17 (by kernel_rfl) rfl

theorem each_any (pr : Option Addr) (br orr bx lr cr : Nat) (w : World) {c : PCon} {row : List Int} {v1 v2 v3 : Value} (h : rCon w [.int .i64 c.kind, v1, v2, .int .i64 c.rel, .int .i64 c.const, v3] c) (hs : Short 1000 c)
    (hr : Nums w pr br orr lr row) (hbx : w.cell? ⟨bx, 0, none⟩ = some (.slice pr lr cr)) (hok : rowOk row = true) (hrt : rightC c (lr : Int) = true) :
    Calls Try.prog 20 #[.agg #[.int .i64 c.kind, v1, v2, .int .i64 c.rel, .int .i64 c.const, v3], .pointer (some ⟨bx, 0, none⟩)] w fun e w' => e = .returned (.bool (!holdsG c row)) ∧ Below w.heap.size w w' := by
  obtain ⟨u1, u2, u3, e, _, ⟨p1, b1, o1, c1, l1, e1, hc1, h1⟩, ⟨p2, b2, o2, c2, l2, e2, _, h2⟩, ⟨p3, b3, o3, c3, l3, e3, hc3, h3⟩⟩ := h
  subst e1 e2 e3
  simp only [List.cons.injEq, and_true, true_and] at e
  obtain ⟨rfl, rfl, rfl⟩ := e
  have n1 := nums_of h1
  have n2 := nums_of h2
  have n3 := nums_of h3
  have q1 : l1 ≤ 1000 := by rw [h1.long]; exact hs.1
  have q3 : l3 ≤ 1000 := by rw [h3.long]; exact hs.2.2
  rcases kind_six hrt with k | k | k | k | k | k
  · exact each_one p1 p2 p3 pr b1 o1 b2 o2 b3 o3 br orr bx l1 l2 l3 lr c1 c2 c3 cr w n1 n2 n3 hr hbx hok hrt q1 q3 hc3.2 c.kind c.rel c.const rfl rfl rfl k
  · exact each_two p1 p2 p3 pr b1 o1 b2 o2 b3 o3 br orr bx l1 l2 l3 lr c1 c2 c3 cr w n1 n2 n3 hr hbx hok hrt q1 q3 hc3.2 c.kind c.rel c.const rfl rfl rfl k
  · exact each_three p1 p2 p3 pr b1 o1 b2 o2 b3 o3 br orr bx l1 l2 l3 lr c1 c2 c3 cr w n1 n2 n3 hr hbx hok hrt q1 q3 hc3.2 c.kind c.rel c.const rfl rfl rfl k
  · exact each_four p1 p2 p3 pr b1 o1 b2 o2 b3 o3 br orr bx l1 l2 l3 lr c1 c2 c3 cr w n1 n2 n3 hr hbx hok hrt q1 q3 hc3.2 c.kind c.rel c.const rfl rfl rfl k
  · exact each_five p1 p2 p3 pr b1 o1 b2 o2 b3 o3 br orr bx l1 l2 l3 lr c1 c2 c3 cr w n1 n2 n3 hr hbx hok hrt q1 q3 hc3.2 c.kind c.rel c.const rfl rfl rfl k
  · exact each_six p1 p2 p3 pr b1 o1 b2 o2 b3 o3 br orr bx l1 l2 l3 lr c1 c2 c3 cr w n1 n2 n3 hr hbx hok hrt q1 q3 hc3.2 c.kind c.rel c.const rfl rfl rfl k

set_option maxHeartbeats 1000000 in
theorem right1_any (pr : Option Addr) (bx lr cr : Nat) (u : World) {c : PCon} {v1 v2 v3 : Value} (h : rCon u [.int .i64 c.kind, v1, v2, .int .i64 c.rel, .int .i64 c.const, v3] c) (hs : Short 1000 c) (hbx : u.cell? ⟨bx, 0, none⟩ = some (.slice pr lr cr)) :
    Calls Try.prog 17 #[.agg #[.int .i64 c.kind, v1, v2, .int .i64 c.rel, .int .i64 c.const, v3], .pointer (some ⟨bx, 0, none⟩)] u fun e w' => e = .returned (.bool (!rightC c (lr : Int))) ∧ Below u.heap.size u w' := by
  obtain ⟨⟨p1, l1, c1, rfl⟩, ⟨p2, l2, c2, rfl⟩, ⟨p3, l3, c3, rfl⟩⟩ := rCon_shape h
  obtain ⟨W0, hW0⟩ : ∃ W0, W0 = u.alloc (.cells #[.int .i64 c.kind, .slice p1 l1 c1, .slice p2 l2 c2, .int .i64 c.rel, .int .i64 c.const, .slice p3 l3 c3] 27) := ⟨_, rfl⟩
  have hB0 : Below u.heap.size u W0 := by rw [hW0]; exact (Below.refl _ u).alloc (Nat.le_refl _) _
  have h6 : At6 W0 u.heap.size (.int .i64 c.kind) (.slice p1 l1 c1) (.slice p2 l2 c2) (.int .i64 c.rel) (.int .i64 c.const) (.slice p3 l3 c3) := by rw [hW0]; exact six_new _ _ _ _ _ _ _ _
  obtain ⟨m0, m1, m2, m3, m4, m5⟩ := h6
  have hbx0 := cell_stays hB0 hbx
  have C := Lib.hid (pright_any (lr : Int) (rCon_stays _ _ _ _ hB0 h) hs)
  obtain ⟨R, hR⟩ : ∃ R, R = rightC c (lr : Int) := ⟨_, rfl⟩
  rw [← hR] at C ⊢
  obtain ⟨kd, ekd⟩ : ∃ kd, kd = c.kind := ⟨_, rfl⟩
  obtain ⟨rl, erl⟩ : ∃ rl, rl = c.rel := ⟨_, rfl⟩
  obtain ⟨ct, ect⟩ : ∃ ct, ct = c.const := ⟨_, rfl⟩
  rw [← ekd, ← erl, ← ect] at C hW0 ⊢
  rw [← ekd] at m0
  rw [← erl] at m3
  rw [← ect] at m4
  have HB0 := Lib.hid hB0
  have HW := Lib.hid hW0
  clear hB0 hW0 hR h hs hbx ekd erl ect
  go_enter Try.func17, Try.ntmps17
  go_upto_region 1 with fail
  rw [← HW.out]
  go_wp2_with fail
  refine C.out.mono ?_
  rintro e w2 ⟨rfl, hB⟩
  have HB := Lib.hid (HB0.out.trans (hB.mono HB0.out.size))
  clear hB
  go_wp2_with fail
  go_ret
  exact ⟨rfl, HB.out⟩

theorem any_not {α : Type} (f : α → Bool) (l : List α) : (l.any fun x => !f x) = !l.all f := by
  induction l with
  | nil => rfl
  | cons a r ih => rw [List.any_cons, List.all_cons, ih, Bool.not_and]
/-- what is asked alike of all that are there is asked alike -/
theorem any_like {α : Type} {f g : α → Bool} {l : List α} (h : ∀ x ∈ l, f x = g x) : l.any f = l.any g := by
  induction l with
  | nil => rfl
  | cons a r ih => rw [List.any_cons, List.any_cons, h a (by simp), ih fun x hx => h x (by simp [hx])]

set_option maxHeartbeats 1000000 in
theorem gright_cells (pr : Option Addr) (br orr lr cr : Nat) (l : List PCon) (row : List Int) (v : Value) (w : World) (h : Slc rCon 6 w v l) (hr : Nums w pr br orr lr row) (hll : l.length ≤ 1000) (hlr : lr ≤ 1000) (hs : ∀ c ∈ l, Short 1000 c) :
    Calls Try.prog 10 #[v, .slice pr lr cr] w fun e w' => e = .returned (.bool (rightG l row)) ∧ Below w.heap.size w w' := by
  obtain ⟨W0, hW0⟩ : ∃ W0, W0 = w.alloc (.cells #[.slice pr lr cr] 23) := ⟨_, rfl⟩
  have hB0 : Below w.heap.size w W0 := by rw [hW0]; exact (Below.refl _ w).alloc (Nat.le_refl _) _
  have hbx : W0.cell? ⟨w.heap.size, 0, none⟩ = some (.slice pr lr cr) := by rw [hW0]; go_simp
  have hle := hr.long
  have CI := Lib.hid (hasI_any pr br orr cr lr row W0 (nums_stay hr hB0) (by omega))
  have CC := Lib.hid (fun (n : Nat) => hasC_any 17 enters_right1 #[.pointer (some ⟨w.heap.size, 0, none⟩)] (fun c => !rightC c (lr : Int)) (h.below rCon_stays (hB0.trans ((below_drewN (n := n) (Below.refl _ W0)).mono hB0.size))) (by omega) (fun u x v1 v2 v3 hB hx hc => right1_any pr w.heap.size lr cr u hc (hs x hx) (cell_stays ((below_drewN (n := n) (Below.refl _ W0)).trans hB) hbx)))
  have e1 : rightG l row = (rowOk row && l.all fun c => rightC c (lr : Int)) := by rw [hle]; rfl
  have CC0 := CC.out 0
  clear CC
  have CC := Lib.hid CC0
  clear CC0
  rw [any_not] at CC
  obtain ⟨R, hR⟩ : ∃ R, R = rightG l row := ⟨_, rfl⟩
  rw [← hR]
  rw [← hR] at e1
  have HR := Lib.hid e1
  obtain ⟨pv, bv, ov, cv, lv, rfl, _, _⟩ := h
  have HB0 := Lib.hid hB0
  have HW := Lib.hid hW0
  have HBX := Lib.hid hbx
  clear e1 hR hB0 hW0 hle hr hs hbx
  obtain ⟨Q, hQ⟩ : ∃ Q, Q = l.all fun c => rightC c (lr : Int) := ⟨_, rfl⟩
  rw [← hQ] at CC HR
  clear hQ
  cases e : rowOk row
  · rw [e] at CI HR
    have key : R = false := HR.out
    subst key
    clear e
    have hbx := HBX.out
    go_enter Try.func10, Try.ntmps10
    go_upto_region 1 with fail
    rw [← HW.out]
    go_wp2_with fail
    refine CI.out.mono ?_
    rintro e w2 ⟨rfl, rfl⟩
    go_wp2_with fail
    go_ret
    exact ⟨rfl, HB0.out⟩
  · rw [e] at CI HR
    have key : R = Q := HR.out
    subst key
    clear e
    have hbx := HBX.out
    go_enter Try.func10, Try.ntmps10
    go_upto_region 1 with fail
    rw [← HW.out]
    go_wp2_with fail
    refine CI.out.mono ?_
    rintro e w2 ⟨rfl, rfl⟩
    go_wp2_with fail
    refine CC.out.mono ?_
    rintro e w3 ⟨rfl, hB⟩
    have HB := Lib.hid (HB0.out.trans (hB.mono HB0.out.size))
    clear hB
    go_wp2_with fail
    go_ret
    exact ⟨ret_b (by cases R <;> rfl), HB.out⟩
end Go.Proofs.Ytkhjnicmbkklpaa.Gr
