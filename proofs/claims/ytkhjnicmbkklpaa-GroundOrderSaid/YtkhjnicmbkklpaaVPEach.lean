/-
  What asks of package ground hands back, and what All's closure answers of a constraint that may be, kind by kind.
-/
import Derived.Test.YtkhjnicmbkklpaaVPAsk
namespace Go.Proofs.Ytkhjnicmbkklpaa.Gr
open Go.RowKit
set_option maxRecDepth 100000

theorem nums_stay {w w' : World} {p : Option Addr} {b off len : Nat} {xs : List Int} (h : Nums w p b off len xs) (hB : Below w.heap.size w w') : Nums w' p b off len xs :=
  ⟨h.long, h.at_, fun k hk => cell_stays hB (h.cell k hk), h.fit⟩

set_option maxHeartbeats 1000000 in
theorem ask_one (p1 p2 p3 : Option Addr) (l1 l2 l3 c1 c2 c3 : Nat) (rl ct : Int) (w : World) :
    Calls Try.prog 21 #[.agg #[.int .i64 1, .slice p1 l1 c1, .slice p2 l2 c2, .int .i64 rl, .int .i64 ct, .slice p3 l3 c3]] w fun e w' => e = .returned (.func (.func 31) #[] #[.pointer (some ⟨w.heap.size, 0, none⟩)]) ∧ At6 w' w.heap.size (.int .i64 1) (.slice p1 l1 c1) (.slice p2 l2 c2) (.int .i64 rl) (.int .i64 ct) (.slice p3 l3 c3) ∧ Below w.heap.size w w' := by
  have hB0 := Lib.hid ((Below.refl _ w).alloc (Nat.le_refl _) (.cells #[.int .i64 1, .slice p1 l1 c1, .slice p2 l2 c2, .int .i64 rl, .int .i64 ct, .slice p3 l3 c3] 27))
  have h6 := Lib.hid (six_new w (.int .i64 1) (.slice p1 l1 c1) (.slice p2 l2 c2) (.int .i64 rl) (.int .i64 ct) (.slice p3 l3 c3) 27)
  go_enter Try.func21, Try.ntmps21
  go_wp2_with fail
  go_ret
  exact ⟨rfl, h6.out, hB0.out⟩

set_option maxHeartbeats 1000000 in
theorem ask_two (p1 p2 p3 : Option Addr) (l1 l2 l3 c1 c2 c3 : Nat) (rl ct : Int) (w : World) :
    Calls Try.prog 21 #[.agg #[.int .i64 2, .slice p1 l1 c1, .slice p2 l2 c2, .int .i64 rl, .int .i64 ct, .slice p3 l3 c3]] w fun e w' => e = .returned (.func (.func 34) #[] #[]) ∧ At6 w' w.heap.size (.int .i64 2) (.slice p1 l1 c1) (.slice p2 l2 c2) (.int .i64 rl) (.int .i64 ct) (.slice p3 l3 c3) ∧ Below w.heap.size w w' := by
  have hB0 := Lib.hid ((Below.refl _ w).alloc (Nat.le_refl _) (.cells #[.int .i64 2, .slice p1 l1 c1, .slice p2 l2 c2, .int .i64 rl, .int .i64 ct, .slice p3 l3 c3] 27))
  have h6 := Lib.hid (six_new w (.int .i64 2) (.slice p1 l1 c1) (.slice p2 l2 c2) (.int .i64 rl) (.int .i64 ct) (.slice p3 l3 c3) 27)
  go_enter Try.func21, Try.ntmps21
  go_wp2_with fail
  go_ret
  exact ⟨rfl, h6.out, hB0.out⟩

set_option maxHeartbeats 1000000 in
theorem ask_three (p1 p2 p3 : Option Addr) (l1 l2 l3 c1 c2 c3 : Nat) (rl ct : Int) (w : World) :
    Calls Try.prog 21 #[.agg #[.int .i64 3, .slice p1 l1 c1, .slice p2 l2 c2, .int .i64 rl, .int .i64 ct, .slice p3 l3 c3]] w fun e w' => e = .returned (.func (.func 33) #[] #[.pointer (some ⟨w.heap.size, 0, none⟩)]) ∧ At6 w' w.heap.size (.int .i64 3) (.slice p1 l1 c1) (.slice p2 l2 c2) (.int .i64 rl) (.int .i64 ct) (.slice p3 l3 c3) ∧ Below w.heap.size w w' := by
  have hB0 := Lib.hid ((Below.refl _ w).alloc (Nat.le_refl _) (.cells #[.int .i64 3, .slice p1 l1 c1, .slice p2 l2 c2, .int .i64 rl, .int .i64 ct, .slice p3 l3 c3] 27))
  have h6 := Lib.hid (six_new w (.int .i64 3) (.slice p1 l1 c1) (.slice p2 l2 c2) (.int .i64 rl) (.int .i64 ct) (.slice p3 l3 c3) 27)
  go_enter Try.func21, Try.ntmps21
  go_wp2_with fail
  go_ret
  exact ⟨rfl, h6.out, hB0.out⟩

set_option maxHeartbeats 1000000 in
theorem ask_four (p1 p2 p3 : Option Addr) (l1 l2 l3 c1 c2 c3 : Nat) (rl ct : Int) (w : World) :
    Calls Try.prog 21 #[.agg #[.int .i64 4, .slice p1 l1 c1, .slice p2 l2 c2, .int .i64 rl, .int .i64 ct, .slice p3 l3 c3]] w fun e w' => e = .returned (.func (.func 35) #[] #[.pointer (some ⟨w.heap.size, 0, none⟩)]) ∧ At6 w' w.heap.size (.int .i64 4) (.slice p1 l1 c1) (.slice p2 l2 c2) (.int .i64 rl) (.int .i64 ct) (.slice p3 l3 c3) ∧ Below w.heap.size w w' := by
  have hB0 := Lib.hid ((Below.refl _ w).alloc (Nat.le_refl _) (.cells #[.int .i64 4, .slice p1 l1 c1, .slice p2 l2 c2, .int .i64 rl, .int .i64 ct, .slice p3 l3 c3] 27))
  have h6 := Lib.hid (six_new w (.int .i64 4) (.slice p1 l1 c1) (.slice p2 l2 c2) (.int .i64 rl) (.int .i64 ct) (.slice p3 l3 c3) 27)
  go_enter Try.func21, Try.ntmps21
  go_wp2_with fail
  go_ret
  exact ⟨rfl, h6.out, hB0.out⟩

set_option maxHeartbeats 1000000 in
theorem ask_five (p1 p2 p3 : Option Addr) (l1 l2 l3 c1 c2 c3 : Nat) (rl ct : Int) (w : World) :
    Calls Try.prog 21 #[.agg #[.int .i64 5, .slice p1 l1 c1, .slice p2 l2 c2, .int .i64 rl, .int .i64 ct, .slice p3 l3 c3]] w fun e w' => e = .returned (.func (.func 36) #[] #[]) ∧ At6 w' w.heap.size (.int .i64 5) (.slice p1 l1 c1) (.slice p2 l2 c2) (.int .i64 rl) (.int .i64 ct) (.slice p3 l3 c3) ∧ Below w.heap.size w w' := by
  have hB0 := Lib.hid ((Below.refl _ w).alloc (Nat.le_refl _) (.cells #[.int .i64 5, .slice p1 l1 c1, .slice p2 l2 c2, .int .i64 rl, .int .i64 ct, .slice p3 l3 c3] 27))
  have h6 := Lib.hid (six_new w (.int .i64 5) (.slice p1 l1 c1) (.slice p2 l2 c2) (.int .i64 rl) (.int .i64 ct) (.slice p3 l3 c3) 27)
  go_enter Try.func21, Try.ntmps21
  go_wp2_with fail
  go_ret
  exact ⟨rfl, h6.out, hB0.out⟩

set_option maxHeartbeats 1000000 in
theorem ask_six (p1 p2 p3 : Option Addr) (l1 l2 l3 c1 c2 c3 : Nat) (rl ct : Int) (w : World) :
    Calls Try.prog 21 #[.agg #[.int .i64 6, .slice p1 l1 c1, .slice p2 l2 c2, .int .i64 rl, .int .i64 ct, .slice p3 l3 c3]] w fun e w' => e = .returned (.func (.func 37) #[] #[.pointer (some ⟨w.heap.size, 0, none⟩)]) ∧ At6 w' w.heap.size (.int .i64 6) (.slice p1 l1 c1) (.slice p2 l2 c2) (.int .i64 rl) (.int .i64 ct) (.slice p3 l3 c3) ∧ Below w.heap.size w w' := by
  have hB0 := Lib.hid ((Below.refl _ w).alloc (Nat.le_refl _) (.cells #[.int .i64 6, .slice p1 l1 c1, .slice p2 l2 c2, .int .i64 rl, .int .i64 ct, .slice p3 l3 c3] 27))
  have h6 := Lib.hid (six_new w (.int .i64 6) (.slice p1 l1 c1) (.slice p2 l2 c2) (.int .i64 rl) (.int .i64 ct) (.slice p3 l3 c3) 27)
  go_enter Try.func21, Try.ntmps21
  go_wp2_with fail
  go_ret
  exact ⟨rfl, h6.out, hB0.out⟩

section
variable {c : PCon} {row : List Int} {n : Int} (p1 p2 p3 pr : Option Addr) (b1 o1 b2 o2 b3 o3 br orr bx l1 l2 l3 lr c1 c2 c3 cr : Nat) (w : World)
  (h1 : Nums w p1 b1 o1 l1 c.vars) (h2 : Nums w p2 b2 o2 l2 c.coefs) (h3 : Nums w p3 b3 o3 l3 c.nums) (hr : Nums w pr br orr lr row) (hbx : w.cell? ⟨bx, 0, none⟩ = some (.slice pr lr cr))
  (hok : rowOk row = true) (hrt : rightC c (lr : Int) = true) (hl1 : l1 ≤ 1000) (hl3 : l3 ≤ 1000) (hc3 : l3 ≤ c3)
include h1 h2 h3 hr hbx hok hrt hl1 hl3 hc3

set_option maxHeartbeats 4000000 in
theorem each_one (kd rl ct : Int) (ekd : kd = c.kind) (erl : rl = c.rel) (ect : ct = c.const) (hk : kd = 1) :
    Calls Try.prog 20 #[.agg #[.int .i64 kd, .slice p1 l1 c1, .slice p2 l2 c2, .int .i64 rl, .int .i64 ct, .slice p3 l3 c3], .pointer (some ⟨bx, 0, none⟩)] w fun e w' => e = .returned (.bool (!holdsG c row)) ∧ Below w.heap.size w w' := by
  have hvl := h1.long
  obtain ⟨W0, hW0⟩ : ∃ W0, W0 = w.alloc (.cells #[.int .i64 kd, .slice p1 l1 c1, .slice p2 l2 c2, .int .i64 rl, .int .i64 ct, .slice p3 l3 c3] 27) := ⟨_, rfl⟩
  have hB0 : Below w.heap.size w W0 := by rw [hW0]; exact (Below.refl _ w).alloc (Nat.le_refl _) _
  have h6 : At6 W0 w.heap.size (.int .i64 kd) (.slice p1 l1 c1) (.slice p2 l2 c2) (.int .i64 rl) (.int .i64 ct) (.slice p3 l3 c3) := by rw [hW0]; exact six_new _ _ _ _ _ _ _ _
  have N1 := Lib.hid (nums_stay h1 hB0)
  have N2 := Lib.hid (nums_stay h2 hB0)
  have N3 := Lib.hid (nums_stay h3 hB0)
  have NR := Lib.hid (nums_stay hr hB0)
  have HIN := Lib.hid (show ∀ v ∈ c.vars, 0 ≤ v ∧ v < (lr : Int) from fun v hv => vars_in (vars_on hrt) hv)
  have AK := Lib.hid (fun u => ask_one p1 p2 p3 l1 l2 l3 c1 c2 c3 rl ct u)
  have VL := Lib.hid (fun (u : World) (hB : Below W0.heap.size W0 u) => values_cells p1 pr b1 o1 l1 c1 br orr lr cr c.vars row u (nums_stay N1.out hB) (nums_stay NR.out hB) hl1 HIN.out)
  have CL := Lib.hid (fun (u : World) (bk bv : Nat) (hA : At6 u bk (.int .i64 kd) (.slice p1 l1 c1) (.slice p2 l2 c2) (.int .i64 rl) (.int .i64 ct) (.slice p3 l3 c3)) (hN : Nums u (some ⟨bv, 0, none⟩) bv 0 l1 (c.vars.map (val row))) (hB : Below W0.heap.size W0 u) => cl_one p1 p2 p3 (some ⟨bv, 0, none⟩) bk b2 o2 b3 o3 bv 0 l1 l2 l3 c1 c2 c3 l1 u (by rw [← ekd, ← erl, ← ect]; exact hA) (nums_stay N2.out hB) (nums_stay N3.out hB) hN hok hrt hl1 hl3 (Nat.le_refl _) hc3 hvl (ekd ▸ hk))
  obtain ⟨R, hR⟩ : ∃ R, R = holdsG c row := ⟨_, rfl⟩
  rw [← hR] at CL ⊢
  obtain rfl := hk
  have H0 := Lib.hid (And.intro h6.c0 (And.intro h6.c1 (And.intro h6.c2 (And.intro h6.c3 (And.intro h6.c4 (And.intro h6.c5 (And.intro (cell_stays hB0 hbx) (Below.refl W0.heap.size W0))))))))
  have HB0 := Lib.hid hB0
  have HW := Lib.hid hW0
  clear hvl hB0 h6 h1 h2 h3 hr hbx hok hrt ekd erl ect hR hW0
  go_enter Try.func20, Try.ntmps20
  go_upto_region 1 with fail
  rw [← HW.out]
  go_region_held3 (fun w' => w'.cell? ⟨w.heap.size, 0, none⟩ = some (.int .i64 1) ∧ w'.cell? ⟨w.heap.size, 1, none⟩ = some (.slice p1 l1 c1) ∧ w'.cell? ⟨w.heap.size, 2, none⟩ = some (.slice p2 l2 c2) ∧ w'.cell? ⟨w.heap.size, 3, none⟩ = some (.int .i64 rl) ∧ w'.cell? ⟨w.heap.size, 4, none⟩ = some (.int .i64 ct) ∧ w'.cell? ⟨w.heap.size, 5, none⟩ = some (.slice p3 l3 c3) ∧ w'.cell? ⟨bx, 0, none⟩ = some (.slice pr lr cr) ∧ Below W0.heap.size W0 w')
    (first | exact heldR (by assumption) (by assumption) | exact heldR H0.out (below_drewN (n := 1) (Below.refl _ _)) | exact heldR H0.out (below_drewN (below_drewN (n := 1) (Below.refl _ _))))
    (first
      | (go_at_call 21; refine (AK.out _).mono ?_; rintro e w' ⟨rfl, hA, hB⟩; have HA := Lib.hid hA; (first | (have HN := Lib.hid (nums_stay HN.out hB)) | skip); clear hA)
      | (go_at_call 22; refine (VL.out _ (heldRb (by assumption))).mono ?_; rintro e w' ⟨rfl, hN, hB⟩; have HN := Lib.hid hN; (first | (have HA := Lib.hid (six_stay HA.out hB)) | skip); clear hN)
      | (go_at_call 31; refine (CL.out _ _ _ HA.out HN.out (heldRb (by assumption))).mono ?_; rintro e u3 ⟨rfl, hB⟩))
  all_goals
    have HH := Lib.hid (heldRb (by assumption : u3.cell? ⟨w.heap.size, 0, none⟩ = some (.int .i64 1) ∧ u3.cell? ⟨w.heap.size, 1, none⟩ = some (.slice p1 l1 c1) ∧ u3.cell? ⟨w.heap.size, 2, none⟩ = some (.slice p2 l2 c2) ∧ u3.cell? ⟨w.heap.size, 3, none⟩ = some (.int .i64 rl) ∧ u3.cell? ⟨w.heap.size, 4, none⟩ = some (.int .i64 ct) ∧ u3.cell? ⟨w.heap.size, 5, none⟩ = some (.slice p3 l3 c3) ∧ u3.cell? ⟨bx, 0, none⟩ = some (.slice pr lr cr) ∧ Below W0.heap.size W0 u3))
    go_wp2_with fail
    go_ret
    exact ⟨rfl, HB0.out.trans (HH.out.mono HB0.out.size)⟩

set_option maxHeartbeats 4000000 in
theorem each_two (kd rl ct : Int) (ekd : kd = c.kind) (erl : rl = c.rel) (ect : ct = c.const) (hk : kd = 2) :
    Calls Try.prog 20 #[.agg #[.int .i64 kd, .slice p1 l1 c1, .slice p2 l2 c2, .int .i64 rl, .int .i64 ct, .slice p3 l3 c3], .pointer (some ⟨bx, 0, none⟩)] w fun e w' => e = .returned (.bool (!holdsG c row)) ∧ Below w.heap.size w w' := by
  have hvl := h1.long
  obtain ⟨W0, hW0⟩ : ∃ W0, W0 = w.alloc (.cells #[.int .i64 kd, .slice p1 l1 c1, .slice p2 l2 c2, .int .i64 rl, .int .i64 ct, .slice p3 l3 c3] 27) := ⟨_, rfl⟩
  have hB0 : Below w.heap.size w W0 := by rw [hW0]; exact (Below.refl _ w).alloc (Nat.le_refl _) _
  have h6 : At6 W0 w.heap.size (.int .i64 kd) (.slice p1 l1 c1) (.slice p2 l2 c2) (.int .i64 rl) (.int .i64 ct) (.slice p3 l3 c3) := by rw [hW0]; exact six_new _ _ _ _ _ _ _ _
  have N1 := Lib.hid (nums_stay h1 hB0)
  have N2 := Lib.hid (nums_stay h2 hB0)
  have N3 := Lib.hid (nums_stay h3 hB0)
  have NR := Lib.hid (nums_stay hr hB0)
  have HIN := Lib.hid (show ∀ v ∈ c.vars, 0 ≤ v ∧ v < (lr : Int) from fun v hv => vars_in (vars_on hrt) hv)
  have AK := Lib.hid (fun u => ask_two p1 p2 p3 l1 l2 l3 c1 c2 c3 rl ct u)
  have VL := Lib.hid (fun (u : World) (hB : Below W0.heap.size W0 u) => values_cells p1 pr b1 o1 l1 c1 br orr lr cr c.vars row u (nums_stay N1.out hB) (nums_stay NR.out hB) hl1 HIN.out)
  have CL := Lib.hid (fun (u : World) (bv : Nat) (hN : Nums u (some ⟨bv, 0, none⟩) bv 0 l1 (c.vars.map (val row))) (hB : Below W0.heap.size W0 u) => cl_two p1 p2 p3 (some ⟨bv, 0, none⟩) w.heap.size b2 o2 b3 o3 bv 0 l1 l2 l3 c1 c2 c3 l1 u (by rw [← ekd, ← erl, ← ect]; exact six_stay h6 hB) (nums_stay N2.out hB) (nums_stay N3.out hB) hN hok hrt hl1 hl3 (Nat.le_refl _) hc3 hvl (ekd ▸ hk))
  obtain ⟨R, hR⟩ : ∃ R, R = holdsG c row := ⟨_, rfl⟩
  rw [← hR] at CL ⊢
  obtain rfl := hk
  have H0 := Lib.hid (And.intro h6.c0 (And.intro h6.c1 (And.intro h6.c2 (And.intro h6.c3 (And.intro h6.c4 (And.intro h6.c5 (And.intro (cell_stays hB0 hbx) (Below.refl W0.heap.size W0))))))))
  have HB0 := Lib.hid hB0
  have HW := Lib.hid hW0
  clear hvl hB0 h6 h1 h2 h3 hr hbx hok hrt ekd erl ect hR hW0
  go_enter Try.func20, Try.ntmps20
  go_upto_region 1 with fail
  rw [← HW.out]
  go_region_held3 (fun w' => w'.cell? ⟨w.heap.size, 0, none⟩ = some (.int .i64 2) ∧ w'.cell? ⟨w.heap.size, 1, none⟩ = some (.slice p1 l1 c1) ∧ w'.cell? ⟨w.heap.size, 2, none⟩ = some (.slice p2 l2 c2) ∧ w'.cell? ⟨w.heap.size, 3, none⟩ = some (.int .i64 rl) ∧ w'.cell? ⟨w.heap.size, 4, none⟩ = some (.int .i64 ct) ∧ w'.cell? ⟨w.heap.size, 5, none⟩ = some (.slice p3 l3 c3) ∧ w'.cell? ⟨bx, 0, none⟩ = some (.slice pr lr cr) ∧ Below W0.heap.size W0 w')
    (first | exact heldR (by assumption) (by assumption) | exact heldR H0.out (below_drewN (n := 1) (Below.refl _ _)) | exact heldR H0.out (below_drewN (below_drewN (n := 1) (Below.refl _ _))))
    (first
      | (go_at_call 21; refine (AK.out _).mono ?_; rintro e w' ⟨rfl, _, hB⟩; (first | (have HN := Lib.hid (nums_stay HN.out hB)) | skip))
      | (go_at_call 22; refine (VL.out _ (heldRb (by assumption))).mono ?_; rintro e w' ⟨rfl, hN, hB⟩; have HN := Lib.hid hN; clear hN)
      | (go_at_call 34; refine (CL.out _ _ HN.out (heldRb (by assumption))).mono ?_; rintro e u3 ⟨rfl, hB⟩))
  all_goals
    have HH := Lib.hid (heldRb (by assumption : u3.cell? ⟨w.heap.size, 0, none⟩ = some (.int .i64 2) ∧ u3.cell? ⟨w.heap.size, 1, none⟩ = some (.slice p1 l1 c1) ∧ u3.cell? ⟨w.heap.size, 2, none⟩ = some (.slice p2 l2 c2) ∧ u3.cell? ⟨w.heap.size, 3, none⟩ = some (.int .i64 rl) ∧ u3.cell? ⟨w.heap.size, 4, none⟩ = some (.int .i64 ct) ∧ u3.cell? ⟨w.heap.size, 5, none⟩ = some (.slice p3 l3 c3) ∧ u3.cell? ⟨bx, 0, none⟩ = some (.slice pr lr cr) ∧ Below W0.heap.size W0 u3))
    go_wp2_with fail
    go_ret
    exact ⟨rfl, HB0.out.trans (HH.out.mono HB0.out.size)⟩

set_option maxHeartbeats 4000000 in
theorem each_three (kd rl ct : Int) (ekd : kd = c.kind) (erl : rl = c.rel) (ect : ct = c.const) (hk : kd = 3) :
    Calls Try.prog 20 #[.agg #[.int .i64 kd, .slice p1 l1 c1, .slice p2 l2 c2, .int .i64 rl, .int .i64 ct, .slice p3 l3 c3], .pointer (some ⟨bx, 0, none⟩)] w fun e w' => e = .returned (.bool (!holdsG c row)) ∧ Below w.heap.size w w' := by
  have hvl := h1.long
  obtain ⟨W0, hW0⟩ : ∃ W0, W0 = w.alloc (.cells #[.int .i64 kd, .slice p1 l1 c1, .slice p2 l2 c2, .int .i64 rl, .int .i64 ct, .slice p3 l3 c3] 27) := ⟨_, rfl⟩
  have hB0 : Below w.heap.size w W0 := by rw [hW0]; exact (Below.refl _ w).alloc (Nat.le_refl _) _
  have h6 : At6 W0 w.heap.size (.int .i64 kd) (.slice p1 l1 c1) (.slice p2 l2 c2) (.int .i64 rl) (.int .i64 ct) (.slice p3 l3 c3) := by rw [hW0]; exact six_new _ _ _ _ _ _ _ _
  have N1 := Lib.hid (nums_stay h1 hB0)
  have N2 := Lib.hid (nums_stay h2 hB0)
  have N3 := Lib.hid (nums_stay h3 hB0)
  have NR := Lib.hid (nums_stay hr hB0)
  have HIN := Lib.hid (show ∀ v ∈ c.vars, 0 ≤ v ∧ v < (lr : Int) from fun v hv => vars_in (vars_on hrt) hv)
  have AK := Lib.hid (fun u => ask_three p1 p2 p3 l1 l2 l3 c1 c2 c3 rl ct u)
  have VL := Lib.hid (fun (u : World) (hB : Below W0.heap.size W0 u) => values_cells p1 pr b1 o1 l1 c1 br orr lr cr c.vars row u (nums_stay N1.out hB) (nums_stay NR.out hB) hl1 HIN.out)
  have CL := Lib.hid (fun (u : World) (bk bv : Nat) (hA : At6 u bk (.int .i64 kd) (.slice p1 l1 c1) (.slice p2 l2 c2) (.int .i64 rl) (.int .i64 ct) (.slice p3 l3 c3)) (hN : Nums u (some ⟨bv, 0, none⟩) bv 0 l1 (c.vars.map (val row))) (hB : Below W0.heap.size W0 u) => cl_three p1 p2 p3 (some ⟨bv, 0, none⟩) bk b2 o2 b3 o3 bv 0 l1 l2 l3 c1 c2 c3 l1 u (by rw [← ekd, ← erl, ← ect]; exact hA) (nums_stay N2.out hB) (nums_stay N3.out hB) hN hok hrt hl1 hl3 (Nat.le_refl _) hc3 hvl (ekd ▸ hk))
  obtain ⟨R, hR⟩ : ∃ R, R = holdsG c row := ⟨_, rfl⟩
  rw [← hR] at CL ⊢
  obtain rfl := hk
  have H0 := Lib.hid (And.intro h6.c0 (And.intro h6.c1 (And.intro h6.c2 (And.intro h6.c3 (And.intro h6.c4 (And.intro h6.c5 (And.intro (cell_stays hB0 hbx) (Below.refl W0.heap.size W0))))))))
  have HB0 := Lib.hid hB0
  have HW := Lib.hid hW0
  clear hvl hB0 h6 h1 h2 h3 hr hbx hok hrt ekd erl ect hR hW0
  go_enter Try.func20, Try.ntmps20
  go_upto_region 1 with fail
  rw [← HW.out]
  go_region_held3 (fun w' => w'.cell? ⟨w.heap.size, 0, none⟩ = some (.int .i64 3) ∧ w'.cell? ⟨w.heap.size, 1, none⟩ = some (.slice p1 l1 c1) ∧ w'.cell? ⟨w.heap.size, 2, none⟩ = some (.slice p2 l2 c2) ∧ w'.cell? ⟨w.heap.size, 3, none⟩ = some (.int .i64 rl) ∧ w'.cell? ⟨w.heap.size, 4, none⟩ = some (.int .i64 ct) ∧ w'.cell? ⟨w.heap.size, 5, none⟩ = some (.slice p3 l3 c3) ∧ w'.cell? ⟨bx, 0, none⟩ = some (.slice pr lr cr) ∧ Below W0.heap.size W0 w')
    (first | exact heldR (by assumption) (by assumption) | exact heldR H0.out (below_drewN (n := 1) (Below.refl _ _)) | exact heldR H0.out (below_drewN (below_drewN (n := 1) (Below.refl _ _))))
    (first
      | (go_at_call 21; refine (AK.out _).mono ?_; rintro e w' ⟨rfl, hA, hB⟩; have HA := Lib.hid hA; (first | (have HN := Lib.hid (nums_stay HN.out hB)) | skip); clear hA)
      | (go_at_call 22; refine (VL.out _ (heldRb (by assumption))).mono ?_; rintro e w' ⟨rfl, hN, hB⟩; have HN := Lib.hid hN; (first | (have HA := Lib.hid (six_stay HA.out hB)) | skip); clear hN)
      | (go_at_call 33; refine (CL.out _ _ _ HA.out HN.out (heldRb (by assumption))).mono ?_; rintro e u3 ⟨rfl, hB⟩))
  all_goals
    have HH := Lib.hid (heldRb (by assumption : u3.cell? ⟨w.heap.size, 0, none⟩ = some (.int .i64 3) ∧ u3.cell? ⟨w.heap.size, 1, none⟩ = some (.slice p1 l1 c1) ∧ u3.cell? ⟨w.heap.size, 2, none⟩ = some (.slice p2 l2 c2) ∧ u3.cell? ⟨w.heap.size, 3, none⟩ = some (.int .i64 rl) ∧ u3.cell? ⟨w.heap.size, 4, none⟩ = some (.int .i64 ct) ∧ u3.cell? ⟨w.heap.size, 5, none⟩ = some (.slice p3 l3 c3) ∧ u3.cell? ⟨bx, 0, none⟩ = some (.slice pr lr cr) ∧ Below W0.heap.size W0 u3))
    go_wp2_with fail
    go_ret
    exact ⟨rfl, HB0.out.trans (HH.out.mono HB0.out.size)⟩

set_option maxHeartbeats 4000000 in
theorem each_four (kd rl ct : Int) (ekd : kd = c.kind) (erl : rl = c.rel) (ect : ct = c.const) (hk : kd = 4) :
    Calls Try.prog 20 #[.agg #[.int .i64 kd, .slice p1 l1 c1, .slice p2 l2 c2, .int .i64 rl, .int .i64 ct, .slice p3 l3 c3], .pointer (some ⟨bx, 0, none⟩)] w fun e w' => e = .returned (.bool (!holdsG c row)) ∧ Below w.heap.size w w' := by
  have hvl := h1.long
  obtain ⟨W0, hW0⟩ : ∃ W0, W0 = w.alloc (.cells #[.int .i64 kd, .slice p1 l1 c1, .slice p2 l2 c2, .int .i64 rl, .int .i64 ct, .slice p3 l3 c3] 27) := ⟨_, rfl⟩
  have hB0 : Below w.heap.size w W0 := by rw [hW0]; exact (Below.refl _ w).alloc (Nat.le_refl _) _
  have h6 : At6 W0 w.heap.size (.int .i64 kd) (.slice p1 l1 c1) (.slice p2 l2 c2) (.int .i64 rl) (.int .i64 ct) (.slice p3 l3 c3) := by rw [hW0]; exact six_new _ _ _ _ _ _ _ _
  have N1 := Lib.hid (nums_stay h1 hB0)
  have N2 := Lib.hid (nums_stay h2 hB0)
  have N3 := Lib.hid (nums_stay h3 hB0)
  have NR := Lib.hid (nums_stay hr hB0)
  have HIN := Lib.hid (show ∀ v ∈ c.vars, 0 ≤ v ∧ v < (lr : Int) from fun v hv => vars_in (vars_on hrt) hv)
  have AK := Lib.hid (fun u => ask_four p1 p2 p3 l1 l2 l3 c1 c2 c3 rl ct u)
  have VL := Lib.hid (fun (u : World) (hB : Below W0.heap.size W0 u) => values_cells p1 pr b1 o1 l1 c1 br orr lr cr c.vars row u (nums_stay N1.out hB) (nums_stay NR.out hB) hl1 HIN.out)
  have CL := Lib.hid (fun (u : World) (bk bv : Nat) (hA : At6 u bk (.int .i64 kd) (.slice p1 l1 c1) (.slice p2 l2 c2) (.int .i64 rl) (.int .i64 ct) (.slice p3 l3 c3)) (hN : Nums u (some ⟨bv, 0, none⟩) bv 0 l1 (c.vars.map (val row))) (hB : Below W0.heap.size W0 u) => cl_four p1 p2 p3 (some ⟨bv, 0, none⟩) bk b2 o2 b3 o3 bv 0 l1 l2 l3 c1 c2 c3 l1 u (by rw [← ekd, ← erl, ← ect]; exact hA) (nums_stay N2.out hB) (nums_stay N3.out hB) hN hok hrt hl1 hl3 (Nat.le_refl _) hc3 hvl (ekd ▸ hk))
  obtain ⟨R, hR⟩ : ∃ R, R = holdsG c row := ⟨_, rfl⟩
  rw [← hR] at CL ⊢
  obtain rfl := hk
  have H0 := Lib.hid (And.intro h6.c0 (And.intro h6.c1 (And.intro h6.c2 (And.intro h6.c3 (And.intro h6.c4 (And.intro h6.c5 (And.intro (cell_stays hB0 hbx) (Below.refl W0.heap.size W0))))))))
  have HB0 := Lib.hid hB0
  have HW := Lib.hid hW0
  clear hvl hB0 h6 h1 h2 h3 hr hbx hok hrt ekd erl ect hR hW0
  go_enter Try.func20, Try.ntmps20
  go_upto_region 1 with fail
  rw [← HW.out]
  go_region_held3 (fun w' => w'.cell? ⟨w.heap.size, 0, none⟩ = some (.int .i64 4) ∧ w'.cell? ⟨w.heap.size, 1, none⟩ = some (.slice p1 l1 c1) ∧ w'.cell? ⟨w.heap.size, 2, none⟩ = some (.slice p2 l2 c2) ∧ w'.cell? ⟨w.heap.size, 3, none⟩ = some (.int .i64 rl) ∧ w'.cell? ⟨w.heap.size, 4, none⟩ = some (.int .i64 ct) ∧ w'.cell? ⟨w.heap.size, 5, none⟩ = some (.slice p3 l3 c3) ∧ w'.cell? ⟨bx, 0, none⟩ = some (.slice pr lr cr) ∧ Below W0.heap.size W0 w')
    (first | exact heldR (by assumption) (by assumption) | exact heldR H0.out (below_drewN (n := 1) (Below.refl _ _)) | exact heldR H0.out (below_drewN (below_drewN (n := 1) (Below.refl _ _))))
    (first
      | (go_at_call 21; refine (AK.out _).mono ?_; rintro e w' ⟨rfl, hA, hB⟩; have HA := Lib.hid hA; (first | (have HN := Lib.hid (nums_stay HN.out hB)) | skip); clear hA)
      | (go_at_call 22; refine (VL.out _ (heldRb (by assumption))).mono ?_; rintro e w' ⟨rfl, hN, hB⟩; have HN := Lib.hid hN; (first | (have HA := Lib.hid (six_stay HA.out hB)) | skip); clear hN)
      | (go_at_call 35; refine (CL.out _ _ _ HA.out HN.out (heldRb (by assumption))).mono ?_; rintro e u3 ⟨rfl, hB⟩))
  all_goals
    have HH := Lib.hid (heldRb (by assumption : u3.cell? ⟨w.heap.size, 0, none⟩ = some (.int .i64 4) ∧ u3.cell? ⟨w.heap.size, 1, none⟩ = some (.slice p1 l1 c1) ∧ u3.cell? ⟨w.heap.size, 2, none⟩ = some (.slice p2 l2 c2) ∧ u3.cell? ⟨w.heap.size, 3, none⟩ = some (.int .i64 rl) ∧ u3.cell? ⟨w.heap.size, 4, none⟩ = some (.int .i64 ct) ∧ u3.cell? ⟨w.heap.size, 5, none⟩ = some (.slice p3 l3 c3) ∧ u3.cell? ⟨bx, 0, none⟩ = some (.slice pr lr cr) ∧ Below W0.heap.size W0 u3))
    go_wp2_with fail
    go_ret
    exact ⟨rfl, HB0.out.trans (HH.out.mono HB0.out.size)⟩

set_option maxHeartbeats 4000000 in
theorem each_five (kd rl ct : Int) (ekd : kd = c.kind) (erl : rl = c.rel) (ect : ct = c.const) (hk : kd = 5) :
    Calls Try.prog 20 #[.agg #[.int .i64 kd, .slice p1 l1 c1, .slice p2 l2 c2, .int .i64 rl, .int .i64 ct, .slice p3 l3 c3], .pointer (some ⟨bx, 0, none⟩)] w fun e w' => e = .returned (.bool (!holdsG c row)) ∧ Below w.heap.size w w' := by
  have hvl := h1.long
  obtain ⟨W0, hW0⟩ : ∃ W0, W0 = w.alloc (.cells #[.int .i64 kd, .slice p1 l1 c1, .slice p2 l2 c2, .int .i64 rl, .int .i64 ct, .slice p3 l3 c3] 27) := ⟨_, rfl⟩
  have hB0 : Below w.heap.size w W0 := by rw [hW0]; exact (Below.refl _ w).alloc (Nat.le_refl _) _
  have h6 : At6 W0 w.heap.size (.int .i64 kd) (.slice p1 l1 c1) (.slice p2 l2 c2) (.int .i64 rl) (.int .i64 ct) (.slice p3 l3 c3) := by rw [hW0]; exact six_new _ _ _ _ _ _ _ _
  have N1 := Lib.hid (nums_stay h1 hB0)
  have N2 := Lib.hid (nums_stay h2 hB0)
  have N3 := Lib.hid (nums_stay h3 hB0)
  have NR := Lib.hid (nums_stay hr hB0)
  have HIN := Lib.hid (show ∀ v ∈ c.vars, 0 ≤ v ∧ v < (lr : Int) from fun v hv => vars_in (vars_on hrt) hv)
  have AK := Lib.hid (fun u => ask_five p1 p2 p3 l1 l2 l3 c1 c2 c3 rl ct u)
  have VL := Lib.hid (fun (u : World) (hB : Below W0.heap.size W0 u) => values_cells p1 pr b1 o1 l1 c1 br orr lr cr c.vars row u (nums_stay N1.out hB) (nums_stay NR.out hB) hl1 HIN.out)
  have CL := Lib.hid (fun (u : World) (bv : Nat) (hN : Nums u (some ⟨bv, 0, none⟩) bv 0 l1 (c.vars.map (val row))) (hB : Below W0.heap.size W0 u) => cl_five p1 p2 p3 (some ⟨bv, 0, none⟩) w.heap.size b2 o2 b3 o3 bv 0 l1 l2 l3 c1 c2 c3 l1 u (by rw [← ekd, ← erl, ← ect]; exact six_stay h6 hB) (nums_stay N2.out hB) (nums_stay N3.out hB) hN hok hrt hl1 hl3 (Nat.le_refl _) hc3 hvl (ekd ▸ hk))
  obtain ⟨R, hR⟩ : ∃ R, R = holdsG c row := ⟨_, rfl⟩
  rw [← hR] at CL ⊢
  obtain rfl := hk
  have H0 := Lib.hid (And.intro h6.c0 (And.intro h6.c1 (And.intro h6.c2 (And.intro h6.c3 (And.intro h6.c4 (And.intro h6.c5 (And.intro (cell_stays hB0 hbx) (Below.refl W0.heap.size W0))))))))
  have HB0 := Lib.hid hB0
  have HW := Lib.hid hW0
  clear hvl hB0 h6 h1 h2 h3 hr hbx hok hrt ekd erl ect hR hW0
  go_enter Try.func20, Try.ntmps20
  go_upto_region 1 with fail
  rw [← HW.out]
  go_region_held3 (fun w' => w'.cell? ⟨w.heap.size, 0, none⟩ = some (.int .i64 5) ∧ w'.cell? ⟨w.heap.size, 1, none⟩ = some (.slice p1 l1 c1) ∧ w'.cell? ⟨w.heap.size, 2, none⟩ = some (.slice p2 l2 c2) ∧ w'.cell? ⟨w.heap.size, 3, none⟩ = some (.int .i64 rl) ∧ w'.cell? ⟨w.heap.size, 4, none⟩ = some (.int .i64 ct) ∧ w'.cell? ⟨w.heap.size, 5, none⟩ = some (.slice p3 l3 c3) ∧ w'.cell? ⟨bx, 0, none⟩ = some (.slice pr lr cr) ∧ Below W0.heap.size W0 w')
    (first | exact heldR (by assumption) (by assumption) | exact heldR H0.out (below_drewN (n := 1) (Below.refl _ _)) | exact heldR H0.out (below_drewN (below_drewN (n := 1) (Below.refl _ _))))
    (first
      | (go_at_call 21; refine (AK.out _).mono ?_; rintro e w' ⟨rfl, _, hB⟩; (first | (have HN := Lib.hid (nums_stay HN.out hB)) | skip))
      | (go_at_call 22; refine (VL.out _ (heldRb (by assumption))).mono ?_; rintro e w' ⟨rfl, hN, hB⟩; have HN := Lib.hid hN; clear hN)
      | (go_at_call 36; refine (CL.out _ _ HN.out (heldRb (by assumption))).mono ?_; rintro e u3 ⟨rfl, hB⟩))
  all_goals
    have HH := Lib.hid (heldRb (by assumption : u3.cell? ⟨w.heap.size, 0, none⟩ = some (.int .i64 5) ∧ u3.cell? ⟨w.heap.size, 1, none⟩ = some (.slice p1 l1 c1) ∧ u3.cell? ⟨w.heap.size, 2, none⟩ = some (.slice p2 l2 c2) ∧ u3.cell? ⟨w.heap.size, 3, none⟩ = some (.int .i64 rl) ∧ u3.cell? ⟨w.heap.size, 4, none⟩ = some (.int .i64 ct) ∧ u3.cell? ⟨w.heap.size, 5, none⟩ = some (.slice p3 l3 c3) ∧ u3.cell? ⟨bx, 0, none⟩ = some (.slice pr lr cr) ∧ Below W0.heap.size W0 u3))
    go_wp2_with fail
    go_ret
    exact ⟨rfl, HB0.out.trans (HH.out.mono HB0.out.size)⟩

set_option maxHeartbeats 4000000 in
theorem each_six (kd rl ct : Int) (ekd : kd = c.kind) (erl : rl = c.rel) (ect : ct = c.const) (hk : kd = 6) :
    Calls Try.prog 20 #[.agg #[.int .i64 kd, .slice p1 l1 c1, .slice p2 l2 c2, .int .i64 rl, .int .i64 ct, .slice p3 l3 c3], .pointer (some ⟨bx, 0, none⟩)] w fun e w' => e = .returned (.bool (!holdsG c row)) ∧ Below w.heap.size w w' := by
  have hvl := h1.long
  obtain ⟨W0, hW0⟩ : ∃ W0, W0 = w.alloc (.cells #[.int .i64 kd, .slice p1 l1 c1, .slice p2 l2 c2, .int .i64 rl, .int .i64 ct, .slice p3 l3 c3] 27) := ⟨_, rfl⟩
  have hB0 : Below w.heap.size w W0 := by rw [hW0]; exact (Below.refl _ w).alloc (Nat.le_refl _) _
  have h6 : At6 W0 w.heap.size (.int .i64 kd) (.slice p1 l1 c1) (.slice p2 l2 c2) (.int .i64 rl) (.int .i64 ct) (.slice p3 l3 c3) := by rw [hW0]; exact six_new _ _ _ _ _ _ _ _
  have N1 := Lib.hid (nums_stay h1 hB0)
  have N2 := Lib.hid (nums_stay h2 hB0)
  have N3 := Lib.hid (nums_stay h3 hB0)
  have NR := Lib.hid (nums_stay hr hB0)
  have HIN := Lib.hid (show ∀ v ∈ c.vars, 0 ≤ v ∧ v < (lr : Int) from fun v hv => vars_in (vars_on hrt) hv)
  have AK := Lib.hid (fun u => ask_six p1 p2 p3 l1 l2 l3 c1 c2 c3 rl ct u)
  have VL := Lib.hid (fun (u : World) (hB : Below W0.heap.size W0 u) => values_cells p1 pr b1 o1 l1 c1 br orr lr cr c.vars row u (nums_stay N1.out hB) (nums_stay NR.out hB) hl1 HIN.out)
  have CL := Lib.hid (fun (u : World) (bk bv : Nat) (hA : At6 u bk (.int .i64 kd) (.slice p1 l1 c1) (.slice p2 l2 c2) (.int .i64 rl) (.int .i64 ct) (.slice p3 l3 c3)) (hN : Nums u (some ⟨bv, 0, none⟩) bv 0 l1 (c.vars.map (val row))) (hB : Below W0.heap.size W0 u) => cl_six p1 p2 p3 (some ⟨bv, 0, none⟩) bk b2 o2 b3 o3 bv 0 l1 l2 l3 c1 c2 c3 l1 u (by rw [← ekd, ← erl, ← ect]; exact hA) (nums_stay N2.out hB) (nums_stay N3.out hB) hN hok hrt hl1 hl3 (Nat.le_refl _) hc3 hvl (ekd ▸ hk))
  obtain ⟨R, hR⟩ : ∃ R, R = holdsG c row := ⟨_, rfl⟩
  rw [← hR] at CL ⊢
  obtain rfl := hk
  have H0 := Lib.hid (And.intro h6.c0 (And.intro h6.c1 (And.intro h6.c2 (And.intro h6.c3 (And.intro h6.c4 (And.intro h6.c5 (And.intro (cell_stays hB0 hbx) (Below.refl W0.heap.size W0))))))))
  have HB0 := Lib.hid hB0
  have HW := Lib.hid hW0
  clear hvl hB0 h6 h1 h2 h3 hr hbx hok hrt ekd erl ect hR hW0
  go_enter Try.func20, Try.ntmps20
  go_upto_region 1 with fail
  rw [← HW.out]
  go_region_held3 (fun w' => w'.cell? ⟨w.heap.size, 0, none⟩ = some (.int .i64 6) ∧ w'.cell? ⟨w.heap.size, 1, none⟩ = some (.slice p1 l1 c1) ∧ w'.cell? ⟨w.heap.size, 2, none⟩ = some (.slice p2 l2 c2) ∧ w'.cell? ⟨w.heap.size, 3, none⟩ = some (.int .i64 rl) ∧ w'.cell? ⟨w.heap.size, 4, none⟩ = some (.int .i64 ct) ∧ w'.cell? ⟨w.heap.size, 5, none⟩ = some (.slice p3 l3 c3) ∧ w'.cell? ⟨bx, 0, none⟩ = some (.slice pr lr cr) ∧ Below W0.heap.size W0 w')
    (first | exact heldR (by assumption) (by assumption) | exact heldR H0.out (below_drewN (n := 1) (Below.refl _ _)) | exact heldR H0.out (below_drewN (below_drewN (n := 1) (Below.refl _ _))))
    (first
      | (go_at_call 21; refine (AK.out _).mono ?_; rintro e w' ⟨rfl, hA, hB⟩; have HA := Lib.hid hA; (first | (have HN := Lib.hid (nums_stay HN.out hB)) | skip); clear hA)
      | (go_at_call 22; refine (VL.out _ (heldRb (by assumption))).mono ?_; rintro e w' ⟨rfl, hN, hB⟩; have HN := Lib.hid hN; (first | (have HA := Lib.hid (six_stay HA.out hB)) | skip); clear hN)
      | (go_at_call 37; refine (CL.out _ _ _ HA.out HN.out (heldRb (by assumption))).mono ?_; rintro e u3 ⟨rfl, hB⟩))
  all_goals
    have HH := Lib.hid (heldRb (by assumption : u3.cell? ⟨w.heap.size, 0, none⟩ = some (.int .i64 6) ∧ u3.cell? ⟨w.heap.size, 1, none⟩ = some (.slice p1 l1 c1) ∧ u3.cell? ⟨w.heap.size, 2, none⟩ = some (.slice p2 l2 c2) ∧ u3.cell? ⟨w.heap.size, 3, none⟩ = some (.int .i64 rl) ∧ u3.cell? ⟨w.heap.size, 4, none⟩ = some (.int .i64 ct) ∧ u3.cell? ⟨w.heap.size, 5, none⟩ = some (.slice p3 l3 c3) ∧ u3.cell? ⟨bx, 0, none⟩ = some (.slice pr lr cr) ∧ Below W0.heap.size W0 u3))
    go_wp2_with fail
    go_ret
    exact ⟨rfl, HB0.out.trans (HH.out.mono HB0.out.size)⟩
end
end Go.Proofs.Ytkhjnicmbkklpaa.Gr
