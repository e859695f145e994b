/-
  What the closures that asks of package ground hands back answer, of the values of a constraint's variables: whether it holds.
-/
import Derived.Test.YtkhjnicmbkklpaaVPStand
import Derived.Test.YtkhjnicmbkklpaaVRholds
import Derived.Test.YtkhjnicmbkklpaaPRight
namespace Go.Proofs.Ytkhjnicmbkklpaa.Gr
open Go.RowKit
set_option maxRecDepth 100000

theorem ret_b {a b : Bool} (h : a = b) : Ending.returned (Value.bool a) = Ending.returned (Value.bool b) := by rw [h]
theorem holds_two {c : PCon} {row : List Int} (hk : c.kind = 2) : holdsG c row = decide ((c.vars.map (val row)).getD 0 0 * (c.vars.map (val row)).getD 1 0 = (c.vars.map (val row)).getD 2 0) := by
  unfold holdsG
  rw [hk]
  rfl
theorem holds_three {c : PCon} {row : List Int} (hk : c.kind = 3) : holdsG c row = (decide (val row (c.vars.getD 0 0) = 0 ∨ val row (c.vars.getD 0 0) = 1) && (sumH row (c.vars.drop 1) c.coefs c.rel c.const == decide (val row (c.vars.getD 0 0) = 1))) := by
  unfold holdsG
  rw [hk]
  rfl
theorem holds_four {c : PCon} {row : List Int} (hk : c.kind = 4) : holdsG c row = decide (0 ≤ (c.vars.map (val row)).getD 0 0 ∧ ((c.vars.map (val row)).getD 0 0).toNat < c.nums.length ∧ c.nums.getD ((c.vars.map (val row)).getD 0 0).toNat 0 = (c.vars.map (val row)).getD 1 0) := by
  unfold holdsG
  rw [hk]
  rfl
theorem holds_five {c : PCon} {row : List Int} (hk : c.kind = 5) : holdsG c row = decide (c.vars.map (val row)).Nodup := by
  unfold holdsG
  rw [hk]
  rfl
theorem holds_six {c : PCon} {row : List Int} (hk : c.kind = 6) : holdsG c row = tableG (c.vars.map (val row)) c.nums.length c.nums := by
  unfold holdsG
  rw [hk]
  rfl
theorem kind_have {c : PCon} {n : Int} (h : rightC c n = true) (h1 : c.kind ≠ 1) (h3 : c.kind ≠ 3) : kindR c = true := ((rest_on h1 h3).1 h).2.2
theorem kind_six {c : PCon} {n : Int} (h : rightC c n = true) : c.kind = 1 ∨ c.kind = 2 ∨ c.kind = 3 ∨ c.kind = 4 ∨ c.kind = 5 ∨ c.kind = 6 := Classical.byContradiction fun q => by
  have := kind_have h (by omega) (by omega)
  unfold kindR at this
  rw [if_neg (by omega), if_neg (by omega), if_neg (by omega), if_neg (by omega)] at this
  cases this
theorem val_map {row vs : List Int} (hok : rowOk row = true) {j : Nat} (hj : j < vs.length) : -1048576 ≤ (vs.map (val row)).getD j 0 ∧ (vs.map (val row)).getD j 0 ≤ 1048576 := by
  rw [map_get hj]; exact val_small hok _

section
variable {c : PCon} {row : List Int} {n : Int} (p1 p2 p3 pv : Option Addr) (b b2 o2 b3 o3 bv ov l1 l2 l3 c1 c2 c3 cv : Nat) (u : World)
  (h6 : At6 u b (.int .i64 c.kind) (.slice p1 l1 c1) (.slice p2 l2 c2) (.int .i64 c.rel) (.int .i64 c.const) (.slice p3 l3 c3)) (n2 : Nums u p2 b2 o2 l2 c.coefs) (n3 : Nums u p3 b3 o3 l3 c.nums) (nv : Nums u pv bv ov l1 (c.vars.map (val row)))
  (hok : rowOk row = true) (hrt : rightC c n = true) (hl1 : l1 ≤ 1000) (hl3 : l3 ≤ 1000) (hcv : l1 ≤ cv) (hc3 : l3 ≤ c3) (hvl : l1 = c.vars.length)
include h6 n2 n3 nv hok hrt hl1 hl3 hcv hc3 hvl

set_option maxHeartbeats 1000000 in
theorem cl_one (hk : c.kind = 1) : Calls Try.prog 31 #[.slice pv l1 cv, .pointer (some ⟨b, 0, none⟩)] u fun e w' => e = .returned (.bool (holdsG c row)) ∧ Below u.heap.size u w' := by
  have _q := And.intro hl3 (And.intro hc3 n3.long)
  clear _q
  have hp := lin_parts.1 (by
    have := ((lin_on hk).1 hrt).2
    simp only [Bool.and_eq_true] at this
    exact this.2)
  obtain rfl : l2 = l1 := by have h2 := n2.long; omega
  have CS := Lib.hid (compares_cells p1 p2 p3 pv b2 o2 l2 l2 l3 c1 c2 c3 bv ov cv c.kind c.rel c.const c.coefs c.vars row u n2 nv hl1 hok hp.2.2.2.1)
  rw [← lin_is_sum (row := row) hk] at CS
  obtain ⟨R, hR⟩ : ∃ R, R = holdsG c row := ⟨_, rfl⟩
  rw [← hR] at CS ⊢
  obtain ⟨m0, m1, m2, m3, m4, m5⟩ := h6
  clear hp hk hrt hR n2 n3 nv hvl hok
  go_enter Try.func31, Try.ntmps31
  go_wp2_with fail
  refine CS.out.mono ?_
  rintro e w' ⟨rfl, hw⟩
  have HW2 := Lib.hid hw
  clear hw
  go_wp2_with fail
  go_ret
  exact ⟨rfl, HW2.out⟩

set_option maxHeartbeats 1000000 in
theorem cl_two (hk : c.kind = 2) : Calls Try.prog 34 #[.slice pv l1 cv] u fun e w' => e = .returned (.bool (holdsG c row)) ∧ Below u.heap.size u w' := by
  have _q := And.intro hl3 (And.intro hc3 (And.intro n2.long n3.long))
  clear _q
  have hl : c.vars.length = 3 := by
    have := kind_have hrt (by omega) (by omega)
    unfold kindR at this
    rw [hk] at this
    simp only [if_true, Bool.and_eq_true, decide_eq_true_eq] at this
    exact this.1
  obtain rfl : l1 = 3 := by omega
  obtain rfl := nv.at_ (by omega)
  have key := holds_two (row := row) hk
  obtain ⟨R, hR⟩ : ∃ R, R = holdsG c row := ⟨_, rfl⟩
  rw [← hR] at key ⊢
  have x0 := nv.cell 0 (by omega)
  rw [Nat.add_zero] at x0
  have x1 := nv.cell 1 (by omega)
  have x2 := nv.cell 2 (by omega)
  have s0 := val_map (vs := c.vars) hok (j := 0) (by omega)
  have s1 := val_map (vs := c.vars) hok (j := 1) (by omega)
  have s2 := val_map (vs := c.vars) hok (j := 2) (by omega)
  obtain ⟨a, ea⟩ : ∃ a, a = (c.vars.map (val row)).getD 0 0 := ⟨_, rfl⟩
  obtain ⟨b', eb⟩ : ∃ b, b = (c.vars.map (val row)).getD 1 0 := ⟨_, rfl⟩
  obtain ⟨d, ed⟩ : ∃ d, d = (c.vars.map (val row)).getD 2 0 := ⟨_, rfl⟩
  rw [← ea] at x0 s0 key
  rw [← eb] at x1 s1 key
  rw [← ed] at x2 s2 key
  have hm := mul_small s0 s1
  have HK := Lib.hid key
  clear ea eb ed key hrt hl hR hk h6 n2 n3 nv hok hvl
  go_enter Try.func34, Try.ntmps34
  go_wp2
  go_quiet (fail)
  go_wp2_with fail
  go_ret
  refine ⟨ret_b ?_, below_drewN (Below.refl _ _)⟩
  rw [HK.out]
  rw [Bool.eq_iff_iff]
  simp

set_option maxHeartbeats 4000000 in
theorem cl_three (hk : c.kind = 3) : Calls Try.prog 33 #[.slice pv l1 cv, .pointer (some ⟨b, 0, none⟩)] u fun e w' => e = .returned (.bool (holdsG c row)) ∧ Below u.heap.size u w' := by
  have _q := And.intro hl3 (And.intro hc3 n3.long)
  clear _q
  have hp := lin_parts.1 (by
    have := hrt
    rw [right_on (vars_on hrt), if_neg (by omega), if_pos hk] at this
    simp only [Bool.and_eq_true] at this
    exact this.2)
  have hk2 : 2 ≤ l1 := by omega
  obtain ⟨k, rfl⟩ : ∃ k', l1 = k' + 1 := ⟨l1 - 1, by omega⟩
  obtain rfl : l2 = k := by have h2 := n2.long; omega
  obtain rfl := nv.at_ (by omega)
  have ND : Nums u (some ⟨bv, ov + 1, none⟩) bv (ov + 1) l2 ((c.vars.drop 1).map (val row)) := by
    have e : ∀ j, ((c.vars.drop 1).map (val row)).getD j 0 = (c.vars.map (val row)).getD (j + 1) 0 := fun j => by
      rw [List.getD_eq_getElem?_getD, List.getD_eq_getElem?_getD, List.getElem?_map, List.getElem?_map, List.getElem?_drop, Nat.add_comm]
    refine ⟨by rw [List.length_map, List.length_drop, ← hvl]; omega, fun _ => rfl, fun j hj => ?_, fun j hj => ?_⟩
    · rw [e]
      have := nv.cell (j + 1) (by omega)
      rw [show ov + 1 + j = ov + (j + 1) by omega]
      exact this
    · rw [e]
      exact nv.fit (j + 1) (by omega)
  have CS := Lib.hid (fun (w : World) (hw : Below u.heap.size u w) (cx : Nat) => compares_cells p1 p2 p3 (some ⟨bv, ov + 1, none⟩) b2 o2 l2 (l2 + 1) l3 c1 c2 c3 bv (ov + 1) cx c.kind c.rel c.const c.coefs (c.vars.drop 1) row w
    ⟨n2.long, n2.at_, fun j hj => cell_stays hw (n2.cell j hj), n2.fit⟩ ⟨ND.long, ND.at_, fun j hj => cell_stays hw (ND.cell j hj), ND.fit⟩ (by omega) hok hp.2.2.2.1)
  have key := holds_three (row := row) hk
  obtain ⟨S, eS⟩ : ∃ S, S = sumH row (c.vars.drop 1) c.coefs c.rel c.const := ⟨_, rfl⟩
  rw [← eS] at CS key
  have x0 := nv.cell 0 (by omega)
  rw [Nat.add_zero, map_get (by omega)] at x0
  obtain ⟨a, ea⟩ : ∃ a, a = val row (c.vars.getD 0 0) := ⟨_, rfl⟩
  rw [← ea] at x0 key
  obtain ⟨R, hR⟩ : ∃ R, R = holdsG c row := ⟨_, rfl⟩
  rw [← hR] at key ⊢
  have HK := Lib.hid key
  have H0 := Lib.hid (And.intro h6.c0 (And.intro h6.c1 (And.intro h6.c2 (And.intro h6.c3 (And.intro h6.c4 (And.intro h6.c5 (And.intro x0 (Below.refl u.heap.size u))))))))
  obtain ⟨m, rfl⟩ : ∃ m, cv = m + 1 := ⟨cv - 1, by omega⟩
  have hsl := fun W => slice_one bv ov l2 m (by omega) (by omega) W
  obtain ⟨kd, ekd⟩ : ∃ kd, kd = c.kind := ⟨_, rfl⟩
  obtain ⟨rl, erl⟩ : ∃ rl, rl = c.rel := ⟨_, rfl⟩
  obtain ⟨ct, ect⟩ : ∃ ct, ct = c.const := ⟨_, rfl⟩
  rw [← ekd, ← erl, ← ect] at CS H0
  clear eS ea hR key hp hrt hk h6 n2 n3 nv ND hvl hok ekd erl ect x0
  go_enter Try.func33, Try.ntmps33
  go_wp2_with fail
  go_region_held3 (fun w' => w'.cell? ⟨b, 0, none⟩ = some (.int .i64 kd) ∧ w'.cell? ⟨b, 1, none⟩ = some (.slice p1 (l2 + 1) c1) ∧ w'.cell? ⟨b, 2, none⟩ = some (.slice p2 l2 c2) ∧ w'.cell? ⟨b, 3, none⟩ = some (.int .i64 rl) ∧ w'.cell? ⟨b, 4, none⟩ = some (.int .i64 ct) ∧ w'.cell? ⟨b, 5, none⟩ = some (.slice p3 l3 c3) ∧ w'.cell? ⟨bv, ov, none⟩ = some (.int .i64 a) ∧ Below u.heap.size u w')
    (first | exact heldR (by assumption) (by assumption) | exact heldR H0.out (below_drewN (n := 1) (Below.refl _ _)) | exact heldR H0.out (below_drewN (below_drewN (n := 1) (Below.refl _ _))))
    (first | (go_at_call 32; refine (CS.out _ (heldRb (by assumption)) _).mono ?_; rintro e w' ⟨rfl, hB⟩))
  obtain ⟨_, _, _, _, _, _, y0, hb⟩ := (by assumption : w'.cell? ⟨b, 0, none⟩ = some (.int .i64 kd) ∧ w'.cell? ⟨b, 1, none⟩ = some (.slice p1 (l2 + 1) c1) ∧ w'.cell? ⟨b, 2, none⟩ = some (.slice p2 l2 c2) ∧ w'.cell? ⟨b, 3, none⟩ = some (.int .i64 rl) ∧ w'.cell? ⟨b, 4, none⟩ = some (.int .i64 ct) ∧ w'.cell? ⟨b, 5, none⟩ = some (.slice p3 l3 c3) ∧ w'.cell? ⟨bv, ov, none⟩ = some (.int .i64 a) ∧ Below u.heap.size u w')
  have HH := Lib.hid hb
  clear hb hB
  by_cases a1 : a = 1
  · subst a1
    have key : R = S := by rw [HK.out]; cases S <;> rfl
    subst key
    go_wp2_with fail
    all_goals
      go_ret
      exact ⟨ret_b (by simp_all), HH.out⟩
  · have d1 : (a == 1) = false := beq_eq_false_iff_ne.2 a1
    by_cases a0 : a = 0
    · subst a0
      have key : R = !S := by rw [HK.out]; cases S <;> rfl
      subst key
      clear a1
      go_wp2_with fail
      all_goals
        go_ret
        exact ⟨ret_b (by simp_all), HH.out⟩
    · have d0 : (a == 0) = false := beq_eq_false_iff_ne.2 a0
      have key : R = false := by rw [HK.out]; simp [a0, a1]
      subst key
      clear a0 a1
      go_wp2_with fail
      go_ret
      exact ⟨rfl, HH.out⟩

set_option maxHeartbeats 1000000 in
theorem cl_four (hk : c.kind = 4) : Calls Try.prog 35 #[.slice pv l1 cv, .pointer (some ⟨b, 0, none⟩)] u fun e w' => e = .returned (.bool (holdsG c row)) ∧ Below u.heap.size u w' := by
  have _q := And.intro hok (And.intro hc3 n2.long)
  clear _q
  have hl : c.vars.length = 2 := by
    have := kind_have hrt (by omega) (by omega)
    unfold kindR at this
    rw [hk] at this
    simp only [Int.reduceEq, if_false, if_true, Bool.and_eq_true, decide_eq_true_eq] at this
    exact this.1
  obtain rfl : l1 = 2 := by omega
  obtain rfl := nv.at_ (by omega)
  have key := holds_four (row := row) hk
  rw [← n3.long] at key
  obtain ⟨R, hR⟩ : ∃ R, R = holdsG c row := ⟨_, rfl⟩
  rw [← hR] at key ⊢
  have x0 := nv.cell 0 (by omega)
  rw [Nat.add_zero] at x0
  have x1 := nv.cell 1 (by omega)
  obtain ⟨a, ea⟩ : ∃ a, a = (c.vars.map (val row)).getD 0 0 := ⟨_, rfl⟩
  obtain ⟨b', eb⟩ : ∃ b, b = (c.vars.map (val row)).getD 1 0 := ⟨_, rfl⟩
  rw [← ea] at x0 key
  rw [← eb] at x1 key
  have m5 := h6.c5
  have N3 := Lib.hid n3
  clear ea eb hrt hl hR hk h6 n2 n3 nv hok hvl
  by_cases g1 : 0 ≤ a
  · obtain ⟨k, rfl⟩ : ∃ k : Nat, a = (k : Int) := ⟨a.toNat, by omega⟩
    have d1 : decide ((0 : Int) ≤ (k : Int)) = true := decide_eq_true g1
    rw [show ((k : Int)).toNat = k by omega] at key
    by_cases g2 : k < l3
    · obtain rfl := N3.out.at_ (by omega)
      have y0 := N3.out.cell k g2
      have d2 : decide ((k : Int) < (l3 : Int)) = true := decide_eq_true (by omega)
      obtain ⟨y, ey⟩ : ∃ y, y = c.nums.getD k 0 := ⟨_, rfl⟩
      rw [← ey] at y0 key
      have HK := Lib.hid (show R = (y == b') by
        rw [key, Bool.eq_iff_iff]
        simp [g2])
      clear ey key g1
      have g2i : (k : Int) < (l3 : Int) := by omega
      go_enter Try.func35, Try.ntmps35
      go_wp2
      go_quiet (fail)
      go_wp2_with fail
      go_ret
      exact ⟨ret_b HK.out.symm, below_drewN (Below.refl _ _)⟩
    · have d2 : decide ((k : Int) < (l3 : Int)) = false := decide_eq_false (by omega)
      have HK := Lib.hid (show R = false by
        rw [key]
        exact decide_eq_false fun h => g2 h.2.1)
      clear key g1
      go_enter Try.func35, Try.ntmps35
      go_wp2
      go_quiet (fail)
      go_wp2_with fail
      go_ret
      exact ⟨ret_b HK.out.symm, below_drewN (Below.refl _ _)⟩
  · have d1 : decide ((0 : Int) ≤ a) = false := decide_eq_false g1
    have HK := Lib.hid (show R = false by
      rw [key]
      exact decide_eq_false fun h => g1 h.1)
    clear key g1
    go_enter Try.func35, Try.ntmps35
    go_wp2
    go_quiet (fail)
    go_wp2_with fail
    go_ret
    exact ⟨ret_b HK.out.symm, below_drewN (Below.refl _ _)⟩

theorem cl_five (hk : c.kind = 5) : Calls Try.prog 36 #[.slice pv l1 cv] u fun e w' => e = .returned (.bool (holdsG c row)) ∧ Below u.heap.size u w' := by
  have _q := And.intro hok (And.intro hc3 (And.intro hrt (And.intro hl3 (And.intro hvl (And.intro h6.c0 (And.intro n2.long n3.long))))))
  clear _q
  rw [holds_five hk]
  refine (unlike_cells pv bv ov l1 cv (c.vars.map (val row)) u nv hl1 hcv).mono ?_
  rintro e w' ⟨rfl, m, rfl⟩
  exact ⟨rfl, below_drewN (Below.refl _ _)⟩

set_option maxHeartbeats 1000000 in
theorem cl_six (hk : c.kind = 6) : Calls Try.prog 37 #[.slice pv l1 cv, .pointer (some ⟨b, 0, none⟩)] u fun e w' => e = .returned (.bool (holdsG c row)) ∧ Below u.heap.size u w' := by
  have _q := And.intro hok (And.intro hcv n2.long)
  clear _q
  have hl : 1 ≤ c.vars.length ∧ c.nums.length % c.vars.length = 0 := by
    have := kind_have hrt (by omega) (by omega)
    unfold kindR at this
    rw [hk] at this
    simp only [Int.reduceEq, if_false, if_true, Bool.and_eq_true, decide_eq_true_eq] at this
    exact ⟨this.1, this.2.2⟩
  rw [← hvl, ← n3.long] at hl
  have CS := Lib.hid (stands_cells p3 pv b3 o3 l3 c3 bv ov l1 cv c.nums (c.vars.map (val row)) u n3 nv hl.1 hl1 hl3 hc3 hl.2)
  rw [← holds_six (row := row) hk] at CS
  obtain ⟨R, hR⟩ : ∃ R, R = holdsG c row := ⟨_, rfl⟩
  rw [← hR] at CS ⊢
  have m5 := h6.c5
  clear hl hk hrt hR h6 n2 n3 nv hvl hok
  go_enter Try.func37, Try.ntmps37
  go_wp2_with fail
  refine CS.out.mono ?_
  rintro e w' ⟨rfl, hw⟩
  have HW2 := Lib.hid hw
  clear hw
  go_wp2_with fail
  go_ret
  exact ⟨rfl, HW2.out⟩
end
end Go.Proofs.Ytkhjnicmbkklpaa.Gr
