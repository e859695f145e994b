/-
  What Only, Less and Between of package dom answer, at every domain.
-/
import Derived.Test.YtnabkhmonmcmfaaDoorDKeep
namespace Go.Proofs.YtnabkhmonmcmfaaDoor
open Go.RowKit

theorem flip_nat (a : Nat) (ha : a < 18446744073709551616) : bits .xor .u64 IntKind.u64.max (a : Int) = ((18446744073709551615 - a : Nat) : Int) := by
  have h := bits_xor_u64_nat 18446744073709551615 a (by omega) ha
  have e : 18446744073709551615 ^^^ a = 18446744073709551615 - a := by
    refine B.same_bits (Nat.xor_lt_two_pow (n := 64) (by omega) ha) (by omega) fun k hk => ?_
    rw [Nat.testBit_xor, B.not_bit hk ha, show (18446744073709551615 : Nat) = 2 ^ 64 - 1 from rfl, Nat.testBit_two_pow_sub_one]
    simp [hk]
  rw [e] at h
  exact h

set_option maxHeartbeats 1000000 in
theorem only1_any (p : Option Addr) (n c x m : Nat) (y : Int) (b : Nat) (u : World) (hc : u.cell? ⟨b, 0, none⟩ = some (.int .i64 y))
    (hP : ∀ u', Below u.heap.size u u' → Calls Tryd.prog 47 #[.agg #[.slice p n c, .int .u64 x], .int .i64 y, .int .i64 y] u' fun e w' => e = .returned (.int .u64 m) ∧ Below u'.heap.size u' w') :
    Calls Tryd.prog 50 #[.agg #[.slice p n c, .int .u64 x], .pointer (some ⟨b, 0, none⟩)] u fun e w' => e = .returned (.int .u64 (m : Nat)) ∧ Below u.heap.size u w' := by
  have HP := Lib.hid hP
  have hB := (Below.refl _ u).alloc (Nat.le_refl _) (.cells #[.slice p n c, .int .u64 x] 26)
  have HB := Lib.hid hB
  have q0 := cell_below hB hc
  clear hB hc hP
  go_enter Tryd.func50, Tryd.ntmps50
  go_wp2_with fail
  refine (HP.out _ HB.out).mono ?_
  rintro e w1 ⟨rfl, hB⟩
  have HB1 := Lib.hid (below_two HB.out hB)
  clear hB
  go_wp2_with fail
  go_ret
  exact ⟨rfl, HB1.out⟩

set_option maxHeartbeats 1000000 in
theorem donly_any {w : World} {v : Value} {xs : List Int} (hr : Reads w v xs) (hm : xs.length ≤ 1000000) (x : Nat) (hx : x < 18446744073709551616) (y : Int) :
    Calls Tryd.prog 24 #[.agg #[v, .int .u64 x], .int .i64 y] w fun e w' => ∃ r, e = .returned r ∧ DomAt w.heap.size (keepX xs x) (keepL xs x (fun z => decide (y ≤ z) && decide (z ≤ y))) r w' ∧ Below w.heap.size w w' := by
  have hr0 := hr
  obtain ⟨p, n, c, rfl⟩ := reads_slice hr
  obtain ⟨wq, hwq⟩ : ∃ wq, wq = ((w.alloc (.cells #[.slice p n c, .int .u64 x] 26)).alloc (.cells #[.int .i64 y] 3)).alloc (.cells #[.slice none 0 0, .int .u64 0] 26) := ⟨_, rfl⟩
  have hsz : wq.heap.size = w.heap.size + 3 := by rw [hwq]; simp
  have hb0 : Below w.heap.size w wq := by rw [hwq]; exact (((Below.refl _ w).alloc (Nat.le_refl _) _).alloc (by simp) _).alloc (by simp; omega) _
  have hcf : wq.cell? ⟨w.heap.size + 1, 0, none⟩ = some (.int .i64 y) := by rw [hwq]; exact cell_below (below_alloc _ _) (new_one _ _ _ _ (by simp))
  have hd : wq.cell? ⟨w.heap.size + 2, 0, none⟩ = some (.slice none 0 0) ∧ wq.cell? ⟨w.heap.size + 2, 1, none⟩ = some (.int .u64 0) ∧ wq.frozen? ⟨w.heap.size + 2, 0, none⟩ = false ∧ wq.frozen? ⟨w.heap.size + 2, 1, none⟩ = false := by
    rw [hwq]
    exact new_two _ _ _ _ _ (by simp)
  have A := Lib.hid (keep_any (reads_below hr hb0) hm x hx (placesN xs (fun z => decide (y ≤ z) && decide (z ≤ y))) 50 (enters_of Tryd.func50 (by kernel_rfl) rfl) #[.pointer (some ⟨w.heap.size + 1, 0, none⟩)] (places_lt _ _)
    (fun hmay u hu => only1_any p n c x _ y (w.heap.size + 1) u (cell_below hu hcf) (fun u' hu' => places_any (reads_below hr0 (below_two (below_two hb0 hu) hu')) (may_iff.1 hmay).2.2 (may_iff.1 hmay).1 x y y)))
  have key : (if mayL xs x = true then x &&& (placesN xs (fun z => decide (y ≤ z) && decide (z ≤ y))) else 0) = keepL xs x (fun z => decide (y ≤ z) && decide (z ≤ y)) := by
    unfold keepL
    split
    · rename_i hmay
      exact keep_and hx _ _
    · rfl
  rw [key] at A
  have HB := Lib.hid hb0
  have HD := Lib.hid hd
  have HS := Lib.hid hsz
  generalize keepL xs x (fun z => decide (y ≤ z) && decide (z ≤ y)) = y at A ⊢
  generalize keepX xs x = xs' at A ⊢
  have HW := Lib.hid hwq
  clear hr hr0 key hb0 hcf hd hsz hwq
  go_enter Tryd.func24, Tryd.ntmps24
  go_wp2_with fail
  rw [← HW.out]
  refine A.out.mono ?_
  rintro e w1 ⟨r, rfl, hd, hB⟩
  have HB1 := Lib.hid (below_two HB.out hB)
  have d0 := cell_below hB HD.out.1
  have d1 := cell_below hB HD.out.2.1
  have f0 := frozen_below hB HD.out.1 HD.out.2.2.1
  have f1 := frozen_below hB HD.out.2.1 HD.out.2.2.2
  obtain ⟨p', n', c', rfl⟩ := dom_shape hd
  have HE := Lib.hid hd
  clear hB hd
  go_wp2_with fail
  (try simp only [Exit.inBlock, Exit.then])
  refine bodyPost_ret (results_dom rfl _ _ (w.heap.size + 2) (.slice p' n' c') (.int .u64 y) rfl ?c0 ?c1) rfl ?rest
  case c0 => go_simp
  case c1 => go_simp
  have hs := HS.out
  exact ⟨_, rfl, dom_low (dom_set HE.out (by omega)) (by omega), (HB1.out.setCell (Nat.le_add_right _ 2) _).setCell (Nat.le_add_right _ 2) _⟩

set_option maxHeartbeats 1000000 in
theorem less1_any (p : Option Addr) (n c x m : Nat) (y : Int) (b : Nat) (u : World) (hc : u.cell? ⟨b, 0, none⟩ = some (.int .i64 y)) (hmm : m < 18446744073709551616)
    (hP : ∀ u', Below u.heap.size u u' → Calls Tryd.prog 47 #[.agg #[.slice p n c, .int .u64 x], .int .i64 y, .int .i64 y] u' fun e w' => e = .returned (.int .u64 m) ∧ Below u'.heap.size u' w') :
    Calls Tryd.prog 52 #[.agg #[.slice p n c, .int .u64 x], .pointer (some ⟨b, 0, none⟩)] u fun e w' => e = .returned (.int .u64 (18446744073709551615 - m : Nat)) ∧ Below u.heap.size u w' := by
  have HP := Lib.hid hP
  have hB := (Below.refl _ u).alloc (Nat.le_refl _) (.cells #[.slice p n c, .int .u64 x] 26)
  have HB := Lib.hid hB
  have q0 := cell_below hB hc
  have E := Lib.hid (flip_nat m hmm)
  clear hB hc hP
  go_enter Tryd.func52, Tryd.ntmps52
  go_wp2_with fail
  refine (HP.out _ HB.out).mono ?_
  rintro e w1 ⟨rfl, hB⟩
  have HB1 := Lib.hid (below_two HB.out hB)
  clear hB
  go_wp2_with fail
  go_ret
  exact ⟨by rw [E.out]; rfl, HB1.out⟩

set_option maxHeartbeats 1000000 in
theorem dless_any {w : World} {v : Value} {xs : List Int} (hr : Reads w v xs) (hm : xs.length ≤ 1000000) (x : Nat) (hx : x < 18446744073709551616) (y : Int) :
    Calls Tryd.prog 26 #[.agg #[v, .int .u64 x], .int .i64 y] w fun e w' => ∃ r, e = .returned r ∧ DomAt w.heap.size (keepX xs x) (keepL xs x (fun z => !(decide (y ≤ z) && decide (z ≤ y)))) r w' ∧ Below w.heap.size w w' := by
  have hr0 := hr
  obtain ⟨p, n, c, rfl⟩ := reads_slice hr
  obtain ⟨wq, hwq⟩ : ∃ wq, wq = ((w.alloc (.cells #[.slice p n c, .int .u64 x] 26)).alloc (.cells #[.int .i64 y] 3)).alloc (.cells #[.slice none 0 0, .int .u64 0] 26) := ⟨_, rfl⟩
  have hsz : wq.heap.size = w.heap.size + 3 := by rw [hwq]; simp
  have hb0 : Below w.heap.size w wq := by rw [hwq]; exact (((Below.refl _ w).alloc (Nat.le_refl _) _).alloc (by simp) _).alloc (by simp; omega) _
  have hcf : wq.cell? ⟨w.heap.size + 1, 0, none⟩ = some (.int .i64 y) := by rw [hwq]; exact cell_below (below_alloc _ _) (new_one _ _ _ _ (by simp))
  have hd : wq.cell? ⟨w.heap.size + 2, 0, none⟩ = some (.slice none 0 0) ∧ wq.cell? ⟨w.heap.size + 2, 1, none⟩ = some (.int .u64 0) ∧ wq.frozen? ⟨w.heap.size + 2, 0, none⟩ = false ∧ wq.frozen? ⟨w.heap.size + 2, 1, none⟩ = false := by
    rw [hwq]
    exact new_two _ _ _ _ _ (by simp)
  have A := Lib.hid (keep_any (reads_below hr hb0) hm x hx (18446744073709551615 - placesN xs (fun z => decide (y ≤ z) && decide (z ≤ y))) 52 (enters_of Tryd.func52 (by kernel_rfl) rfl) #[.pointer (some ⟨w.heap.size + 1, 0, none⟩)] (by omega)
    (fun hmay u hu => less1_any p n c x _ y (w.heap.size + 1) u (cell_below hu hcf) (places_lt _ _) (fun u' hu' => places_any (reads_below hr0 (below_two (below_two hb0 hu) hu')) (may_iff.1 hmay).2.2 (may_iff.1 hmay).1 x y y)))
  have key : (if mayL xs x = true then x &&& (18446744073709551615 - placesN xs (fun z => decide (y ≤ z) && decide (z ≤ y))) else 0) = keepL xs x (fun z => !(decide (y ≤ z) && decide (z ≤ y))) := by
    unfold keepL
    split
    · rename_i hmay
      exact keep_not hx (may_iff.1 hmay).2.1 _
    · rfl
  rw [key] at A
  have HB := Lib.hid hb0
  have HD := Lib.hid hd
  have HS := Lib.hid hsz
  generalize keepL xs x (fun z => !(decide (y ≤ z) && decide (z ≤ y))) = y at A ⊢
  generalize keepX xs x = xs' at A ⊢
  have HW := Lib.hid hwq
  clear hr hr0 key hb0 hcf hd hsz hwq
  go_enter Tryd.func26, Tryd.ntmps26
  go_wp2_with fail
  rw [← HW.out]
  refine A.out.mono ?_
  rintro e w1 ⟨r, rfl, hd, hB⟩
  have HB1 := Lib.hid (below_two HB.out hB)
  have d0 := cell_below hB HD.out.1
  have d1 := cell_below hB HD.out.2.1
  have f0 := frozen_below hB HD.out.1 HD.out.2.2.1
  have f1 := frozen_below hB HD.out.2.1 HD.out.2.2.2
  obtain ⟨p', n', c', rfl⟩ := dom_shape hd
  have HE := Lib.hid hd
  clear hB hd
  go_wp2_with fail
  (try simp only [Exit.inBlock, Exit.then])
  refine bodyPost_ret (results_dom rfl _ _ (w.heap.size + 2) (.slice p' n' c') (.int .u64 y) rfl ?c0 ?c1) rfl ?rest
  case c0 => go_simp
  case c1 => go_simp
  have hs := HS.out
  exact ⟨_, rfl, dom_low (dom_set HE.out (by omega)) (by omega), (HB1.out.setCell (Nat.le_add_right _ 2) _).setCell (Nat.le_add_right _ 2) _⟩

set_option maxHeartbeats 1000000 in
theorem between1_any (p : Option Addr) (n c x m : Nat) (y z : Int) (b c1 : Nat) (u : World) (hc : u.cell? ⟨b, 0, none⟩ = some (.int .i64 y)) (hc2 : u.cell? ⟨c1, 0, none⟩ = some (.int .i64 z))
    (hP : ∀ u', Below u.heap.size u u' → Calls Tryd.prog 47 #[.agg #[.slice p n c, .int .u64 x], .int .i64 y, .int .i64 z] u' fun e w' => e = .returned (.int .u64 m) ∧ Below u'.heap.size u' w') :
    Calls Tryd.prog 53 #[.agg #[.slice p n c, .int .u64 x], .pointer (some ⟨b, 0, none⟩), .pointer (some ⟨c1, 0, none⟩)] u fun e w' => e = .returned (.int .u64 (m : Nat)) ∧ Below u.heap.size u w' := by
  have HP := Lib.hid hP
  have hB := (Below.refl _ u).alloc (Nat.le_refl _) (.cells #[.slice p n c, .int .u64 x] 26)
  have HB := Lib.hid hB
  have q0 := cell_below hB hc
  have q1 := cell_below hB hc2
  clear hB hc hc2 hP
  go_enter Tryd.func53, Tryd.ntmps53
  go_wp2_with fail
  refine (HP.out _ HB.out).mono ?_
  rintro e w1 ⟨rfl, hB⟩
  have HB1 := Lib.hid (below_two HB.out hB)
  clear hB
  go_wp2_with fail
  go_ret
  exact ⟨rfl, HB1.out⟩

set_option maxHeartbeats 1000000 in
theorem dbetween_any {w : World} {v : Value} {xs : List Int} (hr : Reads w v xs) (hm : xs.length ≤ 1000000) (x : Nat) (hx : x < 18446744073709551616) (y z : Int) :
    Calls Tryd.prog 28 #[.agg #[v, .int .u64 x], .int .i64 y, .int .i64 z] w fun e w' => ∃ r, e = .returned r ∧ DomAt w.heap.size (keepX xs x) (keepL xs x (fun x => decide (y ≤ x) && decide (x ≤ z))) r w' ∧ Below w.heap.size w w' := by
  have hr0 := hr
  obtain ⟨p, n, c, rfl⟩ := reads_slice hr
  obtain ⟨wq, hwq⟩ : ∃ wq, wq = (((w.alloc (.cells #[.slice p n c, .int .u64 x] 26)).alloc (.cells #[.int .i64 y] 3)).alloc (.cells #[.int .i64 z] 3)).alloc (.cells #[.slice none 0 0, .int .u64 0] 26) := ⟨_, rfl⟩
  have hsz : wq.heap.size = w.heap.size + 4 := by rw [hwq]; simp
  have hb0 : Below w.heap.size w wq := by rw [hwq]; exact ((((Below.refl _ w).alloc (Nat.le_refl _) _).alloc (by simp) _).alloc (by simp; omega) _).alloc (by simp; omega) _
  have hcf : wq.cell? ⟨w.heap.size + 1, 0, none⟩ = some (.int .i64 y) := by rw [hwq]; exact cell_below (below_alloc _ _) (cell_below (below_alloc _ _) (new_one _ _ _ _ (by simp)))
  have hcg : wq.cell? ⟨w.heap.size + 2, 0, none⟩ = some (.int .i64 z) := by rw [hwq]; exact cell_below (below_alloc _ _) (new_one _ _ _ _ (by simp))
  have hd : wq.cell? ⟨w.heap.size + 3, 0, none⟩ = some (.slice none 0 0) ∧ wq.cell? ⟨w.heap.size + 3, 1, none⟩ = some (.int .u64 0) ∧ wq.frozen? ⟨w.heap.size + 3, 0, none⟩ = false ∧ wq.frozen? ⟨w.heap.size + 3, 1, none⟩ = false := by
    rw [hwq]
    exact new_two _ _ _ _ _ (by simp)
  have A := Lib.hid (keep_any (reads_below hr hb0) hm x hx (placesN xs (fun x => decide (y ≤ x) && decide (x ≤ z))) 53 (enters_of Tryd.func53 (by kernel_rfl) rfl) #[.pointer (some ⟨w.heap.size + 1, 0, none⟩), .pointer (some ⟨w.heap.size + 2, 0, none⟩)] (places_lt _ _)
    (fun hmay u hu => between1_any p n c x _ y z (w.heap.size + 1) (w.heap.size + 2) u (cell_below hu hcf) (cell_below hu hcg) (fun u' hu' => places_any (reads_below hr0 (below_two (below_two hb0 hu) hu')) (may_iff.1 hmay).2.2 (may_iff.1 hmay).1 x y z)))
  have key : (if mayL xs x = true then x &&& (placesN xs (fun x => decide (y ≤ x) && decide (x ≤ z))) else 0) = keepL xs x (fun x => decide (y ≤ x) && decide (x ≤ z)) := by
    unfold keepL
    split
    · rename_i hmay
      exact keep_and hx _ _
    · rfl
  rw [key] at A
  have HB := Lib.hid hb0
  have HD := Lib.hid hd
  have HS := Lib.hid hsz
  generalize keepL xs x (fun x => decide (y ≤ x) && decide (x ≤ z)) = y at A ⊢
  generalize keepX xs x = xs' at A ⊢
  have HW := Lib.hid hwq
  clear hr hr0 key hb0 hcf hcg hd hsz hwq
  go_enter Tryd.func28, Tryd.ntmps28
  go_wp2_with fail
  rw [← HW.out]
  refine A.out.mono ?_
  rintro e w1 ⟨r, rfl, hd, hB⟩
  have HB1 := Lib.hid (below_two HB.out hB)
  have d0 := cell_below hB HD.out.1
  have d1 := cell_below hB HD.out.2.1
  have f0 := frozen_below hB HD.out.1 HD.out.2.2.1
  have f1 := frozen_below hB HD.out.2.1 HD.out.2.2.2
  obtain ⟨p', n', c', rfl⟩ := dom_shape hd
  have HE := Lib.hid hd
  clear hB hd
  go_wp2_with fail
  (try simp only [Exit.inBlock, Exit.then])
  refine bodyPost_ret (results_dom rfl _ _ (w.heap.size + 3) (.slice p' n' c') (.int .u64 y) rfl ?c0 ?c1) rfl ?rest
  case c0 => go_simp
  case c1 => go_simp
  have hs := HS.out
  exact ⟨_, rfl, dom_low (dom_set HE.out (by omega)) (by omega), (HB1.out.setCell (Nat.le_add_right _ 3) _).setCell (Nat.le_add_right _ 3) _⟩
end Go.Proofs.YtnabkhmonmcmfaaDoor
