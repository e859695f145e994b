/-
  What Has of package dom answers, at every domain.
-/
import Derived.Test.YtnabkhmonmcmfaaDoorDAsk
import Derived.Deep.RegionHeld3
namespace Go.Proofs.YtnabkhmonmcmfaaDoor
open Go.RowKit

theorem held3 {W0 u u' : World} {p0 p1 p2 : Addr} {a0 a1 a2 : Value} (h : u.cell? p0 = some a0 ∧ u.cell? p1 = some a1 ∧ u.cell? p2 = some a2 ∧ Below W0.heap.size W0 u) (hb : Below u.heap.size u u') :
    u'.cell? p0 = some a0 ∧ u'.cell? p1 = some a1 ∧ u'.cell? p2 = some a2 ∧ Below W0.heap.size W0 u' :=
  ⟨cell_below hb h.1, cell_below hb h.2.1, cell_below hb h.2.2.1, below_two h.2.2.2 hb⟩
theorem held3b {W0 u : World} {p0 p1 p2 : Addr} {a0 a1 a2 : Value} (h : u.cell? p0 = some a0 ∧ u.cell? p1 = some a1 ∧ u.cell? p2 = some a2 ∧ Below W0.heap.size W0 u) : Below W0.heap.size W0 u := h.2.2.2

set_option maxHeartbeats 1000000 in
theorem has1_any (p : Option Addr) (n c x m : Nat) (y : Int) (b : Nat) (u : World) (hx : x < 18446744073709551616) (hmm : m < 18446744073709551616) (hc : u.cell? ⟨b, 0, none⟩ = some (.int .i64 y))
    (hP : ∀ u', Below u.heap.size u u' → Calls Tryd.prog 47 #[.agg #[.slice p n c, .int .u64 x], .int .i64 y, .int .i64 y] u' fun e w' => e = .returned (.int .u64 m) ∧ Below u'.heap.size u' w') :
    Calls Tryd.prog 46 #[.agg #[.slice p n c, .int .u64 x], .pointer (some ⟨b, 0, none⟩)] u fun e w' => ∃ r, e = .returned r ∧ r = .bool (decide (x &&& m ≠ 0)) ∧ Below u.heap.size u w' := by
  have HP := Lib.hid hP
  have hB := (Below.refl _ u).alloc (Nat.le_refl _) (.cells #[.slice p n c, .int .u64 x] 26)
  have HB := Lib.hid hB
  have hcc := cell_below hB hc
  have c0 : (u.alloc (.cells #[.slice p n c, .int .u64 x] 26)).cell? ⟨u.heap.size, 0, none⟩ = some (.slice p n c) := by simp
  have c1 : (u.alloc (.cells #[.slice p n c, .int .u64 x] 26)).cell? ⟨u.heap.size, 1, none⟩ = some (.int .u64 x) := by simp
  have H0 := Lib.hid (And.intro c0 (And.intro c1 (And.intro hcc hB)))
  have e1 : bits .and .u64 (x : Int) (m : Int) = ((x &&& m : Nat) : Int) := bits_and_u64_nat x m hx hmm
  have e2 : (((x &&& m : Nat) : Int) == 0) = !decide (x &&& m ≠ 0) := by
    by_cases h : x &&& m = 0 <;> simp [h]
  have E1 := Lib.hid e1
  have E2 := Lib.hid e2
  clear hB hc hcc c0 c1 hP e1 e2
  go_enter Tryd.func46, Tryd.ntmps46
  go_wp2_with fail
  go_region_held3 (fun w' => w'.cell? ⟨u.heap.size, 0, none⟩ = some (.slice p n c) ∧ w'.cell? ⟨u.heap.size, 1, none⟩ = some (.int .u64 x) ∧ w'.cell? ⟨b, 0, none⟩ = some (.int .i64 y) ∧ Below u.heap.size u w')
    (first | exact held3 (by assumption) (by assumption) | exact held3 H0.out (below_drewN (n := 1) (Below.refl _ _)))
    (first | (go_at_call 47; refine (HP.out _ (held3b (by assumption))).mono ?_; rintro e w' ⟨rfl, hB⟩))
  have hb := held3b (by assumption)
  have HH := Lib.hid hb
  clear hb
  go_wp2_with fail
  go_ret
  refine ⟨_, rfl, congrArg Value.bool ?_, HH.out⟩
  rw [E1.out, bne, E2.out]
  simp

section
variable {w : World} {v : Value} {xs : List Int} (hr : Reads w v xs) (hm : xs.length ≤ 1000000) (x : Nat) (hx : x < 18446744073709551616) (y : Int)
include hr hm hx

set_option maxHeartbeats 1000000 in
theorem dhas_any : Calls Tryd.prog 21 #[.agg #[v, .int .u64 x], .int .i64 y] w fun e w' => e = .returned (.bool (decide (y ∈ leftM xs x))) ∧ Below w.heap.size w w' := by
  have hr0 := hr
  obtain ⟨p, n, c, rfl⟩ := reads_slice hr
  obtain ⟨wq, hwq⟩ : ∃ wq, wq = (w.alloc (.cells #[.slice p n c, .int .u64 x] 26)).alloc (.cells #[.int .i64 y] 3) := ⟨_, rfl⟩
  have hb0 : Below w.heap.size w wq := by rw [hwq]; exact ((Below.refl _ w).alloc (Nat.le_refl _) _).alloc (by simp) _
  have hcf : wq.cell? ⟨w.heap.size + 1, 0, none⟩ = some (.int .i64 y) := by rw [hwq]; simp
  have A := Lib.hid (askB (reads_below hr hb0) hm x hx 46 (enters_of Tryd.func46 (by kernel_rfl) rfl) #[.pointer (some ⟨w.heap.size + 1, 0, none⟩)] (fun r _ => r = .bool (decide (x &&& placesN xs (fun z => decide (y ≤ z) && decide (z ≤ y)) ≠ 0)))
    (fun hmay u hu => has1_any p n c x _ y (w.heap.size + 1) u hx (places_lt _ _) (cell_below hu hcf) (fun u' hu' => places_any (reads_below hr0 (below_two (below_two hb0 hu) hu')) (may_iff.1 hmay).2.2 (may_iff.1 hmay).1 x y y)))
  have key : ∀ e w', Asked (mayL xs x) (.bool false) (fun r _ => r = .bool (decide (x &&& placesN xs (fun z => decide (y ≤ z) && decide (z ≤ y)) ≠ 0))) e w' → e = .returned (.bool (decide (y ∈ leftM xs x))) := by
    rintro e w' (⟨h, rfl⟩ | ⟨h, r, rfl, rfl⟩)
    · simp [leftM, h]
    · rw [keep_and hx, leftM, if_pos h, decide_eq_decide.2 (left_has h y)]
  have HK := Lib.hid key
  have HB := Lib.hid hb0
  rw [hwq] at A HB
  clear hr hr0 key hb0 hcf hwq
  go_enter Tryd.func21, Tryd.ntmps21
  go_wp2_with fail
  refine A.out.mono ?_
  rintro e w1 ⟨h, hB⟩
  obtain rfl := HK.out _ _ h
  have HB1 := Lib.hid (below_two HB.out hB)
  clear h hB
  go_wp2_with fail
  go_ret
  exact ⟨rfl, HB1.out⟩
end
end Go.Proofs.YtnabkhmonmcmfaaDoor
