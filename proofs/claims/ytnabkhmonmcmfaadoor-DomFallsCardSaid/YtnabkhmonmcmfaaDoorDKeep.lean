/-
  What keep of package dom answers, at every domain: a copy of its values, and of what is left just what is kept; the zero domain, if it may not be.
-/
import Derived.Test.YtnabkhmonmcmfaaDoorDHas
namespace Go.Proofs.YtnabkhmonmcmfaaDoor
open Go.RowKit

theorem cell_set {u : World} {p a : Addr} {v y : Value} (h : u.cell? p = some v) (hne : p.block ≠ a.block) : (u.setCell a y).cell? p = some v := by
  rw [World.cell?_of_block (w := u) (Below.heap_setCell u a y p.block hne)]
  exact h
theorem held3_set {W0 u : World} {p0 p1 p2 : Addr} {a0 a1 a2 y0 y1 : Value} {r : Nat} (h : u.cell? p0 = some a0 ∧ u.cell? p1 = some a1 ∧ u.cell? p2 = some a2 ∧ Below W0.heap.size W0 u) (h0 : p0.block ≠ r) (h1 : p1.block ≠ r) (h2 : p2.block ≠ r) (hr : W0.heap.size ≤ r) :
    ((u.setCell ⟨r, 0, none⟩ y0).setCell ⟨r, 1, none⟩ y1).cell? p0 = some a0 ∧ ((u.setCell ⟨r, 0, none⟩ y0).setCell ⟨r, 1, none⟩ y1).cell? p1 = some a1 ∧ ((u.setCell ⟨r, 0, none⟩ y0).setCell ⟨r, 1, none⟩ y1).cell? p2 = some a2 ∧ Below W0.heap.size W0 ((u.setCell ⟨r, 0, none⟩ y0).setCell ⟨r, 1, none⟩ y1) :=
  ⟨cell_set (cell_set h.1 h0) h0, cell_set (cell_set h.2.1 h1) h1, cell_set (cell_set h.2.2.1 h2) h2, (h.2.2.2.setCell hr _).setCell hr _⟩
theorem cell_lt {w : World} {p : Addr} {v : Value} (h : w.cell? p = some v) : p.block < w.heap.size := by
  unfold World.cell? at h
  cases hh : w.heap[p.block]? with
  | none => simp [hh] at h
  | some q => exact (Array.getElem?_eq_some_iff.1 hh).1

/-- the domain that keep hands back, in memory from base on -/
def DomAt (base : Nat) (xs : List Int) (y : Nat) (r : Value) (w' : World) : Prop := ∃ v', r = .agg #[v', .int .u64 y] ∧ OwnsI w' base v' xs

set_option maxRecDepth 100000 in
set_option maxHeartbeats 2000000 in
theorem keep1_any {v : Value} {xs : List Int} (x m : Nat) (g : Nat) (hE : Enters Tryd.prog g) (env : Array Value) (b : Nat) (u : World) (hr : Reads u v xs) (hl : xs.length ≤ 64) (hx : x < 18446744073709551616) (hmm : m < 18446744073709551616) (hc : u.cell? ⟨b, 0, none⟩ = some (.func (.func g) #[] env))
    (hK : ∀ u', Below u.heap.size u u' → Calls Tryd.prog g (#[.agg #[v, .int .u64 x]] ++ env) u' fun e w' => e = .returned (.int .u64 m) ∧ Below u'.heap.size u' w') :
    Calls Tryd.prog 69 #[.agg #[v, .int .u64 x], .pointer (some ⟨b, 0, none⟩)] u fun e w' => ∃ r, e = .returned r ∧ DomAt u.heap.size xs (x &&& m) r w' ∧ Below u.heap.size u w' := by
  have HK := Lib.hid hK
  have CL := Lib.hid (fun u' (hb : Below u.heap.size u u') => clone_any (reads_below hr hb) (by omega))
  obtain ⟨p, n, c, rfl⟩ := reads_slice hr
  obtain ⟨W0, hW0⟩ : ∃ W0, W0 = (u.alloc (.cells #[.slice p n c, .int .u64 x] 26)).alloc (.cells #[.slice none 0 0, .int .u64 0] 26) := ⟨_, rfl⟩
  have hB : Below u.heap.size u W0 := by rw [hW0]; exact ((Below.refl _ u).alloc (Nat.le_refl _) _).alloc (by simp) _
  have hsz : W0.heap.size = u.heap.size + 2 := by rw [hW0]; simp
  have hcc := cell_below hB hc
  have hbl := cell_lt hc
  have hb1 : b ≠ u.heap.size + 1 := by have : b < u.heap.size := hbl; omega
  have c0 : W0.cell? ⟨u.heap.size, 0, none⟩ = some (.slice p n c) := by rw [hW0]; simp
  have c1 : W0.cell? ⟨u.heap.size, 1, none⟩ = some (.int .u64 x) := by rw [hW0]; simp
  have d0 : W0.cell? ⟨u.heap.size + 1, 0, none⟩ = some (.slice none 0 0) := by rw [hW0]; simp
  have d1 : W0.cell? ⟨u.heap.size + 1, 1, none⟩ = some (.int .u64 0) := by rw [hW0]; simp
  have f0 : W0.frozen? ⟨u.heap.size + 1, 0, none⟩ = false := by rw [hW0]; simp
  have f1 : W0.frozen? ⟨u.heap.size + 1, 1, none⟩ = false := by rw [hW0]; simp
  have H0 := Lib.hid (And.intro c0 (And.intro c1 (And.intro hcc hB)))
  have HD := Lib.hid (And.intro d0 (And.intro d1 (And.intro f0 f1)))
  have HSZ := Lib.hid hsz
  have E1 := Lib.hid (bits_and_u64_nat x m hx hmm)
  have hE' : ∀ args w, (callFunc g args).run Tryd.prog w = .ok (.enter g args) w := hE
  have N0 : Hid (u.heap.size ≠ u.heap.size + 1) := by exact Nat.ne_of_lt (Nat.lt_succ_self _)
  have N1 := Lib.hid hb1
  clear hB hc hcc c0 c1 hK hr d0 d1 f0 f1 hE hsz hbl hb1
  go_enter Tryd.func69, Tryd.ntmps69
  go_wp2_with fail
  rw [← hW0]
  clear hW0
  go_region_held3 (fun w' => w'.cell? ⟨u.heap.size, 0, none⟩ = some (.slice p n c) ∧ w'.cell? ⟨u.heap.size, 1, none⟩ = some (.int .u64 x) ∧ w'.cell? ⟨b, 0, none⟩ = some (.func (.func g) #[] env) ∧ Below u.heap.size u w')
    (first | exact held3 (by assumption) (by assumption) | exact held3_set (by assumption) N0.out N0.out N1.out (Nat.le_succ _) | exact held3 H0.out (below_drewN (n := 1) (Below.refl _ _)))
    (first
      | (go_at_call 66; refine (CL.out _ (held3b (by assumption))).mono ?_; rintro e w1 ⟨v1, rfl, ho, hB⟩; obtain ⟨p1, n1, k1, rfl⟩ := reads_slice (reads_of_owns ho); have HB1 := Lib.hid (below_two (below_drewN (n := 1) (Below.refl W0.heap.size W0)) hB); have HO := Lib.hid ho; clear ho)
      | (refine (HK.out _ (held3b (by assumption))).mono ?_; rintro e w2 ⟨rfl, hB⟩; have d0 := cell_below (below_two HB1.out hB) HD.out.1; have d1 := cell_below (below_two HB1.out hB) HD.out.2.1; have f0 := frozen_below (below_two HB1.out hB) HD.out.1 HD.out.2.2.1; have f1 := frozen_below (below_two HB1.out hB) HD.out.2.1 HD.out.2.2.2; have HO2 := Lib.hid (owns_below HO.out hB)))
  have hb := held3b (by assumption)
  have HH := Lib.hid hb
  clear hb
  go_wp2_with fail
  (try simp only [Exit.inBlock, Exit.then])
  refine bodyPost_ret (results_dom rfl _ _ (u.heap.size + 1) (.slice p1 n1 k1) (.int .u64 (bits .and .u64 (x : Int) (m : Int))) rfl ?c0 ?c1) rfl ?rest
  case c0 => go_simp
  case c1 => go_simp
  have hlt : u.heap.size + 1 < W0.drew.heap.size := by
    show u.heap.size + 1 < W0.heap.size
    rw [HSZ.out]
    omega
  refine ⟨_, rfl, ⟨_, by rw [E1.out], ?_⟩, HH.out⟩
  exact owns_low (ownsRow_setCell_below (ownsRow_setCell_below HO2.out hlt _) hlt _) (by omega)

theorem dom_set {u : World} {base r : Nat} {xs : List Int} {y : Nat} {d y0 y1 : Value} (h : DomAt base xs y d u) (hr : r < base) : DomAt base xs y d ((u.setCell ⟨r, 0, none⟩ y0).setCell ⟨r, 1, none⟩ y1) := by
  obtain ⟨v', h1, h2⟩ := h
  exact ⟨v', h1, ownsRow_setCell_below (ownsRow_setCell_below h2 hr _) hr _⟩
theorem dom_low {u : World} {base low : Nat} {xs : List Int} {y : Nat} {d : Value} (h : DomAt base xs y d u) (hl : low ≤ base) : DomAt low xs y d u := by
  obtain ⟨v', h1, h2⟩ := h
  exact ⟨v', h1, owns_low h2 hl⟩
theorem dom_shape {u : World} {base : Nat} {xs : List Int} {y : Nat} {d : Value} (h : DomAt base xs y d u) : ∃ p n c, d = .agg #[.slice p n c, .int .u64 y] := by
  obtain ⟨v', rfl, h2⟩ := h
  obtain ⟨p, n, c, rfl⟩ := reads_slice (reads_of_owns h2)
  exact ⟨_, _, _, rfl⟩
theorem dom_zero (u : World) (base : Nat) : DomAt base [] 0 (.agg #[.slice none 0 0, .int .u64 0]) u := ⟨_, rfl, World.ownsRow_nil _ _ _ _⟩

theorem new_two (W : World) (a b : Value) (t : TypeId) (k : Nat) (hk : k = W.heap.size) : (W.alloc (.cells #[a, b] t)).cell? ⟨k, 0, none⟩ = some a ∧ (W.alloc (.cells #[a, b] t)).cell? ⟨k, 1, none⟩ = some b ∧ (W.alloc (.cells #[a, b] t)).frozen? ⟨k, 0, none⟩ = false ∧ (W.alloc (.cells #[a, b] t)).frozen? ⟨k, 1, none⟩ = false := by
  subst hk
  simp
theorem new_one (W : World) (a : Value) (t : TypeId) (k : Nat) (hk : k = W.heap.size) : (W.alloc (.cells #[a] t)).cell? ⟨k, 0, none⟩ = some a := by
  subst hk
  simp
theorem below_alloc (W : World) (o : Obj) : Below W.heap.size W (W.alloc o) := (Below.refl _ W).alloc (Nat.le_refl _) o

section
variable {w : World} {v : Value} {xs : List Int} (hr : Reads w v xs) (hm : xs.length ≤ 1000000) (x : Nat) (hx : x < 18446744073709551616)
include hr hm hx

set_option maxHeartbeats 1000000 in
theorem keep_any (m g : Nat) (hE : Enters Tryd.prog g) (env : Array Value) (hmm : m < 18446744073709551616)
    (hK : mayL xs x = true → ∀ u', Below w.heap.size w u' → Calls Tryd.prog g (#[.agg #[v, .int .u64 x]] ++ env) u' fun e w' => e = .returned (.int .u64 m) ∧ Below u'.heap.size u' w') :
    Calls Tryd.prog 49 #[.agg #[v, .int .u64 x], .func (.func g) #[] env] w fun e w' => ∃ r, e = .returned r ∧ DomAt w.heap.size (keepX xs x) (if mayL xs x = true then x &&& m else 0) r w' ∧ Below w.heap.size w w' := by
  have hr0 := hr
  obtain ⟨p, n, c, rfl⟩ := reads_slice hr
  obtain ⟨wq, hwq⟩ : ∃ wq, wq = ((w.alloc (.cells #[.slice p n c, .int .u64 x] 26)).alloc (.cells #[.func (.func g) #[] env] 71)).alloc (.cells #[.slice none 0 0, .int .u64 0] 26) := ⟨_, rfl⟩
  have hb0 : Below w.heap.size w wq := by rw [hwq]; exact (((Below.refl _ w).alloc (Nat.le_refl _) _).alloc (by simp) _).alloc (by simp; omega) _
  have hcf : wq.cell? ⟨w.heap.size + 1, 0, none⟩ = some (.func (.func g) #[] env) := by rw [hwq]; exact cell_below (below_alloc _ _) (new_one _ _ _ _ (by simp))
  have hsz : wq.heap.size = w.heap.size + 3 := by rw [hwq]; simp
  have hd : wq.cell? ⟨w.heap.size + 2, 0, none⟩ = some (.slice none 0 0) ∧ wq.cell? ⟨w.heap.size + 2, 1, none⟩ = some (.int .u64 0) ∧ wq.frozen? ⟨w.heap.size + 2, 0, none⟩ = false ∧ wq.frozen? ⟨w.heap.size + 2, 1, none⟩ = false := by
    rw [hwq]
    exact new_two _ _ _ _ _ (by simp)
  have A := Lib.hid (askD (reads_below hr hb0) hm x hx 69 (enters_of Tryd.func69 (by kernel_rfl) rfl) #[.pointer (some ⟨w.heap.size + 1, 0, none⟩)] (DomAt (wq.heap.size + 2) xs (x &&& m))
    (fun r w' h => by obtain ⟨p', n', c', e⟩ := dom_shape h; exact ⟨p', n', c', _, e⟩) (fun r u y0 y1 h => dom_set h (by omega))
    (fun hmay u hu hz => (keep1_any x m g hE env (w.heap.size + 1) u (reads_below hr0 (below_two hb0 hu)) (may_iff.1 hmay).1 hx hmm (cell_below hu hcf) (fun u' hu' => hK hmay u' (below_two (below_two hb0 hu) hu'))).mono fun e w' ⟨r, h1, h2, h3⟩ => ⟨r, h1, dom_low h2 hz, h3⟩))
  have key : ∀ e w', Asked (mayL xs x) (.agg #[.slice none 0 0, .int .u64 0]) (DomAt (wq.heap.size + 2) xs (x &&& m)) e w' → ∃ r, e = .returned r ∧ DomAt (wq.heap.size + 2) (keepX xs x) (if mayL xs x = true then x &&& m else 0) r w' := by
    rintro e w' (⟨h, rfl⟩ | ⟨h, r, rfl, hd⟩)
    · rw [keepX, h, if_neg (by simp), if_neg (by simp)]
      exact ⟨_, rfl, dom_zero _ _⟩
    · rw [keepX, h, if_pos rfl, if_pos rfl]
      exact ⟨_, rfl, hd⟩
  have HK := Lib.hid key
  have HB := Lib.hid hb0
  have HD := Lib.hid hd
  have HS := Lib.hid hsz
  generalize (if mayL xs x = true then x &&& m else 0) = y at HK ⊢
  generalize keepX xs x = xs' at HK ⊢
  have HW := Lib.hid hwq
  clear hr hr0 key hb0 hcf hE hd hK hsz hwq
  go_enter Tryd.func49, Tryd.ntmps49
  go_wp2_with fail
  rw [← HW.out]
  refine A.out.mono ?_
  rintro e w1 ⟨h, hB⟩
  obtain ⟨r, rfl, hd⟩ := HK.out _ _ h
  have HB1 := Lib.hid (below_two HB.out hB)
  have d0 := cell_below hB HD.out.1
  have d1 := cell_below hB HD.out.2.1
  have f0 := frozen_below hB HD.out.1 HD.out.2.2.1
  have f1 := frozen_below hB HD.out.2.1 HD.out.2.2.2
  obtain ⟨p', n', c', rfl⟩ := dom_shape hd
  have HE := Lib.hid hd
  clear h hB hd
  go_wp2_with fail
  (try simp only [Exit.inBlock, Exit.then])
  refine bodyPost_ret (results_dom rfl _ _ (w.heap.size + 2) (.slice p' n' c') (.int .u64 y) rfl ?c0 ?c1) rfl ?rest
  case c0 => go_simp
  case c1 => go_simp
  have hs := HS.out
  exact ⟨_, rfl, dom_low (dom_set HE.out (by omega)) (by omega), (HB1.out.setCell (Nat.le_add_right _ 2) _).setCell (Nat.le_add_right _ 2) _⟩
end
end Go.Proofs.YtnabkhmonmcmfaaDoor
