/-
  What Size, Least, Greatest and Single of package dom answer, at every domain.
-/
import Derived.Test.YtnabkhmonmcmfaaDoorDLeaf
namespace Go.Proofs.YtnabkhmonmcmfaaDoor
open Go.RowKit

/-- what is asked of a domain: the zero value, if it may not be; else what the answer tells -/
def Asked (m : Bool) (zero : Value) (Q : Value → World → Prop) (e : Ending) (w' : World) : Prop :=
  (m = false ∧ e = .returned zero) ∨ (m = true ∧ ∃ r, e = .returned r ∧ Q r w')

theorem frozen_below {w wr : World} {p : Addr} {v : Value} (hB : Below w.heap.size w wr) (h : w.cell? p = some v) (hf : w.frozen? p = false) : wr.frozen? p = false := by
  have hlt : p.block < w.heap.size := by
    unfold World.cell? at h
    cases hh : w.heap[p.block]? with
    | none => simp [hh] at h
    | some q => exact (Array.getElem?_eq_some_iff.1 hh).1
  exact (hB.frozen hlt).trans hf

/-- what a call hands back out of a variable of two cells -/
theorem results_dom {fn : Func} {p : Tmp} (h : fn.results = #[.cell p 26]) (tmps : Array Value) (w : World) (b : Nat) (v0 v1 : Value) (hp : tmps.getD p undef = .pointer (some ⟨b, 0, none⟩)) (c0 : w.cell? ⟨b, 0, none⟩ = some v0) (c1 : w.cell? ⟨b, 1, none⟩ = some v1) :
    (results fn tmps).run Tryd.prog w = .ok (.agg #[v0, v1]) w := by
  have hp' : tmps[p]?.getD undef = .pointer (some ⟨b, 0, none⟩) := by simpa using hp
  simp only [results, h]
  simp [hp', asAddr]
  go_simp
theorem results_val {fn : Func} {p : Tmp} (h : fn.results = #[.cell p 77]) (tmps : Array Value) (w : World) (b : Nat) (v0 v1 : Value) (hp : tmps.getD p undef = .pointer (some ⟨b, 0, none⟩)) (c0 : w.cell? ⟨b, 0, none⟩ = some v0) (c1 : w.cell? ⟨b, 1, none⟩ = some v1) :
    (results fn tmps).run Tryd.prog w = .ok (.agg #[v0, v1]) w := by
  have hp' : tmps[p]?.getD undef = .pointer (some ⟨b, 0, none⟩) := by simpa using hp
  simp only [results, h]
  simp [hp', asAddr]
  go_simp
theorem results_rdom {fn : Func} {p : Tmp} (h : fn.results = #[.cell p 31]) (tmps : Array Value) (w : World) (b : Nat) (v0 v1 : Value) (hp : tmps.getD p undef = .pointer (some ⟨b, 0, none⟩)) (c0 : w.cell? ⟨b, 0, none⟩ = some v0) (c1 : w.cell? ⟨b, 1, none⟩ = some v1) :
    (results fn tmps).run Tryd.prog w = .ok (.agg #[v0, v1]) w := by
  have hp' : tmps[p]?.getD undef = .pointer (some ⟨b, 0, none⟩) := by simpa using hp
  simp only [results, h]
  simp [hp', asAddr]
  go_simp

section
variable {w : World} {v : Value} {xs : List Int} (hr : Reads w v xs) (hm : xs.length ≤ 1000000) (x : Nat) (hx : x < 18446744073709551616)
include hr hm hx

set_option maxHeartbeats 1000000 in
theorem askI (f : Nat) (hE : Enters Tryd.prog f) (env : Array Value) (Q : Value → World → Prop)
    (hf : mayL xs x = true → ∀ u, Below w.heap.size w u → Calls Tryd.prog f (#[.agg #[v, .int .u64 x]] ++ env) u fun e w' => ∃ r, e = .returned r ∧ Q r w' ∧ Below u.heap.size u w') :
    Calls Tryd.prog 40 #[.agg #[v, .int .u64 x], .func (.func f) #[] env] w fun e w' => Asked (mayL xs x) (.int .i64 0) Q e w' ∧ Below w.heap.size w w' := by
  have M := Lib.hid (fun w' (hb : Below w.heap.size w w') => may_any (reads_below hr hb) hm x hx)
  obtain ⟨p, n, c, rfl⟩ := reads_slice hr
  have HB := Lib.hid ((Below.refl _ w).alloc (Nat.le_refl _) (.cells #[.slice p n c, .int .u64 x] 26))
  have HF := Lib.hid hf
  obtain ⟨R, hR⟩ : ∃ R, R = mayL xs x := ⟨_, rfl⟩
  rw [← hR] at M HF ⊢
  clear hr hf hR
  have c0 : (w.alloc (.cells #[.slice p n c, .int .u64 x] 26)).cell? ⟨w.heap.size, 0, none⟩ = some (.slice p n c) := by simp
  have c1 : (w.alloc (.cells #[.slice p n c, .int .u64 x] 26)).cell? ⟨w.heap.size, 1, none⟩ = some (.int .u64 x) := by simp
  have HC := Lib.hid (And.intro c0 c1)
  clear c0 c1
  cases R
  · clear HF hE
    go_enter Tryd.func40, Tryd.ntmps40
    go_wp2_with fail
    refine (M.out _ HB.out).mono ?_
    rintro e w1 ⟨rfl, hB⟩
    have HB1 := Lib.hid (below_two HB.out hB)
    clear hB
    go_wp2_with fail
    go_ret
    exact ⟨.inl ⟨rfl, rfl⟩, HB1.out⟩
  · have HE := Lib.hid hE
    clear hE
    go_enter Tryd.func40, Tryd.ntmps40
    go_wp2_with fail
    refine (M.out _ HB.out).mono ?_
    rintro e w1 ⟨rfl, hB⟩
    have c0 := cell_below hB HC.out.1
    have c1 := cell_below hB HC.out.2
    have HB1 := Lib.hid (below_two HB.out hB)
    clear hB
    go_wp2_with fail
    simp only [HE.out _ _]
    refine (HF.out trivial _ HB1.out).mono ?_
    rintro e w2 ⟨r, rfl, hQ, hB⟩
    have HB2 := Lib.hid (below_two HB1.out hB)
    have HQ := Lib.hid hQ
    clear hB hQ
    go_wp2_with fail
    go_ret
    exact ⟨.inr ⟨rfl, _, rfl, HQ.out⟩, HB2.out⟩

set_option maxHeartbeats 1000000 in
theorem askB (f : Nat) (hE : Enters Tryd.prog f) (env : Array Value) (Q : Value → World → Prop)
    (hf : mayL xs x = true → ∀ u, Below w.heap.size w u → Calls Tryd.prog f (#[.agg #[v, .int .u64 x]] ++ env) u fun e w' => ∃ r, e = .returned r ∧ Q r w' ∧ Below u.heap.size u w') :
    Calls Tryd.prog 45 #[.agg #[v, .int .u64 x], .func (.func f) #[] env] w fun e w' => Asked (mayL xs x) (.bool false) Q e w' ∧ Below w.heap.size w w' := by
  have M := Lib.hid (fun w' (hb : Below w.heap.size w w') => may_any (reads_below hr hb) hm x hx)
  obtain ⟨p, n, c, rfl⟩ := reads_slice hr
  have HB := Lib.hid ((Below.refl _ w).alloc (Nat.le_refl _) (.cells #[.slice p n c, .int .u64 x] 26))
  have HF := Lib.hid hf
  obtain ⟨R, hR⟩ : ∃ R, R = mayL xs x := ⟨_, rfl⟩
  rw [← hR] at M HF ⊢
  clear hr hf hR
  have c0 : (w.alloc (.cells #[.slice p n c, .int .u64 x] 26)).cell? ⟨w.heap.size, 0, none⟩ = some (.slice p n c) := by simp
  have c1 : (w.alloc (.cells #[.slice p n c, .int .u64 x] 26)).cell? ⟨w.heap.size, 1, none⟩ = some (.int .u64 x) := by simp
  have HC := Lib.hid (And.intro c0 c1)
  clear c0 c1
  cases R
  · clear HF hE
    go_enter Tryd.func45, Tryd.ntmps45
    go_wp2_with fail
    refine (M.out _ HB.out).mono ?_
    rintro e w1 ⟨rfl, hB⟩
    have HB1 := Lib.hid (below_two HB.out hB)
    clear hB
    go_wp2_with fail
    go_ret
    exact ⟨.inl ⟨rfl, rfl⟩, HB1.out⟩
  · have HE := Lib.hid hE
    clear hE
    go_enter Tryd.func45, Tryd.ntmps45
    go_wp2_with fail
    refine (M.out _ HB.out).mono ?_
    rintro e w1 ⟨rfl, hB⟩
    have c0 := cell_below hB HC.out.1
    have c1 := cell_below hB HC.out.2
    have HB1 := Lib.hid (below_two HB.out hB)
    clear hB
    go_wp2_with fail
    simp only [HE.out _ _]
    refine (HF.out trivial _ HB1.out).mono ?_
    rintro e w2 ⟨r, rfl, hQ, hB⟩
    have HB2 := Lib.hid (below_two HB1.out hB)
    have HQ := Lib.hid hQ
    clear hB hQ
    go_wp2_with fail
    go_ret
    exact ⟨.inr ⟨rfl, _, rfl, HQ.out⟩, HB2.out⟩

set_option maxHeartbeats 1000000 in
theorem askL (f : Nat) (hE : Enters Tryd.prog f) (env : Array Value) (Q : Value → World → Prop)
    (hf : mayL xs x = true → ∀ u, Below w.heap.size w u → Calls Tryd.prog f (#[.agg #[v, .int .u64 x]] ++ env) u fun e w' => ∃ r, e = .returned r ∧ Q r w' ∧ Below u.heap.size u w') :
    Calls Tryd.prog 42 #[.agg #[v, .int .u64 x], .func (.func f) #[] env] w fun e w' => Asked (mayL xs x) (.slice none 0 0) Q e w' ∧ Below w.heap.size w w' := by
  have M := Lib.hid (fun w' (hb : Below w.heap.size w w') => may_any (reads_below hr hb) hm x hx)
  obtain ⟨p, n, c, rfl⟩ := reads_slice hr
  have HB := Lib.hid ((Below.refl _ w).alloc (Nat.le_refl _) (.cells #[.slice p n c, .int .u64 x] 26))
  have HF := Lib.hid hf
  obtain ⟨R, hR⟩ : ∃ R, R = mayL xs x := ⟨_, rfl⟩
  rw [← hR] at M HF ⊢
  clear hr hf hR
  have c0 : (w.alloc (.cells #[.slice p n c, .int .u64 x] 26)).cell? ⟨w.heap.size, 0, none⟩ = some (.slice p n c) := by simp
  have c1 : (w.alloc (.cells #[.slice p n c, .int .u64 x] 26)).cell? ⟨w.heap.size, 1, none⟩ = some (.int .u64 x) := by simp
  have HC := Lib.hid (And.intro c0 c1)
  clear c0 c1
  cases R
  · clear HF hE
    go_enter Tryd.func42, Tryd.ntmps42
    go_wp2_with fail
    refine (M.out _ HB.out).mono ?_
    rintro e w1 ⟨rfl, hB⟩
    have HB1 := Lib.hid (below_two HB.out hB)
    clear hB
    go_wp2_with fail
    go_ret
    exact ⟨.inl ⟨rfl, rfl⟩, HB1.out⟩
  · have HE := Lib.hid hE
    clear hE
    go_enter Tryd.func42, Tryd.ntmps42
    go_wp2_with fail
    refine (M.out _ HB.out).mono ?_
    rintro e w1 ⟨rfl, hB⟩
    have c0 := cell_below hB HC.out.1
    have c1 := cell_below hB HC.out.2
    have HB1 := Lib.hid (below_two HB.out hB)
    clear hB
    go_wp2_with fail
    simp only [HE.out _ _]
    refine (HF.out trivial _ HB1.out).mono ?_
    rintro e w2 ⟨r, rfl, hQ, hB⟩
    have HB2 := Lib.hid (below_two HB1.out hB)
    have HQ := Lib.hid hQ
    clear hB hQ
    go_wp2_with fail
    go_ret
    exact ⟨.inr ⟨rfl, _, rfl, HQ.out⟩, HB2.out⟩

set_option maxHeartbeats 1000000 in
theorem askV (f : Nat) (hE : Enters Tryd.prog f) (env : Array Value) (Q : Value → World → Prop)
    (hsh : ∀ r w', Q r w' → ∃ n t, r = .agg #[.int .i64 n, .bool t]) (hst : ∀ r (u : World) (y0 y1 : Value), Q r u → Q r ((u.setCell ⟨w.heap.size + 1, 0, none⟩ y0).setCell ⟨w.heap.size + 1, 1, none⟩ y1))
    (hf : mayL xs x = true → ∀ u, Below w.heap.size w u → w.heap.size + 2 ≤ u.heap.size → Calls Tryd.prog f (#[.agg #[v, .int .u64 x]] ++ env) u fun e w' => ∃ r, e = .returned r ∧ Q r w' ∧ Below u.heap.size u w') :
    Calls Tryd.prog 58 #[.agg #[v, .int .u64 x], .func (.func f) #[] env] w fun e w' => Asked (mayL xs x) (.agg #[.int .i64 0, .bool false]) Q e w' ∧ Below w.heap.size w w' := by
  have M := Lib.hid (fun w' (hb : Below w.heap.size w w') => may_any (reads_below hr hb) hm x hx)
  obtain ⟨p, n, c, rfl⟩ := reads_slice hr
  have HB := Lib.hid (((Below.refl _ w).alloc (Nat.le_refl _) (.cells #[.slice p n c, .int .u64 x] 26)).alloc (by simp) (.cells #[.int .i64 0, .bool false] 77))
  have HF := Lib.hid hf
  obtain ⟨R, hR⟩ : ∃ R, R = mayL xs x := ⟨_, rfl⟩
  rw [← hR] at M HF ⊢
  clear hr hf hR
  have c0 : ((w.alloc (.cells #[.slice p n c, .int .u64 x] 26)).alloc (.cells #[.int .i64 0, .bool false] 77)).cell? ⟨w.heap.size, 0, none⟩ = some (.slice p n c) := by simp
  have c1 : ((w.alloc (.cells #[.slice p n c, .int .u64 x] 26)).alloc (.cells #[.int .i64 0, .bool false] 77)).cell? ⟨w.heap.size, 1, none⟩ = some (.int .u64 x) := by simp
  have HC := Lib.hid (And.intro c0 c1)
  clear c0 c1
  have d0 : ((w.alloc (.cells #[.slice p n c, .int .u64 x] 26)).alloc (.cells #[.int .i64 0, .bool false] 77)).cell? ⟨w.heap.size + 1, 0, none⟩ = some (.int .i64 0) := by simp
  have d1 : ((w.alloc (.cells #[.slice p n c, .int .u64 x] 26)).alloc (.cells #[.int .i64 0, .bool false] 77)).cell? ⟨w.heap.size + 1, 1, none⟩ = some (.bool false) := by simp
  have f0 : ((w.alloc (.cells #[.slice p n c, .int .u64 x] 26)).alloc (.cells #[.int .i64 0, .bool false] 77)).frozen? ⟨w.heap.size + 1, 0, none⟩ = false := by simp
  have f1 : ((w.alloc (.cells #[.slice p n c, .int .u64 x] 26)).alloc (.cells #[.int .i64 0, .bool false] 77)).frozen? ⟨w.heap.size + 1, 1, none⟩ = false := by simp
  have HD := Lib.hid (And.intro d0 (And.intro d1 (And.intro f0 f1)))
  clear d0 d1 f0 f1
  cases R
  · clear HF hE hsh hst
    go_enter Tryd.func58, Tryd.ntmps58
    go_wp2_with fail
    refine (M.out _ HB.out).mono ?_
    rintro e w1 ⟨rfl, hB⟩
    have d0 := cell_below hB HD.out.1
    have d1 := cell_below hB HD.out.2.1
    have f0 := frozen_below hB HD.out.1 HD.out.2.2.1
    have f1 := frozen_below hB HD.out.2.1 HD.out.2.2.2
    have al := (Below.refl w1.heap.size w1).alloc (Nat.le_refl _) (.cells #[.int .i64 0, .bool false] 77)
    have f0 := frozen_below al d0 f0
    have f1 := frozen_below al d1 f1
    have d0 := cell_below al d0
    have d1 := cell_below al d1
    clear al
    have HB1 := Lib.hid (below_two HB.out hB)
    clear hB
    go_wp2_with fail
    (try simp only [Exit.inBlock, Exit.then])
    refine bodyPost_ret (results_val rfl _ _ (w.heap.size + 1) (.int .i64 0) (.bool false) rfl ?c0a ?c1a) rfl ?resta
    case c0a => go_simp
    case c1a => go_simp
    exact ⟨.inl ⟨rfl, rfl⟩, ((HB1.out.alloc HB1.out.size _).setCell (by simp) _).setCell (by simp) _⟩
  · have HE := Lib.hid hE
    have HSH := Lib.hid hsh
    have HST := Lib.hid hst
    clear hsh hst
    clear hE
    go_enter Tryd.func58, Tryd.ntmps58
    go_wp2_with fail
    refine (M.out _ HB.out).mono ?_
    rintro e w1 ⟨rfl, hB⟩
    have c0 := cell_below hB HC.out.1
    have c1 := cell_below hB HC.out.2
    have d0 := cell_below hB HD.out.1
    have d1 := cell_below hB HD.out.2.1
    have f0 := frozen_below hB HD.out.1 HD.out.2.2.1
    have f1 := frozen_below hB HD.out.2.1 HD.out.2.2.2
    have hsz := hB.size
    simp at hsz
    have HB1 := Lib.hid (below_two HB.out hB)
    clear hB
    go_wp2_with fail
    simp only [HE.out _ _]
    refine (HF.out trivial _ HB1.out (by omega)).mono ?_
    rintro e w2 ⟨r, rfl, hQ, hB⟩
    have f0 := frozen_below hB d0 f0
    have f1 := frozen_below hB d1 f1
    have d0 := cell_below hB d0
    have d1 := cell_below hB d1
    have HB2 := Lib.hid (below_two HB1.out hB)
    have HQ := Lib.hid hQ
    clear hB hQ
    obtain ⟨s0, s1, rfl⟩ := HSH.out _ _ HQ.out
    go_wp2_with fail
    (try simp only [Exit.inBlock, Exit.then])
    refine bodyPost_ret (results_val rfl _ _ (w.heap.size + 1) (.int .i64 s0) (.bool s1) rfl ?c0b ?c1b) rfl ?restb
    case c0b => go_simp
    case c1b => go_simp
    exact ⟨.inr ⟨rfl, _, rfl, HST.out _ _ _ _ HQ.out⟩, (HB2.out.setCell (by simp) _).setCell (by simp) _⟩

set_option maxHeartbeats 1000000 in
theorem askD (f : Nat) (hE : Enters Tryd.prog f) (env : Array Value) (Q : Value → World → Prop)
    (hsh : ∀ r w', Q r w' → ∃ (p : Option Addr) (n c y : Nat), r = .agg #[.slice p n c, .int .u64 y]) (hst : ∀ r (u : World) (y0 y1 : Value), Q r u → Q r ((u.setCell ⟨w.heap.size + 1, 0, none⟩ y0).setCell ⟨w.heap.size + 1, 1, none⟩ y1))
    (hf : mayL xs x = true → ∀ u, Below w.heap.size w u → w.heap.size + 2 ≤ u.heap.size → Calls Tryd.prog f (#[.agg #[v, .int .u64 x]] ++ env) u fun e w' => ∃ r, e = .returned r ∧ Q r w' ∧ Below u.heap.size u w') :
    Calls Tryd.prog 68 #[.agg #[v, .int .u64 x], .func (.func f) #[] env] w fun e w' => Asked (mayL xs x) (.agg #[.slice none 0 0, .int .u64 0]) Q e w' ∧ Below w.heap.size w w' := by
  have M := Lib.hid (fun w' (hb : Below w.heap.size w w') => may_any (reads_below hr hb) hm x hx)
  obtain ⟨p, n, c, rfl⟩ := reads_slice hr
  have HB := Lib.hid (((Below.refl _ w).alloc (Nat.le_refl _) (.cells #[.slice p n c, .int .u64 x] 26)).alloc (by simp) (.cells #[.slice none 0 0, .int .u64 0] 26))
  have HF := Lib.hid hf
  obtain ⟨R, hR⟩ : ∃ R, R = mayL xs x := ⟨_, rfl⟩
  rw [← hR] at M HF ⊢
  clear hr hf hR
  have c0 : ((w.alloc (.cells #[.slice p n c, .int .u64 x] 26)).alloc (.cells #[.slice none 0 0, .int .u64 0] 26)).cell? ⟨w.heap.size, 0, none⟩ = some (.slice p n c) := by simp
  have c1 : ((w.alloc (.cells #[.slice p n c, .int .u64 x] 26)).alloc (.cells #[.slice none 0 0, .int .u64 0] 26)).cell? ⟨w.heap.size, 1, none⟩ = some (.int .u64 x) := by simp
  have HC := Lib.hid (And.intro c0 c1)
  clear c0 c1
  have d0 : ((w.alloc (.cells #[.slice p n c, .int .u64 x] 26)).alloc (.cells #[.slice none 0 0, .int .u64 0] 26)).cell? ⟨w.heap.size + 1, 0, none⟩ = some (.slice none 0 0) := by simp
  have d1 : ((w.alloc (.cells #[.slice p n c, .int .u64 x] 26)).alloc (.cells #[.slice none 0 0, .int .u64 0] 26)).cell? ⟨w.heap.size + 1, 1, none⟩ = some (.int .u64 0) := by simp
  have f0 : ((w.alloc (.cells #[.slice p n c, .int .u64 x] 26)).alloc (.cells #[.slice none 0 0, .int .u64 0] 26)).frozen? ⟨w.heap.size + 1, 0, none⟩ = false := by simp
  have f1 : ((w.alloc (.cells #[.slice p n c, .int .u64 x] 26)).alloc (.cells #[.slice none 0 0, .int .u64 0] 26)).frozen? ⟨w.heap.size + 1, 1, none⟩ = false := by simp
  have HD := Lib.hid (And.intro d0 (And.intro d1 (And.intro f0 f1)))
  clear d0 d1 f0 f1
  cases R
  · clear HF hE hsh hst
    go_enter Tryd.func68, Tryd.ntmps68
    go_wp2_with fail
    refine (M.out _ HB.out).mono ?_
    rintro e w1 ⟨rfl, hB⟩
    have d0 := cell_below hB HD.out.1
    have d1 := cell_below hB HD.out.2.1
    have f0 := frozen_below hB HD.out.1 HD.out.2.2.1
    have f1 := frozen_below hB HD.out.2.1 HD.out.2.2.2
    have al := (Below.refl w1.heap.size w1).alloc (Nat.le_refl _) (.cells #[.slice none 0 0, .int .u64 0] 26)
    have f0 := frozen_below al d0 f0
    have f1 := frozen_below al d1 f1
    have d0 := cell_below al d0
    have d1 := cell_below al d1
    clear al
    have HB1 := Lib.hid (below_two HB.out hB)
    clear hB
    go_wp2_with fail
    (try simp only [Exit.inBlock, Exit.then])
    refine bodyPost_ret (results_dom rfl _ _ (w.heap.size + 1) (.slice none 0 0) (.int .u64 0) rfl ?c0a ?c1a) rfl ?resta
    case c0a => go_simp
    case c1a => go_simp
    exact ⟨.inl ⟨rfl, rfl⟩, ((HB1.out.alloc HB1.out.size _).setCell (by simp) _).setCell (by simp) _⟩
  · have HE := Lib.hid hE
    have HSH := Lib.hid hsh
    have HST := Lib.hid hst
    clear hsh hst
    clear hE
    go_enter Tryd.func68, Tryd.ntmps68
    go_wp2_with fail
    refine (M.out _ HB.out).mono ?_
    rintro e w1 ⟨rfl, hB⟩
    have c0 := cell_below hB HC.out.1
    have c1 := cell_below hB HC.out.2
    have d0 := cell_below hB HD.out.1
    have d1 := cell_below hB HD.out.2.1
    have f0 := frozen_below hB HD.out.1 HD.out.2.2.1
    have f1 := frozen_below hB HD.out.2.1 HD.out.2.2.2
    have hsz := hB.size
    simp at hsz
    have HB1 := Lib.hid (below_two HB.out hB)
    clear hB
    go_wp2_with fail
    simp only [HE.out _ _]
    refine (HF.out trivial _ HB1.out (by omega)).mono ?_
    rintro e w2 ⟨r, rfl, hQ, hB⟩
    have f0 := frozen_below hB d0 f0
    have f1 := frozen_below hB d1 f1
    have d0 := cell_below hB d0
    have d1 := cell_below hB d1
    have HB2 := Lib.hid (below_two HB1.out hB)
    have HQ := Lib.hid hQ
    clear hB hQ
    obtain ⟨s0, s1, s2, s3, rfl⟩ := HSH.out _ _ HQ.out
    go_wp2_with fail
    (try simp only [Exit.inBlock, Exit.then])
    refine bodyPost_ret (results_dom rfl _ _ (w.heap.size + 1) (.slice s0 s1 s2) (.int .u64 s3) rfl ?c0b ?c1b) rfl ?restb
    case c0b => go_simp
    case c1b => go_simp
    exact ⟨.inr ⟨rfl, _, rfl, HST.out _ _ _ _ HQ.out⟩, (HB2.out.setCell (by simp) _).setCell (by simp) _⟩
end
end Go.Proofs.YtnabkhmonmcmfaaDoor
