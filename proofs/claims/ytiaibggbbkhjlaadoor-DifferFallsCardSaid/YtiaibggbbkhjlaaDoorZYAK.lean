/-
  What Size, Least, Greatest and Single of package dom answer, at every domain.
  What May and List of the document's answers answer, at every domain.
-/
import Derived.Test.YtiaibggbbkhjlaaDoorZDLeaf
namespace Go.Proofs.YtiaibggbbkhjlaaDoor.Dm
open Go.RowKit
set_option maxRecDepth 100000

/-- what is asked of a domain: the zero value, if it may not be; else what the answer tells -/
def Asked (m : Bool) (zero : Value) (Q : Value → World → Prop) (e : Ending) (w' : World) : Prop :=
  (m = false ∧ e = .returned zero) ∨ (m = true ∧ ∃ r, e = .returned r ∧ Q r w')

theorem frozen_below {w wr : World} {p : Addr} {v : Value} (hB : Below w.heap.size w wr) (h : w.cell? p = some v) (hf : w.frozen? p = false) : wr.frozen? p = false := by
  have hlt : p.block < w.heap.size := by
    unfold World.cell? at h
    cases hh : w.heap[p.block]? with
    | none => simp [hh] at h
    | some q => exact (Array.getElem?_eq_some_iff.1 hh).1
  exact (hB.frozen hlt).trans hf

/-- what a call hands back out of a variable of two cells -/
theorem results_dom {fn : Func} {p : Tmp} (h : fn.results = #[.cell p 47]) (tmps : Array Value) (w : World) (b : Nat) (v0 v1 : Value) (hp : tmps.getD p undef = .pointer (some ⟨b, 0, none⟩)) (c0 : w.cell? ⟨b, 0, none⟩ = some v0) (c1 : w.cell? ⟨b, 1, none⟩ = some v1) :
    (results fn tmps).run Tryd.prog w = .ok (.agg #[v0, v1]) w := by
  have hp' : tmps[p]?.getD undef = .pointer (some ⟨b, 0, none⟩) := by simpa using hp
  simp only [results, h]
  simp [hp', asAddr]
  go_simp
theorem results_rdom {fn : Func} {p : Tmp} (h : fn.results = #[.cell p 66]) (tmps : Array Value) (w : World) (b : Nat) (v0 v1 : Value) (hp : tmps.getD p undef = .pointer (some ⟨b, 0, none⟩)) (c0 : w.cell? ⟨b, 0, none⟩ = some v0) (c1 : w.cell? ⟨b, 1, none⟩ = some v1) :
    (results fn tmps).run Tryd.prog w = .ok (.agg #[v0, v1]) w := by
  have hp' : tmps[p]?.getD undef = .pointer (some ⟨b, 0, none⟩) := by simpa using hp
  simp only [results, h]
  simp [hp', asAddr]
  go_simp

section
variable {w : World} {v : Value} {xs : List Int} (hr : Reads w v xs) (hm : xs.length ≤ 1000000) (x : Nat) (hx : x < 18446744073709551616)
include hr hm hx

set_option maxHeartbeats 1000000 in
theorem askI (f : Nat) (hE : Enters Tryd.prog f) (env : Array Value) (Q : Value → World → Prop)
    (hf : mayL xs x = true → ∀ u, Below w.heap.size w u → Calls Tryd.prog f (#[.agg #[v, .int .u64 x]] ++ env) u fun e w' => ∃ r, e = .returned r ∧ Q r w' ∧ Below u.heap.size u w') :
    Calls Tryd.prog 56 #[.agg #[v, .int .u64 x], .func (.func f) #[] env] w fun e w' => Asked (mayL xs x) (.int .i64 0) Q e w' ∧ Below w.heap.size w w' := by
  have M := Lib.hid (fun w' (hb : Below w.heap.size w w') => may_any (reads_below hr hb) hm x hx)
  obtain ⟨p, n, c, rfl⟩ := reads_slice hr
  have HB := Lib.hid ((Below.refl _ w).alloc (Nat.le_refl _) (.cells #[.slice p n c, .int .u64 x] 47))
  have HF := Lib.hid hf
  obtain ⟨R, hR⟩ : ∃ R, R = mayL xs x := ⟨_, rfl⟩
  rw [← hR] at M HF ⊢
  clear hr hf hR
  have c0 : (w.alloc (.cells #[.slice p n c, .int .u64 x] 47)).cell? ⟨w.heap.size, 0, none⟩ = some (.slice p n c) := by simp
  have c1 : (w.alloc (.cells #[.slice p n c, .int .u64 x] 47)).cell? ⟨w.heap.size, 1, none⟩ = some (.int .u64 x) := by simp
  have HC := Lib.hid (And.intro c0 c1)
  clear c0 c1
  cases R
  · clear HF hE
    go_enter Tryd.func56, Tryd.ntmps56
    go_wp2_with fail
    refine (M.out _ HB.out).mono ?_
    rintro e w1 ⟨rfl, hB⟩
    have HB1 := Lib.hid (below_two HB.out hB)
    clear hB
    go_wp2_with fail
    go_ret
    exact ⟨.inl ⟨rfl, rfl⟩, HB1.out⟩
  · have HE := Lib.hid hE
    clear hE
    go_enter Tryd.func56, Tryd.ntmps56
    go_wp2_with fail
    refine (M.out _ HB.out).mono ?_
    rintro e w1 ⟨rfl, hB⟩
    have c0 := cell_below hB HC.out.1
    have c1 := cell_below hB HC.out.2
    have HB1 := Lib.hid (below_two HB.out hB)
    clear hB
    go_wp2_with fail
    simp only [HE.out _ _]
    refine (HF.out trivial _ HB1.out).mono ?_
    rintro e w2 ⟨r, rfl, hQ, hB⟩
    have HB2 := Lib.hid (below_two HB1.out hB)
    have HQ := Lib.hid hQ
    clear hB hQ
    go_wp2_with fail
    go_ret
    exact ⟨.inr ⟨rfl, _, rfl, HQ.out⟩, HB2.out⟩

set_option maxHeartbeats 1000000 in
theorem askL (f : Nat) (hE : Enters Tryd.prog f) (env : Array Value) (Q : Value → World → Prop)
    (hf : mayL xs x = true → ∀ u, Below w.heap.size w u → Calls Tryd.prog f (#[.agg #[v, .int .u64 x]] ++ env) u fun e w' => ∃ r, e = .returned r ∧ Q r w' ∧ Below u.heap.size u w') :
    Calls Tryd.prog 53 #[.agg #[v, .int .u64 x], .func (.func f) #[] env] w fun e w' => Asked (mayL xs x) (.slice none 0 0) Q e w' ∧ Below w.heap.size w w' := by
  have M := Lib.hid (fun w' (hb : Below w.heap.size w w') => may_any (reads_below hr hb) hm x hx)
  obtain ⟨p, n, c, rfl⟩ := reads_slice hr
  have HB := Lib.hid ((Below.refl _ w).alloc (Nat.le_refl _) (.cells #[.slice p n c, .int .u64 x] 47))
  have HF := Lib.hid hf
  obtain ⟨R, hR⟩ : ∃ R, R = mayL xs x := ⟨_, rfl⟩
  rw [← hR] at M HF ⊢
  clear hr hf hR
  have c0 : (w.alloc (.cells #[.slice p n c, .int .u64 x] 47)).cell? ⟨w.heap.size, 0, none⟩ = some (.slice p n c) := by simp
  have c1 : (w.alloc (.cells #[.slice p n c, .int .u64 x] 47)).cell? ⟨w.heap.size, 1, none⟩ = some (.int .u64 x) := by simp
  have HC := Lib.hid (And.intro c0 c1)
  clear c0 c1
  cases R
  · clear HF hE
    go_enter Tryd.func53, Tryd.ntmps53
    go_wp2_with fail
    refine (M.out _ HB.out).mono ?_
    rintro e w1 ⟨rfl, hB⟩
    have HB1 := Lib.hid (below_two HB.out hB)
    clear hB
    go_wp2_with fail
    go_ret
    exact ⟨.inl ⟨rfl, rfl⟩, HB1.out⟩
  · have HE := Lib.hid hE
    clear hE
    go_enter Tryd.func53, Tryd.ntmps53
    go_wp2_with fail
    refine (M.out _ HB.out).mono ?_
    rintro e w1 ⟨rfl, hB⟩
    have c0 := cell_below hB HC.out.1
    have c1 := cell_below hB HC.out.2
    have HB1 := Lib.hid (below_two HB.out hB)
    clear hB
    go_wp2_with fail
    simp only [HE.out _ _]
    refine (HF.out trivial _ HB1.out).mono ?_
    rintro e w2 ⟨r, rfl, hQ, hB⟩
    have HB2 := Lib.hid (below_two HB1.out hB)
    have HQ := Lib.hid hQ
    clear hB hQ
    go_wp2_with fail
    go_ret
    exact ⟨.inr ⟨rfl, _, rfl, HQ.out⟩, HB2.out⟩

end
end Go.Proofs.YtiaibggbbkhjlaaDoor.Dm
namespace Go.Proofs.YtiaibggbbkhjlaaDoor.Dm
open Go.RowKit
set_option maxRecDepth 100000

theorem below_alloc0 (W : World) (o : Obj) : Below W.heap.size W (W.alloc o) := (Below.refl _ W).alloc (Nat.le_refl _) o
theorem new_two0 (W : World) (a b : Value) (t : TypeId) : (W.alloc (.cells #[a, b] t)).cell? ⟨W.heap.size, 0, none⟩ = some a ∧ (W.alloc (.cells #[a, b] t)).cell? ⟨W.heap.size, 1, none⟩ = some b := by
  simp

def RiseR (xs : List Int) (k : Nat) : Prop :=
  ∃ z, RiseRel xs k z ∧ (k = 0 ∧ z = -1048576 ∨ 0 < k ∧ z = xs.getD (k - 1) 0 + 1)

theorem pow_wrap (j : Nat) : 2 * (2 ^ j % 18446744073709551616) % 18446744073709551616 = 2 ^ (j + 1) % 18446744073709551616 := by
  rw [Nat.pow_succ]
  omega

set_option maxRecDepth 100000 in
set_option maxHeartbeats 4000000 in
theorem rmay_cells (p : Option Addr) (b off c len x : Nat) (xs : List Int) (w : World) (hl : len = xs.length) (hm : len ≤ 1000000) (hx : x < 18446744073709551616) (hp : 0 < len → p = some ⟨b, off, none⟩) (hc : ∀ k, k < xs.length → w.cell? ⟨b, off + k, none⟩ = some (.int .i64 (xs.getD k 0))) :
    Calls Tryd.prog 44 #[.agg #[.slice p len c, .int .u64 x]] w fun e w' => e = .returned (.bool (mayL xs x)) ∧ Below w.heap.size w w' := by
  have hB0 := below_alloc0 w (.cells #[.slice p len c, .int .u64 x] 66)
  have q0 := new_two0 w (.slice p len c) (.int .u64 x) 66
  obtain ⟨W0, hW0⟩ : ∃ W0, W0 = w.alloc (.cells #[.slice p len c, .int .u64 x] 66) := ⟨_, rfl⟩
  rw [← hW0] at hB0 q0
  have HB := Lib.hid hB0
  have HX := Lib.hid (fun k hk => cell_below hB0 (hc k hk))
  have HN := Lib.hid hl
  have HW := Lib.hid hW0
  have HS := Lib.hid (show RiseR xs 0 from ⟨_, ⟨rfl, by omega, by omega⟩, .inl ⟨rfl, rfl⟩⟩)
  have hM : mayL xs x = (decide (len ≤ 64) && decide (x < 2 ^ len) && riseF (-1048576) xs) := by rw [mayL, ← hl]
  obtain ⟨R, hR⟩ : ∃ R, R = mayL xs x := ⟨_, rfl⟩
  rw [← hR]
  have HR := Lib.hid (hR.trans hM)
  obtain ⟨c0, c1⟩ := q0
  clear hc hl hR hM hB0 hW0
  by_cases h64 : 64 < len
  · have d64 : (64 : Int) < (len : Int) := by omega
    go_enter Tryd.func44, Tryd.ntmps44
    go_wp2_with fail
    rw [← HW.out]
    go_ret
    exact ⟨by rw [HR.out, decide_eq_false (by omega)]; rfl, HB.out⟩
  · have d64 : (len : Int) ≤ 64 := by omega
    go_enter Tryd.func44, Tryd.ntmps44
    go_wp2_with fail
    rw [← HW.out]
    go_loopw [3] (fun i wr => ∃ k : Nat, k ≤ len ∧ i = .int .i64 k ∧ RiseR xs k ∧ ∃ q, wr = W0.drewN q) (fun i _ => len - (intOf i).toNat)
    case atStart => exact ⟨0, by omega, rfl, HS.out, 0, rfl⟩
    case round =>
      obtain ⟨k, hk, rfl, hrel, q, rfl⟩ := hrel
      by_cases hlt : k < len
      · obtain rfl := hp (by omega)
        have hlx : k < xs.length := by have := HN.out; omega
        have cx := HX.out k hlx
        have hd := drop_consI hlx
        obtain ⟨y, ey⟩ : ∃ y, y = xs.getD k 0 := ⟨_, rfl⟩
        rw [← ey] at cx hd
        obtain ⟨z, hz, hz2⟩ := hrel
        have key : riseF (-1048576) xs = (decide (z ≤ y) && decide (y ≤ 1048576) && riseF (y + 1) (xs.drop (k + 1))) := by rw [hz.1, hd, riseF]
        have HK := Lib.hid key
        have hzz := hz.2
        have HY := Lib.hid ey
        have d5 : (k : Int) < (len : Int) := by omega
        by_cases h1 : y < -1048576
        · clear ey hd hlx hz key hz2
          go_wp2
          go_quiet (fail)
          go_wp2_with fail
          go_ret
          exact ⟨by rw [HR.out, HK.out, decide_eq_false (p := z ≤ y) (by omega)]; simp, below_drewN (below_drewN HB.out)⟩
        · have e1 : decide (y < -1048576) = false := decide_eq_false h1
          by_cases h2 : 1048576 < y
          · clear ey hd hlx hz key hz2
            go_wp2
            go_quiet (fail)
            go_wp2_with fail
            go_ret
            exact ⟨by rw [HR.out, HK.out, decide_eq_false (p := y ≤ 1048576) (by omega)]; simp, below_drewN (below_drewN HB.out)⟩
          · have e2 : decide (1048576 < y) = false := decide_eq_false h2
            have ky : ∀ (h : z ≤ y), RiseR xs (k + 1) := fun h => ⟨y + 1, ⟨by rw [HK.out, decide_eq_true h, decide_eq_true (p := y ≤ 1048576) (by omega)]; simp, by omega, by omega⟩, .inr ⟨by omega, by rw [ey]; simp⟩⟩
            have KY := Lib.hid ky
            cases k with
            | zero =>
              have hz0 : z ≤ y := by omega
              have e3 : decide ((0 : Int) < ((0 : Nat) : Int)) = false := rfl
              have d5 : (0 : Int) < (len : Int) := by omega
              have cx : W0.cell? ⟨b, off, none⟩ = some (.int .i64 y) := by simpa using cx
              clear ey hd hlx hz key hz2 ky
              go_wp2
              go_quiet (fail)
              go_wp2_with fail
              go_roundw
              case rel => exact ⟨0 + 1, by omega, by go_num, KY.out hz0, _, rfl⟩
              case measure => simp [intOf]; omega
            | succ j =>
              have e3 : z = xs.getD j 0 + 1 := by
                rcases hz2 with h | h
                · omega
                · simpa using h.2
              have c2 := HX.out j (by omega)
              obtain ⟨t, et⟩ : ∃ t, t = xs.getD j 0 := ⟨_, rfl⟩
              rw [← et] at c2 e3
              have d6 : (0 : Int) < ((j + 1 : Nat) : Int) := by omega
              have d7 : (j : Int) < (len : Int) := by omega
              by_cases h4 : y ≤ t
              · clear ey hd hlx hz key hz2 ky et
                go_wp2
                go_quiet (fail)
                go_wp2_with fail
                go_ret
                exact ⟨by rw [HR.out, HK.out, decide_eq_false (p := z ≤ y) (by omega)]; simp, below_drewN (below_drewN HB.out)⟩
              · have e4 : decide (y ≤ t) = false := decide_eq_false h4
                clear ey hd hlx hz key hz2 ky et
                go_wp2
                go_quiet (fail)
                go_wp2_with fail
                go_roundw
                case rel => exact ⟨j + 1 + 1, by omega, by go_num, KY.out (by omega), _, rfl⟩
                case measure => simp [intOf]; omega
      · obtain ⟨z, hz, _⟩ := hrel
        have hd : xs.drop k = [] := drop_endI (by have := HN.out; omega)
        have key : riseF (-1048576) xs = true := by rw [hz.1, hd]; rfl
        rw [key] at HR
        clear hz key hd hp
        go_wp2_with fail
        go_loopw [4, 5] (fun t i wr => (∃ j : Nat, j ≤ len ∧ i = .int .i64 j ∧ t = .int .u64 (2 ^ j % 18446744073709551616 : Nat)) ∧ wr = W0.drewN q) (fun _ i _ => len - (intOf i).toNat)
        case atStart => exact ⟨⟨0, by omega, rfl, rfl⟩, rfl⟩
        case round =>
          obtain ⟨⟨j, hj, rfl, rfl⟩, rfl⟩ := hrel
          have E := Lib.hid (pow_wrap j)
          have E2 : Hid (2 ^ j % 18446744073709551616 = 2 ^ j ∨ 64 ≤ j) := by
            rcases Nat.lt_or_ge j 64 with h | h
            · left
              exact Nat.mod_eq_of_lt (Nat.lt_of_lt_of_le (Nat.pow_lt_pow_right (by decide) h) (by decide))
            · exact .inr h
          have htl : 2 ^ j % 18446744073709551616 < 18446744073709551616 := Nat.mod_lt _ (by decide)
          by_cases hjl : j < len
          · obtain ⟨t, et⟩ : ∃ t, t = 2 ^ j % 18446744073709551616 := ⟨_, rfl⟩
            rw [← et] at E htl ⊢
            clear et E2
            go_wp2_with fail
            go_roundw
            case rel =>
              refine ⟨⟨j + 1, by omega, by go_num, ?_⟩, trivial⟩
              rw [← E.out]
              congr 1
            case measure => simp [intOf]; omega
          · obtain rfl : j = len := by omega
            obtain ⟨t, et⟩ : ∃ t, t = 2 ^ j % 18446744073709551616 := ⟨_, rfl⟩
            have ET := Lib.hid et
            rw [← et] at E2 htl ⊢
            clear et E
            by_cases he : j = 64
            · subst he
              go_wp2_with fail
              go_ret
              refine ⟨?_, below_drewN HB.out⟩
              rw [HR.out, decide_eq_true (p := x < 2 ^ 64) (by omega)]
              rfl
            · have hne : ((j : Int) == 64) = false := by rw [beq_eq_false_iff_ne]; omega
              go_wp2_with fail
              go_ret
              refine ⟨?_, below_drewN HB.out⟩
              have e5 : t = 2 ^ j := by
                rcases E2.out with h | h
                · exact h
                · omega
              rw [HR.out, ← e5, decide_eq_true (p := j ≤ 64) (by omega)]
              simp

theorem rmay_any {w : World} {v : Value} {xs : List Int} (h : Reads w v xs) (hm : xs.length ≤ 1000000) (x : Nat) (hx : x < 18446744073709551616) :
    Calls Tryd.prog 44 #[.agg #[v, .int .u64 x]] w fun e w' => e = .returned (.bool (mayL xs x)) ∧ Below w.heap.size w w' := by
  obtain ⟨p, b, off, c, rfl, hp, hc⟩ := reads_shape h
  exact rmay_cells p b off c _ x xs w rfl hm hx hp hc
end Go.Proofs.YtiaibggbbkhjlaaDoor.Dm
