/-
  GroundOrder answers true, at every constraint, every row and every two numbers that can be read.
-/
import Derived.Test.YtkhjnicmbkklpaaVTwo
import Derived.Deep.RegionLaw
import Derived.Deep.RegionHeld3
import Derived.Deep.CutBlock
namespace Go.Proofs.Ytkhjnicmbkklpaa.Gr
open Go.RowKit
set_option maxRecDepth 100000

theorem ord_block {w : World} {b off : Nat} {v : Value} (h : w.cell? ⟨b, off, none⟩ = some v) : b < w.heap.size := by
  unfold World.cell? at h
  cases hh : w.heap[b]? with
  | none => simp [hh] at h
  | some q => exact (Array.getElem?_eq_some_iff.1 hh).1

/-- the row, its first k values turned where no variable stands -/
def mixT (vs row : List Int) (o : Int) (k : Nat) : List Int := (List.range row.length).map fun i => if i < k ∧ (i : Int) ∉ vs then o else row.getD i 0
theorem mix_len (vs row : List Int) (o : Int) (k : Nat) : (mixT vs row o k).length = row.length := by simp [mixT]
theorem mix_get {vs row : List Int} {o : Int} {k i : Nat} (hi : i < row.length) : (mixT vs row o k)[i]? = some (if i < k ∧ (i : Int) ∉ vs then o else row.getD i 0) := by
  unfold mixT
  rw [List.getElem?_map, List.getElem?_range hi]
  rfl
theorem mix_zero (vs row : List Int) (o : Int) : mixT vs row o 0 = row := by
  refine List.ext_getElem? fun i => ?_
  by_cases hi : i < row.length
  · rw [mix_get hi, if_neg (by omega), getD_at hi]
  · rw [List.getElem?_eq_none (by rw [mix_len]; omega), List.getElem?_eq_none (by omega)]
theorem mix_mine {vs row : List Int} {o : Int} {k : Nat} (h : (k : Int) ∈ vs) : mixT vs row o (k + 1) = mixT vs row o k := by
  refine List.ext_getElem? fun i => ?_
  by_cases hi : i < row.length
  · rw [mix_get hi, mix_get hi]
    congr 1
    by_cases e : i = k
    · subst e
      rw [if_neg (fun q => q.2 h), if_neg (fun q => q.2 h)]
    · by_cases q : i < k ∧ (i : Int) ∉ vs
      · rw [if_pos q, if_pos ⟨by omega, q.2⟩]
      · rw [if_neg q, if_neg (fun q2 => q ⟨by omega, q2.2⟩)]
  · rw [List.getElem?_eq_none (by rw [mix_len]; omega), List.getElem?_eq_none (by rw [mix_len]; omega)]
theorem mix_other {vs row : List Int} {o : Int} {k : Nat} (hk : k < row.length) (h : (k : Int) ∉ vs) : mixT vs row o (k + 1) = (mixT vs row o k).set k o := by
  refine List.ext_getElem? fun i => ?_
  by_cases hi : i < row.length
  · rw [mix_get hi, List.getElem?_set]
    by_cases e : k = i
    · subst e
      rw [if_pos rfl, if_pos ⟨by omega, h⟩, if_pos (by rw [mix_len]; exact hk)]
    · rw [if_neg e, mix_get hi]
      congr 1
      by_cases q : i < k ∧ (i : Int) ∉ vs
      · rw [if_pos q, if_pos ⟨by omega, q.2⟩]
      · rw [if_neg q, if_neg (fun q2 => q ⟨by omega, q2.2⟩)]
  · rw [List.getElem?_eq_none (by rw [mix_len]; omega), List.getElem?_eq_none (by rw [List.length_set, mix_len]; omega)]
theorem mix_end {vs row : List Int} {o : Int} {i : Nat} (hi : i < row.length) : (mixT vs row o row.length).getD i 0 = if (i : Int) ∈ vs then row.getD i 0 else o := by
  rw [List.getD_eq_getElem?_getD, mix_get hi]
  by_cases h : (i : Int) ∈ vs
  · rw [if_neg (fun q => q.2 h), if_pos h]; rfl
  · rw [if_pos ⟨hi, h⟩, if_neg h]; rfl
theorem mix_fit {vs row : List Int} {o : Int} {k : Nat} (h : rowOk row = true) (ho : Fit o) : ∀ n ∈ mixT vs row o k, Fit n := fun n hn => by
  obtain ⟨i, hi, rfl⟩ := List.mem_map.1 hn
  have hi := List.mem_range.1 hi
  split
  · exact ho
  · have := List.all_eq_true.1 h (row.getD i 0) (List.mem_of_getElem? (getD_at hi))
    simp only [okN, decide_eq_true_eq] at this
    unfold Fit; omega
theorem has_mem {vs : List Int} {x : Int} : hasB vs vs.length x = true ↔ x ∈ vs := by
  constructor
  · intro h
    obtain ⟨j, h1, h2⟩ := has_true h
    rw [← h2]
    exact List.mem_of_getElem? (getD_at h1)
  · intro h
    obtain ⟨i, hi, e⟩ := List.getElem_of_mem h
    refine has_yes hi ?_
    rw [List.getD_eq_getElem?_getD, List.getElem?_eq_getElem hi, e]; rfl
theorem has_zero (vs : List Int) (x : Int) : hasB vs 0 x = false := has_no fun j h => by omega
theorem has_next {vs : List Int} {x : Int} {j : Nat} : hasB vs (j + 1) x = (hasB vs j x || decide (vs.getD j 0 = x)) := by
  cases q : hasB vs j x
  · by_cases e : vs.getD j 0 = x
    · rw [has_yes (Nat.lt_succ_self j) e, decide_eq_true e]; rfl
    · rw [decide_eq_false e]
      refine has_no fun i hi => ?_
      by_cases h : i < j
      · exact has_false q i h
      · obtain rfl : i = j := by omega
        exact e
  · obtain ⟨i, h1, h2⟩ := has_true q
    rw [has_yes (Nat.lt_succ_of_lt h1) h2]; rfl
theorem owns_store {w : World} {base g n cap j : Nat} {T : List Int} (h : OwnsI w base (.slice (some ⟨g, 0, none⟩) n cap) T) (hn : n = T.length) (o : Int) : OwnsI (w.setCell ⟨g, j, none⟩ (.int .i64 o)) base (.slice (some ⟨g, 0, none⟩) n cap) (T.set j o) := by
  subst hn
  have := (World.ownsRow.stored (h : w.ownsRow base 3 1 _ T.length (T.map (Value.int .i64))) j (.int .i64 o)).1
  unfold OwnsI
  rw [List.length_set, List.map_set]
  exact this
theorem owns_cell {w : World} {base g n cap j : Nat} {T : List Int} (h : OwnsI w base (.slice (some ⟨g, 0, none⟩) n cap) T) (hn : n = T.length) (hj : j < n) : w.cell? ⟨g, j, none⟩ = some (.int .i64 (T.getD j 0)) ∧ w.frozen? ⟨g, j, none⟩ = false := by
  subst hn
  have h9 : w.ownsRow base 3 1 (.slice (some ⟨g, 0, none⟩) T.length cap) T.length (T.map (Value.int .i64)) := h
  refine ⟨?_, h9.frozenAt j⟩
  rw [h9.cellAt j (by omega), List.getElem?_map, getD_at hj]
  rfl
theorem step_puts {w : World} {ops : Array Oper} {o : Oper} {a : Act} {K : Act → World → Prop} {Q : Exit → Act → World → Prop} {E : Prop} (hgd : o.guard = none) (s x : Operand)
    (ho : o.op = .call { callee := .builtin .append, args := #[s, x], argTypes := #[23, 23] }) (base : Nat) (v : Value) (xs ys : List Int) (p : Option Addr) (b off len c : Nat) (hs : a.eval s = v) (hx : a.eval x = .slice p len c)
    (hown : OwnsI w base v xs) (hp : p = none → c = 0) (hu : Nums w p b off len ys) (hlen : xs.length + ys.length ≤ 100000) (hbase : base ≤ w.heap.size)
    (h : ∀ v' w', OwnsI w' base v' (xs ++ ys) → w.grownBy w' v.ownBlock → K (a.put o.dst v') w') : if Region.wanted o (yielded ops a.tmps) = true then Oper.wp Try.prog o a w K Q else E := by
  have hw : Region.wanted o (yielded ops a.tmps) = true := by simp [Region.wanted, hgd]
  rw [if_pos hw]
  obtain ⟨i0, hi, hz0, hz1, hz2⟩ := info_parts info3
  cases p with
  | none =>
    obtain rfl : len = 0 := Nat.eq_zero_of_not_pos fun h0 => by have := hu.at_ h0; cases this
    obtain rfl : ys = [] := List.eq_nil_of_length_eq_zero hu.long.symm
    obtain rfl := hp rfl
    have hrun := run_append_owned_none (P := Try.prog) (w := w) base 23 o.type 3 i0 1 Try.underlying23 hi v xs.length _ hown
    unfold Oper.wp
    simp [execOp, ho, resolve, invoke, builtin, hs, hx, hrun, Result.andThen]
    exact h v w (by rw [List.append_nil]; exact hown) (grown_self w _)
  | some ad =>
    refine wp_append_own w s x 23 ho base 3 i0 (.int .i64 0) 1 8 Try.underlying23 hi hz0 hz1 hz2 rfl (by decide) v xs.length _ hs hown ad len c (ys.map (Value.int .i64)) hx (by rw [List.length_map, Nat.mul_one]; exact hu.long.symm) ?_ ?_ ?_ (by have := hu.long; omega) hbase ?_
    · intro j z hj
      rw [List.getElem?_map] at hj
      by_cases hlt : j < ys.length
      · have h0 := hu.at_ (by have := hu.long; omega)
        simp only [Option.some.injEq] at h0
        subst h0
        have := hu.cell j (by rw [hu.long]; exact hlt)
        rw [List.getElem?_eq_getElem hlt] at hj
        simp only [Option.map_some, Option.some.injEq] at hj
        rw [addr_at, this, ← hj]
        simp [hlt]
      · rw [List.getElem?_eq_none (by omega)] at hj
        simp at hj
    · intro z hz
      obtain ⟨y, _, rfl⟩ := List.mem_map.1 hz
      rfl
    · have := hu.long
      unfold maxLen
      omega
    · intro v' w' h1 h2 _
      refine h v' w' ?_ h2
      unfold OwnsI
      rw [List.length_append, List.map_append, ← hu.long]
      exact h1
theorem nums_from {w : World} {b off len k : Nat} {xs : List Int} (h : Nums w (some ⟨b, off, none⟩) b off len xs) (hk : k ≤ len) : Nums w (some ⟨b, off + k, none⟩) b (off + k) (len - k) (xs.drop k) := by
  have e : ∀ j, (xs.drop k).getD j 0 = xs.getD (k + j) 0 := fun j => by rw [List.getD_eq_getElem?_getD, List.getD_eq_getElem?_getD, List.getElem?_drop]
  refine ⟨by rw [List.length_drop, ← h.long], fun _ => rfl, fun j hj => ?_, fun j hj => ?_⟩
  · rw [e, Nat.add_assoc]; exact h.cell (k + j) (by omega)
  · rw [e]; exact h.fit (k + j) (by omega)
theorem nums_to {w : World} {p : Option Addr} {b off len k : Nat} {xs : List Int} (h : Nums w p b off len xs) (hk : k ≤ len) : Nums w p b off k (xs.take k) := by
  have e : ∀ j, j < k → (xs.take k).getD j 0 = xs.getD j 0 := fun j hj => by rw [List.getD_eq_getElem?_getD, List.getD_eq_getElem?_getD, List.getElem?_take_of_lt hj]
  refine ⟨by rw [List.length_take, ← h.long]; omega, fun h0 => h.at_ (by omega), fun j hj => ?_, fun j hj => ?_⟩
  · rw [e j hj]; exact h.cell j (by omega)
  · rw [e j hj]; exact h.fit j (by omega)
theorem differ_have {c : PCon} {row : List Int} (hr : rightG [c] row = true) (hk : c.kind = 5) : 2 ≤ c.vars.length := by
  obtain ⟨_, _, _, h4⟩ := rest_have hr (by omega) (by omega)
  unfold kindR at h4
  rw [hk] at h4
  simp only [Int.reduceEq, if_false, if_true, Bool.and_eq_true, decide_eq_true_eq] at h4
  exact h4.1
theorem cut_from {w : World} {p : Option Addr} {b o l c : Nat} {xs : List Int} (h : Nums w p b o l xs) (hc : (p = none → c = 0) ∧ l ≤ c) (k : Nat) (hk : k < l ∨ (l = 0 ∧ k = 0)) :
    ∃ (p' : Option Addr) (b' o' c' : Nat), (∀ W : World, (Instr.slice 23 (.slice p l c) (some (.int .i64 (k : Int))) none none).run Try.prog W = .ok (.slice p' (l - k) c') W) ∧ (p' = none → c' = 0) ∧ Nums w p' b' o' (l - k) (xs.drop k) := by
  rcases hk with hk | ⟨rfl, rfl⟩
  · obtain rfl := h.at_ (by omega)
    refine ⟨some ⟨b, o + k, none⟩, b, o + k, c - k, fun W => ?_, fun h => (by cases h), nums_from h (by omega)⟩
    have hc1 : c ≠ k := by omega
    have g1 : (k : Int) ≤ (l : Int) := by omega
    rw [run_slice_l W 23 (some ⟨b, o, none⟩) l c Try.underlying23 .i64 (k : Int) (by omega) g1]
    simp only [Result.andThen]
    go_simp
  · refine ⟨p, b, o, c, fun W => ?_, hc.1, by simpa using h⟩
    rw [run_slice_l W 23 p 0 c Try.underlying23 .i64 ((0 : Nat) : Int) (by omega) (by omega)]
    simp only [Result.andThen]
    cases p with
    | none =>
      obtain rfl := hc.1 rfl
      go_simp
    | some ad =>
      go_simp
theorem cut_upto (p : Option Addr) (l c k : Nat) (hk : k ≤ c) (W : World) : (Instr.slice 23 (.slice p l c) none (some (.int .i64 (k : Int))) none).run Try.prog W = .ok (.slice p k c) W := by
  have g1 : (k : Int) ≤ (c : Int) := by omega
  rw [run_slice_h W 23 p l c Try.underlying23 .i64 (k : Int) (by omega) g1]
  simp only [Result.andThen]
  go_simp

theorem held4n {W0 u u' : World} {p0 p1 p2 p3 : Addr} {a0 a1 a2 a3 : Value} (hlt : p0.block < W0.heap.size ∧ p1.block < W0.heap.size ∧ p2.block < W0.heap.size ∧ p3.block < W0.heap.size) (h : u.cell? p0 = some a0 ∧ u.cell? p1 = some a1 ∧ u.cell? p2 = some a2 ∧ u.cell? p3 = some a3 ∧ Below W0.heap.size W0 u) (hb : Below W0.heap.size u u') :
    u'.cell? p0 = some a0 ∧ u'.cell? p1 = some a1 ∧ u'.cell? p2 = some a2 ∧ u'.cell? p3 = some a3 ∧ Below W0.heap.size W0 u' :=
  ⟨(hb.cell hlt.1).trans h.1, (hb.cell hlt.2.1).trans h.2.1, (hb.cell hlt.2.2.1).trans h.2.2.1, (hb.cell hlt.2.2.2).trans h.2.2.2.1, h.2.2.2.2.trans hb⟩
theorem six_any {kd : Int} (h2 : kd ≠ 2) (h5 : kd ≠ 5) (h6 : kd ≠ 6) : (kd == 5) = false ∧ (kd == 6) = false ∧ (kd == 2) = false := ⟨beq_eq_false_iff_ne.2 h5, beq_eq_false_iff_ne.2 h6, beq_eq_false_iff_ne.2 h2⟩
theorem low_set {W w3 : World} {x j : Nat} (h : Below W.heap.size W w3) (hx : W.heap.size ≤ x) (v : Value) : Below W.heap.size W (w3.setCell ⟨x, j, none⟩ v) := h.setCell (p := ⟨x, j, none⟩) hx v
theorem fits_sub {xs ys : List Int} (h : ∀ n ∈ xs, Fit n) (hs : ∀ n ∈ ys, n ∈ xs) : ∀ n ∈ ys, Fit n := fun n hn => h n (hs n hn)
theorem fits_of {w : World} {p : Option Addr} {b o l : Nat} {xs : List Int} (h : Nums w p b o l xs) : ∀ n ∈ xs, Fit n := fun n hn => by
  obtain ⟨i, hi, e⟩ := List.getElem_of_mem hn
  have := h.fit i (by rw [h.long]; exact hi)
  rw [List.getD_eq_getElem?_getD, List.getElem?_eq_getElem hi] at this
  simpa [e] using this
theorem rot_fits {xs : List Int} {k : Nat} (h : ∀ n ∈ xs, Fit n) : ∀ n ∈ xs.drop k ++ xs.take k, Fit n := fun n hn => by
  rcases List.mem_append.1 hn with q | q
  · exact h n (List.mem_of_mem_drop q)
  · exact h n (List.mem_of_mem_take q)
theorem rot_len (xs : List Int) (k : Nat) : (xs.drop k ++ xs.take k).length = xs.length := (rot_perm xs k).length_eq.symm

theorem low_dn {W u : World} (h : Below W.heap.size W u) (_ : Below W.heap.size W u) : Below W.heap.size W u := h
theorem held6n_of {W0 u u' : World} {b : Nat} {a0 a1 a2 a3 a4 a5 : Value} (hlt : b < W0.heap.size) (h : u.cell? ⟨b, 0, none⟩ = some a0 ∧ u.cell? ⟨b, 1, none⟩ = some a1 ∧ u.cell? ⟨b, 2, none⟩ = some a2 ∧ u.cell? ⟨b, 3, none⟩ = some a3 ∧ u.cell? ⟨b, 4, none⟩ = some a4 ∧ u.cell? ⟨b, 5, none⟩ = some a5 ∧ Below W0.heap.size W0 u) (hb : Below W0.heap.size W0 u') :
    u'.cell? ⟨b, 0, none⟩ = some a0 ∧ u'.cell? ⟨b, 1, none⟩ = some a1 ∧ u'.cell? ⟨b, 2, none⟩ = some a2 ∧ u'.cell? ⟨b, 3, none⟩ = some a3 ∧ u'.cell? ⟨b, 4, none⟩ = some a4 ∧ u'.cell? ⟨b, 5, none⟩ = some a5 ∧ Below W0.heap.size W0 u' := by
  have e : ∀ j, u.cell? ⟨b, j, none⟩ = W0.cell? ⟨b, j, none⟩ := fun j => h.2.2.2.2.2.2.cell (p := ⟨b, j, none⟩) hlt
  have f : ∀ j, u'.cell? ⟨b, j, none⟩ = W0.cell? ⟨b, j, none⟩ := fun j => hb.cell (p := ⟨b, j, none⟩) hlt
  rw [e, e, e, e, e, e] at h
  rw [f, f, f, f, f, f]
  exact ⟨h.1, h.2.1, h.2.2.1, h.2.2.2.1, h.2.2.2.2.1, h.2.2.2.2.2.1, hb⟩

theorem new_at {w : World} {x j : Nat} {v : Value} {o : Obj} : ((w.setCell ⟨x, j, none⟩ v).alloc o).drew.heap[w.heap.size]? = some o := by
  have h := heap_new (w.setCell ⟨x, j, none⟩ v) o
  have e : (w.setCell ⟨x, j, none⟩ v).heap.size = w.heap.size := by simp [World.setCell]
  rw [e] at h
  exact h

theorem owns_block2 {w : World} {base n cap k : Nat} {p : Option Addr} {T : List Int} (h : OwnsI w base (.slice p n cap) T) (hk : k < n) (hl : T.length = n) : ∃ g, p = some ⟨g, 0, none⟩ := by
  obtain ⟨g, c, e⟩ := owns_shape h (by omega)
  simp only [Value.slice.injEq] at e
  exact ⟨g, e.1⟩

set_option maxHeartbeats 16000000 in
theorem orders_law {c : PCon} {row : List Int} {v1 v2 v3 vr : Value} {cut other : Int} (w : World) (h : rCon w [.int .i64 c.kind, v1, v2, .int .i64 c.rel, .int .i64 c.const, v3] c) (hr : Slc rNum 1 w vr row) (hcut0 : 0 ≤ cut ∧ cut ≤ 255) (hoth : 0 ≤ other ∧ other ≤ 255) :
    Calls Try.prog 5 #[.agg #[.int .i64 c.kind, v1, v2, .int .i64 c.rel, .int .i64 c.const, v3], vr, .int .u8 cut, .int .u8 other] w fun e w' => e = .returned (.bool true) ∧ Below w.heap.size w w' := by
  obtain ⟨pr, br, orr, cr, lr, rfl, hcr, hsr⟩ := hr
  have NR := Lib.hid (nums_of hsr)
  have hle := NR.out.long
  have HLE := Lib.hid hle
  have h0 := h
  obtain ⟨u1, u2, u3, eu, hfit, ⟨p1, b1, o1, k1, l1, e1, hc1, hs1⟩, ⟨p2, b2, o2, k2, l2, e2, hc2, hs2⟩, ⟨p3, b3, o3, k3, l3, e3, hc3, hs3⟩⟩ := h0
  subst e1 e2 e3
  simp only [List.cons.injEq, and_true, true_and] at eu
  obtain ⟨rfl, rfl, rfl⟩ := eu
  have N1 := Lib.hid (nums_of hs1)
  have N3 := Lib.hid (nums_of hs3)
  have HFIT := Lib.hid hfit
  have HC := Lib.hid h
  have SL1 := Lib.hid (show Slc rNum 1 w (.slice p1 l1 k1) c.vars from ⟨p1, b1, o1, k1, l1, rfl, hc1, hs1⟩)
  have SL2 := Lib.hid (show Slc rNum 1 w (.slice p2 l2 k2) c.coefs from ⟨p2, b2, o2, k2, l2, rfl, hc2, hs2⟩)
  have SL3 := Lib.hid (show Slc rNum 1 w (.slice p3 l3 k3) c.nums from ⟨p3, b3, o3, k3, l3, rfl, hc3, hs3⟩)
  clear hs1 hs2 hs3 hfit
  obtain ⟨W0, hW0⟩ : ∃ W0, W0 = w.alloc (.cells #[.int .i64 c.kind, .slice p1 l1 k1, .slice p2 l2 k2, .int .i64 c.rel, .int .i64 c.const, .slice p3 l3 k3] 27) := ⟨_, rfl⟩
  have hB0 : Below w.heap.size w W0 := by rw [hW0]; exact below_new _ _
  have h6 : At6 W0 w.heap.size (.int .i64 c.kind) (.slice p1 l1 k1) (.slice p2 l2 k2) (.int .i64 c.rel) (.int .i64 c.const) (.slice p3 l3 k3) := by rw [hW0]; exact six_new _ _ _ _ _ _ _ _
  have LG := Lib.hid (fun (u : World) (hB : Below w.heap.size w u) (z : Nat) (hz : u.heap[z]? = some (.cells #[.int .i64 c.kind, .slice p1 l1 k1, .slice p2 l2 k2, .int .i64 c.rel, .int .i64 c.const, .slice p3 l3 k3] 27)) => large_any pr lr cr [c] (.slice (some ⟨z, 0, none⟩) 1 1) u (slc_con1 hz (rCon_stays _ _ _ _ hB h)))
  have GR := Lib.hid (fun (hs : Short 150 c ∧ lr ≤ 40) (u : World) (hB : Below w.heap.size w u) (z : Nat) (hz : u.heap[z]? = some (.cells #[.int .i64 c.kind, .slice p1 l1 k1, .slice p2 l2 k2, .int .i64 c.rel, .int .i64 c.const, .slice p3 l3 k3] 27)) => gright_cells pr br orr lr cr [c] row (.slice (some ⟨z, 0, none⟩) 1 1) u (slc_con1 hz (rCon_stays _ _ _ _ hB h)) (nums_stay NR.out hB) (by simp) (by omega) (fun x hx => by simp at hx; subst hx; exact short_up hs.1))
  obtain ⟨B, hB⟩ : ∃ B, B = largeB [c] lr := ⟨_, rfl⟩
  rw [← hB] at LG
  have HBB := Lib.hid hB
  obtain ⟨RG, hRG⟩ : ∃ RG, RG = rightG [c] row := ⟨_, rfl⟩
  rw [← hRG] at GR
  have HRG := Lib.hid hRG
  obtain ⟨kd, ekd⟩ : ∃ kd, kd = c.kind := ⟨_, rfl⟩
  obtain ⟨rl, erl⟩ : ∃ rl, rl = c.rel := ⟨_, rfl⟩
  obtain ⟨ct, ect⟩ : ∃ ct, ct = c.const := ⟨_, rfl⟩
  rw [← ekd, ← erl, ← ect] at LG GR HC hW0 h6 ⊢
  have EK := Lib.hid ekd
  have ER := Lib.hid erl
  have EC := Lib.hid ect
  have H6 := Lib.hid h6
  have HB0 := Lib.hid hB0
  have HW := Lib.hid hW0
  clear hle h hsr hB0 hW0 hB hRG ekd erl ect h6
  go_enter Try.func5, Try.ntmps5
  go_upto_region 1 with fail
  rw [← HW.out]
  go_wp2_with fail
  refine (awake_any W0).mono ?_
  rintro e w1 ⟨rfl, hB1⟩
  have HB1 := Lib.hid (HB0.out.trans (hB1.mono HB0.out.size))
  have H61 := Lib.hid (six_stay H6.out hB1)
  clear hB1
  obtain ⟨m0, m1, m2, m3, m4, m5⟩ := H61.out
  have hb2 := below_new w1 (.cells #[.int .i64 kd, .slice p1 l1 k1, .slice p2 l2 k2, .int .i64 rl, .int .i64 ct, .slice p3 l3 k3] 27)
  go_wp2_with fail
  refine (LG.out _ (HB1.out.trans (hb2.mono HB1.out.size)) _ (heap_0 _)).mono ?_
  rintro e w2 ⟨rfl, hB2⟩
  have hb3 := hb2.trans (hB2.mono hb2.size)
  have HB2 := Lib.hid (HB1.out.trans (hb3.mono HB1.out.size))
  have H62 := Lib.hid (six_stay H61.out hb3)
  clear hB2 hb2 hb3 m0 m1 m2 m3 m4 m5
  cases B
  · obtain ⟨_, s2, s3⟩ := large_no HBB.out.symm
    have hsc := s3 c (by simp)
    have GR2 := Lib.hid (GR.out ⟨hsc, s2⟩)
    have HSC := Lib.hid (short_up hsc)
    have HS150 := Lib.hid hsc
    clear s3 hsc GR
    obtain ⟨m0, m1, m2, m3, m4, m5⟩ := H62.out
    have hb2 := below_new w2 (.cells #[.int .i64 kd, .slice p1 l1 k1, .slice p2 l2 k2, .int .i64 rl, .int .i64 ct, .slice p3 l3 k3] 27)
    go_wp2_with fail
    refine (GR2.out _ (HB2.out.trans (hb2.mono HB2.out.size)) _ (heap_0 _)).mono ?_
    rintro e w3 ⟨rfl, hB3⟩
    have hb3 := hb2.trans (hB3.mono hb2.size)
    have HB3 := Lib.hid (HB2.out.trans (hb3.mono HB2.out.size))
    have H63 := Lib.hid (six_stay H62.out hb3)
    clear hB3 hb2 hb3 m0 m1 m2 m3 m4 m5
    cases RG
    · go_wp2_with fail
      go_ret
      exact ⟨rfl, HB3.out⟩
    · obtain ⟨m0, m1, m2, m3, m4, m5⟩ := H63.out
      obtain ⟨q, hq⟩ : ∃ q, q = allG [c] row := ⟨_, rfl⟩
      have CH := Lib.hid (by
        have := gholds_at pr br orr lr cr row w3 (rCon_stays _ _ _ _ HB3.out HC.out) HSC.out (nums_stay NR.out HB3.out) (by omega)
        rwa [← hq] at this)
      have HQ := Lib.hid hq
      clear hq
      go_wp2_with fail
      refine CH.out.mono ?_
      rintro e w7 ⟨rfl, hB7⟩
      have HB7 := Lib.hid (HB3.out.trans (hB7.mono HB3.out.size))
      have H67 := Lib.hid (six_stay H63.out hB7)
      clear m0 m1 m2 m3 m4 m5 hB7
      obtain ⟨m0, m1, m2, m3, m4, m5⟩ := H67.out
      go_upto_region 8 with fail
      obtain ⟨W8, hW8⟩ : ∃ W8, W8 = w7.alloc (.cells #[.int .i64 kd, .slice p1 l1 k1, .slice p2 l2 k2, .int .i64 rl, .int .i64 ct, .slice p3 l3 k3] 27) := ⟨_, rfl⟩
      rw [← hW8]
      have hb8 : Below w7.heap.size w7 W8 := by rw [hW8]; exact below_new _ _
      have H68 := Lib.hid (six_stay H67.out hb8)
      have HX8 := Lib.hid (show W8.heap[w7.heap.size]? = some (.cells #[.int .i64 kd, .slice p1 l1 k1, .slice p2 l2 k2, .int .i64 rl, .int .i64 ct, .slice p3 l3 k3] 27) by rw [hW8]; exact heap_new _ _)
      have HB8 := Lib.hid hb8
      clear m0 m1 m2 m3 m4 m5 hb8 hW8
      obtain ⟨m0, m1, m2, m3, m4, m5⟩ := H68.out
      go_upto_block 0 with fail
      go_cut [] (fun wx => ∃ (d : PCon) (pa : Option Addr) (la ka : Nat) (pb : Option Addr) (lb kb : Nat), wx.heap[w7.heap.size]? = some (.cells #[.int .i64 kd, .slice pa la ka, .slice p2 l2 k2, .int .i64 rl, .int .i64 ct, .slice pb lb kb] 27) ∧ rCon wx [.int .i64 kd, .slice pa la ka, .slice p2 l2 k2, .int .i64 rl, .int .i64 ct, .slice pb lb kb] d ∧ Short 1000 d ∧ allG [d] row = q ∧ Below w7.heap.size w7 wx)
      case first =>
        by_cases k5 : kd = 5
        · subst k5
          have hl2 : 2 ≤ l1 := by have := differ_have HRG.out.symm EK.out.symm; have := N1.out.long; omega
          obtain ⟨cn, rfl⟩ : ∃ cn : Nat, cut = (cn : Int) := ⟨cut.toNat, by omega⟩
          have hl1b : l1 ≤ 150 := by rw [N1.out.long]; exact HS150.out.1
          have hmod : (cn : Int) % (l1 : Int) = ((cn % l1 : Nat) : Int) := rfl
          obtain ⟨k, hk0⟩ : ∃ k, k = cn % l1 := ⟨_, rfl⟩
          have hkl : k < l1 := by rw [hk0]; exact Nat.mod_lt _ (by omega)
          have hkr : k < l1 ∨ (l1 = 0 ∧ k = 0) := Or.inl hkl
          rw [← hk0] at hmod
          clear hk0
          obtain ⟨pf, bf, of, cf, hrun1, hpf, hnf⟩ := cut_from N1.out hc1 k hkr
          have hrun2 := cut_upto p1 l1 k1 k (by omega)
          have NF := Lib.hid hnf
          have NT := Lib.hid (nums_to N1.out (k := k) (by omega))
          have HPT := Lib.hid (show p1 = none → k1 = 0 from hc1.1)
          obtain ⟨ns1, hns1⟩ : ∃ ns, ns = c.vars.drop k := ⟨_, rfl⟩
          rw [← hns1] at NF
          have HNS1 := Lib.hid hns1
          have HNL := Lib.hid N1.out.long
          have H0 := Lib.hid (And.intro H68.out.c0 (And.intro H68.out.c1 (And.intro H68.out.c2 (And.intro H68.out.c3 (And.intro H68.out.c4 (And.intro H68.out.c5 HB8.out))))))
          have hlt7 : w.heap.size < w7.heap.size := ord_block H67.out.c0
          have hx8 : w7.heap.size < W8.heap.size := (Array.getElem?_eq_some_iff.1 HX8.out).1
          clear hnf hns1
          go_upto_region 11 with fail
          go_region_held3 (fun w' => w'.cell? ⟨w.heap.size, 0, none⟩ = some (.int .i64 5) ∧ w'.cell? ⟨w.heap.size, 1, none⟩ = some (.slice p1 l1 k1) ∧ w'.cell? ⟨w.heap.size, 2, none⟩ = some (.slice p2 l2 k2) ∧ w'.cell? ⟨w.heap.size, 3, none⟩ = some (.int .i64 rl) ∧ w'.cell? ⟨w.heap.size, 4, none⟩ = some (.int .i64 ct) ∧ w'.cell? ⟨w.heap.size, 5, none⟩ = some (.slice p3 l3 k3) ∧ Below w7.heap.size w7 w')
            (first | with_reducible exact held6n hlt7 H0.out (low_dn (HST.out _) (by assumption)) | with_reducible exact held6n_of hlt7 H0.out (HST.out _) | exact held6n hlt7 (by assumption) (by assumption) | exact held6n hlt7 (by assumption) ((Below.refl _ _).alloc (Below.size (held6b (by assumption))) _) | exact held6n hlt7 H0.out (below_drewN (n := 1) (Below.refl _ _)))
            (first
              | (refine step_puts rfl _ _ rfl W8.heap.size _ ns1 (c.vars.take k) p1 b1 o1 k k1 rfl rfl HO2.out HPT.out (nums_stay NT.out (HB7.out.trans ((held6b (by assumption)).mono HB7.out.size))) (by have := HNL.out; have := HNS1.out; subst this; simp; omega) (by have := HW2.out; omega) ?_; intro v3 w3 ho3 hg3; obtain ⟨ns2, hns2⟩ : ∃ ns, ns = ns1 ++ c.vars.take k := ⟨_, rfl⟩; rw [← hns2] at ho3; have HNS2 := Lib.hid hns2; have HX3 := Lib.hid ((hg3.block w7.heap.size (by have := HW2.out; omega) (fun e => by have := (HO2.out.lt _ e.symm).1; omega)).trans HX2.out); have hG := (Below.refl w7.heap.size _).grown hg3 (by have := HW2.out; omega) (fun j e => by have := (HO2.out.lt j e).1; omega); have HO3 := Lib.hid ho3; have HW3 := Lib.hid ((held6b (by assumption)).trans hG); have HST := Lib.hid (low_set (x := w7.heap.size) (j := 1) HW3.out (Nat.le_refl _)); obtain ⟨p3', c3', rfl⟩ := ints_shape ho3; have d1 := cell_in HX3.out 1; have f1 := frozen_in HX3.out 1; clear ho3 hg3 hns2)
              | (refine step_puts rfl _ _ rfl W8.heap.size _ [] ns1 pf bf of (l1 - k) cf rfl rfl (World.ownsRow_made W8 #[] 0 (Nat.le_refl _) (by decide) rfl) hpf (nums_stay NF.out (HB7.out.trans ((held6b (by assumption)).mono HB7.out.size))) (by have := NF.out.long; simp; omega) (by simp) ?_; intro v2 w2 ho2 hg2; rw [List.nil_append] at ho2; have HX2 := Lib.hid ((hg2.block w7.heap.size (by simp; omega) (fun e => by have e' := Option.some.inj e; simp at e'; omega)).trans (heap_old _ HX8.out)); have hG := (Below.refl w7.heap.size _).grown hg2 (by simp; omega) (fun j e => by have e' := Option.some.inj e; simp at e'; omega); have HW2 := Lib.hid (show W8.heap.size ≤ w2.heap.size by have := hg2.size; simp at this; omega); have HO2 := Lib.hid ho2; obtain ⟨p2', c2', rfl⟩ := ints_shape ho2; clear ho2 hg2))
          go_wp2_with fail
          go_meet
          refine ⟨rotV c k, p3', ns2.length, c3', p3, l3, k3, set_same HX3.out _, rcon_at (c := rotV c k) EK.out ER.out EC.out ⟨by unfold Fit; omega, by rw [ER.out]; exact HFIT.out.2.1, by rw [EC.out]; exact HFIT.out.2.2⟩ ?_ (SL2.out.below rNum_stays (HB7.out.trans ((HST.out _).mono HB7.out.size))) ?_, ?_, ?_, HST.out _⟩
          · rw [show (rotV c k).vars = ns2 by rw [HNS2.out, HNS1.out]; rfl]
            exact slc_of_ints (owns_set HO3.out hx8 _) (by rw [HNS2.out, HNS1.out]; exact rot_fits (fits_of N1.out))
          · exact SL3.out.below rNum_stays (HB7.out.trans ((HST.out _).mono HB7.out.size))
          · have := HSC.out
            unfold Short rotV at *
            simp only [rot_len]
            exact this
          · rw [differ_law HRG.out.symm EK.out.symm k, HQ.out]
        · by_cases k6 : kd = 6
          · subst k6
            have htb := table_have HRG.out.symm EK.out.symm
            have hl1b : 1 ≤ l1 ∧ l3 % l1 = 0 := by rw [N1.out.long, N3.out.long]; exact htb
            have hl3b : l3 ≤ 150 ∧ l1 ≤ 150 := by rw [N3.out.long, N1.out.long]; exact ⟨HS150.out.2.2, HS150.out.1⟩
            obtain ⟨cn, rfl⟩ : ∃ cn : Nat, cut = (cn : Int) := ⟨cut.toNat, by omega⟩
            obtain ⟨r, hr0⟩ : ∃ r, r = l3 / l1 := ⟨_, rfl⟩
            have hdiv : (l3 : Int) / (l1 : Int) = (r : Int) := by rw [hr0]; rfl
            have hrl : r * l1 = l3 := by rw [hr0]; exact Nat.div_mul_cancel (Nat.dvd_of_mod_eq_zero hl1b.2)
            have HRL := Lib.hid hrl
            clear hr0 htb
            by_cases hr1 : r = 0
            · subst hr1
              obtain rfl : l3 = 0 := by rw [← HRL.out]; exact Nat.zero_mul _
              clear hrl
              have hkr : 0 < 0 ∨ (0 = 0 ∧ 0 = 0) := Or.inr ⟨rfl, rfl⟩
              obtain ⟨pf, bf, of, cf, hrun1, hpf, hnf⟩ := cut_from N3.out hc3 0 hkr
              have hrun2 := cut_upto p3 0 k3 0 (by omega)
              have hrun1 : ∀ W : World, (Instr.slice 23 (.slice p3 0 k3) (some (.int .i64 0)) none none).run Try.prog W = .ok (.slice pf 0 cf) W := hrun1
              have hrun2 : ∀ W : World, (Instr.slice 23 (.slice p3 0 k3) none (some (.int .i64 0)) none).run Try.prog W = .ok (.slice p3 0 k3) W := hrun2
              have NF := Lib.hid hnf
              have NT := Lib.hid (nums_to N3.out (k := 0) (by omega))
              have HPT := Lib.hid (show p3 = none → k3 = 0 from hc3.1)
              obtain ⟨ns1, hns1⟩ : ∃ ns, ns = c.nums.drop 0 := ⟨_, rfl⟩
              rw [← hns1] at NF
              have HNS1 := Lib.hid hns1
              have HNL := Lib.hid N3.out.long
              have H0 := Lib.hid (And.intro H68.out.c0 (And.intro H68.out.c1 (And.intro H68.out.c2 (And.intro H68.out.c3 (And.intro H68.out.c4 (And.intro H68.out.c5 HB8.out))))))
              have hlt7 : w.heap.size < w7.heap.size := ord_block H67.out.c0
              have hx8 : w7.heap.size < W8.heap.size := (Array.getElem?_eq_some_iff.1 HX8.out).1
              clear hnf hns1
              go_upto_region 17 with fail
              go_region_held3 (fun w' => w'.cell? ⟨w.heap.size, 0, none⟩ = some (.int .i64 6) ∧ w'.cell? ⟨w.heap.size, 1, none⟩ = some (.slice p1 l1 k1) ∧ w'.cell? ⟨w.heap.size, 2, none⟩ = some (.slice p2 l2 k2) ∧ w'.cell? ⟨w.heap.size, 3, none⟩ = some (.int .i64 rl) ∧ w'.cell? ⟨w.heap.size, 4, none⟩ = some (.int .i64 ct) ∧ w'.cell? ⟨w.heap.size, 5, none⟩ = some (.slice p3 0 k3) ∧ Below w7.heap.size w7 w')
                (first | with_reducible exact held6n hlt7 H0.out (low_dn (HST.out _) (by assumption)) | with_reducible exact held6n_of hlt7 H0.out (HST.out _) | exact held6n hlt7 (by assumption) (by assumption) | exact held6n hlt7 (by assumption) ((Below.refl _ _).alloc (Below.size (held6b (by assumption))) _) | exact held6n hlt7 H0.out (below_drewN (n := 1) (Below.refl _ _)))
                (first
                  | (refine step_puts rfl _ _ rfl W8.heap.size _ ns1 (c.nums.take 0) p3 b3 o3 0 k3 rfl rfl HO2.out HPT.out (nums_stay NT.out (HB7.out.trans ((held6b (by assumption)).mono HB7.out.size))) (by have := HNL.out; have := HNS1.out; subst this; simp; omega) (by have := HW2.out; omega) ?_; intro v3 w3 ho3 hg3; obtain ⟨ns2, hns2⟩ : ∃ ns, ns = ns1 ++ c.nums.take 0 := ⟨_, rfl⟩; rw [← hns2] at ho3; have HNS2 := Lib.hid hns2; have HX3 := Lib.hid ((hg3.block w7.heap.size (by have := HW2.out; omega) (fun e => by have := (HO2.out.lt _ e.symm).1; omega)).trans HX2.out); have hG := (Below.refl w7.heap.size _).grown hg3 (by have := HW2.out; omega) (fun j e => by have := (HO2.out.lt j e).1; omega); have HO3 := Lib.hid ho3; have HW3 := Lib.hid ((held6b (by assumption)).trans hG); have HST := Lib.hid (low_set (x := w7.heap.size) (j := 5) HW3.out (Nat.le_refl _)); obtain ⟨p3', c3', rfl⟩ := ints_shape ho3; have d1 := cell_in HX3.out 5; have f1 := frozen_in HX3.out 5; clear ho3 hg3 hns2)
                  | (refine step_puts rfl _ _ rfl W8.heap.size _ [] ns1 pf bf of (0 - 0) cf rfl rfl (World.ownsRow_made W8 #[] 0 (Nat.le_refl _) (by decide) rfl) hpf (nums_stay NF.out (HB7.out.trans ((held6b (by assumption)).mono HB7.out.size))) (by have := NF.out.long; simp; omega) (by simp) ?_; intro v2 w2 ho2 hg2; rw [List.nil_append] at ho2; have HX2 := Lib.hid ((hg2.block w7.heap.size (by simp; omega) (fun e => by have e' := Option.some.inj e; simp at e'; omega)).trans (heap_old _ HX8.out)); have hG := (Below.refl w7.heap.size _).grown hg2 (by simp; omega) (fun j e => by have e' := Option.some.inj e; simp at e'; omega); have HW2 := Lib.hid (show W8.heap.size ≤ w2.heap.size by have := hg2.size; simp at this; omega); have HO2 := Lib.hid ho2; obtain ⟨p2', c2', rfl⟩ := ints_shape ho2; clear ho2 hg2))
              go_wp2_with fail
              go_meet
              refine ⟨rotN c 0, p1, l1, k1, p3', ns2.length, c3', set_same HX3.out _, rcon_at (c := rotN c 0) EK.out ER.out EC.out ⟨by unfold Fit; omega, by rw [ER.out]; exact HFIT.out.2.1, by rw [EC.out]; exact HFIT.out.2.2⟩ ?_ (SL2.out.below rNum_stays (HB7.out.trans ((HST.out _).mono HB7.out.size))) ?_, ?_, ?_, HST.out _⟩
              · exact SL1.out.below rNum_stays (HB7.out.trans ((HST.out _).mono HB7.out.size))
              · rw [show (rotN c 0).nums = ns2 by rw [HNS2.out, HNS1.out]; rfl]
                exact slc_of_ints (owns_set HO3.out hx8 _) (by rw [HNS2.out, HNS1.out]; exact rot_fits (fits_of N3.out))
              · have := HSC.out
                unfold Short rotN at *
                simp only [rot_len]
                exact this
              · have := table_law HRG.out.symm EK.out.symm (k := 0) (by omega)
                rw [Nat.zero_mul] at this
                rw [this, HQ.out]
            · have hrb : r ≤ 150 := by
                have := Nat.mul_le_mul_left r hl1b.1
                omega
              have hg : decide ((0 : Int) < (r : Int)) = true := decide_eq_true (by omega)
              have hg2 : (0 : Int) < (r : Int) := by omega
              obtain ⟨m0, hm0⟩ : ∃ m, m = cn % r := ⟨_, rfl⟩
              have hmod : (cn : Int) % (r : Int) = (m0 : Int) := by rw [hm0]; rfl
              have hml : m0 < r := by rw [hm0]; exact Nat.mod_lt _ (by omega)
              obtain ⟨k, hk0⟩ : ∃ k, k = m0 * l1 := ⟨_, rfl⟩
              have hmul : (m0 : Int) * (l1 : Int) = (k : Int) := by rw [hk0]; simp
              have hkl : k < l3 := by
                have := Nat.mul_le_mul_right l1 (show m0 + 1 ≤ r by omega)
                rw [Nat.add_mul, Nat.one_mul] at this
                omega
              have HKM := Lib.hid hk0
              have hkr : k < l3 ∨ (l3 = 0 ∧ k = 0) := Or.inl hkl
              clear hm0 hk0 hrl
              obtain ⟨pf, bf, of, cf, hrun1, hpf, hnf⟩ := cut_from N3.out hc3 k hkr
              have hrun2 := cut_upto p3 l3 k3 k (by omega)
              have NF := Lib.hid hnf
              have NT := Lib.hid (nums_to N3.out (k := k) (by omega))
              have HPT := Lib.hid (show p3 = none → k3 = 0 from hc3.1)
              obtain ⟨ns1, hns1⟩ : ∃ ns, ns = c.nums.drop k := ⟨_, rfl⟩
              rw [← hns1] at NF
              have HNS1 := Lib.hid hns1
              have HNL := Lib.hid N3.out.long
              have H0 := Lib.hid (And.intro H68.out.c0 (And.intro H68.out.c1 (And.intro H68.out.c2 (And.intro H68.out.c3 (And.intro H68.out.c4 (And.intro H68.out.c5 HB8.out))))))
              have hlt7 : w.heap.size < w7.heap.size := ord_block H67.out.c0
              have hx8 : w7.heap.size < W8.heap.size := (Array.getElem?_eq_some_iff.1 HX8.out).1
              clear hnf hns1
              go_upto_region 17 with fail
              go_region_held3 (fun w' => w'.cell? ⟨w.heap.size, 0, none⟩ = some (.int .i64 6) ∧ w'.cell? ⟨w.heap.size, 1, none⟩ = some (.slice p1 l1 k1) ∧ w'.cell? ⟨w.heap.size, 2, none⟩ = some (.slice p2 l2 k2) ∧ w'.cell? ⟨w.heap.size, 3, none⟩ = some (.int .i64 rl) ∧ w'.cell? ⟨w.heap.size, 4, none⟩ = some (.int .i64 ct) ∧ w'.cell? ⟨w.heap.size, 5, none⟩ = some (.slice p3 l3 k3) ∧ Below w7.heap.size w7 w')
                (first | with_reducible exact held6n hlt7 H0.out (low_dn (HST.out _) (by assumption)) | with_reducible exact held6n_of hlt7 H0.out (HST.out _) | exact held6n hlt7 (by assumption) (by assumption) | exact held6n hlt7 (by assumption) ((Below.refl _ _).alloc (Below.size (held6b (by assumption))) _) | exact held6n hlt7 H0.out (below_drewN (n := 1) (Below.refl _ _)))
                (first
                  | (refine step_puts rfl _ _ rfl W8.heap.size _ ns1 (c.nums.take k) p3 b3 o3 k k3 rfl rfl HO2.out HPT.out (nums_stay NT.out (HB7.out.trans ((held6b (by assumption)).mono HB7.out.size))) (by have := HNL.out; have := HNS1.out; subst this; simp; omega) (by have := HW2.out; omega) ?_; intro v3 w3 ho3 hg3; obtain ⟨ns2, hns2⟩ : ∃ ns, ns = ns1 ++ c.nums.take k := ⟨_, rfl⟩; rw [← hns2] at ho3; have HNS2 := Lib.hid hns2; have HX3 := Lib.hid ((hg3.block w7.heap.size (by have := HW2.out; omega) (fun e => by have := (HO2.out.lt _ e.symm).1; omega)).trans HX2.out); have hG := (Below.refl w7.heap.size _).grown hg3 (by have := HW2.out; omega) (fun j e => by have := (HO2.out.lt j e).1; omega); have HO3 := Lib.hid ho3; have HW3 := Lib.hid ((held6b (by assumption)).trans hG); have HST := Lib.hid (low_set (x := w7.heap.size) (j := 5) HW3.out (Nat.le_refl _)); obtain ⟨p3', c3', rfl⟩ := ints_shape ho3; have d1 := cell_in HX3.out 5; have f1 := frozen_in HX3.out 5; clear ho3 hg3 hns2)
                  | (refine step_puts rfl _ _ rfl W8.heap.size _ [] ns1 pf bf of (l3 - k) cf rfl rfl (World.ownsRow_made W8 #[] 0 (Nat.le_refl _) (by decide) rfl) hpf (nums_stay NF.out (HB7.out.trans ((held6b (by assumption)).mono HB7.out.size))) (by have := NF.out.long; simp; omega) (by simp) ?_; intro v2 w2 ho2 hg2; rw [List.nil_append] at ho2; have HX2 := Lib.hid ((hg2.block w7.heap.size (by simp; omega) (fun e => by have e' := Option.some.inj e; simp at e'; omega)).trans (heap_old _ HX8.out)); have hG := (Below.refl w7.heap.size _).grown hg2 (by simp; omega) (fun j e => by have e' := Option.some.inj e; simp at e'; omega); have HW2 := Lib.hid (show W8.heap.size ≤ w2.heap.size by have := hg2.size; simp at this; omega); have HO2 := Lib.hid ho2; obtain ⟨p2', c2', rfl⟩ := ints_shape ho2; clear ho2 hg2))
              go_wp2_with fail
              go_meet
              refine ⟨rotN c k, p1, l1, k1, p3', ns2.length, c3', set_same HX3.out _, rcon_at (c := rotN c k) EK.out ER.out EC.out ⟨by unfold Fit; omega, by rw [ER.out]; exact HFIT.out.2.1, by rw [EC.out]; exact HFIT.out.2.2⟩ ?_ (SL2.out.below rNum_stays (HB7.out.trans ((HST.out _).mono HB7.out.size))) ?_, ?_, ?_, HST.out _⟩
              · exact SL1.out.below rNum_stays (HB7.out.trans ((HST.out _).mono HB7.out.size))
              · rw [show (rotN c k).nums = ns2 by rw [HNS2.out, HNS1.out]; rfl]
                exact slc_of_ints (owns_set HO3.out hx8 _) (by rw [HNS2.out, HNS1.out]; exact rot_fits (fits_of N3.out))
              · have := HSC.out
                unfold Short rotN at *
                simp only [rot_len]
                exact this
              · rw [HKM.out, show m0 * l1 = m0 * c.vars.length by rw [N1.out.long], table_law HRG.out.symm EK.out.symm (by rw [← N1.out.long, ← N3.out.long, ← HKM.out]; omega), HQ.out]
          · by_cases k2d : kd = 2
            · subst k2d
              have hl3 := product_have HRG.out.symm EK.out.symm
              obtain rfl : l1 = 3 := by rw [N1.out.long]; exact hl3
              obtain rfl := N1.out.at_ (by omega)
              have a0 := cell_stays (HB7.out.trans (HB8.out.mono HB7.out.size)) (N1.out.cell 0 (by omega))
              have a1 := cell_stays (HB7.out.trans (HB8.out.mono HB7.out.size)) (N1.out.cell 1 (by omega))
              have a2 := cell_stays (HB7.out.trans (HB8.out.mono HB7.out.size)) (N1.out.cell 2 (by omega))
              rw [Nat.add_zero] at a0
              have hf0 := N1.out.fit 0 (by omega)
              have hf1 := N1.out.fit 1 (by omega)
              have hf2 := N1.out.fit 2 (by omega)
              obtain ⟨x0, hx0⟩ : ∃ x, x = c.vars.getD 0 0 := ⟨_, rfl⟩
              obtain ⟨x1, hx1⟩ : ∃ x, x = c.vars.getD 1 0 := ⟨_, rfl⟩
              obtain ⟨x2, hx2⟩ : ∃ x, x = c.vars.getD 2 0 := ⟨_, rfl⟩
              rw [← hx0] at a0 hf0
              rw [← hx1] at a1 hf1
              rw [← hx2] at a2 hf2
              have HX := Lib.hid (And.intro hx0 (And.intro hx1 hx2))
              have hlt7 : w.heap.size < w7.heap.size := ord_block H67.out.c0
              have hltb : b1 < w7.heap.size := by have := ord_block (N1.out.cell 0 (by omega)); have := HB7.out.size; omega
              have hx8 : w7.heap.size < W8.heap.size := (Array.getElem?_eq_some_iff.1 HX8.out).1
              have H0 := Lib.hid (And.intro H68.out.c1 (And.intro a0 (And.intro a1 (And.intro a2 HB8.out))))
              have d1 := cell_in HX8.out 1
              have f1 := frozen_in HX8.out 1
              have HST := Lib.hid (fun (v : Value) (o : Obj) => (((Below.refl w7.heap.size W8).setCell (p := ⟨w7.heap.size, 1, none⟩) (Nat.le_refl _) v).alloc (Nat.le_trans HB8.out.size ((Below.refl w7.heap.size W8).setCell (p := ⟨w7.heap.size, 1, none⟩) (Nat.le_refl _) v).size) o).drew)
              clear hx0 hx1 hx2
              go_upto_region 19 with fail
              go_region_held3 (fun w' => w'.cell? ⟨w.heap.size, 1, none⟩ = some (.slice (some ⟨b1, o1, none⟩) 3 k1) ∧ w'.cell? ⟨b1, o1, none⟩ = some (.int .i64 x0) ∧ w'.cell? ⟨b1, o1 + 1, none⟩ = some (.int .i64 x1) ∧ w'.cell? ⟨b1, o1 + 2, none⟩ = some (.int .i64 x2) ∧ Below w7.heap.size w7 w')
                (first | with_reducible exact held4n ⟨hlt7, hltb, hltb, hltb⟩ H0.out ((Below.refl w7.heap.size W8).alloc HB8.out.size _).drew | with_reducible exact held4n ⟨hlt7, hltb, hltb, hltb⟩ H0.out (HST.out _ _) | exact held4n ⟨hlt7, hltb, hltb, hltb⟩ H0.out (below_drewN (n := 1) (Below.refl _ _)))
                (fail)
              go_wp2_with fail
              go_meet
              have hB := HB8.out.trans ((HST.out (.slice (some ⟨W8.heap.size, 0, none⟩) 3 3) (.cells #[.int .i64 x1, .int .i64 x0, .int .i64 x2] 3)).mono (Nat.le_refl _))
              refine ⟨swapC c, some ⟨W8.heap.size, 0, none⟩, 3, 3, p3, l3, k3, heap_old _ (set_same HX8.out _), rcon_at (c := swapC c) EK.out ER.out EC.out ⟨by unfold Fit; omega, by rw [ER.out]; exact HFIT.out.2.1, by rw [EC.out]; exact HFIT.out.2.2⟩ ?_ (SL2.out.below rNum_stays (HB7.out.trans (hB.mono HB7.out.size))) (SL3.out.below rNum_stays (HB7.out.trans (hB.mono HB7.out.size))), ?_, ?_, hB⟩
              · rw [show (swapC c).vars = [x1, x0, x2] by show [c.vars.getD 1 0, c.vars.getD 0 0, c.vars.getD 2 0] = _; rw [← HX.out.1, ← HX.out.2.1, ← HX.out.2.2]]
                exact slc_nums [x1, x0, x2] new_at (fun n hn => by
                  rcases (by simpa using hn : n = x1 ∨ n = x0 ∨ n = x2) with rfl | rfl | rfl
                  · exact hf1
                  · exact hf0
                  · exact hf2)
              · have := HSC.out
                unfold Short swapC at *
                refine ⟨by simp, this.2.1, this.2.2⟩
              · rw [product_law HRG.out.symm EK.out.symm, HQ.out]
            · obtain ⟨e5, e6, e2⟩ := six_any k2d k5 k6
              go_wp2_with fail
              go_meet
              exact ⟨c, p1, l1, k1, p3, l3, k3, HX8.out, rCon_stays _ _ _ _ (HB7.out.trans (HB8.out.mono HB7.out.size)) HC.out, HSC.out, HQ.out.symm, HB8.out⟩
      case rest =>
        obtain ⟨d, pa, la, ka, pb, lb, kb, hd1, hd2, hd3, hd4, hd5⟩ := hcut
        have BD := Lib.hid (HB7.out.trans (hd5.mono HB7.out.size))
        have CD := Lib.hid (by
          have := gholds_at pr br orr lr cr row wc hd2 hd3 (nums_stay NR.out BD.out) (by omega)
          rwa [hd4] at this)
        have H6d := Lib.hid (six_stay H67.out hd5)
        obtain ⟨⟨d0, d1, d2, d3, d4, d5⟩, _⟩ := six_in hd1
        have hnq : (q != q) = false := by cases q <;> rfl
        have hqq : (q == q) = true := by cases q <;> rfl
        clear hd1 hd2 hd3 hd4 hd5 m0 m1 m2 m3 m4 m5
        go_wp2_with fail
        refine CD.out.mono ?_
        rintro e u20 ⟨rfl, hB⟩
        have B20 := Lib.hid (BD.out.trans (hB.mono BD.out.size))
        have H620 := Lib.hid (six_stay H6d.out hB)
        clear hB d0 d1 d2 d3 d4 d5
        go_wp2_with (at_builtin; refine wpList_put rfl _ _ rfl u20.heap.size _ [] row pr br orr lr cr rfl rfl (World.ownsRow_made u20 #[] 0 (Nat.le_refl _) (by decide) rfl) hcr.1 (nums_stay NR.out (B20.out.trans ((below_new u20 _).mono B20.out.size))) (by simp; have := HLE.out; omega) (by simp) ?_; intro v2 w22 hM hg8; rw [List.nil_append] at hM; have HB22 := Lib.hid ((below_new u20 _).grown hg8 (by simp) (fun j e => by cases e; exact Nat.le_refl _)); have HM := Lib.hid hM; obtain ⟨pt, ctt, rfl⟩ := ints_shape hM; clear hM hg8)
        have hlr40 : row.length ≤ 40 := by have := HLE.out; omega
        go_loopw [113] (fun i wr => ∃ k : Nat, k ≤ row.length ∧ i = .int .i64 k ∧ OwnsI wr u20.heap.size (.slice pt row.length ctt) (mixT c.vars row other k) ∧ Below u20.heap.size u20 wr) (fun i _ => row.length - (intOf i).toNat)
        case atStart => exact ⟨0, by omega, rfl, by rw [mix_zero]; exact HM.out, HB22.out⟩
        case round =>
          obtain ⟨k, hk, rfl, hown, hB⟩ := hrel
          rename_i wr
          have HO := Lib.hid hown
          have HB := Lib.hid hB
          have Br := Lib.hid (B20.out.trans (hB.mono B20.out.size))
          have H6r := Lib.hid (six_stay H620.out hB)
          clear hown hB
          by_cases hlt : k < row.length
          · obtain ⟨m0, m1, m2, m3, m4, m5⟩ := H6r.out
            have hl1b : l1 ≤ 150 := by rw [N1.out.long]; exact HS150.out.1
            have hz0 := Lib.hid (has_zero c.vars (k : Int))
            go_wp2_with fail
            go_loopw [17, 119] (fun m i wx => (∃ j : Nat, j ≤ l1 ∧ i = .int .i64 j ∧ m = .bool (hasB c.vars j (k : Int))) ∧ wx = wr) (fun _ i _ => l1 - (intOf i).toNat)
            case atStart => exact ⟨⟨0, by omega, rfl, by rw [hz0.out]⟩, rfl⟩
            case round =>
              obtain ⟨⟨j, hj, rfl, rfl⟩, rfl⟩ := hrel
              have NX := Lib.hid (has_next (vs := c.vars) (x := (k : Int)) (j := j))
              by_cases hlj : j < l1
              · obtain rfl := N1.out.at_ (by omega)
                have a0 := cell_stays Br.out (N1.out.cell j hlj)
                obtain ⟨x, hx⟩ : ∃ x, x = c.vars.getD j 0 := ⟨_, rfl⟩
                rw [← hx] at a0 NX
                obtain ⟨m, hm⟩ : ∃ m, m = hasB c.vars j (k : Int) := ⟨_, rfl⟩
                rw [← hm] at NX ⊢
                clear hx hm
                cases m
                · by_cases hxk : x = (k : Int)
                  · have e1 : (x == (k : Int)) = true := beq_iff_eq.2 hxk
                    have NX2 := Lib.hid (show hasB c.vars (j + 1) (k : Int) = true by rw [NX.out, decide_eq_true hxk]; rfl)
                    clear hxk
                    go_wp2_with fail
                    all_goals try (exfalso; have e96 := beq_iff_eq.1 e1; omega)
                    go_roundw
                    case rel => exact ⟨⟨j + 1, by omega, by go_num, by rw [NX2.out]⟩, trivial⟩
                    case measure => simp [intOf]; omega
                  · have e1 : (x == (k : Int)) = false := beq_eq_false_iff_ne.2 hxk
                    have NX2 := Lib.hid (show hasB c.vars (j + 1) (k : Int) = false by rw [NX.out, decide_eq_false hxk]; rfl)
                    clear hxk
                    go_wp2_with fail
                    go_roundw
                    case rel => exact ⟨⟨j + 1, by omega, by go_num, by rw [NX2.out]⟩, trivial⟩
                    case measure => simp [intOf]; omega
                · have NX2 := Lib.hid (show hasB c.vars (j + 1) (k : Int) = true by rw [NX.out, Bool.true_or])
                  go_wp2_with fail
                  go_roundw
                  case rel => exact ⟨⟨j + 1, by omega, by go_num, by rw [NX2.out]⟩, trivial⟩
                  case measure => simp [intOf]; omega
              · obtain rfl : j = l1 := by omega
                obtain ⟨m, hm⟩ : ∃ m, m = hasB c.vars j (k : Int) := ⟨_, rfl⟩
                have hm2 : m = hasB c.vars c.vars.length (k : Int) := by rw [hm, N1.out.long]
                rw [← hm]
                clear hm NX
                cases m
                · have NT := Lib.hid (mix_other (vs := c.vars) (o := other) hlt (fun h => by rw [has_mem.2 h] at hm2; cases hm2))
                  have hg := owns_block2 HO.out hlt (mix_len _ _ _ _)
                  obtain ⟨g, rfl⟩ := hg
                  obtain ⟨c0, f0⟩ := owns_cell HO.out (mix_len _ _ _ _).symm hlt
                  obtain ⟨y, hy⟩ : ∃ y, y = (mixT c.vars row other k).getD k 0 := ⟨_, rfl⟩
                  rw [← hy] at c0
                  have hkk : (k : Int) < (row.length : Int) := by omega
                  have hge := (HO.out.lt g rfl).1
                  clear hm2 hy
                  go_wp2_with fail
                  go_roundw
                  case rel => exact ⟨k + 1, by omega, by go_num, by rw [NT.out]; exact owns_store HO.out (mix_len _ _ _ _).symm _, HB.out.setCell (p := ⟨g, k, none⟩) hge _⟩
                  case measure => simp [intOf]; omega
                · have NT := Lib.hid (mix_mine (vs := c.vars) (row := row) (o := other) (has_mem.1 hm2.symm))
                  clear hm2
                  go_wp2_with fail
                  go_roundw
                  case rel => exact ⟨k + 1, by omega, by go_num, by rw [NT.out]; exact HO.out, HB.out⟩
                  case measure => simp [intOf]; omega
          · obtain rfl : k = row.length := by omega
            obtain ⟨m0, m1, m2, m3, m4, m5⟩ := H6r.out
            have hok := (right_row HRG.out.symm).1
            obtain ⟨p', b', o', c', len', ev, _, sv⟩ := slc_of_ints HO.out (mix_fit hok (by unfold Fit; omega))
            simp only [Value.slice.injEq] at ev
            obtain ⟨rfl, rfl, rfl⟩ := ev
            have CE := Lib.hid (by
              have := gholds_at pt b' o' row.length ctt (mixT c.vars row other row.length) wr (rCon_stays _ _ _ _ Br.out HC.out) HSC.out (nums_of sv) (by omega)
              rwa [others_law HRG.out.symm (by unfold okN; exact decide_eq_true (by omega)) (mix_len _ _ _ _) (fun i hi => mix_end hi), ← HQ.out] at this)
            clear sv hok
            go_wp2_with fail
            refine CE.out.mono ?_
            rintro e u35 ⟨rfl, hB⟩
            have B35 := Lib.hid (Br.out.trans (hB.mono Br.out.size))
            clear hB
            go_wp2_with fail
            go_ret
            exact ⟨rfl, B35.out⟩
  · go_wp2_with fail
    go_ret
    exact ⟨rfl, HB2.out⟩
end Go.Proofs.Ytkhjnicmbkklpaa.Gr
