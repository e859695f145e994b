/-
  Of a rel and its contrary each value is left by one. Nothing of the program.
  The law LinearContrary, at every constraint and all domains.
-/
import Derived.Test.YtakooocmnapjmaaDoorZYBV
import Derived.Test.YtakooocmnapjmaaDoorZYBU
import Derived.Test.YtakooocmnapjmaaDoorZYBI
namespace Go.Proofs.YtakooocmnapjmaaDoor.St
open Go.RowKit
set_option maxRecDepth 100000

/-- the same constraint of the contrary rel -/
def turnedC (c : PCon) : PCon := { c with rel := contrary c.rel }
theorem turned_right {c : PCon} {n : Int} (hk : c.kind = 1) (h : rightC c n = true) : rightC (turnedC c) n = true := by
  obtain ⟨h1, h2⟩ := (Gr.lin_on hk).1 h
  refine (Gr.lin_on (c := turnedC c) hk).2 ⟨h1, ?_⟩
  simp only [Bool.and_eq_true] at h2 ⊢
  obtain ⟨a, b, d, e, f, g, i, j⟩ := Gr.lin_parts.1 h2.2
  obtain ⟨f', g'⟩ := contrary_in ⟨f, g⟩
  exact ⟨h2.1, Gr.lin_parts.2 ⟨a, b, d, e, f', g', i, j⟩⟩
theorem turned_rightP {c : PCon} {L : List (List Int × Nat)} (hk : c.kind = 1) (h : rightP c L = true) : rightP (turnedC c) L = true := by
  obtain ⟨_, hr, hm⟩ := rightP_parts h
  exact rightP_of (c := turnedC c) (.inl hk) (turned_right hk hr) hm
theorem lin_rel {c : PCon} {L : List (List Int × Nat)} (hk : c.kind = 1) (h : rightP c L = true) : 0 ≤ c.rel ∧ c.rel ≤ 5 := by
  obtain ⟨_, hr, _⟩ := rightP_parts h
  obtain ⟨_, _, _, _, f, g, _⟩ := Gr.lin_parts.1 ((right_lin hr).1 hk)
  exact ⟨f, g⟩
theorem left_pos {d : List Int × Nat} (h : Dm.mayL d.1 d.2 = true) (hz : d.2 ≠ 0) : 0 < (leftOf d).length := by
  obtain ⟨k, hk⟩ := Nat.exists_testBit_of_ne_zero hz
  have hl := Dm.bit_len (Dm.may_iff.1 h).2.1 hk
  exact List.length_pos_of_mem ((left_iff h _).2 ⟨k, hl, hk, rfl⟩)
/-- is a mask of these variables empty? -/
def anyZ (L : List (List Int × Nat)) (vars : List Int) (j : Nat) : Bool := (vars.take j).any fun v => decide ((L.getD v.toNat ([], 0)).2 = 0)
theorem anyZ_succ {L : List (List Int × Nat)} {vars : List Int} {j : Nat} (h : j < vars.length) : anyZ L vars (j + 1) = (anyZ L vars j || decide ((L.getD (vars.getD j 0).toNat ([], 0)).2 = 0)) := by
  unfold anyZ
  have e : vars.getD j 0 = vars[j] := by rw [List.getD_eq_getElem?_getD, List.getElem?_eq_getElem h]; rfl
  rw [List.take_succ_eq_append_getElem h, List.any_append, e, List.any_cons, List.any_nil, Bool.or_false]
theorem anyZ_no {L : List (List Int × Nat)} {vars : List Int} (h : anyZ L vars vars.length = false) {a : Nat} (ha : a < vars.length) : (L.getD (vars.getD a 0).toNat ([], 0)).2 ≠ 0 := by
  unfold anyZ at h
  rw [List.take_length, List.any_eq_false] at h
  have := h _ (getD_mem ha)
  simpa using this
theorem nest_self (ks : List Int) (D : List (List Int × Nat)) (n : Nat) : Nest (endP ks D) (endP ks D) n := fun k _ => by
  refine ⟨Int.le_refl _, ?_, Int.le_refl _⟩
  unfold endP
  simp only
  omega
/-- each value is left by one at least -/
theorem both_law {c : PCon} {L : List (List Int × Nat)} (hk : c.kind = 1) (h : rightP c L = true) (hz : anyZ L c.vars c.vars.length = false) {i : Nat} (hi : i < L.length) : (((stepP c L).1.getD i ([], 0)).2 ||| ((stepP (turnedC c) L).1.getD i ([], 0)).2) = (L.getD i ([], 0)).2 := by
  obtain ⟨_, hr, hm⟩ := rightP_parts h
  have hrel := lin_rel hk h
  have hvt := right_vars hr
  have w : ((domsOf L c.vars).any fun d => decide ((leftOf d).length = 0)) = false := by
    rw [List.any_eq_false]
    intro d hd
    obtain ⟨a, ha, rfl⟩ := List.getElem_of_mem hd
    rw [doms_length] at ha
    have e : (domsOf L c.vars)[a]'(by rw [doms_length]; exact ha) = (domsOf L c.vars).getD a ([], 0) := by rw [List.getD_eq_getElem?_getD, List.getElem?_eq_getElem (by rw [doms_length]; exact ha)]; rfl
    have hjn : (c.vars.getD a 0).toNat < L.length := by have := (hvt a ha).1; omega
    have := left_pos (hm _ hjn) (anyZ_no hz ha)
    rw [e, doms_get ha]
    simp only [decide_eq_true_eq]
    omega
  rw [stepP_on h, stepP_on (turned_rightP hk h)]
  have hmi := hm i hi
  by_cases hv : ∃ a, a < c.vars.length ∧ (c.vars.getD a 0).toNat = i
  · obtain ⟨a, ha, rfl⟩ := hv
    rw [stepTo_at hvt (Nat.le_refl _) ha]
    show (_ ||| ((stepTo L c.vars (keepK c.kind c.coefs (domsOf L c.vars) (contrary c.rel) c.const) c.vars.length).getD (c.vars.getD a 0).toNat ([], 0)).2) = _
    rw [stepTo_at hvt (Nat.le_refl _) ha, keep_one w.symm hk, keep_one w.symm hk]
    refine B.same_bits (Nat.or_lt_two_pow (n := 64) (Dm.keep_lt _ _ _) (Dm.keep_lt _ _ _)) (may_lt64 hmi) fun k hk64 => ?_
    rw [Nat.testBit_or, Dm.keep_bit _ _ _ _ hk64, Dm.keep_bit _ _ _ _ hk64]
    cases hb : (L.getD (c.vars.getD a 0).toNat ([], 0)).2.testBit k
    · rfl
    · have hl := Dm.bit_len (Dm.may_iff.1 hmi).2.1 hb
      rw [decide_eq_true hl, Bool.true_and, Bool.true_and, Bool.true_and, Bool.true_and]
      rw [doms_length]
      cases hs : sumK c.coefs (endP c.coefs (domsOf L c.vars)) c.vars.length c.rel c.const a ((L.getD (c.vars.getD a 0).toNat ([], 0)).1.getD k 0)
      · rw [Bool.false_or]
        unfold sumK at hs ⊢
        have := tot_but (nest_self c.coefs (domsOf L c.vars) c.vars.length) _ (Nat.le_refl _) ha
        exact may_other hrel (by omega) hs
      · rfl
  · have hoff : ∀ a, a < c.vars.length → (c.vars.getD a 0).toNat ≠ i := fun a ha e => hv ⟨a, ha, e⟩
    rw [stepTo_off hoff]
    show (_ ||| ((stepTo L c.vars (keepK c.kind c.coefs (domsOf L c.vars) (contrary c.rel) c.const) c.vars.length).getD i ([], 0)).2) = _
    rw [stepTo_off hoff, Nat.or_self]
end Go.Proofs.YtakooocmnapjmaaDoor.St
namespace Go.Proofs.YtakooocmnapjmaaDoor.St
open Go.RowKit
set_option maxRecDepth 100000

theorem pcontrary2_any (rel : Int) (w : World) : Calls Tryd.prog 19 #[.int .i64 (contrary rel)] w fun e w' => e = .returned (.int .i64 rel) ∧ Below w.heap.size w w' := by
  have h := pcontrary_any (contrary rel) w
  rw [contrary_two] at h
  exact h
theorem six_in {w : World} {b : Nat} {t : TypeId} {a0 a1 a2 a3 a4 a5 : Value} (h : w.heap[b]? = some (.cells #[a0, a1, a2, a3, a4, a5] t)) : w.cell? ⟨b, 0, none⟩ = some a0 ∧ w.cell? ⟨b, 1, none⟩ = some a1 ∧ w.cell? ⟨b, 2, none⟩ = some a2 ∧ w.cell? ⟨b, 3, none⟩ = some a3 ∧ w.cell? ⟨b, 4, none⟩ = some a4 ∧ w.cell? ⟨b, 5, none⟩ = some a5 :=
  ⟨blk_in h 0, blk_in h 1, blk_in h 2, blk_in h 3, blk_in h 4, blk_in h 5⟩
theorem blk_set {w : World} {b off : Nat} {cs : Array Value} {t : TypeId} (h : w.heap[b]? = some (.cells cs t)) (v : Value) : (w.setCell ⟨b, off, none⟩ v).heap[b]? = some (.cells (cs.setIfInBounds off v) t) := by
  simp [World.setCell, Array.getElem?_modify, h]
theorem blk_kept {w : World} {b k off : Nat} {o : Obj} (h : w.heap[k]? = some o) (hne : k ≠ b) (v : Value) : (w.setCell ⟨b, off, none⟩ v).heap[k]? = some o := by
  simp [World.setCell, Array.getElem?_modify, h, Ne.symm hne]
theorem turned_con {w : World} {v1 v2 v3 : Value} {c : PCon} (h : rCon w [.int .i64 c.kind, v1, v2, .int .i64 c.rel, .int .i64 c.const, v3] c) (hf : 0 ≤ contrary c.rel ∧ contrary c.rel ≤ 5) : rCon w [.int .i64 c.kind, v1, v2, .int .i64 (contrary c.rel), .int .i64 c.const, v3] (turnedC c) := by
  obtain ⟨u1, u2, u3, e, ⟨f1, _, f3⟩, s1, s2, s3⟩ := h
  simp only [List.cons.injEq, true_and, and_true] at e
  obtain ⟨rfl, rfl, rfl⟩ := e
  exact ⟨_, _, _, rfl, ⟨f1, by unfold Fit; show -_ ≤ contrary c.rel ∧ contrary c.rel ≤ _; omega, f3⟩, s1, s2, s3⟩
structure S3t (W : World) (X V P3 R R2 : Value) (v16 v17 v18 v19 v20 v21 v22 v23 v24 v25 v26 v27 : Value) (l : Nat → Bool) (u : World) : Prop where
  base : Below W.heap.size W u
  f0 : l 0 = true → v16 = X
  f1 : l 1 = true → v17 = V
  f2 : l 2 = true → v18 = (.bool true)
  f3 : l 3 = true → v19 = (.bool true)
  f4 : l 4 = true → v20 = undef
  f5 : l 5 = true → v21 = undef
  f6 : l 6 = true → v22 = undef
  f7 : l 7 = true → v23 = undef
  f8 : l 8 = true → v24 = undef
  f9 : l 9 = true → v25 = undef
  f10 : l 10 = true → v26 = undef
  f11 : l 11 = true → v27 = (.bool true)
structure GS3t where
  (v16 v17 v18 v19 v20 v21 v22 v23 v24 v25 v26 v27 : Value)
def putS3t (g : GS3t) (tm : Array Value) : Array Value := ((((((((((((((((((((((((tm).setIfInBounds 16 g.v16)).setIfInBounds 17 g.v17)).setIfInBounds 18 g.v18)).setIfInBounds 19 g.v19)).setIfInBounds 20 g.v20)).setIfInBounds 21 g.v21)).setIfInBounds 22 g.v22)).setIfInBounds 23 g.v23)).setIfInBounds 24 g.v24)).setIfInBounds 25 g.v25)).setIfInBounds 26 g.v26)).setIfInBounds 27 g.v27)
def JS3t (W : World) (X V P3 R R2 : Value) (g : GS3t) (l : Nat → Bool) (u : World) : Prop := S3t W X V P3 R R2 g.v16 g.v17 g.v18 g.v19 g.v20 g.v21 g.v22 g.v23 g.v24 g.v25 g.v26 g.v27 l u
theorem S3t.s0 {W : World} {X V P3 R R2 : Value} {v16 v17 v18 v19 v20 v21 v22 v23 v24 v25 v26 v27 : Value} {l : Nat → Bool} {u : World} (S : S3t W X V P3 R R2 v16 v17 v18 v19 v20 v21 v22 v23 v24 v25 v26 v27 l u) (hn : l 0 = false) : S3t W X V P3 R R2 X v17 v18 v19 v20 v21 v22 v23 v24 v25 v26 v27 (upd l 0) u := by
  have _ := hn
  refine ⟨S.base,
   fun _ => rfl,
   fun h => S.f1 (upd_old (by decide) h),
   fun h => S.f2 (upd_old (by decide) h),
   fun h => S.f3 (upd_old (by decide) h),
   fun h => S.f4 (upd_old (by decide) h),
   fun h => S.f5 (upd_old (by decide) h),
   fun h => S.f6 (upd_old (by decide) h),
   fun h => S.f7 (upd_old (by decide) h),
   fun h => S.f8 (upd_old (by decide) h),
   fun h => S.f9 (upd_old (by decide) h),
   fun h => S.f10 (upd_old (by decide) h),
   fun h => S.f11 (upd_old (by decide) h)⟩
theorem S3t.s1 {W : World} {X V P3 R R2 : Value} {v16 v17 v18 v19 v20 v21 v22 v23 v24 v25 v26 v27 : Value} {l : Nat → Bool} {u : World} (S : S3t W X V P3 R R2 v16 v17 v18 v19 v20 v21 v22 v23 v24 v25 v26 v27 l u) (hn : l 1 = false) : S3t W X V P3 R R2 v16 V v18 v19 v20 v21 v22 v23 v24 v25 v26 v27 (upd l 1) u := by
  have _ := hn
  refine ⟨S.base,
   fun h => S.f0 (upd_old (by decide) h),
   fun _ => rfl,
   fun h => S.f2 (upd_old (by decide) h),
   fun h => S.f3 (upd_old (by decide) h),
   fun h => S.f4 (upd_old (by decide) h),
   fun h => S.f5 (upd_old (by decide) h),
   fun h => S.f6 (upd_old (by decide) h),
   fun h => S.f7 (upd_old (by decide) h),
   fun h => S.f8 (upd_old (by decide) h),
   fun h => S.f9 (upd_old (by decide) h),
   fun h => S.f10 (upd_old (by decide) h),
   fun h => S.f11 (upd_old (by decide) h)⟩
theorem S3t.s2 {W : World} {X V P3 R R2 : Value} {v16 v17 v18 v19 v20 v21 v22 v23 v24 v25 v26 v27 : Value} {l : Nat → Bool} {u : World} (S : S3t W X V P3 R R2 v16 v17 v18 v19 v20 v21 v22 v23 v24 v25 v26 v27 l u) (hn : l 2 = false) {u2 : World} (hB : Below u.heap.size u u2) : S3t W X V P3 R R2 v16 v17 (.bool true) v19 v20 v21 v22 v23 v24 v25 v26 v27 (upd l 2) u2 := by
  have _ := hn
  refine ⟨S.base.trans (hB.mono S.base.size),
   fun h => S.f0 (upd_old (by decide) h),
   fun h => S.f1 (upd_old (by decide) h),
   fun _ => rfl,
   fun h => S.f3 (upd_old (by decide) h),
   fun h => S.f4 (upd_old (by decide) h),
   fun h => S.f5 (upd_old (by decide) h),
   fun h => S.f6 (upd_old (by decide) h),
   fun h => S.f7 (upd_old (by decide) h),
   fun h => S.f8 (upd_old (by decide) h),
   fun h => S.f9 (upd_old (by decide) h),
   fun h => S.f10 (upd_old (by decide) h),
   fun h => S.f11 (upd_old (by decide) h)⟩
theorem S3t.s3 {W : World} {X V P3 R R2 : Value} {v16 v17 v18 v19 v20 v21 v22 v23 v24 v25 v26 v27 : Value} {l : Nat → Bool} {u : World} (S : S3t W X V P3 R R2 v16 v17 v18 v19 v20 v21 v22 v23 v24 v25 v26 v27 l u) (hn : l 3 = false) : S3t W X V P3 R R2 v16 v17 v18 (.bool true) v20 v21 v22 v23 v24 v25 v26 v27 (upd l 3) u := by
  have _ := hn
  refine ⟨S.base,
   fun h => S.f0 (upd_old (by decide) h),
   fun h => S.f1 (upd_old (by decide) h),
   fun h => S.f2 (upd_old (by decide) h),
   fun _ => rfl,
   fun h => S.f4 (upd_old (by decide) h),
   fun h => S.f5 (upd_old (by decide) h),
   fun h => S.f6 (upd_old (by decide) h),
   fun h => S.f7 (upd_old (by decide) h),
   fun h => S.f8 (upd_old (by decide) h),
   fun h => S.f9 (upd_old (by decide) h),
   fun h => S.f10 (upd_old (by decide) h),
   fun h => S.f11 (upd_old (by decide) h)⟩
theorem S3t.s4 {W : World} {X V P3 R R2 : Value} {v16 v17 v18 v19 v20 v21 v22 v23 v24 v25 v26 v27 : Value} {l : Nat → Bool} {u : World} (S : S3t W X V P3 R R2 v16 v17 v18 v19 v20 v21 v22 v23 v24 v25 v26 v27 l u) (hn : l 4 = false) : S3t W X V P3 R R2 v16 v17 v18 v19 undef v21 v22 v23 v24 v25 v26 v27 (upd l 4) u := by
  have _ := hn
  refine ⟨S.base,
   fun h => S.f0 (upd_old (by decide) h),
   fun h => S.f1 (upd_old (by decide) h),
   fun h => S.f2 (upd_old (by decide) h),
   fun h => S.f3 (upd_old (by decide) h),
   fun _ => rfl,
   fun h => S.f5 (upd_old (by decide) h),
   fun h => S.f6 (upd_old (by decide) h),
   fun h => S.f7 (upd_old (by decide) h),
   fun h => S.f8 (upd_old (by decide) h),
   fun h => S.f9 (upd_old (by decide) h),
   fun h => S.f10 (upd_old (by decide) h),
   fun h => S.f11 (upd_old (by decide) h)⟩
theorem S3t.s5 {W : World} {X V P3 R R2 : Value} {v16 v17 v18 v19 v20 v21 v22 v23 v24 v25 v26 v27 : Value} {l : Nat → Bool} {u : World} (S : S3t W X V P3 R R2 v16 v17 v18 v19 v20 v21 v22 v23 v24 v25 v26 v27 l u) (hn : l 5 = false) : S3t W X V P3 R R2 v16 v17 v18 v19 v20 undef v22 v23 v24 v25 v26 v27 (upd l 5) u := by
  have _ := hn
  refine ⟨S.base,
   fun h => S.f0 (upd_old (by decide) h),
   fun h => S.f1 (upd_old (by decide) h),
   fun h => S.f2 (upd_old (by decide) h),
   fun h => S.f3 (upd_old (by decide) h),
   fun h => S.f4 (upd_old (by decide) h),
   fun _ => rfl,
   fun h => S.f6 (upd_old (by decide) h),
   fun h => S.f7 (upd_old (by decide) h),
   fun h => S.f8 (upd_old (by decide) h),
   fun h => S.f9 (upd_old (by decide) h),
   fun h => S.f10 (upd_old (by decide) h),
   fun h => S.f11 (upd_old (by decide) h)⟩
theorem S3t.s6 {W : World} {X V P3 R R2 : Value} {v16 v17 v18 v19 v20 v21 v22 v23 v24 v25 v26 v27 : Value} {l : Nat → Bool} {u : World} (S : S3t W X V P3 R R2 v16 v17 v18 v19 v20 v21 v22 v23 v24 v25 v26 v27 l u) (hn : l 6 = false) : S3t W X V P3 R R2 v16 v17 v18 v19 v20 v21 undef v23 v24 v25 v26 v27 (upd l 6) u := by
  have _ := hn
  refine ⟨S.base,
   fun h => S.f0 (upd_old (by decide) h),
   fun h => S.f1 (upd_old (by decide) h),
   fun h => S.f2 (upd_old (by decide) h),
   fun h => S.f3 (upd_old (by decide) h),
   fun h => S.f4 (upd_old (by decide) h),
   fun h => S.f5 (upd_old (by decide) h),
   fun _ => rfl,
   fun h => S.f7 (upd_old (by decide) h),
   fun h => S.f8 (upd_old (by decide) h),
   fun h => S.f9 (upd_old (by decide) h),
   fun h => S.f10 (upd_old (by decide) h),
   fun h => S.f11 (upd_old (by decide) h)⟩
theorem S3t.s7 {W : World} {X V P3 R R2 : Value} {v16 v17 v18 v19 v20 v21 v22 v23 v24 v25 v26 v27 : Value} {l : Nat → Bool} {u : World} (S : S3t W X V P3 R R2 v16 v17 v18 v19 v20 v21 v22 v23 v24 v25 v26 v27 l u) (hn : l 7 = false) : S3t W X V P3 R R2 v16 v17 v18 v19 v20 v21 v22 undef v24 v25 v26 v27 (upd l 7) u := by
  have _ := hn
  refine ⟨S.base,
   fun h => S.f0 (upd_old (by decide) h),
   fun h => S.f1 (upd_old (by decide) h),
   fun h => S.f2 (upd_old (by decide) h),
   fun h => S.f3 (upd_old (by decide) h),
   fun h => S.f4 (upd_old (by decide) h),
   fun h => S.f5 (upd_old (by decide) h),
   fun h => S.f6 (upd_old (by decide) h),
   fun _ => rfl,
   fun h => S.f8 (upd_old (by decide) h),
   fun h => S.f9 (upd_old (by decide) h),
   fun h => S.f10 (upd_old (by decide) h),
   fun h => S.f11 (upd_old (by decide) h)⟩
theorem S3t.s8 {W : World} {X V P3 R R2 : Value} {v16 v17 v18 v19 v20 v21 v22 v23 v24 v25 v26 v27 : Value} {l : Nat → Bool} {u : World} (S : S3t W X V P3 R R2 v16 v17 v18 v19 v20 v21 v22 v23 v24 v25 v26 v27 l u) (hn : l 8 = false) : S3t W X V P3 R R2 v16 v17 v18 v19 v20 v21 v22 v23 undef v25 v26 v27 (upd l 8) u := by
  have _ := hn
  refine ⟨S.base,
   fun h => S.f0 (upd_old (by decide) h),
   fun h => S.f1 (upd_old (by decide) h),
   fun h => S.f2 (upd_old (by decide) h),
   fun h => S.f3 (upd_old (by decide) h),
   fun h => S.f4 (upd_old (by decide) h),
   fun h => S.f5 (upd_old (by decide) h),
   fun h => S.f6 (upd_old (by decide) h),
   fun h => S.f7 (upd_old (by decide) h),
   fun _ => rfl,
   fun h => S.f9 (upd_old (by decide) h),
   fun h => S.f10 (upd_old (by decide) h),
   fun h => S.f11 (upd_old (by decide) h)⟩
theorem S3t.s9 {W : World} {X V P3 R R2 : Value} {v16 v17 v18 v19 v20 v21 v22 v23 v24 v25 v26 v27 : Value} {l : Nat → Bool} {u : World} (S : S3t W X V P3 R R2 v16 v17 v18 v19 v20 v21 v22 v23 v24 v25 v26 v27 l u) (hn : l 9 = false) : S3t W X V P3 R R2 v16 v17 v18 v19 v20 v21 v22 v23 v24 undef v26 v27 (upd l 9) u := by
  have _ := hn
  refine ⟨S.base,
   fun h => S.f0 (upd_old (by decide) h),
   fun h => S.f1 (upd_old (by decide) h),
   fun h => S.f2 (upd_old (by decide) h),
   fun h => S.f3 (upd_old (by decide) h),
   fun h => S.f4 (upd_old (by decide) h),
   fun h => S.f5 (upd_old (by decide) h),
   fun h => S.f6 (upd_old (by decide) h),
   fun h => S.f7 (upd_old (by decide) h),
   fun h => S.f8 (upd_old (by decide) h),
   fun _ => rfl,
   fun h => S.f10 (upd_old (by decide) h),
   fun h => S.f11 (upd_old (by decide) h)⟩
theorem S3t.s10 {W : World} {X V P3 R R2 : Value} {v16 v17 v18 v19 v20 v21 v22 v23 v24 v25 v26 v27 : Value} {l : Nat → Bool} {u : World} (S : S3t W X V P3 R R2 v16 v17 v18 v19 v20 v21 v22 v23 v24 v25 v26 v27 l u) (hn : l 10 = false) : S3t W X V P3 R R2 v16 v17 v18 v19 v20 v21 v22 v23 v24 v25 undef v27 (upd l 10) u := by
  have _ := hn
  refine ⟨S.base,
   fun h => S.f0 (upd_old (by decide) h),
   fun h => S.f1 (upd_old (by decide) h),
   fun h => S.f2 (upd_old (by decide) h),
   fun h => S.f3 (upd_old (by decide) h),
   fun h => S.f4 (upd_old (by decide) h),
   fun h => S.f5 (upd_old (by decide) h),
   fun h => S.f6 (upd_old (by decide) h),
   fun h => S.f7 (upd_old (by decide) h),
   fun h => S.f8 (upd_old (by decide) h),
   fun h => S.f9 (upd_old (by decide) h),
   fun _ => rfl,
   fun h => S.f11 (upd_old (by decide) h)⟩
theorem S3t.s11 {W : World} {X V P3 R R2 : Value} {v16 v17 v18 v19 v20 v21 v22 v23 v24 v25 v26 v27 : Value} {l : Nat → Bool} {u : World} (S : S3t W X V P3 R R2 v16 v17 v18 v19 v20 v21 v22 v23 v24 v25 v26 v27 l u) (hn : l 11 = false) : S3t W X V P3 R R2 v16 v17 v18 v19 v20 v21 v22 v23 v24 v25 v26 (.bool true) (upd l 11) u := by
  have _ := hn
  refine ⟨S.base,
   fun h => S.f0 (upd_old (by decide) h),
   fun h => S.f1 (upd_old (by decide) h),
   fun h => S.f2 (upd_old (by decide) h),
   fun h => S.f3 (upd_old (by decide) h),
   fun h => S.f4 (upd_old (by decide) h),
   fun h => S.f5 (upd_old (by decide) h),
   fun h => S.f6 (upd_old (by decide) h),
   fun h => S.f7 (upd_old (by decide) h),
   fun h => S.f8 (upd_old (by decide) h),
   fun h => S.f9 (upd_old (by decide) h),
   fun h => S.f10 (upd_old (by decide) h),
   fun _ => rfl⟩
structure S3f (W : World) (X V P3 R R2 : Value) (v16 v17 v18 v19 v20 v21 v22 v23 v24 v25 v26 v27 : Value) (l : Nat → Bool) (u : World) : Prop where
  base : Below W.heap.size W u
  f0 : l 0 = true → v16 = X
  f1 : l 1 = true → v17 = V
  f2 : l 2 = true → v18 = (.bool false)
  f3 : l 3 = true → v19 = (.bool false)
  f4 : l 4 = true → v20 = P3
  f5 : l 5 = true → v21 = R
  f6 : l 6 = true → v22 = R2
  f7 : l 7 = true → v23 = R
  f8 : l 8 = true → v24 = P3
  f9 : l 9 = true → v25 = R
  f10 : l 10 = true → v26 = (.bool false)
  f11 : l 11 = true → v27 = (.bool false)
structure GS3f where
  (v16 v17 v18 v19 v20 v21 v22 v23 v24 v25 v26 v27 : Value)
def putS3f (g : GS3f) (tm : Array Value) : Array Value := ((((((((((((((((((((((((tm).setIfInBounds 16 g.v16)).setIfInBounds 17 g.v17)).setIfInBounds 18 g.v18)).setIfInBounds 19 g.v19)).setIfInBounds 20 g.v20)).setIfInBounds 21 g.v21)).setIfInBounds 22 g.v22)).setIfInBounds 23 g.v23)).setIfInBounds 24 g.v24)).setIfInBounds 25 g.v25)).setIfInBounds 26 g.v26)).setIfInBounds 27 g.v27)
def JS3f (W : World) (X V P3 R R2 : Value) (g : GS3f) (l : Nat → Bool) (u : World) : Prop := S3f W X V P3 R R2 g.v16 g.v17 g.v18 g.v19 g.v20 g.v21 g.v22 g.v23 g.v24 g.v25 g.v26 g.v27 l u
theorem S3f.s0 {W : World} {X V P3 R R2 : Value} {v16 v17 v18 v19 v20 v21 v22 v23 v24 v25 v26 v27 : Value} {l : Nat → Bool} {u : World} (S : S3f W X V P3 R R2 v16 v17 v18 v19 v20 v21 v22 v23 v24 v25 v26 v27 l u) (hn : l 0 = false) : S3f W X V P3 R R2 X v17 v18 v19 v20 v21 v22 v23 v24 v25 v26 v27 (upd l 0) u := by
  have _ := hn
  refine ⟨S.base,
   fun _ => rfl,
   fun h => S.f1 (upd_old (by decide) h),
   fun h => S.f2 (upd_old (by decide) h),
   fun h => S.f3 (upd_old (by decide) h),
   fun h => S.f4 (upd_old (by decide) h),
   fun h => S.f5 (upd_old (by decide) h),
   fun h => S.f6 (upd_old (by decide) h),
   fun h => S.f7 (upd_old (by decide) h),
   fun h => S.f8 (upd_old (by decide) h),
   fun h => S.f9 (upd_old (by decide) h),
   fun h => S.f10 (upd_old (by decide) h),
   fun h => S.f11 (upd_old (by decide) h)⟩
theorem S3f.s1 {W : World} {X V P3 R R2 : Value} {v16 v17 v18 v19 v20 v21 v22 v23 v24 v25 v26 v27 : Value} {l : Nat → Bool} {u : World} (S : S3f W X V P3 R R2 v16 v17 v18 v19 v20 v21 v22 v23 v24 v25 v26 v27 l u) (hn : l 1 = false) : S3f W X V P3 R R2 v16 V v18 v19 v20 v21 v22 v23 v24 v25 v26 v27 (upd l 1) u := by
  have _ := hn
  refine ⟨S.base,
   fun h => S.f0 (upd_old (by decide) h),
   fun _ => rfl,
   fun h => S.f2 (upd_old (by decide) h),
   fun h => S.f3 (upd_old (by decide) h),
   fun h => S.f4 (upd_old (by decide) h),
   fun h => S.f5 (upd_old (by decide) h),
   fun h => S.f6 (upd_old (by decide) h),
   fun h => S.f7 (upd_old (by decide) h),
   fun h => S.f8 (upd_old (by decide) h),
   fun h => S.f9 (upd_old (by decide) h),
   fun h => S.f10 (upd_old (by decide) h),
   fun h => S.f11 (upd_old (by decide) h)⟩
theorem S3f.s2 {W : World} {X V P3 R R2 : Value} {v16 v17 v18 v19 v20 v21 v22 v23 v24 v25 v26 v27 : Value} {l : Nat → Bool} {u : World} (S : S3f W X V P3 R R2 v16 v17 v18 v19 v20 v21 v22 v23 v24 v25 v26 v27 l u) (hn : l 2 = false) {u2 : World} (hB : Below u.heap.size u u2) : S3f W X V P3 R R2 v16 v17 (.bool false) v19 v20 v21 v22 v23 v24 v25 v26 v27 (upd l 2) u2 := by
  have _ := hn
  refine ⟨S.base.trans (hB.mono S.base.size),
   fun h => S.f0 (upd_old (by decide) h),
   fun h => S.f1 (upd_old (by decide) h),
   fun _ => rfl,
   fun h => S.f3 (upd_old (by decide) h),
   fun h => S.f4 (upd_old (by decide) h),
   fun h => S.f5 (upd_old (by decide) h),
   fun h => S.f6 (upd_old (by decide) h),
   fun h => S.f7 (upd_old (by decide) h),
   fun h => S.f8 (upd_old (by decide) h),
   fun h => S.f9 (upd_old (by decide) h),
   fun h => S.f10 (upd_old (by decide) h),
   fun h => S.f11 (upd_old (by decide) h)⟩
theorem S3f.s3 {W : World} {X V P3 R R2 : Value} {v16 v17 v18 v19 v20 v21 v22 v23 v24 v25 v26 v27 : Value} {l : Nat → Bool} {u : World} (S : S3f W X V P3 R R2 v16 v17 v18 v19 v20 v21 v22 v23 v24 v25 v26 v27 l u) (hn : l 3 = false) : S3f W X V P3 R R2 v16 v17 v18 (.bool false) v20 v21 v22 v23 v24 v25 v26 v27 (upd l 3) u := by
  have _ := hn
  refine ⟨S.base,
   fun h => S.f0 (upd_old (by decide) h),
   fun h => S.f1 (upd_old (by decide) h),
   fun h => S.f2 (upd_old (by decide) h),
   fun _ => rfl,
   fun h => S.f4 (upd_old (by decide) h),
   fun h => S.f5 (upd_old (by decide) h),
   fun h => S.f6 (upd_old (by decide) h),
   fun h => S.f7 (upd_old (by decide) h),
   fun h => S.f8 (upd_old (by decide) h),
   fun h => S.f9 (upd_old (by decide) h),
   fun h => S.f10 (upd_old (by decide) h),
   fun h => S.f11 (upd_old (by decide) h)⟩
theorem S3f.s4 {W : World} {X V P3 R R2 : Value} {v16 v17 v18 v19 v20 v21 v22 v23 v24 v25 v26 v27 : Value} {l : Nat → Bool} {u : World} (S : S3f W X V P3 R R2 v16 v17 v18 v19 v20 v21 v22 v23 v24 v25 v26 v27 l u) (hn : l 4 = false) : S3f W X V P3 R R2 v16 v17 v18 v19 P3 v21 v22 v23 v24 v25 v26 v27 (upd l 4) u := by
  have _ := hn
  refine ⟨S.base,
   fun h => S.f0 (upd_old (by decide) h),
   fun h => S.f1 (upd_old (by decide) h),
   fun h => S.f2 (upd_old (by decide) h),
   fun h => S.f3 (upd_old (by decide) h),
   fun _ => rfl,
   fun h => S.f5 (upd_old (by decide) h),
   fun h => S.f6 (upd_old (by decide) h),
   fun h => S.f7 (upd_old (by decide) h),
   fun h => S.f8 (upd_old (by decide) h),
   fun h => S.f9 (upd_old (by decide) h),
   fun h => S.f10 (upd_old (by decide) h),
   fun h => S.f11 (upd_old (by decide) h)⟩
theorem S3f.s5 {W : World} {X V P3 R R2 : Value} {v16 v17 v18 v19 v20 v21 v22 v23 v24 v25 v26 v27 : Value} {l : Nat → Bool} {u : World} (S : S3f W X V P3 R R2 v16 v17 v18 v19 v20 v21 v22 v23 v24 v25 v26 v27 l u) (hn : l 5 = false) : S3f W X V P3 R R2 v16 v17 v18 v19 v20 R v22 v23 v24 v25 v26 v27 (upd l 5) u := by
  have _ := hn
  refine ⟨S.base,
   fun h => S.f0 (upd_old (by decide) h),
   fun h => S.f1 (upd_old (by decide) h),
   fun h => S.f2 (upd_old (by decide) h),
   fun h => S.f3 (upd_old (by decide) h),
   fun h => S.f4 (upd_old (by decide) h),
   fun _ => rfl,
   fun h => S.f6 (upd_old (by decide) h),
   fun h => S.f7 (upd_old (by decide) h),
   fun h => S.f8 (upd_old (by decide) h),
   fun h => S.f9 (upd_old (by decide) h),
   fun h => S.f10 (upd_old (by decide) h),
   fun h => S.f11 (upd_old (by decide) h)⟩
theorem S3f.s6 {W : World} {X V P3 R R2 : Value} {v16 v17 v18 v19 v20 v21 v22 v23 v24 v25 v26 v27 : Value} {l : Nat → Bool} {u : World} (S : S3f W X V P3 R R2 v16 v17 v18 v19 v20 v21 v22 v23 v24 v25 v26 v27 l u) (hn : l 6 = false) {u2 : World} (hB : Below u.heap.size u u2) : S3f W X V P3 R R2 v16 v17 v18 v19 v20 v21 R2 v23 v24 v25 v26 v27 (upd l 6) u2 := by
  have _ := hn
  refine ⟨S.base.trans (hB.mono S.base.size),
   fun h => S.f0 (upd_old (by decide) h),
   fun h => S.f1 (upd_old (by decide) h),
   fun h => S.f2 (upd_old (by decide) h),
   fun h => S.f3 (upd_old (by decide) h),
   fun h => S.f4 (upd_old (by decide) h),
   fun h => S.f5 (upd_old (by decide) h),
   fun _ => rfl,
   fun h => S.f7 (upd_old (by decide) h),
   fun h => S.f8 (upd_old (by decide) h),
   fun h => S.f9 (upd_old (by decide) h),
   fun h => S.f10 (upd_old (by decide) h),
   fun h => S.f11 (upd_old (by decide) h)⟩
theorem S3f.s7 {W : World} {X V P3 R R2 : Value} {v16 v17 v18 v19 v20 v21 v22 v23 v24 v25 v26 v27 : Value} {l : Nat → Bool} {u : World} (S : S3f W X V P3 R R2 v16 v17 v18 v19 v20 v21 v22 v23 v24 v25 v26 v27 l u) (hn : l 7 = false) {u2 : World} (hB : Below u.heap.size u u2) : S3f W X V P3 R R2 v16 v17 v18 v19 v20 v21 v22 R v24 v25 v26 v27 (upd l 7) u2 := by
  have _ := hn
  refine ⟨S.base.trans (hB.mono S.base.size),
   fun h => S.f0 (upd_old (by decide) h),
   fun h => S.f1 (upd_old (by decide) h),
   fun h => S.f2 (upd_old (by decide) h),
   fun h => S.f3 (upd_old (by decide) h),
   fun h => S.f4 (upd_old (by decide) h),
   fun h => S.f5 (upd_old (by decide) h),
   fun h => S.f6 (upd_old (by decide) h),
   fun _ => rfl,
   fun h => S.f8 (upd_old (by decide) h),
   fun h => S.f9 (upd_old (by decide) h),
   fun h => S.f10 (upd_old (by decide) h),
   fun h => S.f11 (upd_old (by decide) h)⟩
theorem S3f.s8 {W : World} {X V P3 R R2 : Value} {v16 v17 v18 v19 v20 v21 v22 v23 v24 v25 v26 v27 : Value} {l : Nat → Bool} {u : World} (S : S3f W X V P3 R R2 v16 v17 v18 v19 v20 v21 v22 v23 v24 v25 v26 v27 l u) (hn : l 8 = false) : S3f W X V P3 R R2 v16 v17 v18 v19 v20 v21 v22 v23 P3 v25 v26 v27 (upd l 8) u := by
  have _ := hn
  refine ⟨S.base,
   fun h => S.f0 (upd_old (by decide) h),
   fun h => S.f1 (upd_old (by decide) h),
   fun h => S.f2 (upd_old (by decide) h),
   fun h => S.f3 (upd_old (by decide) h),
   fun h => S.f4 (upd_old (by decide) h),
   fun h => S.f5 (upd_old (by decide) h),
   fun h => S.f6 (upd_old (by decide) h),
   fun h => S.f7 (upd_old (by decide) h),
   fun _ => rfl,
   fun h => S.f9 (upd_old (by decide) h),
   fun h => S.f10 (upd_old (by decide) h),
   fun h => S.f11 (upd_old (by decide) h)⟩
theorem S3f.s9 {W : World} {X V P3 R R2 : Value} {v16 v17 v18 v19 v20 v21 v22 v23 v24 v25 v26 v27 : Value} {l : Nat → Bool} {u : World} (S : S3f W X V P3 R R2 v16 v17 v18 v19 v20 v21 v22 v23 v24 v25 v26 v27 l u) (hn : l 9 = false) : S3f W X V P3 R R2 v16 v17 v18 v19 v20 v21 v22 v23 v24 R v26 v27 (upd l 9) u := by
  have _ := hn
  refine ⟨S.base,
   fun h => S.f0 (upd_old (by decide) h),
   fun h => S.f1 (upd_old (by decide) h),
   fun h => S.f2 (upd_old (by decide) h),
   fun h => S.f3 (upd_old (by decide) h),
   fun h => S.f4 (upd_old (by decide) h),
   fun h => S.f5 (upd_old (by decide) h),
   fun h => S.f6 (upd_old (by decide) h),
   fun h => S.f7 (upd_old (by decide) h),
   fun h => S.f8 (upd_old (by decide) h),
   fun _ => rfl,
   fun h => S.f10 (upd_old (by decide) h),
   fun h => S.f11 (upd_old (by decide) h)⟩
theorem S3f.s10 {W : World} {X V P3 R R2 : Value} {v16 v17 v18 v19 v20 v21 v22 v23 v24 v25 v26 v27 : Value} {l : Nat → Bool} {u : World} (S : S3f W X V P3 R R2 v16 v17 v18 v19 v20 v21 v22 v23 v24 v25 v26 v27 l u) (hn : l 10 = false) : S3f W X V P3 R R2 v16 v17 v18 v19 v20 v21 v22 v23 v24 v25 (.bool false) v27 (upd l 10) u := by
  have _ := hn
  refine ⟨S.base,
   fun h => S.f0 (upd_old (by decide) h),
   fun h => S.f1 (upd_old (by decide) h),
   fun h => S.f2 (upd_old (by decide) h),
   fun h => S.f3 (upd_old (by decide) h),
   fun h => S.f4 (upd_old (by decide) h),
   fun h => S.f5 (upd_old (by decide) h),
   fun h => S.f6 (upd_old (by decide) h),
   fun h => S.f7 (upd_old (by decide) h),
   fun h => S.f8 (upd_old (by decide) h),
   fun h => S.f9 (upd_old (by decide) h),
   fun _ => rfl,
   fun h => S.f11 (upd_old (by decide) h)⟩
theorem S3f.s11 {W : World} {X V P3 R R2 : Value} {v16 v17 v18 v19 v20 v21 v22 v23 v24 v25 v26 v27 : Value} {l : Nat → Bool} {u : World} (S : S3f W X V P3 R R2 v16 v17 v18 v19 v20 v21 v22 v23 v24 v25 v26 v27 l u) (hn : l 11 = false) : S3f W X V P3 R R2 v16 v17 v18 v19 v20 v21 v22 v23 v24 v25 v26 (.bool false) (upd l 11) u := by
  have _ := hn
  refine ⟨S.base,
   fun h => S.f0 (upd_old (by decide) h),
   fun h => S.f1 (upd_old (by decide) h),
   fun h => S.f2 (upd_old (by decide) h),
   fun h => S.f3 (upd_old (by decide) h),
   fun h => S.f4 (upd_old (by decide) h),
   fun h => S.f5 (upd_old (by decide) h),
   fun h => S.f6 (upd_old (by decide) h),
   fun h => S.f7 (upd_old (by decide) h),
   fun h => S.f8 (upd_old (by decide) h),
   fun h => S.f9 (upd_old (by decide) h),
   fun h => S.f10 (upd_old (by decide) h),
   fun _ => rfl⟩

set_option maxHeartbeats 8000000 in
theorem contrary_any {w : World} {v1 v2 v3 v : Value} {c : PCon} {L : List (List Int × Nat)} (hT : B.Tab w) (h0 : 0 < w.heap.size) (hc : rCon w [.int .i64 c.kind, v1, v2, .int .i64 c.rel, .int .i64 c.const, v3] c) (h : Slc rDom 2 w v L) :
    Calls Tryd.prog 7 #[.agg #[.int .i64 c.kind, v1, v2, .int .i64 c.rel, .int .i64 c.const, v3], v] w fun e w' => e = .returned (.bool true) ∧ Below w.heap.size w w' := by
  obtain ⟨⟨p1, m1, k1, rfl⟩, ⟨p2, m2, k2, rfl⟩, ⟨p3, m3, k3, rfl⟩⟩ := rCon_shape hc
  have hnv : ∃ b1 o1, Nums w p1 b1 o1 m1 c.vars := by
    obtain ⟨u1, u2, u3, e, _, ⟨_, b1, o1, _, _, e1, _, h1⟩, _, _⟩ := id hc
    subst e1
    simp only [List.cons.injEq, true_and, and_true, Value.slice.injEq] at e
    obtain ⟨⟨rfl, rfl, rfl⟩, _⟩ := e
    exact ⟨b1, o1, nums_of h1⟩
  obtain ⟨b1, o1, hnv⟩ := hnv
  obtain ⟨pv, bv, ov, cv, lv, rfl, _, hsv⟩ := id h
  obtain ⟨W0, hW0⟩ : ∃ W0, W0 = w.alloc (.cells #[.int .i64 c.kind, (.slice p1 m1 k1), (.slice p2 m2 k2), .int .i64 c.rel, .int .i64 c.const, (.slice p3 m3 k3)] 24) := ⟨_, rfl⟩
  have hb0 : Below w.heap.size w W0 := by rw [hW0]; exact new_below _ _
  have HB0 := Lib.hid hb0
  have Q0 := Lib.hid (show W0.heap[w.heap.size]? = some (.cells #[.int .i64 c.kind, (.slice p1 m1 k1), (.slice p2 m2 k2), .int .i64 c.rel, .int .i64 c.const, (.slice p3 m3 k3)] 24) by rw [hW0]; exact blk_new _ _)
  have HW := Lib.hid (show w.alloc (.cells #[.int .i64 c.kind, (.slice p1 m1 k1), (.slice p2 m2 k2), .int .i64 c.rel, .int .i64 c.const, (.slice p3 m3 k3)] 24) = W0 from hW0.symm)
  have AW := Lib.hid (show Calls Tryd.prog 8 #[] W0 (fun e w' => e = .returned (.bool true) ∧ Below W0.heap.size W0 w') from awake_any (B.Tab.below hT h0 hb0) (Nat.lt_of_lt_of_le h0 hb0.size))
  have LG := Lib.hid (fun (u : World) (hb : Below w.heap.size w u) => large_any (rCon_stays _ _ _ _ hb hc) (h.below rDom_stays hb))
  have SP := Lib.hid (fun (hs : Short 1000 c) (hn : L.length ≤ 1000) (hm : ∀ d ∈ L, d.1.length ≤ 1000) (u : World) (hb : Below w.heap.size w u) => step_any (B.Tab.below hT h0 hb) (Nat.lt_of_lt_of_le h0 hb.size) (rCon_stays _ _ _ _ hb hc) hs (h.below rDom_stays hb) hn hm)
  have SD := Lib.hid (fun (hs : Short 1000 c) (hn : L.length ≤ 1000) (hm : ∀ d ∈ L, d.1.length ≤ 1000) (u : World) (hb : Below w.heap.size w u) (hd : rCon u [.int .i64 c.kind, (.slice p1 m1 k1), (.slice p2 m2 k2), .int .i64 (contrary c.rel), .int .i64 c.const, (.slice p3 m3 k3)] (turnedC c)) => (show Calls Tryd.prog 10 #[.agg #[.int .i64 c.kind, (.slice p1 m1 k1), (.slice p2 m2 k2), .int .i64 (contrary c.rel), .int .i64 c.const, (.slice p3 m3 k3)], (.slice pv lv cv)] u (fun e w' => ∃ x, e = .returned (.tuple #[x, .int .i64 (stepP (turnedC c) L).2]) ∧ Slc rDom 2 w' x (stepP (turnedC c) L).1 ∧ Below u.heap.size u w') from step_any (c := turnedC c) (B.Tab.below hT h0 hb) (Nat.lt_of_lt_of_le h0 hb.size) hd hs (h.below rDom_stays hb) hn hm))
  have HD := Lib.hid (fun (u : World) (hb : Below w.heap.size w u) => h.below rDom_stays hb)
  have RC := Lib.hid (fun (u : World) (hb : Below w.heap.size w u) => rCon_stays _ _ _ _ hb hc)
  have HSV := Lib.hid hsv
  have LV := Lib.hid hsv.long
  have hpv := hsv.at_
  have HNV := Lib.hid hnv
  obtain ⟨G, hG⟩ : ∃ b, b = largeS c L := ⟨_, rfl⟩
  rw [← hG] at LG
  have HG := Lib.hid hG
  clear hT h0 hc h hW0 hb0 hG hsv hnv
  obtain ⟨q0, q1, q2, q3, q4, q5⟩ := six_in Q0.out
  go_enter Tryd.func7, Tryd.ntmps7
  go_wp2_with fail
  rw [HW.out]
  refine AW.out.mono ?_
  rintro e w1 ⟨rfl, hB⟩
  have HB1 := Lib.hid (below_two HB0.out hB)
  have Q1 := Lib.hid (blk_below Q0.out hB)
  clear hB q0 q1 q2 q3 q4 q5
  go_upto_region 3 with fail
  go_cut [27] (fun b wx => b = .bool G ∧ Below w1.heap.size w1 wx)
  case first =>
    have HQ := Lib.hid (six_in Q1.out)
    have HBZ := Lib.hid (show Below w1.heap.size w1 w1.drew from (Below.refl _ _).drew)
    have LGX := Lib.hid (fun (z : World) (hz : Below w1.heap.size w1 z) => LG.out z (below_two HB1.out hz))
    cases G
    · refine wp_region_at (γ := GS3f) (JS3f w1 (.agg #[.int .i64 c.kind, (.slice p1 m1 k1), (.slice p2 m2 k2), .int .i64 c.rel, .int .i64 c.const, (.slice p3 m3 k3)]) (.slice pv lv cv) (.pointer (some ⟨w.heap.size, 3, none⟩)) (.int .i64 c.rel) (.int .i64 (contrary c.rel))) putS3f ⟨undef, undef, undef, undef, undef, undef, undef, undef, undef, undef, undef, undef⟩ ?hm ?ho ?hput ?h0 ?hs ?hd
      case hm => kernel_rfl
      case ho => kernel_rfl
      case hput => (simp only [putS3f, List.setIfInBounds_toArray, List.set_cons_zero, List.set_cons_succ])
      case h0 => exact ⟨HBZ.out, nofun, nofun, nofun, nofun, nofun, nofun, nofun, nofun, nofun, nofun, nofun, nofun⟩
      case hs =>
        as_aux_lemma =>
        refine ⟨?s0, ?s1, ?s2, ?s3, ?s4, ?s5, ?s6, ?s7, ?s8, ?s9, ?s10, ?s11, trivial⟩
        case s0 =>
          rintro l ⟨v16, v17, v18, v19, v20, v21, v22, v23, v24, v25, v26, v27⟩ u hl haf S K hK
          simp only [JS3f] at S
          have q0 := cell_below S.base HQ.out.1
          have q1 := cell_below S.base HQ.out.2.1
          have q2 := cell_below S.base HQ.out.2.2.1
          have q3 := cell_below S.base HQ.out.2.2.2.1
          have q4 := cell_below S.base HQ.out.2.2.2.2.1
          have q5 := cell_below S.base HQ.out.2.2.2.2.2
          refine ⟨?_⟩
          simp only [putS3f, List.setIfInBounds_toArray, List.set_cons_zero, List.set_cons_succ]
          go_simp
          have nx := hK.out ⟨(.agg #[.int .i64 c.kind, (.slice p1 m1 k1), (.slice p2 m2 k2), .int .i64 c.rel, .int .i64 c.const, (.slice p3 m3 k3)]), v17, v18, v19, v20, v21, v22, v23, v24, v25, v26, v27⟩ u (S.s0 hl)
          clear hK
          simp only [putS3f, List.setIfInBounds_toArray, List.set_cons_zero, List.set_cons_succ] at nx
          exact nx
        case s1 =>
          rintro l ⟨v16, v17, v18, v19, v20, v21, v22, v23, v24, v25, v26, v27⟩ u hl haf S K hK
          simp only [JS3f] at S
          refine ⟨?_⟩
          simp only [putS3f, List.setIfInBounds_toArray, List.set_cons_zero, List.set_cons_succ]
          go_simp
          have nx := hK.out ⟨v16, (.slice pv lv cv), v18, v19, v20, v21, v22, v23, v24, v25, v26, v27⟩ u (S.s1 hl)
          clear hK
          simp only [putS3f, List.setIfInBounds_toArray, List.set_cons_zero, List.set_cons_succ] at nx
          exact nx
        case s2 =>
          rintro l ⟨v16, v17, v18, v19, v20, v21, v22, v23, v24, v25, v26, v27⟩ u hl haf S K hK
          simp only [JS3f] at S
          obtain rfl := S.f0 (haf 0 (by kernel_rfl))
          obtain rfl := S.f1 (haf 1 (by kernel_rfl))
          refine ⟨?_⟩
          simp only [putS3f, List.setIfInBounds_toArray, List.set_cons_zero, List.set_cons_succ]
          go_simp
          refine (LGX.out _ S.base).mono ?_
          rintro e u2 ⟨rfl, hB⟩
          have nx := hK.out ⟨_, _, (.bool false), v19, v20, v21, v22, v23, v24, v25, v26, v27⟩ u2 (S.s2 hl hB)
          clear hK
          simp only [putS3f, List.setIfInBounds_toArray, List.set_cons_zero, List.set_cons_succ] at nx
          exact nx
        case s3 =>
          rintro l ⟨v16, v17, v18, v19, v20, v21, v22, v23, v24, v25, v26, v27⟩ u hl haf S K hK
          simp only [JS3f] at S
          obtain rfl := S.f2 (haf 2 (by kernel_rfl))
          refine ⟨?_⟩
          simp only [putS3f, List.setIfInBounds_toArray, List.set_cons_zero, List.set_cons_succ]
          go_simp
          have nx := hK.out ⟨v16, v17, _, (.bool false), v20, v21, v22, v23, v24, v25, v26, v27⟩ u (S.s3 hl)
          clear hK
          simp only [putS3f, List.setIfInBounds_toArray, List.set_cons_zero, List.set_cons_succ] at nx
          exact nx
        case s4 =>
          rintro l ⟨v16, v17, v18, v19, v20, v21, v22, v23, v24, v25, v26, v27⟩ u hl haf S K hK
          simp only [JS3f] at S
          obtain rfl := S.f3 (haf 3 (by kernel_rfl))
          refine ⟨?_⟩
          simp only [putS3f, List.setIfInBounds_toArray, List.set_cons_zero, List.set_cons_succ]
          go_simp
          have nx := hK.out ⟨v16, v17, v18, _, (.pointer (some ⟨w.heap.size, 3, none⟩)), v21, v22, v23, v24, v25, v26, v27⟩ u (S.s4 hl)
          clear hK
          simp only [putS3f, List.setIfInBounds_toArray, List.set_cons_zero, List.set_cons_succ] at nx
          exact nx
        case s5 =>
          rintro l ⟨v16, v17, v18, v19, v20, v21, v22, v23, v24, v25, v26, v27⟩ u hl haf S K hK
          simp only [JS3f] at S
          have q3 := cell_below S.base HQ.out.2.2.2.1
          obtain rfl := S.f3 (haf 3 (by kernel_rfl))
          obtain rfl := S.f4 (haf 4 (by kernel_rfl))
          refine ⟨?_⟩
          simp only [putS3f, List.setIfInBounds_toArray, List.set_cons_zero, List.set_cons_succ]
          go_simp
          have nx := hK.out ⟨v16, v17, v18, _, _, (.int .i64 c.rel), v22, v23, v24, v25, v26, v27⟩ u (S.s5 hl)
          clear hK
          simp only [putS3f, List.setIfInBounds_toArray, List.set_cons_zero, List.set_cons_succ] at nx
          exact nx
        case s6 =>
          rintro l ⟨v16, v17, v18, v19, v20, v21, v22, v23, v24, v25, v26, v27⟩ u hl haf S K hK
          simp only [JS3f] at S
          obtain rfl := S.f3 (haf 3 (by kernel_rfl))
          obtain rfl := S.f5 (haf 5 (by kernel_rfl))
          refine ⟨?_⟩
          simp only [putS3f, List.setIfInBounds_toArray, List.set_cons_zero, List.set_cons_succ]
          go_simp
          refine (pcontrary_any c.rel _).mono ?_
          rintro e u2 ⟨rfl, hB⟩
          have nx := hK.out ⟨v16, v17, v18, _, v20, _, (.int .i64 (contrary c.rel)), v23, v24, v25, v26, v27⟩ u2 (S.s6 hl hB)
          clear hK
          simp only [putS3f, List.setIfInBounds_toArray, List.set_cons_zero, List.set_cons_succ] at nx
          exact nx
        case s7 =>
          rintro l ⟨v16, v17, v18, v19, v20, v21, v22, v23, v24, v25, v26, v27⟩ u hl haf S K hK
          simp only [JS3f] at S
          obtain rfl := S.f3 (haf 3 (by kernel_rfl))
          obtain rfl := S.f6 (haf 6 (by kernel_rfl))
          refine ⟨?_⟩
          simp only [putS3f, List.setIfInBounds_toArray, List.set_cons_zero, List.set_cons_succ]
          go_simp
          refine (pcontrary2_any c.rel _).mono ?_
          rintro e u2 ⟨rfl, hB⟩
          have nx := hK.out ⟨v16, v17, v18, _, v20, v21, _, (.int .i64 c.rel), v24, v25, v26, v27⟩ u2 (S.s7 hl hB)
          clear hK
          simp only [putS3f, List.setIfInBounds_toArray, List.set_cons_zero, List.set_cons_succ] at nx
          exact nx
        case s8 =>
          rintro l ⟨v16, v17, v18, v19, v20, v21, v22, v23, v24, v25, v26, v27⟩ u hl haf S K hK
          simp only [JS3f] at S
          obtain rfl := S.f3 (haf 3 (by kernel_rfl))
          refine ⟨?_⟩
          simp only [putS3f, List.setIfInBounds_toArray, List.set_cons_zero, List.set_cons_succ]
          go_simp
          have nx := hK.out ⟨v16, v17, v18, _, v20, v21, v22, v23, (.pointer (some ⟨w.heap.size, 3, none⟩)), v25, v26, v27⟩ u (S.s8 hl)
          clear hK
          simp only [putS3f, List.setIfInBounds_toArray, List.set_cons_zero, List.set_cons_succ] at nx
          exact nx
        case s9 =>
          rintro l ⟨v16, v17, v18, v19, v20, v21, v22, v23, v24, v25, v26, v27⟩ u hl haf S K hK
          simp only [JS3f] at S
          have q3 := cell_below S.base HQ.out.2.2.2.1
          obtain rfl := S.f3 (haf 3 (by kernel_rfl))
          obtain rfl := S.f8 (haf 8 (by kernel_rfl))
          refine ⟨?_⟩
          simp only [putS3f, List.setIfInBounds_toArray, List.set_cons_zero, List.set_cons_succ]
          go_simp
          have nx := hK.out ⟨v16, v17, v18, _, v20, v21, v22, v23, _, (.int .i64 c.rel), v26, v27⟩ u (S.s9 hl)
          clear hK
          simp only [putS3f, List.setIfInBounds_toArray, List.set_cons_zero, List.set_cons_succ] at nx
          exact nx
        case s10 =>
          rintro l ⟨v16, v17, v18, v19, v20, v21, v22, v23, v24, v25, v26, v27⟩ u hl haf S K hK
          simp only [JS3f] at S
          obtain rfl := S.f3 (haf 3 (by kernel_rfl))
          obtain rfl := S.f7 (haf 7 (by kernel_rfl))
          obtain rfl := S.f9 (haf 9 (by kernel_rfl))
          refine ⟨?_⟩
          simp only [putS3f, List.setIfInBounds_toArray, List.set_cons_zero, List.set_cons_succ]
          go_simp
          have nx := hK.out ⟨v16, v17, v18, _, v20, v21, v22, _, v24, _, (.bool false), v27⟩ u (S.s10 hl)
          clear hK
          simp only [putS3f, List.setIfInBounds_toArray, List.set_cons_zero, List.set_cons_succ] at nx
          exact nx
        case s11 =>
          rintro l ⟨v16, v17, v18, v19, v20, v21, v22, v23, v24, v25, v26, v27⟩ u hl haf S K hK
          simp only [JS3f] at S
          obtain rfl := S.f3 (haf 3 (by kernel_rfl))
          obtain rfl := S.f10 (haf 10 (by kernel_rfl))
          refine ⟨?_⟩
          simp only [putS3f, List.setIfInBounds_toArray, List.set_cons_zero, List.set_cons_succ]
          go_simp
          have nx := hK.out ⟨v16, v17, v18, _, v20, v21, v22, v23, v24, v25, _, (.bool false)⟩ u (S.s11 hl)
          clear hK
          simp only [putS3f, List.setIfInBounds_toArray, List.set_cons_zero, List.set_cons_succ] at nx
          exact nx
      case hd =>
        rintro ⟨v16, v17, v18, v19, v20, v21, v22, v23, v24, v25, v26, v27⟩ u l hall S
        simp only [JS3f] at S
        have HB9 := Lib.hid S.base
        have h27 := S.f11 (hall 11 (by decide))
        refine ⟨?_⟩
        simp only [putS3f, List.setIfInBounds_toArray, List.set_cons_zero, List.set_cons_succ]
        rw [h27]
        clear S
        go_wp2_with fail
        go_meet
        exact ⟨rfl, HB9.out⟩
    · refine wp_region_at (γ := GS3t) (JS3t w1 (.agg #[.int .i64 c.kind, (.slice p1 m1 k1), (.slice p2 m2 k2), .int .i64 c.rel, .int .i64 c.const, (.slice p3 m3 k3)]) (.slice pv lv cv) (.pointer (some ⟨w.heap.size, 3, none⟩)) (.int .i64 c.rel) (.int .i64 (contrary c.rel))) putS3t ⟨undef, undef, undef, undef, undef, undef, undef, undef, undef, undef, undef, undef⟩ ?hm ?ho ?hput ?h0 ?hs ?hd
      case hm => kernel_rfl
      case ho => kernel_rfl
      case hput => (simp only [putS3t, List.setIfInBounds_toArray, List.set_cons_zero, List.set_cons_succ])
      case h0 => exact ⟨HBZ.out, nofun, nofun, nofun, nofun, nofun, nofun, nofun, nofun, nofun, nofun, nofun, nofun⟩
      case hs =>
        as_aux_lemma =>
        refine ⟨?s0, ?s1, ?s2, ?s3, ?s4, ?s5, ?s6, ?s7, ?s8, ?s9, ?s10, ?s11, trivial⟩
        case s0 =>
          rintro l ⟨v16, v17, v18, v19, v20, v21, v22, v23, v24, v25, v26, v27⟩ u hl haf S K hK
          simp only [JS3t] at S
          have q0 := cell_below S.base HQ.out.1
          have q1 := cell_below S.base HQ.out.2.1
          have q2 := cell_below S.base HQ.out.2.2.1
          have q3 := cell_below S.base HQ.out.2.2.2.1
          have q4 := cell_below S.base HQ.out.2.2.2.2.1
          have q5 := cell_below S.base HQ.out.2.2.2.2.2
          refine ⟨?_⟩
          simp only [putS3t, List.setIfInBounds_toArray, List.set_cons_zero, List.set_cons_succ]
          go_simp
          have nx := hK.out ⟨(.agg #[.int .i64 c.kind, (.slice p1 m1 k1), (.slice p2 m2 k2), .int .i64 c.rel, .int .i64 c.const, (.slice p3 m3 k3)]), v17, v18, v19, v20, v21, v22, v23, v24, v25, v26, v27⟩ u (S.s0 hl)
          clear hK
          simp only [putS3t, List.setIfInBounds_toArray, List.set_cons_zero, List.set_cons_succ] at nx
          exact nx
        case s1 =>
          rintro l ⟨v16, v17, v18, v19, v20, v21, v22, v23, v24, v25, v26, v27⟩ u hl haf S K hK
          simp only [JS3t] at S
          refine ⟨?_⟩
          simp only [putS3t, List.setIfInBounds_toArray, List.set_cons_zero, List.set_cons_succ]
          go_simp
          have nx := hK.out ⟨v16, (.slice pv lv cv), v18, v19, v20, v21, v22, v23, v24, v25, v26, v27⟩ u (S.s1 hl)
          clear hK
          simp only [putS3t, List.setIfInBounds_toArray, List.set_cons_zero, List.set_cons_succ] at nx
          exact nx
        case s2 =>
          rintro l ⟨v16, v17, v18, v19, v20, v21, v22, v23, v24, v25, v26, v27⟩ u hl haf S K hK
          simp only [JS3t] at S
          obtain rfl := S.f0 (haf 0 (by kernel_rfl))
          obtain rfl := S.f1 (haf 1 (by kernel_rfl))
          refine ⟨?_⟩
          simp only [putS3t, List.setIfInBounds_toArray, List.set_cons_zero, List.set_cons_succ]
          go_simp
          refine (LGX.out _ S.base).mono ?_
          rintro e u2 ⟨rfl, hB⟩
          have nx := hK.out ⟨_, _, (.bool true), v19, v20, v21, v22, v23, v24, v25, v26, v27⟩ u2 (S.s2 hl hB)
          clear hK
          simp only [putS3t, List.setIfInBounds_toArray, List.set_cons_zero, List.set_cons_succ] at nx
          exact nx
        case s3 =>
          rintro l ⟨v16, v17, v18, v19, v20, v21, v22, v23, v24, v25, v26, v27⟩ u hl haf S K hK
          simp only [JS3t] at S
          obtain rfl := S.f2 (haf 2 (by kernel_rfl))
          refine ⟨?_⟩
          simp only [putS3t, List.setIfInBounds_toArray, List.set_cons_zero, List.set_cons_succ]
          go_simp
          have nx := hK.out ⟨v16, v17, _, (.bool true), v20, v21, v22, v23, v24, v25, v26, v27⟩ u (S.s3 hl)
          clear hK
          simp only [putS3t, List.setIfInBounds_toArray, List.set_cons_zero, List.set_cons_succ] at nx
          exact nx
        case s4 =>
          rintro l ⟨v16, v17, v18, v19, v20, v21, v22, v23, v24, v25, v26, v27⟩ u hl haf S K hK
          simp only [JS3t] at S
          obtain rfl := S.f3 (haf 3 (by kernel_rfl))
          refine ⟨?_⟩
          simp only [putS3t, List.setIfInBounds_toArray, List.set_cons_zero, List.set_cons_succ]
          go_simp
          have nx := hK.out ⟨v16, v17, v18, _, undef, v21, v22, v23, v24, v25, v26, v27⟩ u (S.s4 hl)
          clear hK
          simp only [putS3t, List.setIfInBounds_toArray, List.set_cons_zero, List.set_cons_succ] at nx
          exact nx
        case s5 =>
          rintro l ⟨v16, v17, v18, v19, v20, v21, v22, v23, v24, v25, v26, v27⟩ u hl haf S K hK
          simp only [JS3t] at S
          obtain rfl := S.f3 (haf 3 (by kernel_rfl))
          refine ⟨?_⟩
          simp only [putS3t, List.setIfInBounds_toArray, List.set_cons_zero, List.set_cons_succ]
          go_simp
          have nx := hK.out ⟨v16, v17, v18, _, v20, undef, v22, v23, v24, v25, v26, v27⟩ u (S.s5 hl)
          clear hK
          simp only [putS3t, List.setIfInBounds_toArray, List.set_cons_zero, List.set_cons_succ] at nx
          exact nx
        case s6 =>
          rintro l ⟨v16, v17, v18, v19, v20, v21, v22, v23, v24, v25, v26, v27⟩ u hl haf S K hK
          simp only [JS3t] at S
          obtain rfl := S.f3 (haf 3 (by kernel_rfl))
          refine ⟨?_⟩
          simp only [putS3t, List.setIfInBounds_toArray, List.set_cons_zero, List.set_cons_succ]
          go_simp
          have nx := hK.out ⟨v16, v17, v18, _, v20, v21, undef, v23, v24, v25, v26, v27⟩ u (S.s6 hl)
          clear hK
          simp only [putS3t, List.setIfInBounds_toArray, List.set_cons_zero, List.set_cons_succ] at nx
          exact nx
        case s7 =>
          rintro l ⟨v16, v17, v18, v19, v20, v21, v22, v23, v24, v25, v26, v27⟩ u hl haf S K hK
          simp only [JS3t] at S
          obtain rfl := S.f3 (haf 3 (by kernel_rfl))
          refine ⟨?_⟩
          simp only [putS3t, List.setIfInBounds_toArray, List.set_cons_zero, List.set_cons_succ]
          go_simp
          have nx := hK.out ⟨v16, v17, v18, _, v20, v21, v22, undef, v24, v25, v26, v27⟩ u (S.s7 hl)
          clear hK
          simp only [putS3t, List.setIfInBounds_toArray, List.set_cons_zero, List.set_cons_succ] at nx
          exact nx
        case s8 =>
          rintro l ⟨v16, v17, v18, v19, v20, v21, v22, v23, v24, v25, v26, v27⟩ u hl haf S K hK
          simp only [JS3t] at S
          obtain rfl := S.f3 (haf 3 (by kernel_rfl))
          refine ⟨?_⟩
          simp only [putS3t, List.setIfInBounds_toArray, List.set_cons_zero, List.set_cons_succ]
          go_simp
          have nx := hK.out ⟨v16, v17, v18, _, v20, v21, v22, v23, undef, v25, v26, v27⟩ u (S.s8 hl)
          clear hK
          simp only [putS3t, List.setIfInBounds_toArray, List.set_cons_zero, List.set_cons_succ] at nx
          exact nx
        case s9 =>
          rintro l ⟨v16, v17, v18, v19, v20, v21, v22, v23, v24, v25, v26, v27⟩ u hl haf S K hK
          simp only [JS3t] at S
          obtain rfl := S.f3 (haf 3 (by kernel_rfl))
          refine ⟨?_⟩
          simp only [putS3t, List.setIfInBounds_toArray, List.set_cons_zero, List.set_cons_succ]
          go_simp
          have nx := hK.out ⟨v16, v17, v18, _, v20, v21, v22, v23, v24, undef, v26, v27⟩ u (S.s9 hl)
          clear hK
          simp only [putS3t, List.setIfInBounds_toArray, List.set_cons_zero, List.set_cons_succ] at nx
          exact nx
        case s10 =>
          rintro l ⟨v16, v17, v18, v19, v20, v21, v22, v23, v24, v25, v26, v27⟩ u hl haf S K hK
          simp only [JS3t] at S
          obtain rfl := S.f3 (haf 3 (by kernel_rfl))
          refine ⟨?_⟩
          simp only [putS3t, List.setIfInBounds_toArray, List.set_cons_zero, List.set_cons_succ]
          go_simp
          have nx := hK.out ⟨v16, v17, v18, _, v20, v21, v22, v23, v24, v25, undef, v27⟩ u (S.s10 hl)
          clear hK
          simp only [putS3t, List.setIfInBounds_toArray, List.set_cons_zero, List.set_cons_succ] at nx
          exact nx
        case s11 =>
          rintro l ⟨v16, v17, v18, v19, v20, v21, v22, v23, v24, v25, v26, v27⟩ u hl haf S K hK
          simp only [JS3t] at S
          obtain rfl := S.f3 (haf 3 (by kernel_rfl))
          refine ⟨?_⟩
          simp only [putS3t, List.setIfInBounds_toArray, List.set_cons_zero, List.set_cons_succ]
          go_simp
          have nx := hK.out ⟨v16, v17, v18, _, v20, v21, v22, v23, v24, v25, v26, (.bool true)⟩ u (S.s11 hl)
          clear hK
          simp only [putS3t, List.setIfInBounds_toArray, List.set_cons_zero, List.set_cons_succ] at nx
          exact nx
      case hd =>
        rintro ⟨v16, v17, v18, v19, v20, v21, v22, v23, v24, v25, v26, v27⟩ u l hall S
        simp only [JS3t] at S
        have HB9 := Lib.hid S.base
        have h27 := S.f11 (hall 11 (by decide))
        refine ⟨?_⟩
        simp only [putS3t, List.setIfInBounds_toArray, List.set_cons_zero, List.set_cons_succ]
        rw [h27]
        clear S
        go_wp2_with fail
        go_meet
        exact ⟨rfl, HB9.out⟩
  case rest =>
    obtain ⟨rfl, hB⟩ := hcut
    obtain ⟨w2, rfl⟩ : ∃ x, x = wc := ⟨_, rfl⟩
    have HB2 := Lib.hid (below_two HB1.out hB)
    have Q2 := Lib.hid (blk_below Q1.out hB)
    clear hB
    obtain ⟨q0, q1, q2, q3, q4, q5⟩ := six_in Q2.out
    cases G
    · obtain ⟨l1, l2, l3⟩ := largeS_no HG.out.symm
      have hn : L.length ≤ 1000 := by omega
      have hm : ∀ d ∈ L, d.1.length ≤ 1000 := fun d hd => Nat.le_trans (l3 d hd) (by decide)
      have hs := short_up l2
      have SP2 := Lib.hid (SP.out hs hn hm _ HB2.out)
      have SD2 := Lib.hid (SD.out hs hn hm)
      have HLN := Lib.hid hn
      cases hR : rightP c L
      · rw [stepP_off hR] at SP2
        clear l1 l2 l3 hn hm hs hR
        go_wp2_with fail
        refine SP2.out.mono ?_
        rintro e w3 ⟨x3, rfl, hx, hB⟩
        have HB3 := Lib.hid (below_two HB2.out hB)
        clear hx hB q0 q1 q2 q3 q4 q5
        go_wp2_with fail
        go_ret
        exact ⟨rfl, HB3.out⟩
      · by_cases hk : c.kind = 1
        · have BL := Lib.hid (fun (hz : anyZ L c.vars c.vars.length = false) (i : Nat) (hi : i < L.length) => both_law hk hR hz hi)
          have HVT := Lib.hid (right_vars (rightP_parts hR).2.1)
          have HNE := Lib.hid (contrary_ne (lin_rel hk hR))
          have HRL := Lib.hid (contrary_in (lin_rel hk hR))
          have L1 := Lib.hid (show (stepP c L).1.length = L.length by rw [stepP_on hR]; exact stepTo_length _ _ _ _)
          have L2 := Lib.hid (show (stepP (turnedC c) L).1.length = L.length by rw [stepP_on (turned_rightP hk hR)]; exact stepTo_length _ _ _ _)
          have E1 := Lib.hid (show (stepP c L).2 = 0 by rw [stepP_on hR])
          have E2 := Lib.hid (show (stepP (turnedC c) L).2 = 0 by rw [stepP_on (turned_rightP hk hR)])
          rw [E1.out] at SP2
          rw [E2.out] at SD2
          obtain ⟨A1, hA1⟩ : ∃ A, A = (stepP c L).1 := ⟨_, rfl⟩
          obtain ⟨A2, hA2⟩ : ∃ A, A = (stepP (turnedC c) L).1 := ⟨_, rfl⟩
          rw [← hA1] at SP2 BL L1
          rw [← hA2] at SD2 BL L2
          have KO := Lib.hid hk
          have HSH := Lib.hid l2.1
          clear l1 l2 l3 hn hm hs hR hA1 hA2 E1 E2
          have dk : (c.kind != 1) = false := by simp [hk]
          clear hk
          go_wp2_with fail
          refine SP2.out.mono ?_
          rintro e w3 ⟨x3, rfl, hx, hB⟩
          have X3 := Lib.hid hx
          have HB3 := Lib.hid (below_two HB2.out hB)
          have Q3 := Lib.hid (blk_below Q2.out hB)
          clear hx hB q0 q1 q2 q3 q4 q5
          obtain ⟨q0, q1, q2, q3, q4, q5⟩ := six_in Q3.out
          go_upto_region 9 with fail
          obtain ⟨W4, hW4⟩ : ∃ z, z = w3.alloc (.cells #[.int .i64 c.kind, (.slice p1 m1 k1), (.slice p2 m2 k2), .int .i64 c.rel, .int .i64 c.const, (.slice p3 m3 k3)] 24) := ⟨_, rfl⟩
          rw [← hW4]
          have hb4 : Below w3.heap.size w3 W4 := by rw [hW4]; exact new_below _ _
          have HB4 := Lib.hid (below_two HB3.out hb4)
          have HB34 := Lib.hid hb4
          have Q4 := Lib.hid (blk_below Q3.out hb4)
          have P4 := Lib.hid (show W4.heap[w3.heap.size]? = some (.cells #[.int .i64 c.kind, (.slice p1 m1 k1), (.slice p2 m2 k2), .int .i64 c.rel, .int .i64 c.const, (.slice p3 m3 k3)] 24) by rw [hW4]; exact blk_new _ _)
          have X4 := Lib.hid (X3.out.below rDom_stays hb4)
          have HLT := Lib.hid (show w.heap.size ≠ w3.heap.size from Nat.ne_of_lt (Array.getElem?_eq_some_iff.1 Q3.out).1)
          clear hW4 hb4 q0 q1 q2 q3 q4 q5
          obtain ⟨q0, q1, q2, q3, q4, q5⟩ := six_in Q4.out
          go_wp2_with fail
          refine (pcontrary_any c.rel W4).mono ?_
          rintro e w5 ⟨rfl, hB⟩
          have HB5 := Lib.hid (below_two HB4.out hB)
          have HB35 := Lib.hid (below_two HB34.out hB)
          have Q5 := Lib.hid (blk_below Q4.out hB)
          have P5 := Lib.hid (blk_below P4.out hB)
          have X5 := Lib.hid (X4.out.below rDom_stays hB)
          clear hB q0 q1 q2 q3 q4 q5
          obtain ⟨q0, q1, q2, q3, q4, q5⟩ := six_in P5.out
          have fz : w5.frozen? ⟨w3.heap.size, 3, none⟩ = false := by simp [World.frozen?, P5.out]
          go_upto_region 10 with fail
          obtain ⟨W6, hW6⟩ : ∃ z, z = w5.setCell ⟨w3.heap.size, 3, none⟩ (.int .i64 (contrary c.rel)) := ⟨_, rfl⟩
          rw [← hW6]
          have HB6 := Lib.hid (show Below w.heap.size w W6 by rw [hW6]; exact HB5.out.setCell HB3.out.size _)
          have Q6 := Lib.hid (show W6.heap[w.heap.size]? = some (.cells #[.int .i64 c.kind, (.slice p1 m1 k1), (.slice p2 m2 k2), .int .i64 c.rel, .int .i64 c.const, (.slice p3 m3 k3)] 24) by rw [hW6]; exact blk_kept Q5.out HLT.out _)
          have P6 := Lib.hid (show W6.heap[w3.heap.size]? = some (.cells #[.int .i64 c.kind, (.slice p1 m1 k1), (.slice p2 m2 k2), .int .i64 (contrary c.rel), .int .i64 c.const, (.slice p3 m3 k3)] 24) by rw [hW6]; exact blk_set P5.out _)
          have HB56 := Lib.hid (show Below w3.heap.size w3 W6 by rw [hW6]; exact HB35.out.setCell (Nat.le_refl _) _)
          have X6 := Lib.hid (X3.out.below rDom_stays HB56.out)
          clear hW6 fz q0 q1 q2 q3 q4 q5
          obtain ⟨q0, q1, q2, q3, q4, q5⟩ := six_in P6.out
          have SD3 := Lib.hid (SD2.out _ HB6.out (turned_con (RC.out _ HB6.out) HRL.out))
          go_wp2_with fail
          refine SD3.out.mono ?_
          rintro e w7 ⟨x7, rfl, hx, hB⟩
          obtain ⟨pa, ba, oa, ca, la, rfl, _, hsa⟩ := X6.out
          obtain ⟨pb, bb, ob, cb, lb, rfl, _, hsb⟩ := hx
          obtain rfl : la = lv := by have := hsa.long; have := L1.out; have := LV.out; omega
          obtain rfl : lb = la := by have := hsb.long; have := L2.out; have := LV.out; omega
          have HB7 := Lib.hid (below_two HB6.out hB)
          have Q7 := Lib.hid (blk_below Q6.out hB)
          have P7 := Lib.hid (blk_below P6.out hB)
          have SA := Lib.hid (hsa.below rDom_stays hB)
          have SB := Lib.hid hsb
          have SV := Lib.hid (HSV.out.below rDom_stays HB7.out)
          have hpa := hsa.at_
          have hpb := hsb.at_
          have NV := Lib.hid (nums_below HNV.out HB7.out)
          have hp1 := NV.out.at_
          clear hB hsa hsb q0 q1 q2 q3 q4 q5
          obtain ⟨q0, q1, q2, q3, q4, q5⟩ := six_in Q7.out
          have r3 := (six_in P7.out).2.2.2.1
          have d1 : (contrary c.rel == c.rel) = false := by simpa using HNE.out
          have d2 : decide (contrary c.rel = c.rel) = false := decide_eq_false HNE.out
          have hlv : lb ≤ 1000 := by have := LV.out; have := HLN.out; omega
          have hm1 : m1 ≤ 150 := by have := HNV.out.long; have := HSH.out; omega
          go_wp2_with fail
          go_loopw [80] (fun i wr => ∃ k : Nat, k ≤ lb ∧ i = .int .i64 k ∧ Below w7.heap.size w7 wr) (fun i _ => lb - (intOf i).toNat)
          case atStart => exact ⟨0, by omega, rfl, Below.refl _ _⟩
          case round =>
            rename_i wr
            obtain ⟨k, hk, rfl, hB⟩ := hrel
            have HBr := Lib.hid hB
            clear hB q0 q1 q2 q3 q4 q5 r3 d1 d2
            by_cases hlt : k < lb
            · have d5 : (k : Int) < (lb : Int) := by omega
              obtain ⟨q0, q1, q2, q3, q4, q5⟩ := six_in (blk_below Q7.out HBr.out)
              have H0 := Lib.hid (show anyZ L c.vars 0 = false from rfl)
              go_wp2_with fail
              go_loopw [11, 86] (fun t i wx => ∃ j : Nat, j ≤ m1 ∧ i = .int .i64 j ∧ t = .bool (anyZ L c.vars j) ∧ Below w7.heap.size w7 wx) (fun _ i _ => m1 - (intOf i).toNat)
              case atStart => exact ⟨0, by omega, rfl, by rw [H0.out], HBr.out⟩
              case round =>
                rename_i wx
                obtain ⟨j, hj, rfl, rfl, hB⟩ := hrel
                have HBx := Lib.hid hB
                clear hB q0 q1 q2 q3 q4 q5
                obtain rfl := hpv (by omega)
                by_cases hjm : j < m1
                · have d7 : (j : Int) < (m1 : Int) := by omega
                  obtain rfl := hp1 (by omega)
                  have c0 := cell_below HBx.out (NV.out.cell j hjm)
                  have hjv : j < c.vars.length := by have := NV.out.long; omega
                  have hy := (HVT.out j hjv).1
                  have e2 := anyZ_succ (L := L) hjv
                  obtain ⟨y, hyy⟩ : ∃ y : Nat, c.vars.getD j 0 = (y : Int) := ⟨(c.vars.getD j 0).toNat, by omega⟩
                  rw [hyy] at c0 hy e2
                  rw [Int.toNat_natCast] at e2
                  have hyl : y < lb := by have := LV.out; omega
                  have d8 : (y : Int) < (lb : Int) := by omega
                  obtain ⟨x, u, ex, ⟨_, a1⟩, _⟩ := dom_at2 (SV.out.below rDom_stays HBx.out) hyl
                  have hxx : L.getD y ([], 0) = x := by rw [List.getD_eq_getElem?_getD, ex]; rfl
                  rw [hxx] at e2
                  have E2 := Lib.hid e2
                  generalize x.2 = n at a1 E2
                  clear e2 hyy hy ex hxx hjv
                  cases hz : anyZ L c.vars j
                  · rw [hz, Bool.false_or] at E2
                    by_cases n0 : n = 0
                    · subst n0
                      have E3 := Lib.hid (show anyZ L c.vars (j + 1) = true from E2.out.trans (decide_eq_true rfl))
                      clear E2 hz
                      go_wp2_with fail
                      go_roundw
                      case rel => exact ⟨j + 1, by omega, by go_num, by rw [E3.out], HBx.out⟩
                      case measure => simp [intOf]; omega
                    · have E3 := Lib.hid (show anyZ L c.vars (j + 1) = false from E2.out.trans (decide_eq_false n0))
                      have d9 : ((n : Int) == 0) = false := by simpa using n0
                      have d9' : decide ((n : Int) = 0) = false := decide_eq_false (by omega)
                      clear E2 hz
                      go_wp2_with fail
                      go_roundw
                      case rel => exact ⟨j + 1, by omega, by go_num, by rw [E3.out], HBx.out⟩
                      case measure => simp [intOf]; omega
                  · rw [hz, Bool.true_or] at E2
                    clear hz
                    go_wp2_with fail
                    go_roundw
                    case rel => exact ⟨j + 1, by omega, by go_num, by rw [E2.out], HBx.out⟩
                    case measure => simp [intOf]; omega
                · have d8 : ¬ ((j : Int) < (m1 : Int)) := by omega
                  obtain rfl : j = m1 := by omega
                  have HNX := Lib.hid (below_two HBr.out (Below.refl _ _))
                  cases hz : anyZ L c.vars j
                  · obtain rfl := hpa (by omega)
                    obtain rfl := hpb (by omega)
                    obtain ⟨xa, ua, ea, ⟨_, ca1⟩, ta⟩ := dom_at2 (SA.out.below rDom_stays HBx.out) hlt
                    obtain ⟨xb, ub, eb, ⟨_, cb1⟩, tb⟩ := dom_at2 (SB.out.below rDom_stays HBx.out) hlt
                    obtain ⟨xl, ul, el, ⟨_, cl1⟩, tl⟩ := dom_at2 (SV.out.below rDom_stays HBx.out) hlt
                    have key := BL.out (by rw [← NV.out.long]; exact hz) k (by rw [← LV.out]; exact hlt)
                    rw [List.getD_eq_getElem?_getD, List.getD_eq_getElem?_getD, List.getD_eq_getElem?_getD, ea, eb, el] at key
                    have hor : bits .or .u64 (xa.2 : Int) (xb.2 : Int) = (xl.2 : Int) := (bits_or_u64_nat _ _ (rDom_parts ta).2.1 (rDom_parts tb).2.1).trans (congrArg _ key)
                    clear key ea eb el ta tb tl hz
                    go_upto_region 22 with fail
                    go_quiet (fail)
                    go_wp2_with fail
                    go_roundw
                    case rel => exact ⟨k + 1, by omega, by go_num, below_drewN HBx.out⟩
                    case measure => simp [intOf]; omega
                  · clear hz
                    go_upto_region 22 with fail
                    go_quiet (fail)
                    go_wp2_with fail
                    go_roundw
                    case rel => exact ⟨k + 1, by omega, by go_num, below_drewN HBx.out⟩
                    case measure => simp [intOf]; omega
            · have d6 : ¬ ((k : Int) < (lb : Int)) := by omega
              go_wp2_with fail
              go_ret
              exact ⟨rfl, below_two HB7.out HBr.out⟩
        · have dk : decide (c.kind = 1) = false := decide_eq_false hk
          have E1 := Lib.hid (show (stepP c L).2 = 0 by rw [stepP_on hR])
          rw [E1.out] at SP2
          clear l1 l2 l3 hn hm hs hR E1
          go_wp2_with fail
          refine SP2.out.mono ?_
          rintro e w3 ⟨x3, rfl, hx, hB⟩
          have HB3 := Lib.hid (below_two HB2.out hB)
          have Q3 := Lib.hid (blk_below Q2.out hB)
          clear hx hB q0 q1 q2 q3 q4 q5
          obtain ⟨q0, q1, q2, q3, q4, q5⟩ := six_in Q3.out
          go_wp2_with fail
          go_ret
          exact ⟨rfl, HB3.out⟩
    · go_wp2_with fail
      refine (LG.out _ HB2.out).mono ?_
      rintro e w3 ⟨rfl, hB⟩
      have HB3 := Lib.hid (below_two HB2.out hB)
      clear hB
      go_wp2_with fail
      go_ret
      exact ⟨rfl, HB3.out⟩
end Go.Proofs.YtakooocmnapjmaaDoor.St
