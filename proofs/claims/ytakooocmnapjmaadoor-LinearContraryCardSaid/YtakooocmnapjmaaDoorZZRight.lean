/-
  What right of package linear answers, and Step's own closure.
-/
import Derived.Test.YtakooocmnapjmaaDoorZZKeep
namespace Go.Proofs.YtakooocmnapjmaaDoor.St
open Go.RowKit
set_option maxRecDepth 100000

theorem rightP_S (c : PCon) (L : List (List Int × Nat)) : rightP c L = rightS c L [1, 3] := by
  unfold rightP rightS mayTo
  rw [inK_all, List.take_length]
  have e : (!L.any fun d => !Dm.mayL d.1 d.2) = L.all fun d => Dm.mayL d.1 d.2 := by
    rw [List.any_eq_not_all_not, Bool.not_not]
    simp
  have e2 : decide (c.kind ∈ ([1, 3] : List Int)) = decide (c.kind = 1 ∨ c.kind = 3) := by simp
  rw [e, e2]
  cases decide (c.kind = 1 ∨ c.kind = 3) <;> cases rightC c L.length <;> cases (L.all fun d => Dm.mayL d.1 d.2) <;> rfl

set_option maxHeartbeats 4000000 in
theorem right_any {w : World} {v1 v2 v3 v : Value} {c : PCon} {L : List (List Int × Nat)} (hc : rCon w [.int .i64 c.kind, v1, v2, .int .i64 c.rel, .int .i64 c.const, v3] c) (hs : Short 1000 c) (h : Slc rDom 2 w v L) (hn : L.length ≤ 1000) (hm : ∀ d ∈ L, d.1.length ≤ 1000) :
    Calls Tryd.prog 20 #[.agg #[.int .i64 c.kind, v1, v2, .int .i64 c.rel, .int .i64 c.const, v3], v] w fun e w' => e = .returned (.bool (rightP c L)) ∧ Below w.heap.size w w' := by
  obtain ⟨p, b, off, cc, len, rfl, _, hss⟩ := h
  obtain ⟨W0, hW0⟩ : ∃ W0, W0 = w.alloc (.cells #[.int .i64 c.kind, v1, v2, .int .i64 c.rel, .int .i64 c.const, v3] 24) := ⟨_, rfl⟩
  have hb0 : Below w.heap.size w W0 := by rw [hW0]; exact new_below _ _
  have hc0 : ∀ j u, [Value.int .i64 c.kind, v1, v2, .int .i64 c.rel, .int .i64 c.const, v3][j]? = some u → W0.cell? ⟨w.heap.size, j, none⟩ = some u := fun j u e => by rw [hW0]; exact six_at _ _ _ _ _ _ _ _ j u e
  have HW := Lib.hid hW0
  have HB0 := Lib.hid hb0
  have hl := hss.long
  have RM := Lib.hid (pright_any (len : Int) (rCon_stays _ _ _ _ hb0 hc) hs)
  have HM := Lib.hid (fun (z : World) (hz : Below W0.heap.size W0 z) => hasM_any 42 (enters_of Tryd.func42 (by kernel_rfl) rfl) #[] (fun d => !Dm.mayL d.1 d.2) p b off cc len L z (hss.below rDom_stays (below_two hb0 hz)) (by omega) (fun u x v1 hu hx hrd => right1_any hrd (hm x hx)))
  have hR : rightP c L = ((decide (c.kind = 1 ∨ c.kind = 3) && rightC c len) && !(L.any fun d => !Dm.mayL d.1 d.2)) := by rw [hl]; rfl
  obtain ⟨R1, hR1⟩ : ∃ R, R = rightC c len := ⟨_, rfl⟩
  obtain ⟨R2, hR2⟩ : ∃ R, R = L.any fun d => !Dm.mayL d.1 d.2 := ⟨_, rfl⟩
  rw [← hR1] at RM hR
  rw [← hR2] at HM hR
  have q0 := hc0 0 _ rfl
  have q1 := hc0 1 _ rfl
  have q2 := hc0 2 _ rfl
  have q3 := hc0 3 _ rfl
  have q4 := hc0 4 _ rfl
  have q5 := hc0 5 _ rfl
  obtain ⟨k, hk⟩ : ∃ k, k = c.kind := ⟨_, rfl⟩
  rw [← hk] at RM q0 hR HW ⊢
  have HR := Lib.hid hR
  clear hc hs hn hm hss hl hW0 hc0 hb0 hR1 hR2 hR hk
  have two : ∀ (KK : Bool), (decide (k = 1 ∨ k = 3)) = KK → True := fun _ _ => trivial
  clear two
  by_cases k1 : k = 1
  · subst k1
    have HR2 := Lib.hid (show rightP c L = (R1 && !R2) by rw [HR.out]; simp)
    clear HR
    cases R1
    · go_enter Tryd.func20, Tryd.ntmps20
      go_wp2_with fail
      rw [← HW.out]
      refine RM.out.mono ?_
      rintro e w1 ⟨rfl, hB1⟩
      have HB1 := Lib.hid (below_two HB0.out hB1)
      clear hB1
      go_wp2_with fail
      go_ret
      exact ⟨by rw [HR2.out]; rfl, HB1.out⟩
    · go_enter Tryd.func20, Tryd.ntmps20
      go_wp2_with fail
      rw [← HW.out]
      refine RM.out.mono ?_
      rintro e w1 ⟨rfl, hB1⟩
      have HB1 := Lib.hid hB1
      clear hB1
      go_wp2_with fail
      refine (HM.out _ HB1.out).mono ?_
      rintro e w2 ⟨rfl, hB2⟩
      have HB2 := Lib.hid (below_two HB0.out (below_two HB1.out hB2))
      clear hB2
      go_wp2_with fail
      go_ret
      exact ⟨by rw [HR2.out]; rfl, HB2.out⟩
  · have d1 : (k == 1) = false := beq_eq_false_iff_ne.2 k1
    by_cases k3 : k = 3
    · subst k3
      have HR2 := Lib.hid (show rightP c L = (R1 && !R2) by rw [HR.out]; simp)
      clear HR k1
      cases R1
      · go_enter Tryd.func20, Tryd.ntmps20
        go_wp2_with fail
        rw [← HW.out]
        refine RM.out.mono ?_
        rintro e w1 ⟨rfl, hB1⟩
        have HB1 := Lib.hid (below_two HB0.out hB1)
        clear hB1
        go_wp2_with fail
        go_ret
        exact ⟨by rw [HR2.out]; rfl, HB1.out⟩
      · go_enter Tryd.func20, Tryd.ntmps20
        go_wp2_with fail
        rw [← HW.out]
        refine RM.out.mono ?_
        rintro e w1 ⟨rfl, hB1⟩
        have HB1 := Lib.hid hB1
        clear hB1
        go_wp2_with fail
        refine (HM.out _ HB1.out).mono ?_
        rintro e w2 ⟨rfl, hB2⟩
        have HB2 := Lib.hid (below_two HB0.out (below_two HB1.out hB2))
        clear hB2
        go_wp2_with fail
        go_ret
        exact ⟨by rw [HR2.out]; rfl, HB2.out⟩
    · have d3 : (k == 3) = false := beq_eq_false_iff_ne.2 k3
      have HR2 := Lib.hid (show rightP c L = false by rw [HR.out, decide_eq_false (by omega)]; rfl)
      clear HR k1 k3 RM HM
      go_enter Tryd.func20, Tryd.ntmps20
      go_wp2_with fail
      go_ret
      exact ⟨by rw [HR2.out]; rfl, by rw [← HW.out]; exact HB0.out⟩

set_option maxHeartbeats 1000000 in
theorem step1_any {X : Nat → Prop} {u : World} {b6 b10 n : Nat} {v : Value} {K : Nat → Int → Bool} {a : Nat} (hK : Keeps X u v n K) (c6 : u.cell? ⟨b6, 0, none⟩ = some v) (c10 : u.cell? ⟨b10, 0, none⟩ = some (.int .i64 a)) (ha : a < n) (x : Int) (hx : -1048576 ≤ x ∧ x ≤ 1048576) :
    Calls Tryd.prog 25 #[.int .i64 x, .pointer (some ⟨b6, 0, none⟩), .pointer (some ⟨b10, 0, none⟩)] u fun e w' => e = .returned (.bool (K a x)) ∧ Below u.heap.size u w' := by
  obtain ⟨g, env, rfl, hE, hf⟩ := hK
  have C := Lib.hid (hf u a x (.refl _ _) ha hx)
  have HE := Lib.hid hE
  generalize K a x = R at C ⊢
  clear hf hE ha hx
  go_enter Tryd.func25, Tryd.ntmps25
  go_wp2_with fail
  simp only [HE.out _ _]
  refine C.out.mono ?_
  rintro e w2 ⟨rfl, hB2⟩
  have HB2 := Lib.hid hB2
  clear hB2
  go_wp2_with fail
  go_ret
  exact ⟨rfl, HB2.out⟩
end Go.Proofs.YtakooocmnapjmaaDoor.St
