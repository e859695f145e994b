/-
  What awake asks of a step of different values: plain data.
  What Step of package differ answers.
  What awake of the laws of layer 15 answers: true.
-/
import Derived.Test.YtiaibggbbkhjlaaDoorZYCA
import Derived.Test.YtiaibggbbkhjlaaDoorZYBN
import Derived.Test.YtiaibggbbkhjlaaDoorZYCI
import Derived.Test.YtiaibggbbkhjlaaDoorZYCB
import Derived.Test.YtiaibggbbkhjlaaDoorZYCD
import Derived.Test.YtiaibggbbkhjlaaDoorZYBJ
namespace Go.Proofs.YtiaibggbbkhjlaaDoor.Ge.Di
open Go.RowKit St
set_option maxRecDepth 100000

open Classical in
theorem stepTo_keeps {c : PCon} {L : List (List Int × Nat)} (h : rightK [5] c L = true) : ∀ {j : Nat}, j ≤ c.vars.length → stepTo L c.vars (diffK c (domsOf L c.vars)) j = stepTo L c.vars (fun a => keepsB (domsOf L c.vars) (soleZ ((domsOf L c.vars).getD a ([], 0)))) j
  | 0, _ => rfl
  | j + 1, hj => by
    obtain ⟨_, hr, hm⟩ := rightK_parts h
    have hv := (vars_to hr j (by omega)).1
    have hk := keep_diff (c := c) (D := domsOf L c.vars) (doms_length _ _) (a := j) (by omega) (by rw [doms_get (by omega)]; exact hm _ (by omega))
    rw [stepTo_succ, stepTo_succ, stepTo_keeps h (by omega)]
    have e : (domsOf L c.vars).getD j ([], 0) = L.getD (c.vars.getD j 0).toNat ([], 0) := doms_get (by omega)
    simp only [e] at hk ⊢
    rw [hk]
def conP : PCon := ⟨5, [0, 1, 2], [], 0, 0, []⟩
def domA : List Int × Nat := ([1, 2, 3], 7)
def domB : List Int × Nat := ([2], 1)
def domC : List Int × Nat := ([2, 3], 3)
theorem right_P : rightC conP 3 = true := by
  rw [right_on (Gr.varsTo_iff.2 ⟨by decide, by decide⟩)]
  decide
theorem right_P2 : rightC conP 2 = false := right_bad fun h => by
  have := (Gr.varsTo_iff.1 h).1 2 (by decide)
  omega
theorem step_P : stepG conP [domA, domB, domC] = ([([1, 2, 3], 5), ([2], 1), ([2, 3], 2)], 0) := by
  have h : rightK [5] conP [domA, domB, domC] = true := by
    unfold rightK
    rw [show ((([domA, domB, domC] : List (List Int × Nat)).length : Nat) : Int) = 3 from rfl, right_P]
    decide
  show stepK [5] diffK conP [domA, domB, domC] = _
  rw [stepK_on h, stepTo_keeps h (Nat.le_refl _)]
  decide +kernel
theorem step_P2 : stepG conP [domC, domC, domC] = ([([2, 3], 0), ([2, 3], 0), ([2, 3], 0)], 0) := by
  have h : rightK [5] conP [domC, domC, domC] = true := by
    unfold rightK
    rw [show ((([domC, domC, domC] : List (List Int × Nat)).length : Nat) : Int) = 3 from rfl, right_P]
    decide
  show stepK [5] diffK conP [domC, domC, domC] = _
  rw [stepK_on h, stepTo_keeps h (Nat.le_refl _)]
  decide +kernel
theorem step_P3 : stepG conP [domA, domB] = ([], 1) := by
  have h : rightK [5] conP [domA, domB] = false := by
    unfold rightK
    rw [show ((([domA, domB] : List (List Int × Nat)).length : Nat) : Int) = 2 from rfl, right_P2]
    decide
  exact stepK_off h
theorem lit_doms3 {w : World} {b : Nat} {t : TypeId} {v0 v1 v2 : Value} {d0 d1 d2 : List Int × Nat} (h : w.heap[b]? = some (.cells #[v0, .int .u64 d0.2, v1, .int .u64 d1.2, v2, .int .u64 d2.2] t)) (r0 : rDom w [v0, .int .u64 d0.2] d0) (r1 : rDom w [v1, .int .u64 d1.2] d1) (r2 : rDom w [v2, .int .u64 d2.2] d2) : Slc rDom 2 w (.slice (some ⟨b, 0, none⟩) 3 3) [d0, d1, d2] :=
  ⟨_, b, 0, 3, 3, rfl, ⟨fun h => (by cases h), Nat.le_refl _⟩, rfl, fun _ => rfl, fun k a hk => by
    match k, hk with
    | 0, hk =>
      obtain rfl : d0 = a := by simpa using hk
      refine ⟨_, rfl, fun j hj => ?_, r0⟩
      rw [blk_in h]
      match j, hj with
      | 0, _ => rfl
      | 1, _ => rfl
    | 1, hk =>
      obtain rfl : d1 = a := by simpa using hk
      refine ⟨_, rfl, fun j hj => ?_, r1⟩
      rw [blk_in h]
      match j, hj with
      | 0, _ => rfl
      | 1, _ => rfl
    | 2, hk =>
      obtain rfl : d2 = a := by simpa using hk
      refine ⟨_, rfl, fun j hj => ?_, r2⟩
      rw [blk_in h]
      match j, hj with
      | 0, _ => rfl
      | 1, _ => rfl
    | k + 3, hk => simp at hk⟩
theorem three_at {w : World} {x : Value} {d0 d1 d2 : List Int × Nat} (h : Slc rDom 2 w x [d0, d1, d2]) : ∃ b off c, x = .slice (some ⟨b, off, none⟩) 3 c ∧ w.cell? ⟨b, off + 1, none⟩ = some (.int .u64 d0.2) ∧ w.cell? ⟨b, off + 2 + 1, none⟩ = some (.int .u64 d1.2) ∧ w.cell? ⟨b, off + 4 + 1, none⟩ = some (.int .u64 d2.2) := by
  obtain ⟨p, b, off, c, len, rfl, _, hs⟩ := h
  have hl := hs.long
  obtain rfl : len = 3 := by simpa using hl
  obtain rfl := hs.at_ (by omega)
  obtain ⟨y0, u0, e0, ⟨_, c0⟩, _⟩ := dom_at2 hs (k := 0) (by omega)
  obtain ⟨y1, u1, e1, ⟨_, c1⟩, _⟩ := dom_at2 hs (k := 1) (by omega)
  obtain ⟨y2, u2, e2, ⟨_, c2⟩, _⟩ := dom_at2 hs (k := 2) (by omega)
  obtain rfl : d0 = y0 := by simpa using e0
  obtain rfl : d1 = y1 := by simpa using e1
  obtain rfl : d2 = y2 := by simpa using e2
  refine ⟨b, off, c, rfl, ?_, ?_, ?_⟩
  · rw [Nat.zero_mul, Nat.add_zero] at c0; exact c0
  · rw [Nat.one_mul] at c1; exact c1
  · exact c2
end Go.Proofs.YtiaibggbbkhjlaaDoor.Ge.Di
namespace Go.Proofs.YtiaibggbbkhjlaaDoor.Ge.Di
open Go.RowKit Go.MapKept St
set_option maxRecDepth 100000

theorem steps_fine {L : List (List Int × Nat)} {vars : List Int} {K : Nat → Int → Bool} (h : ∀ d ∈ L, d.1.length ≤ 1000 ∧ d.2 < 18446744073709551616) : ∀ j, ∀ d ∈ stepTo L vars K j, d.1.length ≤ 1000 ∧ d.2 < 18446744073709551616
  | 0 => h
  | j + 1 => fun d hd => by
    rw [stepTo_succ] at hd
    rcases List.mem_or_eq_of_mem_set hd with hd | rfl
    · exact steps_fine h j d hd
    · refine ⟨?_, Dm.keep_lt _ _ _⟩
      by_cases hi : (vars.getD j 0).toNat < L.length
      · exact (h _ (doms_in hi)).1
      · show (L.getD (vars.getD j 0).toNat ([], 0)).1.length ≤ 1000
        rw [List.getD_eq_getElem?_getD, List.getElem?_eq_none (by omega)]
        simp
theorem CntAt.set {w : World} {b : Nat} {ks : List Int} {f : Int → Int} (h : CntAt w b ks f) {g off : Nat} (hne : b ≠ g) (v : Value) : CntAt (w.setCell ⟨g, off, none⟩ v) b ks f := h.of_block (Below.heap_setCell w ⟨g, off, none⟩ v b hne)

set_option maxHeartbeats 8000000 in
theorem step_any {w : World} {v1 v2 v3 v : Value} {c : PCon} {L : List (List Int × Nat)} (hT : B.Tab w) (h0 : 0 < w.heap.size) (hc : rCon w [.int .i64 c.kind, v1, v2, .int .i64 c.rel, .int .i64 c.const, v3] c) (hs : Short 1000 c) (h : Slc rDom 2 w v L) (hn : L.length ≤ 1000) (hm : ∀ d ∈ L, d.1.length ≤ 1000) :
    Calls Tryd.prog 9 #[.agg #[.int .i64 c.kind, v1, v2, .int .i64 c.rel, .int .i64 c.const, v3], v] w fun e w' => ∃ x, e = .returned (.tuple #[x, .int .i64 (stepG c L).2]) ∧ Slc rDom 2 w' x (stepG c L).1 ∧ Below w.heap.size w w' := by
  have hsl := h
  obtain ⟨p, b, off, cc, len, rfl, hcap, hss⟩ := h
  obtain ⟨W0, hW0⟩ : ∃ W0, W0 = w.alloc (.cells #[.int .i64 c.kind, v1, v2, .int .i64 c.rel, .int .i64 c.const, v3] 24) := ⟨_, rfl⟩
  have hb0 : Below w.heap.size w W0 := by rw [hW0]; exact new_below _ _
  have hc0 : ∀ j u, [Value.int .i64 c.kind, v1, v2, .int .i64 c.rel, .int .i64 c.const, v3][j]? = some u → W0.cell? ⟨w.heap.size, j, none⟩ = some u := fun j u e => by rw [hW0]; exact six_at _ _ _ _ _ _ _ _ j u e
  have HW := Lib.hid hW0
  have HB0 := Lib.hid hb0
  have RM := Lib.hid (right_any (rCon_stays _ _ _ _ hb0 hc) hs (hsl.below rDom_stays hb0) hn hm)
  have HC := Lib.hid (fun (z : World) (hz : Below W0.heap.size W0 z) => And.intro (cell_below hz (hc0 0 _ rfl)) (And.intro (cell_below hz (hc0 1 _ rfl)) (And.intro (cell_below hz (hc0 2 _ rfl)) (And.intro (cell_below hz (hc0 3 _ rfl)) (And.intro (cell_below hz (hc0 4 _ rfl)) (cell_below hz (hc0 5 _ rfl)))))))
  obtain ⟨_, _, _, e, ⟨f1, f2, f3⟩, ⟨p1, b1, o1, c1, l1, e1, hcap1, h1⟩, ⟨p2, b2, o2, c2, l2, e2, _, h2⟩, ⟨p3, b3, o3, c3, l3, e3, hcap3, h3⟩⟩ := hc
  simp only [List.cons.injEq, true_and, and_true] at e
  obtain ⟨rfl, rfl, rfl⟩ := e
  subst e1 e2 e3
  obtain ⟨q0, q1, q2, q3, q4, q5⟩ := HC.out W0 (Below.refl _ _)
  have HPon := Lib.hid (fun (q : rightK [5] c L = true) => stepK_on (Kp := diffK) q)
  have HPoff := Lib.hid (fun (q : rightK [5] c L = false) => stepK_off (Kp := diffK) q)
  obtain ⟨RR, hRR⟩ : ∃ R, R = rightK [5] c L := ⟨_, rfl⟩
  rw [← hRR] at RM HPon HPoff
  have HRR := Lib.hid hRR
  clear hW0 hc0 hRR
  go_enter Tryd.func9, Tryd.ntmps9
  go_wp2_with fail
  rw [← HW.out]
  refine RM.out.mono ?_
  rintro e w1 ⟨rfl, hB1⟩
  have HB1 := Lib.hid hB1
  clear q0 q1 q2 q3 q4 q5
  obtain ⟨q0, q1, q2, q3, q4, q5⟩ := HC.out _ hB1
  clear hB1
  cases RR
  · have HP2 := Lib.hid (show stepG c L = ([], 1) from HPoff.out rfl)
    clear hb0 hT h0 hs hn hm hsl hss h1 h2
    go_wp2_with fail
    go_ret2
    exact ⟨.slice none 0 0, by rw [HP2.out]; rfl, by rw [HP2.out]; exact ⟨none, 0, 0, 0, 0, rfl, ⟨fun _ => rfl, Nat.le_refl _⟩, rfl, fun h => by omega, fun k a h => by simp at h⟩, below_two HB0.out HB1.out⟩
  · have HP2 := Lib.hid (show stepG c L = (stepTo L c.vars (diffK c (domsOf L c.vars)) c.vars.length, 0) from HPon.out rfl)
    obtain ⟨hkd, hrc, hmy⟩ := rightK_parts HRR.out.symm
    have hvt := vars_to hrc
    obtain ⟨hl2, hl8⟩ := right_diff hrc (by simpa using hkd)
    have hl1 : l1 = c.vars.length := h1.long
    rw [← hl1] at hl2 hl8
    have hvin : ∀ k, k < c.vars.length → 0 ≤ c.vars.getD k 0 ∧ c.vars.getD k 0 < (L.length : Int) := fun k hk => (hvt k hk).1
    have hlt1 : w.heap.size < w1.heap.size := Dm.cell_lt q1
    have hmk := make_doms len (by have := hss.long; omega)
    have HLN := Lib.hid hss.long
    have hle : len ≤ 1000 := by have := hss.long; omega
    have HNV := Lib.hid (nums_of h1)
    have HVI := Lib.hid (show ∀ k, k < l1 → 0 ≤ c.vars.getD k 0 ∧ c.vars.getD k 0 < (len : Int) by rw [hss.long, hl1]; exact hvin)
    have HSS := Lib.hid hss
    have HMY := Lib.hid hmy
    have HMM := Lib.hid hm
    have hp := hss.at_
    have HVT := Lib.hid hvt
    have HL1 := Lib.hid hl1
    have HL2 := Lib.hid (And.intro hl2 hl8)
    have HTB := Lib.hid (And.intro hT h0)
    clear hkd hmy hrc hvt hvin hb0 hT h0 hs hn hm hsl hss h1 h2 f1 f2 f3 hcap hcap1 HPon HPoff hl2 hl8 hl1 h3 hcap3
    obtain ⟨wz, rfl⟩ : ∃ z, z = w1 := ⟨_, rfl⟩
    go_wp2_with fail
    go_loopw [24] (fun i wr => ∃ (k : Nat) (F : Nat → Value × Value), k ≤ len ∧ i = .int .i64 k ∧ Row2 len 47 wr wz.heap.size F ∧ (∀ j, j < k → Dm.OwnsI wr 0 (F j).1 (L.getD j ([], 0)).1 ∧ (F j).2 = .int .u64 ((L.getD j ([], 0)).2 : Nat)) ∧ (∀ j, k ≤ j → F j = (.slice none 0 0, .int .u64 0)) ∧ Below wz.heap.size wz wr) (fun i _ => len - (intOf i).toNat)
    case atStart => exact ⟨0, _, by omega, rfl, row2_made len _ _ _ wz, fun j hj => by omega, fun j _ => rfl, new_below _ _⟩
    case round =>
      rename_i wr
      obtain ⟨k, F, hk, rfl, hrow, hown, hrest, hB⟩ := hrel
      have HR := Lib.hid hrow
      have HO := Lib.hid hown
      have HRS := Lib.hid hrest
      have HB := Lib.hid hB
      clear q0 q1 q2 q3 q4 q5
      by_cases hlt : k < len
      · obtain rfl := hp (by omega)
        have hBW := below_two HB0.out (below_two HB1.out hB)
        obtain ⟨p9, l9, c9, a0, a1, r1, r2⟩ := dom_look (HSS.out.below rDom_stays hBW) hlt
        obtain ⟨x, eD⟩ : ∃ x, x = L.getD k ([], 0) := ⟨_, rfl⟩
        rw [← eD] at a1 r1 r2
        have hxl : x.1.length ≤ 100000 := by rw [eD]; exact Nat.le_trans (HMM.out _ (doms_in (by rw [← HLN.out]; exact hlt))) (by decide)
        obtain ⟨y, ey⟩ : ∃ y, y = x.2 := ⟨_, rfl⟩
        rw [← ey] at a1
        obtain ⟨W9, hW9⟩ : ∃ z, z = wr.alloc (.cells #[.slice p9 l9 c9, .int .u64 y] 47) := ⟨_, rfl⟩
        have hb9 : Below wr.heap.size wr W9 := by rw [hW9]; exact new_below _ _
        have hO9 : Own2 W9 wr.heap.size 47 (.slice p9 l9 c9) (.int .u64 y) := by rw [hW9]; exact Own2.new _ _ _ _
        have CL := Lib.hid (Dm.clone_any (w := W9.drew) (Dm.reads_below (Dm.reads_below r1 hb9) (Below.refl _ _).drew) hxl)
        have HO9 := Lib.hid hO9
        have HB9 := Lib.hid hb9
        have HX := Lib.hid (And.intro eD ey)
        have HW9 := Lib.hid hW9
        have g0 := hO9.cell0
        have g1 := hO9.cell1
        have gl := hO9.lt
        have d5 : (k : Int) < (len : Int) := by omega
        clear hrow hown hrest hB r1 r2 hxl eD ey hb9 hO9 hW9 hBW
        go_upto_region 7 with fail
        rw [← HW9.out]
        go_region_law (first
          | (go_simp; go_at_call 19; refine CL.out.mono ?_; rintro e w5 ⟨v5, rfl, ho5, hB5⟩; obtain ⟨p5, _, c5, rfl, _, _⟩ := Dm.ints_shape ho5; have hB5 : Below W9.heap.size W9 w5 := below_two (Below.refl _ _).drew hB5; have o9 := HO9.out.below hB5; have g0 := o9.cell0; have g1 := o9.cell1; have hR5 := HR.out.below (below_two HB9.out hB5); have z0 := hR5.cell0 hlt; have z1 := hR5.cell1 hlt; have f0 := hR5.frozen (k * 2); have f1 := hR5.frozen (k * 2 + 1)))
        all_goals go_wp2_with fail
        all_goals
          go_roundw
          case rel =>
            have hb := below_two HB9.out hB5
            refine ⟨k + 1, fun j => if j = k then (.slice p5 x.1.length c5, .int .u64 (y : Int)) else F j, by omega, by go_num, hR5.set hlt _ _ (if_pos rfl) (fun j hj => if_neg hj), fun j hj => ?_, fun j hj => ?_, ((HB.out.trans (hb.mono HB.out.size)).setCell (Nat.le_refl _) _).setCell (Nat.le_refl _) _⟩
            · by_cases e : j = k
              · subst e
                simp only [if_true]
                rw [← HX.out.1, ← HX.out.2]
                exact ⟨own_set2 hR5 (by decide) (owns_low ho5 (Nat.zero_le _)), rfl⟩
              · simp only [if_neg e]
                have o := HO.out j (by omega)
                exact ⟨own_set2 hR5 (by decide) (owns_below o.1 hb), o.2⟩
            · simp only [if_neg (show ¬ j = k by omega)]
              exact HRS.out j (by omega)
          case measure => simp [intOf]; omega
      · obtain rfl : k = len := by omega
        have d6 : ¬ ((k : Int) < (k : Int)) := by omega
        obtain ⟨q0, q1, q2, q3, q4, q5⟩ := HC.out _ (HB1.out.trans (HB.out.mono HB1.out.size))
        have HBW := Lib.hid (show Below w.heap.size w wr from below_two HB0.out (HB1.out.trans (HB.out.mono HB1.out.size)))
        have hmyAt : ∀ i, i < k → Dm.mayL (L.getD i ([], 0)).1 (L.getD i ([], 0)).2 = true := fun i hi => HMY.out i (by rw [← HLN.out]; exact hi)
        obtain ⟨wo, rfl⟩ : ∃ z, z = wr := ⟨_, rfl⟩
        have HLA := Lib.hid (show LeftAt wo wz.heap.size k L from ⟨HLN.out.symm, F, HR.out, HO.out⟩)
        have HGW := Lib.hid (show W0.heap.size ≤ wz.heap.size from HB1.out.size)
        have HGL := Lib.hid (show wz.heap.size < wo.heap.size from HR.out.lt)
        have HBV := Lib.hid (show Below W0.heap.size W0 wo from HB1.out.trans (HB.out.mono HB1.out.size))
        have TB := Lib.hid (fun (u : World) (hu : Below w.heap.size w u) => And.intro (B.Tab.below HTB.out.1 HTB.out.2 hu) (Nat.lt_of_lt_of_le HTB.out.2 hu.size))
        have DM := Lib.hid (domains_any (cv := c1) (c := cc) (nums_below HNV.out HBW.out) (HSS.out.below rDom_stays HBW.out) (by have := HL2.out.2; omega) (fun i hi => by have h := HVI.out i (by have := HL1.out; omega); rw [← HLN.out]; exact h))
        obtain ⟨D, hD⟩ : ∃ D, D = domsOf L c.vars := ⟨_, rfl⟩
        have hDl : D.length = l1 := by rw [hD, doms_length, HL1.out]
        have hDg : ∀ i, i < l1 → D.getD i ([], 0) = L.getD (c.vars.getD i 0).toNat ([], 0) := fun i hi => by rw [hD]; exact doms_get (by have := HL1.out; omega)
        have hDm : ∀ i, i < l1 → Dm.mayL (D.getD i ([], 0)).1 (D.getD i ([], 0)).2 = true := fun i hi => by
          rw [hDg i hi]
          have h := HVI.out i hi
          exact hmyAt _ (by omega)
        rw [← hD] at DM
        have HDL := Lib.hid hDl
        have HDG := Lib.hid hDg
        have HDM := Lib.hid hDm
        have HD := Lib.hid hD
        clear hrow hown hrest hB HR HO HRS hmyAt hD hDl hDg hDm
        go_wp2_with fail
        refine DM.out.mono ?_
        rintro e w3 ⟨rfl, hS3, hB3⟩
        have CT := Lib.hid (counted_any (cc := l1) (TB.out w3 (below_two HBW.out hB3)).1 (TB.out w3 (below_two HBW.out hB3)).2 hS3 (by have := HL2.out.2; omega) HDM.out)
        have HS3 := Lib.hid hS3
        have HB3 := Lib.hid hB3
        clear hS3 hB3 q0 q1 q2 q3 q4 q5
        go_wp2_with fail
        refine CT.out.mono ?_
        rintro e w4 ⟨m, rfl, hM4, hmge, hB4⟩
        obtain ⟨W5, hW5⟩ : ∃ z, z = w4.alloc (.cells #[.map (some m)] 50) := ⟨_, rfl⟩
        have hb5 : Below w4.heap.size w4 W5 := by rw [hW5]; exact new_below _ _
        have HM5 := Lib.hid (hM4.below hb5)
        have HO5 := Lib.hid (show Own1 W5 w4.heap.size 50 (.map (some m)) by rw [hW5]; exact Own1.new _ _ _)
        have HB4 := Lib.hid hB4
        have HB35 := Lib.hid (below_two hB4 hb5)
        have HB5 := Lib.hid (below_two HB3.out HB35.out)
        have HW5 := Lib.hid hW5
        have HLB := Lib.hid (show wz.heap.size < m ∧ wz.heap.size < w4.heap.size by have h1 := HGL.out; have h2 := HB3.out.size; have h3 := HB4.out.size; omega)
        have HS5 := Lib.hid (HS3.out.below rDom_stays HB35.out)
        clear hM4 hmge hB4 hb5 hW5
        go_upto_region 11 with fail
        rw [← HW5.out]
        obtain ⟨E, hE⟩ : ∃ E, E = (decide ((D.length : Int) ≤ ((unD D D.length).length : Nat)) && !(D.any fun d => decide ((St.leftOf d).length = 0))) := ⟨_, rfl⟩
        have HE := Lib.hid hE
        clear hE
        obtain ⟨mb, hmb⟩ : ∃ z, z = w4.heap.size := ⟨_, rfl⟩
        rw [← hmb] at HO5 HLB ⊢
        clear hmb
        go_cut [11] (fun p wx => ∃ eb, p = .pointer (some ⟨eb, 0, none⟩) ∧ Own1 wx eb 4 (.bool E) ∧ W5.heap.size ≤ eb ∧ Below W5.heap.size W5 wx)
        case first =>
          have hln := fun ty => HM5.out.len ty
          have c5 := HO5.out.cell
          have EM := Lib.hid (hasM_any 23 (enters_of Tryd.func23 (by kernel_rfl) rfl) #[] (fun d => decide ((St.leftOf d).length = 0)) _ _ _ l1 _ D W5 HS5.out (by have := HL2.out.2; omega) (fun u x v1 hu hx hrd => empty_any hrd (by
            obtain ⟨i, hi, rfl⟩ := List.getElem_of_mem hx
            have h := HDM.out i (by rw [← HDL.out]; exact hi)
            rw [List.getD_eq_getElem?_getD, List.getElem?_eq_getElem hi] at h
            exact Nat.le_trans (Dm.may_iff.1 h).1 (by decide))))
          obtain ⟨q, hq⟩ : ∃ q, q = (unD D l1).length := ⟨_, rfl⟩
          obtain ⟨A, hA⟩ : ∃ A, A = D.any fun d => decide ((St.leftOf d).length = 0) := ⟨_, rfl⟩
          have HEA := Lib.hid (show E = (decide ((l1 : Int) ≤ (q : Int)) && !A) by rw [HE.out, HDL.out, hq, hA])
          rw [← hA] at EM
          rw [← hq] at hln
          clear hq hA
          by_cases hge : (l1 : Int) ≤ (q : Int)
          · have HEA2 := Lib.hid (show E = !A by rw [HEA.out, decide_eq_true hge]; rfl)
            go_wp2_with fail
            refine EM.out.mono ?_
            rintro e w6 ⟨rfl, hB6⟩
            have HB6 := Lib.hid hB6
            clear hB6
            go_wp2_with fail
            go_meet
            exact ⟨_, rfl, by rw [HEA2.out]; exact Own1.new _ _ _, HB6.out.size, below_two HB6.out (new_below _ _)⟩
          · have HEA2 := Lib.hid (show E = false by rw [HEA.out, decide_eq_false hge]; rfl)
            go_wp2_with fail
            go_meet
            exact ⟨_, rfl, by rw [HEA2.out]; exact Own1.new _ _ _, Nat.le_refl _, new_below _ _⟩
        case rest =>
          obtain ⟨eb, rfl, hOe, heb, hB6⟩ := hcut
          obtain ⟨w6, rfl⟩ : ∃ z, z = wc := ⟨_, rfl⟩
          have HB06 := Lib.hid (show Below W0.heap.size W0 w6 from HBV.out.trans ((below_two HB5.out hB6).mono HBV.out.size))
          have HNE := Lib.hid (show eb ≠ wz.heap.size ∧ mb ≠ wz.heap.size ∧ m ≠ wz.heap.size by have h1 := HLB.out; have h2 := HGL.out; have h3 := HB5.out.size; omega)
          have HOE := Lib.hid hOe
          have HOM := Lib.hid (HO5.out.below hB6)
          have HM6 := Lib.hid (HM5.out.below hB6)
          have HLA6 := Lib.hid (HLA.out.below (below_two HB5.out hB6))
          obtain ⟨q0, q1, q2, q3, q4, q5⟩ := HC.out _ HB06.out
          clear hOe heb hB6 DM CT HB HBV HBW HLA HB3 HB4 HB35 HB5 HM5 HO5 HS5 HS3 HGL HLB HW5
          go_wp2_with fail
          go_loopw [58] (fun i wl => ∃ j : Nat, j ≤ l1 ∧ i = .int .i64 j ∧ Own1 wl eb 4 (.bool E) ∧ Own1 wl mb 50 (.map (some m)) ∧ CntAt wl m (unD D l1) (cntD D l1) ∧ LeftAt wl wz.heap.size k (stepTo L c.vars (diffK c D) j) ∧ Below W0.heap.size W0 wl) (fun i _ => l1 - (intOf i).toNat)
          case atStart => exact ⟨0, by omega, rfl, HOE.out, HOM.out, HM6.out, HLA6.out, HB06.out⟩
          case round =>
            obtain ⟨wl, rfl⟩ : ∃ z, z = wr := ⟨_, rfl⟩
            obtain ⟨j, hj, rfl, hOe, hOm, hMl, hLl, hBl⟩ := hrel
            clear HOE HOM HM6 HLA6 HB06 q0 q1 q2 q3 q4 q5
            have HOE := Lib.hid hOe
            have HOM := Lib.hid hOm
            have HML := Lib.hid hMl
            have HLL := Lib.hid hLl
            have HBL := Lib.hid hBl
            have HBX := Lib.hid (below_two HB0.out hBl)
            clear hOe hOm hMl hLl hBl
            by_cases hjl : j < l1
            · obtain rfl := HNV.out.at_ (by omega)
              have kx := cell_below HBX.out (HNV.out.cell j hjl)
              have vx := HVI.out j hjl
              have hoff : (stepTo L c.vars (diffK c D) j).getD (c.vars.getD j 0).toNat ([], 0) = L.getD (c.vars.getD j 0).toNat ([], 0) :=
                stepTo_off (fun a ha => vars_ne HVT.out (a := a) (b := j) (by have := HL1.out; omega) (by have := HL1.out; omega) (by omega))
              have hsu := stepTo_succ L c.vars (diffK c D) j
              have hDj := HDG.out j hjl
              have hkd := keep_diff (c := c) (D := D) (by rw [HDL.out, HL1.out]) (a := j) (by have := HL1.out; omega) (HDM.out j hjl)
              have my := HDM.out j hjl
              rw [hDj] at hkd my
              obtain ⟨x, hx⟩ : ∃ x, x = c.vars.getD j 0 := ⟨_, rfl⟩
              rw [← hx] at kx vx hoff hsu hkd my
              obtain ⟨x, rfl⟩ := Int.eq_ofNat_of_zero_le vx.1
              simp only [Int.toNat_natCast] at hoff hsu hkd my
              have hxl : x < k := by omega
              obtain rfl := hp (by omega)
              obtain ⟨d, v9, ed, ⟨a0, a1⟩, hx9⟩ := dom_at2 HSS.out hxl
              have hd : L.getD x ([], 0) = d := by rw [List.getD_eq_getElem?_getD, ed]; rfl
              rw [hd] at hoff hsu hkd my
              obtain ⟨p9, l9, c9, rfl⟩ := rDom_shape hx9
              obtain ⟨r1, r2, _⟩ := rDom_parts hx9
              have h64 : d.1.length ≤ 64 := (Dm.may_iff.1 my).1
              have SG := Lib.hid (sole_any (rDom_stays _ _ _ _ HBX.out hx9) (Nat.le_trans h64 (by decide)))
              obtain ⟨one, hone⟩ : ∃ z, z = soleZ d := ⟨_, rfl⟩
              rw [← hone] at SG hkd
              have KX := Lib.hid (fun (u : World) (hu : Below w.heap.size w u) (ob : Nat) (he : Own1 u eb 4 (.bool E)) (hm : Own1 u mb 50 (.map (some m))) (ho : Own1 u ob 3 (.int .i64 one)) (hM : CntAt u m (unD D l1) (cntD D l1)) =>
                (kept_any (Dm.reads_below (Dm.reads_of_readsN r1) hu) h64 d.2 r2 26 (enters_of Tryd.func26 (by kernel_rfl) rfl) #[.pointer (some ⟨eb, 0, none⟩), .pointer (some ⟨mb, 0, none⟩), .pointer (some ⟨ob, 0, none⟩)] (keepsB D one)
                  fun z hz y hy => by
                    have h := ask_any (he.below hz).cell (hm.below hz).cell (ho.below hz).cell (hM.below hz) (may_small my y hy)
                    have e : keepsB D one y = (E && decide (cntD D l1 y = one)) := by rw [HE.out]; unfold keepsB; rw [HDL.out]
                    rw [e]
                    exact h))
              obtain ⟨Z, hZ⟩ : ∃ Z, Z = Dm.keepN d.1 d.2 (keepsB D one) := ⟨_, rfl⟩
              rw [← hkd, ← hZ] at hsu
              rw [← hZ] at KX
              obtain ⟨y, hy⟩ : ∃ y, y = d.2 := ⟨_, rfl⟩
              rw [← hy] at a1 SG KX
              have HEC := Lib.hid (And.intro a0 a1)
              replace a0 := cell_below HBX.out a0
              replace a1 := cell_below HBX.out a1
              have HSU := Lib.hid (And.intro hoff hsu)
              have dx : (x : Int) < (k : Int) := by omega
              have dj : (j : Int) < (l1 : Int) := by omega
              have hl8 := HL2.out.2
              clear vx hoff hsu hDj hkd my hx ed hx9 hd r1 r2 h64 hone hZ hy
              go_wp2_with fail
              refine SG.out.mono ?_
              rintro e w7 ⟨rfl, hB7⟩
              obtain ⟨W8, hW8⟩ : ∃ z, z = w7.alloc (.cells #[.int .i64 one] 3) := ⟨_, rfl⟩
              have hb8 : Below w7.heap.size w7 W8 := by rw [hW8]; exact new_below _ _
              have hb : Below wl.heap.size wl W8 := below_two hB7 hb8
              have HO8 := Lib.hid (show Own1 W8 w7.heap.size 3 (.int .i64 one) by rw [hW8]; exact Own1.new _ _ _)
              have HW8 := Lib.hid hW8
              have HB8 := Lib.hid hb
              clear hB7 hb8 hW8 hb a0 a1 kx
              go_upto_region 16 with fail
              rw [← HW8.out]
              have a0 := cell_below (below_two HBX.out HB8.out) HEC.out.1
              have a1 := cell_below (below_two HBX.out HB8.out) HEC.out.2
              go_wp2_with fail
              refine (KX.out W8 (below_two HBX.out HB8.out) _ (HOE.out.below HB8.out) (HOM.out.below HB8.out) HO8.out (HML.out.below HB8.out)).mono ?_
              rintro e w9 ⟨rfl, hB9⟩
              have HB9 := Lib.hid (below_two HB8.out hB9)
              have hL9 := HLL.out.below HB9.out
              obtain ⟨⟨sp, sl, sc, s0⟩, s1, s2⟩ := hL9.cells hxl
              have HL9 := Lib.hid hL9
              clear hB9 hL9 a0 a1
              go_wp2_with fail
              go_roundw
              case rel =>
                refine ⟨j + 1, by omega, by go_num, box_keeps (HOE.out.below HB9.out) HNE.out.1, box_keeps (HOM.out.below HB9.out) HNE.out.2.1, (HML.out.below HB9.out).set HNE.out.2.2 _, ?_, (HBL.out.trans (HB9.out.mono HBL.out.size)).setCell HGW.out _⟩
                have h := HL9.out.set hxl Z
                rw [HSU.out.1] at h
                rw [HSU.out.2]
                exact h
              case measure => simp [intOf]; omega
            · obtain rfl : j = l1 := by omega
              have dj : ¬ ((j : Int) < (j : Int)) := by omega
              go_wp2_with fail
              go_ret2
              refine ⟨_, by rw [HP2.out]; rfl, ?_, HBX.out⟩
              rw [HP2.out]
              show Slc rDom 2 _ _ (stepTo L c.vars (diffK c (domsOf L c.vars)) c.vars.length)
              rw [← HL1.out, ← HD.out]
              exact HLL.out.slc (steps_fine (fun d hd => by
                obtain ⟨i, hi, rfl⟩ := List.getElem_of_mem hd
                refine ⟨HMM.out _ hd, ?_⟩
                have := doms_lt HSS.out i
                rwa [List.getD_eq_getElem?_getD, List.getElem?_eq_getElem hi] at this) _)
end Go.Proofs.YtiaibggbbkhjlaaDoor.Ge.Di
namespace Go.Proofs.YtiaibggbbkhjlaaDoor.Ge.Di
open Go.RowKit St
set_option maxRecDepth 100000

set_option maxHeartbeats 8000000 in
theorem awake_any {w : World} (hT : B.Tab w) (h0 : 0 < w.heap.size) : Calls Tryd.prog 7 #[] w fun e w' => e = .returned (.bool true) ∧ Below w.heap.size w w' := by
  have SA := Lib.hid (fun (u : World) (hb : Below w.heap.size w u) (v1 v2 v3 v : Value) (c : PCon) (L : List (List Int × Nat)) (hc : rCon u [.int .i64 c.kind, v1, v2, .int .i64 c.rel, .int .i64 c.const, v3] c) (hs : Short 1000 c) (h : Slc rDom 2 u v L) (hn : L.length ≤ 1000) (hm : ∀ d ∈ L, d.1.length ≤ 1000) => step_any (B.Tab.below hT h0 hb) (Nat.lt_of_lt_of_le h0 hb.size) hc hs h hn hm)
  obtain ⟨W1, hW1⟩ : ∃ z, z = w.alloc (.cells #[.int .i64 1, .int .i64 2, .int .i64 3] 3) := ⟨_, rfl⟩
  obtain ⟨W2, hW2⟩ : ∃ z, z = W1.alloc (.cells #[.int .i64 2] 3) := ⟨_, rfl⟩
  obtain ⟨W3, hW3⟩ : ∃ z, z = W2.alloc (.cells #[.int .i64 2, .int .i64 3] 3) := ⟨_, rfl⟩
  obtain ⟨W4, hW4⟩ : ∃ z, z = W3.alloc (.cells #[.slice (some ⟨w.heap.size, 0, none⟩) 3 3, .int .u64 7] 47) := ⟨_, rfl⟩
  obtain ⟨W5, hW5⟩ : ∃ z, z = W4.alloc (.cells #[.slice (some ⟨w.heap.size + 1, 0, none⟩) 1 1, .int .u64 1] 47) := ⟨_, rfl⟩
  obtain ⟨W6, hW6⟩ : ∃ z, z = W5.alloc (.cells #[.slice (some ⟨w.heap.size + 1 + 1, 0, none⟩) 2 2, .int .u64 3] 47) := ⟨_, rfl⟩
  obtain ⟨W7, hW7⟩ : ∃ z, z = W6.alloc (.cells #[.int .i64 0, .int .i64 1, .int .i64 2] 3) := ⟨_, rfl⟩
  obtain ⟨W8, hW8⟩ : ∃ z, z = W7.alloc (.cells #[.int .i64 5, .slice (some ⟨w.heap.size + 1 + 1 + 1 + 1 + 1 + 1, 0, none⟩) 3 3, .slice none 0 0, .int .i64 0, .int .i64 0, .slice none 0 0] 24) := ⟨_, rfl⟩
  obtain ⟨W9, hW9⟩ : ∃ z, z = W8.alloc (.cells #[.slice (some ⟨w.heap.size, 0, none⟩) 3 3, .int .u64 7, .slice (some ⟨w.heap.size + 1, 0, none⟩) 1 1, .int .u64 1, .slice (some ⟨w.heap.size + 1 + 1, 0, none⟩) 2 2, .int .u64 3] 47) := ⟨_, rfl⟩
  have s1 : W1.heap.size = w.heap.size + 1 := by rw [hW1, World.size_alloc]
  have s2 : W2.heap.size = w.heap.size + 1 + 1 := by rw [hW2, World.size_alloc, s1]
  have s3 : W3.heap.size = w.heap.size + 1 + 1 + 1 := by rw [hW3, World.size_alloc, s2]
  have s4 : W4.heap.size = w.heap.size + 1 + 1 + 1 + 1 := by rw [hW4, World.size_alloc, s3]
  have s5 : W5.heap.size = w.heap.size + 1 + 1 + 1 + 1 + 1 := by rw [hW5, World.size_alloc, s4]
  have s6 : W6.heap.size = w.heap.size + 1 + 1 + 1 + 1 + 1 + 1 := by rw [hW6, World.size_alloc, s5]
  have s7 : W7.heap.size = w.heap.size + 1 + 1 + 1 + 1 + 1 + 1 + 1 := by rw [hW7, World.size_alloc, s6]
  have s8 : W8.heap.size = w.heap.size + 1 + 1 + 1 + 1 + 1 + 1 + 1 + 1 := by rw [hW8, World.size_alloc, s7]
  have s9 : W9.heap.size = w.heap.size + 1 + 1 + 1 + 1 + 1 + 1 + 1 + 1 + 1 := by rw [hW9, World.size_alloc, s8]
  have b1 : Below w.heap.size w W1 := by rw [hW1]; exact new_below _ _
  have b2 : Below W1.heap.size W1 W2 := by rw [hW2]; exact new_below _ _
  have b3 : Below W2.heap.size W2 W3 := by rw [hW3]; exact new_below _ _
  have b4 : Below W3.heap.size W3 W4 := by rw [hW4]; exact new_below _ _
  have b5 : Below W4.heap.size W4 W5 := by rw [hW5]; exact new_below _ _
  have b6 : Below W5.heap.size W5 W6 := by rw [hW6]; exact new_below _ _
  have b7 : Below W6.heap.size W6 W7 := by rw [hW7]; exact new_below _ _
  have b8 : Below W7.heap.size W7 W8 := by rw [hW8]; exact new_below _ _
  have b9 : Below W8.heap.size W8 W9 := by rw [hW9]; exact new_below _ _
  have t9 : Below W9.heap.size W9 W9 := Below.refl _ _
  have t8 : Below W8.heap.size W8 W9 := below_two b9 t9
  have t7 : Below W7.heap.size W7 W9 := below_two b8 t8
  have t6 : Below W6.heap.size W6 W9 := below_two b7 t7
  have t5 : Below W5.heap.size W5 W9 := below_two b6 t6
  have t4 : Below W4.heap.size W4 W9 := below_two b5 t5
  have t3 : Below W3.heap.size W3 W9 := below_two b4 t4
  have t2 : Below W2.heap.size W2 W9 := below_two b3 t3
  have t1 : Below W1.heap.size W1 W9 := below_two b2 t2
  have t0 : Below w.heap.size w W9 := below_two b1 t1
  have k1 : W1.heap[w.heap.size]? = some (.cells #[.int .i64 1, .int .i64 2, .int .i64 3] 3) := by rw [hW1]; exact blk_new _ _
  have k2 : W2.heap[w.heap.size + 1]? = some (.cells #[.int .i64 2] 3) := by rw [hW2, ← s1]; exact blk_new _ _
  have k3 : W3.heap[w.heap.size + 1 + 1]? = some (.cells #[.int .i64 2, .int .i64 3] 3) := by rw [hW3, ← s2]; exact blk_new _ _
  have k4 : W4.heap[w.heap.size + 1 + 1 + 1]? = some (.cells #[.slice (some ⟨w.heap.size, 0, none⟩) 3 3, .int .u64 7] 47) := by rw [hW4, ← s3]; exact blk_new _ _
  have k5 : W5.heap[w.heap.size + 1 + 1 + 1 + 1]? = some (.cells #[.slice (some ⟨w.heap.size + 1, 0, none⟩) 1 1, .int .u64 1] 47) := by rw [hW5, ← s4]; exact blk_new _ _
  have k6 : W6.heap[w.heap.size + 1 + 1 + 1 + 1 + 1]? = some (.cells #[.slice (some ⟨w.heap.size + 1 + 1, 0, none⟩) 2 2, .int .u64 3] 47) := by rw [hW6, ← s5]; exact blk_new _ _
  have k7 : W7.heap[w.heap.size + 1 + 1 + 1 + 1 + 1 + 1]? = some (.cells #[.int .i64 0, .int .i64 1, .int .i64 2] 3) := by rw [hW7, ← s6]; exact blk_new _ _
  have k8 : W8.heap[w.heap.size + 1 + 1 + 1 + 1 + 1 + 1 + 1]? = some (.cells #[.int .i64 5, .slice (some ⟨w.heap.size + 1 + 1 + 1 + 1 + 1 + 1, 0, none⟩) 3 3, .slice none 0 0, .int .i64 0, .int .i64 0, .slice none 0 0] 24) := by rw [hW8, ← s7]; exact blk_new _ _
  have k9 : W9.heap[w.heap.size + 1 + 1 + 1 + 1 + 1 + 1 + 1 + 1]? = some (.cells #[.slice (some ⟨w.heap.size, 0, none⟩) 3 3, .int .u64 7, .slice (some ⟨w.heap.size + 1, 0, none⟩) 1 1, .int .u64 1, .slice (some ⟨w.heap.size + 1 + 1, 0, none⟩) 2 2, .int .u64 3] 47) := by rw [hW9, ← s8]; exact blk_new _ _
  have rdomA : ∀ u, Below W1.heap.size W1 u → rDom u [.slice (some ⟨w.heap.size, 0, none⟩) 3 3, .int .u64 (domA.2 : Nat)] domA := fun u hu => lit_dom (lit_reads domA.1 (blk_below k1 hu)) (by decide) (by decide)
  have rdomB : ∀ u, Below W2.heap.size W2 u → rDom u [.slice (some ⟨w.heap.size + 1, 0, none⟩) 1 1, .int .u64 (domB.2 : Nat)] domB := fun u hu => lit_dom (lit_reads domB.1 (blk_below k2 hu)) (by decide) (by decide)
  have rdomC : ∀ u, Below W3.heap.size W3 u → rDom u [.slice (some ⟨w.heap.size + 1 + 1, 0, none⟩) 2 2, .int .u64 (domC.2 : Nat)] domC := fun u hu => lit_dom (lit_reads domC.1 (blk_below k3 hu)) (by decide) (by decide)
  have cP : ∀ u, Below W8.heap.size W8 u → rCon u [.int .i64 conP.kind, .slice (some ⟨w.heap.size + 1 + 1 + 1 + 1 + 1 + 1, 0, none⟩) 3 3, .slice none 0 0, .int .i64 conP.rel, .int .i64 conP.const, .slice none 0 0] conP := fun u hu =>
    lit_con ⟨fit_small (by decide), fit_small (by decide), fit_small (by decide)⟩ (lit_slc conP.vars (blk_below k7 (below_two b8 hu)) (by intro x hx; exact fit_small (by simp [conP] at hx; omega))) (nil_slc _) (nil_slc _)
  have S1 := Lib.hid (SA.out W9 t0 _ _ _ _ conP [domA, domB, domC] (cP W9 b9) ⟨by decide, by decide, by decide⟩ (lit_doms3 k9 (rdomA _ t1) (rdomB _ t2) (rdomC _ t3)) (by decide) (by decide))
  rw [step_P] at S1
  have RD := Lib.hid (And.intro rdomA (And.intro rdomB rdomC))
  have CP := Lib.hid cP
  have KA := Lib.hid (fun u (hu : Below W9.heap.size W9 u) => (And.intro (cell_below hu (cell_below t4 (blk_in k4 0))) (And.intro (cell_below hu (cell_below t4 (blk_in k4 1))) (And.intro (cell_below hu (cell_below t5 (blk_in k5 0))) (And.intro (cell_below hu (cell_below t5 (blk_in k5 1))) (And.intro (cell_below hu (cell_below t6 (blk_in k6 0))) (cell_below hu (cell_below t6 (blk_in k6 1)))))))))
  have KC := Lib.hid (fun u (hu : Below W9.heap.size W9 u) => (And.intro (cell_below hu (cell_below t8 (blk_in k8 0))) (And.intro (cell_below hu (cell_below t8 (blk_in k8 1))) (And.intro (cell_below hu (cell_below t8 (blk_in k8 2))) (And.intro (cell_below hu (cell_below t8 (blk_in k8 3))) (And.intro (cell_below hu (cell_below t8 (blk_in k8 4))) (cell_below hu (cell_below t8 (blk_in k8 5)))))))))
  have BB := Lib.hid (And.intro t0 (And.intro t1 (And.intro t2 (And.intro t3 t8))))
  have HW := Lib.hid (show (((((((((w.alloc (.cells #[.int .i64 1, .int .i64 2, .int .i64 3] 3)).alloc (.cells #[.int .i64 2] 3)).alloc (.cells #[.int .i64 2, .int .i64 3] 3)).alloc (.cells #[.slice (some ⟨w.heap.size, 0, none⟩) 3 3, .int .u64 7] 47)).alloc (.cells #[.slice (some ⟨w.heap.size + 1, 0, none⟩) 1 1, .int .u64 1] 47)).alloc (.cells #[.slice (some ⟨w.heap.size + 1 + 1, 0, none⟩) 2 2, .int .u64 3] 47)).alloc (.cells #[.int .i64 0, .int .i64 1, .int .i64 2] 3)).alloc (.cells #[.int .i64 5, .slice (some ⟨w.heap.size + 1 + 1 + 1 + 1 + 1 + 1, 0, none⟩) 3 3, .slice none 0 0, .int .i64 0, .int .i64 0, .slice none 0 0] 24)).alloc (.cells #[.slice (some ⟨w.heap.size, 0, none⟩) 3 3, .int .u64 7, .slice (some ⟨w.heap.size + 1, 0, none⟩) 1 1, .int .u64 1, .slice (some ⟨w.heap.size + 1 + 1, 0, none⟩) 2 2, .int .u64 3] 47)) = W9 by rw [hW9, hW8, hW7, hW6, hW5, hW4, hW3, hW2, hW1])
  clear s1 s2 s3 s4 s5 s6 s7 s8 s9 b1 b2 b3 b4 b5 b6 b7 b8 b9 t0 t1 t2 t3 t4 t5 t6 t7 t8 t9 k1 k2 k3 k4 k5 k6 k7 k8 k9 rdomA rdomB rdomC cP hW1 hW2 hW3 hW4 hW5 hW6 hW7 hW8 hW9 hT h0
  go_enter Tryd.func7, Tryd.ntmps7
  go_wp2_with fail
  rw [HW.out]
  refine S1.out.mono ?_
  rintro e w7 ⟨x1, rfl, hx1, hB7⟩
  have X1 := Lib.hid hx1
  have HB7 := Lib.hid hB7
  obtain ⟨a0, a1, d0, d1, f0, f1⟩ := KA.out w7 hB7
  obtain ⟨q0, q1, q2, q3, q4, q5⟩ := KC.out w7 hB7
  clear hx1 hB7
  go_wp2_with fail
  obtain ⟨V8, hV8⟩ : ∃ z, z = w7.alloc (.cells #[.slice (some ⟨w.heap.size + 1 + 1, 0, none⟩) 2 2, .int .u64 3, .slice (some ⟨w.heap.size + 1 + 1, 0, none⟩) 2 2, .int .u64 3, .slice (some ⟨w.heap.size + 1 + 1, 0, none⟩) 2 2, .int .u64 3] 47) := ⟨_, rfl⟩
  have b8 : Below w7.heap.size w7 V8 := by rw [hV8]; exact new_below _ _
  have k8 : V8.heap[w7.heap.size]? = some (.cells #[.slice (some ⟨w.heap.size + 1 + 1, 0, none⟩) 2 2, .int .u64 3, .slice (some ⟨w.heap.size + 1 + 1, 0, none⟩) 2 2, .int .u64 3, .slice (some ⟨w.heap.size + 1 + 1, 0, none⟩) 2 2, .int .u64 3] 47) := by rw [hV8]; exact blk_new _ _
  have b98 := below_two HB7.out b8
  have rC := RD.out.2.2 _ (below_two BB.out.2.2.2.1 b98)
  have S2 := Lib.hid (SA.out V8 (below_two BB.out.1 b98) _ _ _ _ conP [domC, domC, domC] (CP.out V8 (below_two BB.out.2.2.2.2 b98)) ⟨by decide, by decide, by decide⟩ (lit_doms3 k8 rC rC rC) (by decide) (by decide))
  rw [step_P2] at S2
  have HB8 := Lib.hid b8
  have HV8 := Lib.hid hV8
  clear b8 k8 hV8 b98 rC
  rw [← HV8.out]
  refine S2.out.mono ?_
  rintro e w9 ⟨x2, rfl, hx2, hB9⟩
  have X2 := Lib.hid hx2
  have HB9 := Lib.hid (below_two HB8.out hB9)
  have hB99 := below_two HB7.out HB9.out
  clear hx2 hB9 q0 q1 q2 q3 q4 q5 a0 a1 d0 d1 f0 f1
  obtain ⟨a0, a1, d0, d1, f0, f1⟩ := KA.out w9 hB99
  obtain ⟨q0, q1, q2, q3, q4, q5⟩ := KC.out w9 hB99
  clear hB99
  go_wp2_with fail
  obtain ⟨V9, hV9⟩ : ∃ z, z = w9.alloc (.cells #[.slice (some ⟨w.heap.size, 0, none⟩) 3 3, .int .u64 7, .slice (some ⟨w.heap.size + 1, 0, none⟩) 1 1, .int .u64 1] 47) := ⟨_, rfl⟩
  have b10 : Below w9.heap.size w9 V9 := by rw [hV9]; exact new_below _ _
  have k9 : V9.heap[w9.heap.size]? = some (.cells #[.slice (some ⟨w.heap.size, 0, none⟩) 3 3, .int .u64 7, .slice (some ⟨w.heap.size + 1, 0, none⟩) 1 1, .int .u64 1] 47) := by rw [hV9]; exact blk_new _ _
  have b98 := below_two HB7.out (below_two HB9.out b10)
  have S3 := Lib.hid (SA.out V9 (below_two BB.out.1 b98) _ _ _ _ conP [domA, domB] (CP.out V9 (below_two BB.out.2.2.2.2 b98)) ⟨by decide, by decide, by decide⟩ (lit_doms2 k9 (RD.out.1 _ (below_two BB.out.2.1 b98)) (RD.out.2.1 _ (below_two BB.out.2.2.1 b98))) (by decide) (by decide))
  rw [step_P3] at S3
  have HB10 := Lib.hid b10
  have HV9 := Lib.hid hV9
  clear b10 k9 hV9 b98
  rw [← HV9.out]
  refine S3.out.mono ?_
  rintro e w11 ⟨x3, rfl, hx3, hB11⟩
  have hb11 := below_two HB10.out hB11
  have HB11 := Lib.hid (below_two BB.out.1 (below_two HB7.out (below_two HB9.out hb11)))
  obtain ⟨bx, ox, cx, rfl, c0, c1, c2⟩ := three_at (X1.out.below rDom_stays (below_two HB9.out hb11))
  obtain ⟨by_, oy, cy, rfl, y0, y1, y2⟩ := three_at (X2.out.below rDom_stays hb11)
  clear hx3 hB11 hb11 q0 q1 q2 q3 q4 q5 a0 a1 d0 d1 f0 f1
  go_wp2_with fail
  go_ret
  exact ⟨rfl, HB11.out⟩
end Go.Proofs.YtiaibggbbkhjlaaDoor.Ge.Di
