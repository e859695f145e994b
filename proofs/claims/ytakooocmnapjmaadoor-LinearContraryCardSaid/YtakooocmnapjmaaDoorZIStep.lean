/-
  What Step of the document's answers for linear constraints answers.
-/
import Derived.Test.YtakooocmnapjmaaDoorZYBC
import Derived.Test.YtakooocmnapjmaaDoorZVRholds
import Derived.Deep.CutBlock
import Derived.BigQuiet
namespace Go.Proofs.YtakooocmnapjmaaDoor.St
open Go.RowKit
set_option maxRecDepth 100000

/-- a struct of six cells in a block of its own -/
def ConAt (w : World) (b : Nat) (vs : List Value) : Prop := ∀ j u, vs[j]? = some u → w.cell? ⟨b, j, none⟩ = some u
theorem ConAt.below {w w' : World} {b : Nat} {vs : List Value} (h : ConAt w b vs) (hB : Below w.heap.size w w') : ConAt w' b vs := fun j u e => cell_below hB (h j u e)
theorem ConAt.six {w : World} {b : Nat} {v0 v1 v2 v3 v4 v5 : Value} (h : ConAt w b [v0, v1, v2, v3, v4, v5]) : w.cell? ⟨b, 0, none⟩ = some v0 ∧ w.cell? ⟨b, 1, none⟩ = some v1 ∧ w.cell? ⟨b, 2, none⟩ = some v2 ∧ w.cell? ⟨b, 3, none⟩ = some v3 ∧ w.cell? ⟨b, 4, none⟩ = some v4 ∧ w.cell? ⟨b, 5, none⟩ = some v5 :=
  ⟨h 0 _ rfl, h 1 _ rfl, h 2 _ rfl, h 3 _ rfl, h 4 _ rfl, h 5 _ rfl⟩
theorem two_reads (w : World) (x y : Int) : Dm.Reads (w.alloc (.cells #[.int .i64 x, .int .i64 y] 3)) (.slice (some ⟨w.heap.size, 0, none⟩) 2 2) [x, y] := by
  refine .inr ⟨w.heap.size, 0, 2, rfl, fun k hk => ?_⟩
  match k, hk with
  | 0, _ => simp
  | 1, _ => simp

theorem setTo_short {M : List (List Int)} {vars : List Int} {f : Nat → List Int} (hM : ∀ l ∈ M, l.length ≤ 1000) (hf : ∀ k, (f k).length ≤ 1000) : ∀ j, ∀ l ∈ setTo M vars f j, l.length ≤ 1000
  | 0, l, h => hM l h
  | j + 1, l, h => by
    rw [setTo_succ] at h
    rcases List.mem_or_eq_of_mem_set h with h | h
    · exact setTo_short hM hf j l h
    · rw [h]; exact hf j
theorem none_short (M : List (List Int)) (vars : List Int) (hM : ∀ l ∈ M, l.length ≤ 1000) : ∀ l ∈ noneL M vars, l.length ≤ 1000 := setTo_short hM (fun _ => by simp) _
theorem sum_short {M : List (List Int)} (vars ks : List Int) (rel ag : Int) (hM : ∀ l ∈ M, l.length ≤ 1000) : ∀ l ∈ sumL vars ks M rel ag, l.length ≤ 1000 :=
  setTo_short hM (fun k => by
    unfold sumRow
    refine Nat.le_trans (List.length_filter_le _ _) ?_
    by_cases h : (vars.getD k 0).toNat < M.length
    · exact hM _ (by rw [List.getD_eq_getElem?_getD, List.getElem?_eq_getElem h]; exact List.getElem_mem h)
    · rw [List.getD_eq_getElem?_getD, List.getElem?_eq_none (by omega)]
      simp) _

theorem others_length (M : List (List Int)) (c : PCon) : (othersL M c).length = M.length := by
  unfold othersL
  simp only
  split
  · split
    · rfl
    · rw [sumL, setTo_length]
  · rw [sumL, setTo_length]
theorem others_short {M : List (List Int)} (c : PCon) (hM : ∀ l ∈ M, l.length ≤ 1000) : ∀ l ∈ othersL M c, l.length ≤ 1000 := by
  unfold othersL
  simp only
  split
  · split
    · exact hM
    · exact sum_short _ _ _ _ hM
  · exact sum_short _ _ _ _ hM
theorem first_short (M : List (List Int)) (c : PCon) : (firstL M c).length ≤ 1000 := by
  unfold firstL
  simp only
  rw [List.length_append]
  split <;> split <;> simp
theorem set_short {M : List (List Int)} {y : Nat} {l0 : List Int} (hM : ∀ l ∈ M, l.length ≤ 1000) (h0 : l0.length ≤ 1000) : ∀ l ∈ M.set y l0, l.length ≤ 1000 := by
  intro l hl
  rcases List.mem_or_eq_of_mem_set hl with h | h
  · exact hM _ h
  · rw [h]; exact h0
theorem nums_drop {w : World} {b o l : Nat} {xs : List Int} (h : Nums w (some ⟨b, o, none⟩) b o (l + 1) xs) : Nums w (some ⟨b, o + 1, none⟩) b (o + 1) l (xs.drop 1) := by
  have hl := h.long
  have e : ∀ j, (xs.drop 1).getD j 0 = xs.getD (j + 1) 0 := fun j => by
    rw [List.getD_eq_getElem?_getD, List.getD_eq_getElem?_getD, List.getElem?_drop, Nat.add_comm]
  refine ⟨by rw [List.length_drop]; omega, fun _ => rfl, fun j hj => ?_, fun j hj => ?_⟩
  · rw [e]
    have := h.cell (j + 1) (by omega)
    rw [show o + 1 + j = o + (j + 1) by omega]
    exact this
  · rw [e]
    exact h.fit (j + 1) (by omega)
theorem getD_memS {xs : List Int} {k : Nat} (h : k < xs.length) : xs.getD k 0 ∈ xs := by
  rw [List.getD_eq_getElem?_getD, List.getElem?_eq_getElem h]
  exact List.getElem_mem h
theorem getL_mem {M : List (List Int)} {k : Nat} (h : k < M.length) : M.getD k [] ∈ M := by
  rw [List.getD_eq_getElem?_getD, List.getElem?_eq_getElem h]
  exact List.getElem_mem h
/-- what is left of the others, told by what is left of the first -/
theorem others_of {M : List (List Int)} {c : PCon} {y : Nat} (hy : c.vars.getD 0 0 = (y : Int)) : othersL M c = if decide (1 ∈ M.getD y []) = true then (if decide (0 ∈ M.getD y []) = true then M else sumL (c.vars.drop 1) c.coefs M c.rel c.const) else sumL (c.vars.drop 1) c.coefs M (contrary c.rel) c.const := by
  unfold othersL
  rw [hy]
  simp
theorem first_of {M : List (List Int)} {c : PCon} {y : Nat} (hy : c.vars.getD 0 0 = (y : Int)) : firstL M c = (if (decide (0 ∈ M.getD y []) && mayG (endsTo (c.vars.drop 1) c.coefs M (-1) (c.vars.drop 1).length).1 (endsTo (c.vars.drop 1) c.coefs M (-1) (c.vars.drop 1).length).2 (contrary c.rel) c.const) = true then [0] else []) ++ (if (decide (1 ∈ M.getD y []) && mayG (endsTo (c.vars.drop 1) c.coefs M (-1) (c.vars.drop 1).length).1 (endsTo (c.vars.drop 1) c.coefs M (-1) (c.vars.drop 1).length).2 c.rel c.const) = true then [1] else []) := by
  unfold firstL
  rw [hy]
  simp
theorem iff_of {M : List (List Int)} {c : PCon} {y : Nat} (hy : c.vars.getD 0 0 = (y : Int)) : (if 0 ∉ M.getD (c.vars.getD 0 0).toNat [] ∧ 1 ∉ M.getD (c.vars.getD 0 0).toNat [] then noneL M c.vars else (othersL M c).set (c.vars.getD 0 0).toNat (firstL M c)) = if (!decide (0 ∈ M.getD y []) && !decide (1 ∈ M.getD y [])) = true then noneL M c.vars else (othersL M c).set y (firstL M c) := by
  rw [hy]
  simp

set_option maxHeartbeats 8000000 in
theorem rstep_any {w : World} {v v1 v2 v3 : Value} {c : PCon} {L : List (List Int × Nat)} (hc : rCon w [.int .i64 c.kind, v1, v2, .int .i64 c.rel, .int .i64 c.const, v3] c) (hs : Short 1000 c) (h : Slc rDom 2 w v L) (hn : L.length ≤ 1000) (hm : ∀ d ∈ L, d.1.length ≤ 1000) :
    Calls Tryd.prog 11 #[.agg #[.int .i64 c.kind, v1, v2, .int .i64 c.rel, .int .i64 c.const, v3], v] w fun e w' => ∃ x, e = .returned (.tuple #[x, .int .i64 (stepD c L).2]) ∧ DomsAt w' w.heap.size x (stepD c L).1 ∧ Below w.heap.size w w' := by
  obtain ⟨W0, hW0⟩ : ∃ W0, W0 = w.alloc (.cells #[.int .i64 c.kind, v1, v2, .int .i64 c.rel, .int .i64 c.const, v3] 24) := ⟨_, rfl⟩
  obtain ⟨W1, hW1⟩ : ∃ W1, W1 = W0.alloc (.cells #[.int .i64 1, .int .i64 3] 3) := ⟨_, rfl⟩
  have hsz : W0.heap.size = w.heap.size + 1 := by rw [hW0, World.size_alloc]
  have HB1 := Lib.hid (show Below w.heap.size w W1 by rw [hW1, hW0]; exact below_two (new_below _ _) (new_below _ _))
  have Q1 := Lib.hid (show ConAt W1 w.heap.size [.int .i64 c.kind, v1, v2, .int .i64 c.rel, .int .i64 c.const, v3] from ConAt.below (w := W0) (by rw [hW0]; exact six_at _ _ _ _ _ _ _ _) (by rw [hW1]; exact new_below _ _))
  have hK : Dm.Reads W1 (.slice (some ⟨w.heap.size + 1, 0, none⟩) 2 2) [1, 3] := by rw [hW1, ← hsz]; exact two_reads _ _ _
  have HW := Lib.hid (show W1 = (w.alloc (.cells #[.int .i64 c.kind, v1, v2, .int .i64 c.rel, .int .i64 c.const, v3] 24)).alloc (.cells #[.int .i64 1, .int .i64 3] 3) by rw [hW1, hW0])
  have CR := Lib.hid (rsright_any (rCon_stays _ _ _ _ HB1.out hc) hs (h.below rDom_stays HB1.out) hn hm hK (by decide))
  have LX := Lib.hid (fun u (hb : Below w.heap.size w u) => rlists_any (h.below rDom_stays hb) hn hm)
  have WX := Lib.hid (fun u (hb : Below w.heap.size w u) b x (hx : ListsAt u b x (leftsOf L)) (hv : ∀ v ∈ c.vars, 0 ≤ v ∧ v < ((leftsOf L).length : Int)) => rswiped_any (rCon_stays _ _ _ _ hb hc) hs (hx.low (Nat.zero_le _)) (by rw [lefts_length]; exact hn) hv)
  have KX := Lib.hid (fun u (hb : Below w.heap.size w u) b x M (hx : ListsAt u b x M) (hl : L.length = M.length) (hml : ∀ l ∈ M, l.length ≤ 1000) => rskeep_any (h.below rDom_stays hb) (hx.low (Nat.zero_le _)) hn hm hl hml)
  have HC := Lib.hid hc
  have HSD := Lib.hid (show stepD c L = if rightS c L [1, 3] = true then (keepTo L (stepLeft (leftsOf L) c) L.length, 0) else ([], 1) from rfl)
  have HRP := Lib.hid (fun q => rightS_parts (c := c) (L := L) (K := [1, 3]) q)
  obtain ⟨RS, hRS⟩ : ∃ b, b = rightS c L [1, 3] := ⟨_, rfl⟩
  rw [← hRS] at CR HSD HRP
  have hs2 := hs
  clear hW0 hW1 hsz hK hc hs h hm hRS
  go_enter Tryd.func11, Tryd.ntmps11
  go_wp2_with fail
  rw [← HW.out]
  refine CR.out.mono ?_
  rintro e w2 ⟨rfl, hB2⟩
  have HB2 := Lib.hid (below_two HB1.out hB2)
  have Q2 := Lib.hid (Q1.out.below hB2)
  clear hB2
  cases RS
  · go_wp2_with fail
    go_ret2
    exact ⟨.slice none 0 0, by rw [HSD.out]; rfl, by rw [HSD.out]; exact doms_nil _ _, HB2.out⟩
  · obtain ⟨hkd, hmy, hrc⟩ := HRP.out rfl
    have HVT := Lib.hid (right_vars hrc)
    have HLN := Lib.hid (right_lin hrc)
    have HKD := Lib.hid (show c.kind = 1 ∨ c.kind = 3 by simpa using hkd)
    have HVM := Lib.hid (show ∀ v ∈ c.vars, 0 ≤ v ∧ v < ((leftsOf L).length : Int) by rw [lefts_length]; exact vars_mem (right_vars hrc))
    clear hkd hmy hrc
    obtain ⟨q0, q1, q2, q3, q4, q5⟩ := Q2.out.six
    have HBD := Lib.hid (fun q => below_two HB2.out (below_drewN (n := q) (Below.refl _ w2)))
    go_upto_region 3 with fail
    go_cut [6, 7] (fun l is wx => ListsAt wx 0 l (wipedL (leftsOf L) c.vars) ∧ is = .bool (wipeTo (leftsOf L) c.vars c.vars.length) ∧ Below w.heap.size w wx ∧ ConAt wx w.heap.size [Value.int .i64 c.kind, v1, v2, .int .i64 c.rel, .int .i64 c.const, v3])
    case first =>
      go_region_law (first
        | (go_simp; go_at_call 28; refine (LX.out _ (HBD.out _)).mono ?_; rintro e w3 ⟨x3, rfl, hx3, hB3⟩; have HB3 := Lib.hid (below_two (HBD.out 1) hB3); have Q3 := Lib.hid (Q2.out.below (below_two (below_drewN (n := 1) (Below.refl _ w2)) hB3)); have X3 := Lib.hid hx3; clear hB3 hx3; obtain ⟨q0, q1, q2, q3, q4, q5⟩ := Q3.out.six)
        | (go_simp; go_at_call 27; refine (WX.out _ HB3.out _ _ X3.out HVM.out).mono ?_; rintro e w4 ⟨x4, rfl, hx4, hB4⟩; have HB4 := Lib.hid (below_two HB3.out hB4); have Q4 := Lib.hid (Q3.out.below hB4); have X4 := Lib.hid hx4; clear hB4 hx4))
      all_goals go_wp2_with fail
      all_goals go_meet
      all_goals exact ⟨X4.out, rfl, HB4.out, Q4.out⟩
    case rest =>
      obtain ⟨hx, rfl, hB, hQ⟩ := hcut
      have X4 := Lib.hid hx
      have HB4 := Lib.hid hB
      have Q4 := Lib.hid hQ
      have HSL := Lib.hid (show stepD c L = (keepTo L (stepLeft (leftsOf L) c) L.length, 0) by rw [HSD.out]; exact if_pos trivial)
      clear hx hB hQ HSD q0 q1 q2 q3 q4 q5
      have hsl : stepLeft (leftsOf L) c = if wipeTo (leftsOf L) c.vars c.vars.length = true then noneL (leftsOf L) c.vars else if c.kind = 1 then sumL c.vars c.coefs (leftsOf L) c.rel c.const else
        if 0 ∉ (leftsOf L).getD (c.vars.getD 0 0).toNat [] ∧ 1 ∉ (leftsOf L).getD (c.vars.getD 0 0).toNat [] then noneL (leftsOf L) c.vars else (othersL (leftsOf L) c).set (c.vars.getD 0 0).toNat (firstL (leftsOf L) c) := rfl
      obtain ⟨q0, q1, q2, q3, q4, q5⟩ := Q4.out.six
      cases hw : wipeTo (leftsOf L) c.vars c.vars.length
      · rw [hw, if_neg (by simp)] at hsl
        have X5 := Lib.hid (show ListsAt wc 0 u6 (leftsOf L) by have h := X4.out; unfold wipedL at h; rw [hw, if_neg (by simp)] at h; exact h)
        by_cases hk1 : c.kind = 1
        · rw [if_pos hk1] at hsl
          have hok := ok_of (b := 0) HVT.out hw (show linR ((0 : Nat) : Int) c = true from HLN.out.1 hk1) (Nat.zero_le _)
          rw [List.drop_zero] at hok
          have dk : (c.kind == 1) = true := by simpa using hk1
          obtain ⟨_, _, _, e, ⟨f1, f2, f3⟩, ⟨p1, b1, o1, c1, l1, e1, _, h1⟩, ⟨p2, b2, o2, c2, l2, e2, _, h2⟩, _⟩ := HC.out
          simp only [List.cons.injEq, true_and, and_true] at e
          obtain ⟨rfl, rfl, rfl⟩ := e
          subst e1 e2
          have SX := Lib.hid (rssum_any (k := 1) (v1 := .slice p1 l1 c1) (v3 := v3) (rel := c.rel) (c2 := c2) (cv := c1) hok (nums_below (nums_of h1) HB4.out) (nums_below (nums_of h2) HB4.out) X5.out (by rw [lefts_length]; exact hn) f2 f3)
          have HOK := Lib.hid hok
          have HS1 := Lib.hid hsl
          clear hok hsl hw
          go_wp2_with fail
          refine SX.out.mono ?_
          rintro e w5 ⟨x5, rfl, hx5, hB5⟩
          have X6 := Lib.hid hx5
          have HB6 := Lib.hid (below_two HB4.out hB5)
          have KY := Lib.hid (KX.out _ HB6.out _ _ _ X6.out (by rw [sumL, setTo_length, lefts_length]) (sum_short _ _ _ _ fun l h => (lefts_small L l h).1))
          clear hx5 hB5
          go_wp2_with fail
          refine KY.out.mono ?_
          rintro e w6 ⟨x6, rfl, hx6, hB6⟩
          have X7 := Lib.hid hx6
          have HB7 := Lib.hid (below_two HB6.out hB6)
          clear hB6 hx6
          go_wp2_with fail
          go_ret2
          exact ⟨x6, by rw [HSL.out]; rfl, by rw [HSL.out, HS1.out]; exact X7.out.low HB6.out.size, HB7.out⟩
        · rw [if_neg hk1] at hsl
          have HK3 := Lib.hid (show c.kind = 3 by rcases HKD.out with q | q; exact absurd q hk1; exact q)
          obtain ⟨hp1, hp2, hp3, hp4, hp5, hp6, hp7, hp8⟩ := Gr.lin_parts.1 (HLN.out.2 HK3.out)
          have hok := ok_of (b := 1) HVT.out hw (show linR ((1 : Nat) : Int) c = true from HLN.out.2 HK3.out) (by omega)
          have dk : (c.kind == 1) = false := by simpa using hk1
          obtain ⟨_, _, _, e, ⟨f1, f2, f3⟩, ⟨p1, b1, o1, c1, l1, e1, hcap, h1⟩, ⟨p2, b2, o2, c2, l2, e2, _, h2⟩, _⟩ := HC.out
          simp only [List.cons.injEq, true_and, and_true] at e
          obtain ⟨rfl, rfl, rfl⟩ := e
          subst e1 e2
          have hvl := h1.long
          have hkl := h2.long
          obtain ⟨m, rfl⟩ : ∃ m, l1 = m + 1 := ⟨l1 - 1, by omega⟩
          obtain rfl : l2 = m := by omega
          obtain ⟨mc, rfl⟩ : ∃ mc, c1 = mc + 1 := ⟨c1 - 1, by have := hcap.2; omega⟩
          obtain rfl := h1.at_ (by omega)
          have hl2 : 0 < l2 := by omega
          have hs1 := fun W => Gr.slice_one b1 o1 l2 mc (by have := hcap.2; omega) hl2 W
          have N1 := nums_of h1
          have ND := Lib.hid (nums_drop N1)
          have N2 := Lib.hid (nums_of h2)
          have cv0 := N1.cell 0 (by omega)
          rw [Nat.add_zero] at cv0
          have hv0 := HVM.out (c.vars.getD 0 0) (getD_memS (by omega))
          have hfl := full_of hw (getD_memS (xs := c.vars) (k := 0) (by omega))
          obtain ⟨y, hy⟩ := Int.eq_ofNat_of_zero_le hv0.1
          rw [iff_of hy] at hsl
          have HOT := Lib.hid (others_of (M := leftsOf L) hy)
          have HFI := Lib.hid (first_of (M := leftsOf L) hy)
          rw [hy] at cv0 hv0 hfl
          simp only [Int.toNat_natCast] at hfl
          have hyM : y < (leftsOf L).length := by have := hv0.2; omega
          obtain ⟨g, cap, u, rfl, _, _, _, cg, _, hu⟩ := X5.out.row hyM
          have hsmall := lefts_small L _ (getL_mem hyM)
          obtain ⟨row, hrow⟩ : ∃ r, r = (leftsOf L).getD y [] := ⟨_, rfl⟩
          rw [← hrow] at hu hsmall hfl hsl HOT HFI
          obtain ⟨Y, hY⟩ : ∃ b, b = decide ((1 : Int) ∈ row) := ⟨_, rfl⟩
          obtain ⟨N, hN⟩ : ∃ b, b = decide ((0 : Int) ∈ row) := ⟨_, rfl⟩
          have HAS1 := Lib.hid (fun x (hb : Below wc.heap.size wc x) => rhas_any (Dm.reads_below (owns_reads hu) hb) hsmall.1 1)
          have HAS0 := Lib.hid (fun x (hb : Below wc.heap.size wc x) => rhas_any (Dm.reads_below (owns_reads hu) hb) hsmall.1 0)
          rw [← hY] at HAS1 hsl HOT HFI
          rw [← hN] at HAS0 hsl HOT HFI
          obtain ⟨pu, _, cu, rfl, _, _⟩ := Dm.ints_shape hu
          have HS1 := Lib.hid hsl
          have FX := Lib.hid (fun x (hb : Below wc.heap.size wc x) => And.intro (Q4.out.below hb).six (And.intro (cell_below (below_two HB4.out hb) cv0) (cell_below hb cg)))
          have cv0 := (FX.out _ (Below.refl _ _)).2.1
          have SX := Lib.hid (fun x (hb : Below wc.heap.size wc x) rel => rssum_any (k := c.kind) (v1 := .slice (some ⟨b1, o1, none⟩) (l2 + 1) (mc + 1)) (v3 := v3) (rel := rel) (c2 := c2) (cv := mc) hok (nums_below ND.out (below_two HB4.out hb)) (nums_below N2.out (below_two HB4.out hb)) (X5.out.below hb) (by rw [lefts_length]; exact hn) f2 f3)
          have EX := Lib.hid (fun x (hb : Below wc.heap.size wc x) => rends_any (cv := mc) (ck := c2) hok (nums_below ND.out (below_two HB4.out hb)) (nums_below N2.out (below_two HB4.out hb)) (X5.out.below hb) (-1))
          have NX := Lib.hid (fun x (hb : Below wc.heap.size wc x) => rsnone_any (rCon_stays _ _ _ _ (below_two HB4.out hb) HC.out) hs2 (X5.out.below hb) (by rw [lefts_length]; exact hn) HVM.out)
          obtain ⟨lo, hlo⟩ : ∃ x, x = (endsTo (c.vars.drop 1) c.coefs (leftsOf L) (-1) (c.vars.drop 1).length).1 := ⟨_, rfl⟩
          obtain ⟨hi, hhi⟩ : ∃ x, x = (endsTo (c.vars.drop 1) c.coefs (leftsOf L) (-1) (c.vars.drop 1).length).2 := ⟨_, rfl⟩
          rw [← hlo, ← hhi] at EX HFI
          have HYS := Lib.hid (show y < (othersL (leftsOf L) c).length by rw [others_length]; exact hyM)
          obtain ⟨wz, rfl⟩ : ∃ wz, wz = wc := ⟨_, rfl⟩
          have hsm : ([] : List (List Int)).length + (leftsOf L).length ≤ 100000 := by rw [lefts_length]; simp; omega
          have d0 : (0 : Int) ≤ (y : Int) := hv0.1
          have d1 : (y : Int) < ((leftsOf L).length : Int) := hv0.2
          have d2 : (0 : Int) < ((l2 + 1 : Nat) : Int) := by omega
          clear hY hN hlo hhi hp1 hp2 hp3 hp4 hp5 hp6 hp7 hp8 hcap h1 h2 hvl hkl N1 hok hsl hw hrow hu hfl hsmall hk1 hy hv0
          go_wp2_with fail
          refine (HAS1.out _ (Below.refl _ _)).mono ?_
          rintro e w5 ⟨rfl, hB5⟩
          have HB5 := Lib.hid hB5
          obtain ⟨⟨q0, q1, q2, q3, q4, q5⟩, cv0, cg⟩ := FX.out _ hB5
          clear hB5
          go_wp2_with fail
          refine (HAS0.out _ HB5.out).mono ?_
          rintro e w6 ⟨rfl, hB6⟩
          have HB6 := Lib.hid (below_two HB5.out hB6)
          obtain ⟨⟨q0, q1, q2, q3, q4, q5⟩, cv0, cg⟩ := FX.out _ HB6.out
          clear hB6
          have B7 := Lib.hid (new_below w6 (.cells #[] 22))
          have HOW := Lib.hid (show ListsAt (w6.alloc (.cells #[] 22)) w6.heap.size (.slice (some ⟨w6.heap.size, 0, none⟩) 0 0) [] from ownsP_made _ _ _ _ (Nat.le_refl _))
          have HM7 := Lib.hid (X5.out.below (below_two HB6.out B7.out))
          have HL7 := Lib.hid B7.out.size
          go_upto_region 12 with (at_builtin; refine put_all rfl _ _ rfl rfl rfl HOW.out HM7.out hsm HL7.out ?_; intro p8 cap8 w8 hp1 hp2; rw [List.nil_append] at hp1; have HN := Lib.hid (lists_all HOW.out hp1 hp2 B7.out HL7.out); clear hp1 hp2; rw [List.length_nil, Nat.zero_add] at *)
          have X8 := Lib.hid (HN.out.1.low (Nat.le_trans HB4.out.size HB6.out.size))
          have HB8 := Lib.hid (below_two HB6.out HN.out.2)
          obtain ⟨⟨q0, q1, q2, q3, q4, q5⟩, cv0, cg⟩ := FX.out _ HB8.out
          cases hYN : (!N && !Y)
          · rw [hYN] at HS1
            have HS2 := Lib.hid (show stepLeft (leftsOf L) c = (othersL (leftsOf L) c).set y (firstL (leftsOf L) c) by rw [HS1.out]; rfl)
            go_cut [70] (fun b wx => b = .bool false ∧ wx = w8)
            case first =>
              cases Y <;> cases N
              all_goals first | (exact absurd hYN (by decide)) | (go_wp2_with fail; go_meet; exact ⟨rfl, rfl⟩)
            case rest =>
              obtain ⟨rfl, hwc⟩ := hcut
              rw [hwc]
              clear hwc wc
              go_upto_if 77 with (fail)
              go_cut [11] (fun o wx => ListsAt wx w.heap.size o (if N = true then leftsOf L else sumL (c.vars.drop 1) c.coefs (leftsOf L) c.rel c.const) ∧ Below wz.heap.size wz wx)
              case first =>
                cases N
                · go_wp2_with fail
                  refine (SX.out _ HB8.out _).mono ?_
                  rintro e w9 ⟨x9, rfl, hx9, hB9⟩
                  have X9 := Lib.hid (hx9.low (Nat.le_trans HB4.out.size HB8.out.size))
                  have HB9 := Lib.hid (below_two HB8.out hB9)
                  clear hx9 hB9
                  go_wp2_with fail
                  go_meet
                  exact ⟨X9.out, HB9.out⟩
                · go_wp2_with fail
                  go_meet
                  exact ⟨X8.out, HB8.out⟩
              case rest =>
                obtain ⟨hx, hB⟩ := hcut
                have X9 := Lib.hid hx
                have HB9 := Lib.hid hB
                clear hx hB
                obtain ⟨wd, rfl⟩ : ∃ x, x = wc := ⟨_, rfl⟩
                obtain ⟨⟨q0, q1, q2, q3, q4, q5⟩, cv0, cg⟩ := FX.out _ HB9.out
                go_upto_if 85 with (fail)
                go_cut [11] (fun o wx => ListsAt wx w.heap.size o (othersL (leftsOf L) c) ∧ Below wz.heap.size wz wx)
                case first =>
                  cases Y
                  · have HBQ := Lib.hid (fun q => below_two HB9.out (below_drewN (n := q) (Below.refl _ wd)))
                    go_upto_region 17 with fail
                    go_region_law (first
                      | (go_simp; go_at_call 33; refine (rcontrary_any _ _).mono ?_; rintro e w9 ⟨rfl, hB9⟩; have HBR := Lib.hid (below_two (HBQ.out 1) hB9); clear hB9; obtain ⟨⟨q0, q1, q2, q3, q4, q5⟩, cv0, cg⟩ := FX.out _ HBR.out)
                      | (go_simp; go_at_call 30; refine (SX.out _ HBR.out _).mono ?_; rintro e w10 ⟨x10, rfl, hx10, hB10⟩; have X10 := Lib.hid (hx10.low (Nat.le_trans HB4.out.size HBR.out.size)); have HB10 := Lib.hid (below_two HBR.out hB10); clear hx10 hB10))
                    all_goals go_wp2_with fail
                    all_goals go_meet
                    all_goals exact ⟨by rw [HOT.out]; exact X10.out, HB10.out⟩
                  · go_wp2_with fail
                    go_meet
                    exact ⟨by rw [HOT.out]; exact X9.out, HB9.out⟩
                case rest =>
                  obtain ⟨hx, hB⟩ := hcut
                  clear X9 HB9
                  have X9 := Lib.hid hx
                  have HB9 := Lib.hid hB
                  clear hx hB
                  obtain ⟨we, rfl⟩ : ∃ x, x = wc := ⟨_, rfl⟩
                  clear q0 q1 q2 q3 q4 q5 cv0 cg
                  obtain ⟨⟨q0, q1, q2, q3, q4, q5⟩, cv0, cg⟩ := FX.out _ HB9.out
                  go_wp2_with fail
                  refine (EX.out _ HB9.out).mono ?_
                  rintro e w12 ⟨rfl, hB12⟩
                  have X12 := Lib.hid (X9.out.below hB12)
                  have HB12 := Lib.hid (below_two HB9.out hB12)
                  clear hB12
                  go_upto_region 20 with fail
                  obtain ⟨W19, hW19⟩ : ∃ x, x = w12.alloc (.cells #[] 3) := ⟨_, rfl⟩
                  rw [← hW19]
                  have O19 := Lib.hid (show Dm.OwnsI W19 w12.heap.size (.slice (some ⟨w12.heap.size, 0, none⟩) 0 0) [] by rw [hW19]; exact made_ints _ _ (Nat.le_refl _))
                  have HB19 := Lib.hid (show Below w12.heap.size w12 W19 by rw [hW19]; exact new_below _ _)
                  clear hW19
                  obtain ⟨⟨q0, q1, q2, q3, q4, q5⟩, cv0, cg⟩ := FX.out _ (below_two HB12.out HB19.out)
                  obtain ⟨G1, hG1⟩ : ∃ b, b = mayG lo hi (contrary c.rel) c.const := ⟨_, rfl⟩
                  obtain ⟨G2, hG2⟩ : ∃ b, b = mayG lo hi c.rel c.const := ⟨_, rfl⟩
                  rw [← hG1, ← hG2] at HFI
                  have M1 := Lib.hid (fun u => rmayG_any lo hi (contrary c.rel) c.const u)
                  have M2 := Lib.hid (fun u => rmayG_any lo hi c.rel c.const u)
                  rw [← hG1] at M1
                  rw [← hG2] at M2
                  clear hG1 hG2
                  go_cut [112] (fun b wx => b = .bool (N && G1) ∧ Dm.OwnsI wx w12.heap.size (.slice (some ⟨w12.heap.size, 0, none⟩) 0 0) [] ∧ Below w12.heap.size w12 wx)
                  case first =>
                    have HBQ := Lib.hid (show ∀ q, Below W19.heap.size W19 (W19.drewN q) from fun q => below_drewN (Below.refl _ _))
                    cases N
                    · go_wp2
                      go_quiet (fail)
                      go_wp2_with fail
                      go_meet
                      exact ⟨rfl, owns_below O19.out (HBQ.out _), below_two HB19.out (HBQ.out _)⟩
                    · go_region_law (first
                        | (go_simp; go_at_call 33; refine (rcontrary_any _ _).mono ?_; rintro e w9 ⟨rfl, hB9⟩; have HBR := Lib.hid (below_two (HBQ.out 1) hB9); clear hB9; obtain ⟨⟨q0, q1, q2, q3, q4, q5⟩, cv0, cg⟩ := FX.out _ (below_two HB12.out (below_two HB19.out HBR.out)))
                        | (go_simp; go_at_call 35; refine (M1.out _).mono ?_; rintro e w10 ⟨rfl, hB10⟩; have HBS := Lib.hid (below_two HBR.out hB10); clear hB10))
                      all_goals go_wp2_with fail
                      all_goals go_meet
                      all_goals exact ⟨rfl, owns_below O19.out HBS.out, below_two HB19.out HBS.out⟩
                  case rest =>
                    obtain ⟨rfl, ho, hB⟩ := hcut
                    have O20 := Lib.hid ho
                    have HB20 := Lib.hid hB
                    clear ho hB O19 HB19
                    obtain ⟨wf, rfl⟩ : ∃ x, x = wc := ⟨_, rfl⟩
                    go_upto_if 112 with (fail)
                    go_cut [14] (fun f wx => Dm.OwnsI wx w12.heap.size f (if (N && G1) = true then [0] else []) ∧ Below w12.heap.size w12 wx)
                    case first =>
                      cases hNG : (N && G1)
                      · go_wp2_with fail
                        go_meet
                        exact ⟨by rw [hNG]; exact O20.out, HB20.out⟩
                      · have HA9 := Lib.hid (owns_below O20.out (new_below wf (.cells #[.int .i64 0] 3)))
                        have HR9 := Lib.hid (one_reads wf 0)
                        have HLA := Lib.hid (show w12.heap.size ≤ (wf.alloc (.cells #[.int .i64 0] 3)).heap.size from Nat.le_trans HB20.out.size (new_below wf _).size)
                        go_wp2_with (at_builtin; refine Dm.wpList_append_ints rfl _ _ rfl w12.heap.size _ _ [] [0] rfl rfl HA9.out HR9.out (by decide) HLA.out ?_; intro v' w10 hp1 hp2; have HN10 := Lib.hid (And.intro hp1 (ints_grown HA9.out hp2 (below_two HB20.out (new_below wf _)) HLA.out)); clear hp1 hp2)
                        go_meet
                        exact ⟨by rw [hNG]; exact HN10.out.1, HN10.out.2⟩
                    case rest =>
                      obtain ⟨ho, hB⟩ := hcut
                      have O21 := Lib.hid ho
                      have HB21 := Lib.hid hB
                      clear ho hB O20 HB20
                      obtain ⟨wg, rfl⟩ : ∃ x, x = wc := ⟨_, rfl⟩
                      obtain ⟨⟨q0, q1, q2, q3, q4, q5⟩, cv0, cg⟩ := FX.out _ (below_two HB12.out HB21.out)
                      go_upto_region 22 with fail
                      go_cut [125] (fun b wx => b = .bool (Y && G2) ∧ Dm.OwnsI wx w12.heap.size u14 (if (N && G1) = true then [0] else []) ∧ Below w12.heap.size w12 wx)
                      case first =>
                        cases Y
                        · go_wp2_with fail
                          go_meet
                          exact ⟨rfl, O21.out, HB21.out⟩
                        · go_wp2_with fail
                          refine (M2.out _).mono ?_
                          rintro e w10 ⟨rfl, hB10⟩
                          have HBS := Lib.hid hB10
                          clear hB10
                          go_wp2_with fail
                          go_meet
                          exact ⟨rfl, owns_below O21.out HBS.out, HB21.out.trans (HBS.out.mono HB21.out.size)⟩
                      case rest =>
                        obtain ⟨rfl, ho, hB⟩ := hcut
                        have O22 := Lib.hid ho
                        have HB22 := Lib.hid hB
                        clear ho hB O21 HB21
                        obtain ⟨wh, rfl⟩ : ∃ x, x = wc := ⟨_, rfl⟩
                        clear q0 q1 q2 q3 q4 q5 cv0 cg
                        obtain ⟨F1, hF1⟩ : ∃ x, x = (if (N && G1) = true then ([0] : List Int) else []) := ⟨_, rfl⟩
                        rw [← hF1] at O22 HFI
                        have hF1l : F1.length ≤ 1 := by rw [hF1]; split <;> simp
                        go_upto_if 125 with (fail)
                        go_cut [14] (fun f wx => Dm.OwnsI wx w12.heap.size f (firstL (leftsOf L) c) ∧ Below w12.heap.size w12 wx)
                        case first =>
                          cases hNG : (Y && G2)
                          · have HFJ := Lib.hid (show firstL (leftsOf L) c = F1 by rw [HFI.out, hNG, if_neg (by simp), List.append_nil])
                            clear HFI
                            go_wp2_with fail
                            go_meet
                            exact ⟨by rw [HFJ.out]; exact O22.out, HB22.out⟩
                          · have HFJ := Lib.hid (show firstL (leftsOf L) c = F1 ++ [1] by rw [HFI.out, hNG, if_pos rfl])
                            have HA9 := Lib.hid (owns_below O22.out (new_below wh (.cells #[.int .i64 1] 3)))
                            have HR9 := Lib.hid (one_reads wh 1)
                            have HLA := Lib.hid (show w12.heap.size ≤ (wh.alloc (.cells #[.int .i64 1] 3)).heap.size from Nat.le_trans HB22.out.size (new_below wh _).size)
                            have hlen9 : F1.length + ([1] : List Int).length ≤ 100000 := by simp; omega
                            clear HFI hF1 hF1l
                            go_wp2_with (at_builtin; refine Dm.wpList_append_ints rfl _ _ rfl w12.heap.size _ _ F1 [1] rfl rfl HA9.out HR9.out hlen9 HLA.out ?_; intro v' w10 hp1 hp2; have HN10 := Lib.hid (And.intro hp1 (ints_grown HA9.out hp2 (below_two HB22.out (new_below wh _)) HLA.out)); clear hp1 hp2)
                            go_meet
                            exact ⟨by rw [HFJ.out]; exact HN10.out.1, HN10.out.2⟩
                        case rest =>
                          obtain ⟨ho, hB⟩ := hcut
                          have X14 := Lib.hid (X12.out.below hB)
                          have HB14 := Lib.hid (below_two HB12.out hB)
                          obtain ⟨p13, _, c13, hsh, _, _⟩ := Dm.ints_shape ho
                          subst hsh
                          have O23 := Lib.hid ho
                          clear ho hB O22 HB22
                          obtain ⟨wk, rfl⟩ : ∃ x, x = wc := ⟨_, rfl⟩
                          obtain ⟨⟨q0, q1, q2, q3, q4, q5⟩, cv0, cg⟩ := FX.out _ HB14.out
                          obtain ⟨g8, cap9, u9, ev, hg1, _, _, c8, fr8, _⟩ := X14.out.row HYS.out
                          subst ev
                          have hd9 : (y : Int) < ((othersL (leftsOf L) c).length : Int) := by rw [others_length]; exact d1
                          have X15 := Lib.hid (X14.out.stored HYS.out (owns_low O23.out (Nat.zero_le _)))
                          have HB15 := Lib.hid (show Below w.heap.size w (wk.setCell ⟨g8, y, none⟩ (.slice p13 (firstL (leftsOf L) c).length c13)) from (below_two HB4.out HB14.out).setCell hg1 _)
                          have KY := Lib.hid (KX.out _ HB15.out _ _ _ X15.out (by rw [List.length_set, others_length, lefts_length]) (set_short (others_short c fun l h => (lefts_small L l h).1) (first_short _ _)))
                          clear HFI hF1 hF1l HOT
                          go_wp2_with fail
                          refine KY.out.mono ?_
                          rintro e w20 ⟨x20, rfl, hx20, hB20⟩
                          have X20 := Lib.hid hx20
                          have HB20 := Lib.hid (below_two HB15.out hB20)
                          clear hx20 hB20
                          go_wp2_with fail
                          go_ret2
                          exact ⟨x20, by rw [HSL.out]; rfl, by rw [HSL.out, HS2.out]; exact X20.out.low HB15.out.size, HB20.out⟩
          · obtain rfl : N = false := by cases N <;> simp_all
            obtain rfl : Y = false := by cases Y <;> simp_all
            have HS2 := Lib.hid (show stepLeft (leftsOf L) c = noneL (leftsOf L) c.vars by rw [HS1.out]; rfl)
            clear hYN
            go_wp2_with fail
            refine (NX.out _ HB8.out).mono ?_
            rintro e w9 ⟨x9, rfl, hx9, hB9⟩
            have X9 := Lib.hid hx9
            have HB9 := Lib.hid (below_two HB4.out (below_two HB8.out hB9))
            have KY := Lib.hid (KX.out _ HB9.out _ _ _ X9.out (by rw [noneL, setTo_length, lefts_length]) (none_short _ _ fun l h => (lefts_small L l h).1))
            clear hx9 hB9
            go_wp2_with fail
            refine KY.out.mono ?_
            rintro e w10 ⟨x10, rfl, hx10, hB10⟩
            have X10 := Lib.hid hx10
            have HB10 := Lib.hid (below_two HB9.out hB10)
            clear hB10 hx10
            go_wp2_with fail
            go_ret2
            exact ⟨x10, by rw [HSL.out]; rfl, by rw [HSL.out, HS2.out]; exact X10.out.low HB9.out.size, HB10.out⟩
      · rw [hw, if_pos rfl] at hsl
        have X5 := Lib.hid (show ListsAt wc 0 u6 (noneL (leftsOf L) c.vars) by have h := X4.out; unfold wipedL at h; rw [hw, if_pos rfl] at h; exact h)
        have KY := Lib.hid (KX.out _ HB4.out _ _ _ X5.out (by rw [noneL, setTo_length, lefts_length]) (none_short _ _ fun l h => (lefts_small L l h).1))
        have HS1 := Lib.hid hsl
        clear hsl hw
        go_wp2_with fail
        refine KY.out.mono ?_
        rintro e w5 ⟨x5, rfl, hx5, hB5⟩
        have X6 := Lib.hid hx5
        have HB6 := Lib.hid (below_two HB4.out hB5)
        clear hB5 hx5
        go_wp2_with fail
        go_ret2
        exact ⟨x5, by rw [HSL.out]; rfl, by rw [HSL.out, HS1.out]; exact X6.out.low HB4.out.size, HB6.out⟩
end Go.Proofs.YtakooocmnapjmaaDoor.St
