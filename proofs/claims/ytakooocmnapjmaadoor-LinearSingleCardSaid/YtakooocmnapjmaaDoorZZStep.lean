/-
  What Step of package linear answers.
-/
import Derived.Test.YtakooocmnapjmaaDoorZZRight
namespace Go.Proofs.YtakooocmnapjmaaDoor.St
open Go.RowKit
set_option maxRecDepth 100000

/-- domains, some of which are set anew, place by place -/
def stepTo (L : List (List Int × Nat)) (vars : List Int) (K : Nat → Int → Bool) (j : Nat) : List (List Int × Nat) :=
  (List.range j).foldl (fun A k => A.set (vars.getD k 0).toNat ((L.getD (vars.getD k 0).toNat ([], 0)).1, Dm.keepN (L.getD (vars.getD k 0).toNat ([], 0)).1 (L.getD (vars.getD k 0).toNat ([], 0)).2 (K k))) L
theorem stepTo_succ (L : List (List Int × Nat)) (vars : List Int) (K : Nat → Int → Bool) (j : Nat) : stepTo L vars K (j + 1) = (stepTo L vars K j).set (vars.getD j 0).toNat ((L.getD (vars.getD j 0).toNat ([], 0)).1, Dm.keepN (L.getD (vars.getD j 0).toNat ([], 0)).1 (L.getD (vars.getD j 0).toNat ([], 0)).2 (K j)) := by
  unfold stepTo
  rw [List.range_succ, List.foldl_append]
  rfl
theorem stepTo_length (L : List (List Int × Nat)) (vars : List Int) (K : Nat → Int → Bool) : ∀ j, (stepTo L vars K j).length = L.length
  | 0 => rfl
  | j + 1 => by rw [stepTo_succ, List.length_set, stepTo_length L vars K j]
theorem getD_set (M : List (List Int × Nat)) (y : Nat) (d : List Int × Nat) (i : Nat) : (M.set y d).getD i ([], 0) = if y = i ∧ y < M.length then d else M.getD i ([], 0) := by
  rw [List.getD_eq_getElem?_getD, List.getElem?_set]
  by_cases e : y = i
  · subst e
    by_cases hl : y < M.length
    · simp [hl]
    · simp [hl]
  · simp [e]
theorem stepTo_first (L : List (List Int × Nat)) (vars : List Int) (K : Nat → Int → Bool) (i : Nat) : ∀ j, ((stepTo L vars K j).getD i ([], 0)).1 = (L.getD i ([], 0)).1
  | 0 => rfl
  | j + 1 => by
    rw [stepTo_succ, getD_set]
    split
    · rename_i h
      rw [h.1]
    · exact stepTo_first L vars K i j
/-- what a step of the program leaves -/
noncomputable def stepP (c : PCon) (L : List (List Int × Nat)) : List (List Int × Nat) × Int :=
  if rightP c L = true then (stepTo L c.vars (keepK c.kind c.coefs (domsOf L c.vars) c.rel c.const) c.vars.length, 0) else ([], 1)
theorem may_all {L : List (List Int × Nat)} (h : mayTo L L.length = true) {i : Nat} (hi : i < L.length) : Dm.mayL (L.getD i ([], 0)).1 (L.getD i ([], 0)).2 = true := by
  unfold mayTo at h
  rw [List.take_length] at h
  refine List.all_eq_true.1 h _ ?_
  rw [List.getD_eq_getElem?_getD, List.getElem?_eq_getElem hi]
  exact List.getElem_mem hi

theorem stepTo_lt {L : List (List Int × Nat)} (h : ∀ i, (L.getD i ([], 0)).2 < 18446744073709551616) (vars : List Int) (K : Nat → Int → Bool) (i : Nat) : ∀ j, ((stepTo L vars K j).getD i ([], 0)).2 < 18446744073709551616
  | 0 => h i
  | j + 1 => by
    rw [stepTo_succ, getD_set]
    split
    · exact Dm.keep_lt _ _ _
    · exact stepTo_lt h vars K i j
theorem doms_lt {w : World} {p : Option Addr} {b off len : Nat} {L : List (List Int × Nat)} (h : SliceOf rDom 2 w p b off len L) (i : Nat) : (L.getD i ([], 0)).2 < 18446744073709551616 := by
  rw [List.getD_eq_getElem?_getD]
  by_cases hi : i < len
  · obtain ⟨x, u, ex, _, hx⟩ := dom_at2 h hi
    rw [ex]
    exact (rDom_parts hx).2.1
  · rw [List.getElem?_eq_none (by have := h.long; omega)]
    decide
theorem own_set {s t b off : Nat} {w : World} {F : Nat → Value × Value} {v z : Value} {xs : List Int} (hr : Row2 s t w b F) (ht : t ≠ 3) (o : Dm.OwnsI w 0 v xs) : Dm.OwnsI (w.setCell ⟨b, off, none⟩ z) 0 v xs :=
  ints_same o fun i hi => Below.heap_setCell w ⟨b, off, none⟩ z i (kinds_apart (ints_kind o hi).2.2 hr.kind (Ne.symm ht))
theorem row_set {s t b off b' : Nat} {w : World} {F : Nat → Value × Value} {z : Value} (hr : Row2 s t w b F) (hne : b ≠ b') : Row2 s t (w.setCell ⟨b', off, none⟩ z) b F := by
  obtain ⟨cc, h1, h2⟩ := hr
  exact ⟨cc, (Below.heap_setCell w ⟨b', off, none⟩ z b hne).trans h1, h2⟩
theorem own_set2 {s b o1 o2 : Nat} {t : TypeId} {w : World} {F : Nat → Value × Value} {v z1 z2 : Value} {xs : List Int} (hr : Row2 s t w b F) (ht : t ≠ 3) (o : Dm.OwnsI w 0 v xs) : Dm.OwnsI ((w.setCell ⟨b, o1, none⟩ z1).setCell ⟨b, o2, none⟩ z2) 0 v xs := by
  have h1 := own_set (off := o1) (z := z1) hr ht o
  refine ints_same h1 fun i hi => Below.heap_setCell _ ⟨b, o2, none⟩ z2 i (kinds_apart (ints_kind h1 hi).2.2 (f := t) ?_ (Ne.symm ht))
  obtain ⟨cs, hcs⟩ := hr.kind
  exact ⟨cs.setIfInBounds o1 z1, by simp [World.setCell, Array.getElem?_modify, hcs]⟩
/-- numbers that came in stay, whatever becomes of one block that came later -/
theorem _root_.Go.Proofs.YtakooocmnapjmaaDoor.Nums.frame2 {w z y : World} {p : Option Addr} {b o l bb : Nat} {xs : List Int} (h : Nums w p b o l xs) (hz : Below w.heap.size w z) (g1 : w.heap.size ≤ bb) (hy : Fr (fun i => i = bb) z y) : Nums y p b o l xs := by
  refine ⟨h.long, h.at_, fun k hk => ?_, h.fit⟩
  have c := h.cell k hk
  have hlt := Dm.cell_lt c
  exact hy.cell (by show ¬ b = bb; have : b < w.heap.size := hlt; omega) (cell_below hz c)

set_option maxHeartbeats 8000000 in
theorem step_any {w : World} {v1 v2 v3 v : Value} {c : PCon} {L : List (List Int × Nat)} (hT : B.Tab w) (h0 : 0 < w.heap.size) (hc : rCon w [.int .i64 c.kind, v1, v2, .int .i64 c.rel, .int .i64 c.const, v3] c) (hs : Short 1000 c) (h : Slc rDom 2 w v L) (hn : L.length ≤ 1000) (hm : ∀ d ∈ L, d.1.length ≤ 1000) :
    Calls Tryd.prog 10 #[.agg #[.int .i64 c.kind, v1, v2, .int .i64 c.rel, .int .i64 c.const, v3], v] w fun e w' => ∃ x, e = .returned (.tuple #[x, .int .i64 (stepP c L).2]) ∧ Slc rDom 2 w' x (stepP c L).1 ∧ Below w.heap.size w w' := by
  have hsl := h
  obtain ⟨p, b, off, cc, len, rfl, hcap, hss⟩ := h
  obtain ⟨W0, hW0⟩ : ∃ W0, W0 = w.alloc (.cells #[.int .i64 c.kind, v1, v2, .int .i64 c.rel, .int .i64 c.const, v3] 24) := ⟨_, rfl⟩
  have hb0 : Below w.heap.size w W0 := by rw [hW0]; exact new_below _ _
  have hc0 : ∀ j u, [Value.int .i64 c.kind, v1, v2, .int .i64 c.rel, .int .i64 c.const, v3][j]? = some u → W0.cell? ⟨w.heap.size, j, none⟩ = some u := fun j u e => by rw [hW0]; exact six_at _ _ _ _ _ _ _ _ j u e
  have HW := Lib.hid hW0
  have HB0 := Lib.hid hb0
  have RM := Lib.hid (right_any (rCon_stays _ _ _ _ hb0 hc) hs (hsl.below rDom_stays hb0) hn hm)
  have HC := Lib.hid (fun (z : World) (hz : Below W0.heap.size W0 z) => And.intro (cell_below hz (hc0 0 _ rfl)) (And.intro (cell_below hz (hc0 1 _ rfl)) (And.intro (cell_below hz (hc0 2 _ rfl)) (And.intro (cell_below hz (hc0 3 _ rfl)) (And.intro (cell_below hz (hc0 4 _ rfl)) (cell_below hz (hc0 5 _ rfl)))))))
  have hcon := hc
  obtain ⟨_, _, _, e, ⟨f1, f2, f3⟩, ⟨p1, b1, o1, c1, l1, e1, hcap1, h1⟩, ⟨p2, b2, o2, c2, l2, e2, _, h2⟩, _⟩ := hc
  simp only [List.cons.injEq, true_and, and_true] at e
  obtain ⟨rfl, rfl, rfl⟩ := e
  subst e1 e2
  obtain ⟨q0, q1, q2, q3, q4, q5⟩ := HC.out W0 (Below.refl _ _)
  have HP := Lib.hid (show stepP c L = if rightP c L = true then (stepTo L c.vars (keepK c.kind c.coefs (domsOf L c.vars) c.rel c.const) c.vars.length, 0) else ([], 1) from rfl)
  obtain ⟨RR, hRR⟩ : ∃ R, R = rightP c L := ⟨_, rfl⟩
  rw [← hRR] at RM HP
  have HRR := Lib.hid hRR
  clear hW0 hc0 hRR
  go_enter Tryd.func10, Tryd.ntmps10
  go_wp2_with fail
  rw [← HW.out]
  refine RM.out.mono ?_
  rintro e w1 ⟨rfl, hB1⟩
  have HB1 := Lib.hid hB1
  clear q0 q1 q2 q3 q4 q5
  obtain ⟨q0, q1, q2, q3, q4, q5⟩ := HC.out _ hB1
  clear hB1
  cases RR
  · have HP2 := Lib.hid (show stepP c L = ([], 1) by rw [HP.out, if_neg (by simp)])
    clear hb0 hT h0 hs hn hm hsl hss h1 h2 hcon
    go_wp2_with fail
    go_ret2
    exact ⟨.slice none 0 0, by rw [HP2.out]; rfl, by rw [HP2.out]; exact ⟨none, 0, 0, 0, 0, rfl, ⟨fun _ => rfl, Nat.le_refl _⟩, rfl, fun h => by omega, fun k a h => by simp at h⟩, below_two HB0.out HB1.out⟩
  · have HP2 := Lib.hid (show stepP c L = (stepTo L c.vars (keepK c.kind c.coefs (domsOf L c.vars) c.rel c.const) c.vars.length, 0) by rw [HP.out, if_pos rfl])
    obtain ⟨hkd, hmy, hrc⟩ := rightS_parts ((rightP_S c L).symm.trans HRR.out.symm)
    have hvt := right_vars hrc
    have hln := right_lin hrc
    have hkd2 : c.kind = 1 ∨ c.kind = 3 := by simpa using hkd
    have hlp : (c.kind = 1 ∧ l1 ≤ l2 ∨ c.kind = 3 ∧ l1 = l2 + 1 ∧ 1 ≤ l2) ∧ allN c.coefs 1048576 = true ∧ (0 ≤ c.rel ∧ c.rel ≤ 5) ∧ l1 ≤ 1000 := by
      have e1 := h1.long
      have e2 := h2.long
      have e3 := hs.1
      rcases hkd2 with q | q
      · obtain ⟨a1, a2, a3, a4, a5, a6, _⟩ := Gr.lin_parts.1 (hln.1 q)
        exact ⟨.inl ⟨q, by omega⟩, a4, ⟨a5, a6⟩, by omega⟩
      · obtain ⟨a1, a2, a3, a4, a5, a6, _⟩ := Gr.lin_parts.1 (hln.2 q)
        exact ⟨.inr ⟨q, by omega, by omega⟩, a4, ⟨a5, a6⟩, by omega⟩
    obtain ⟨hlk, hco, hrl, hl1⟩ := hlp
    have hkb := coefs_in hco
    have hvin : ∀ k, k < c.vars.length → 0 ≤ c.vars.getD k 0 ∧ c.vars.getD k 0 < (L.length : Int) := fun k hk => (hvt k hk).1
    have hDm : ∀ d ∈ domsOf L c.vars, d.1.length ≤ 1000 := by
      intro d hd
      obtain ⟨v, hv, rfl⟩ := List.mem_map.1 hd
      have := vars_mem hvt v hv
      refine hm _ ?_
      rw [List.getD_eq_getElem?_getD, List.getElem?_eq_getElem (by omega)]
      exact List.getElem_mem _
    obtain ⟨K, hK⟩ : ∃ K, K = keepK c.kind c.coefs (domsOf L c.vars) c.rel c.const := ⟨_, rfl⟩
    rw [← hK] at HP2
    have DC := Lib.hid (fun (z : World) (hz : Below W0.heap.size W0 z) => (show Calls Tryd.prog 22 #[.slice p1 l1 c1, .slice p len cc] z fun e w' => ∃ g, e = .returned (.slice (some ⟨g, 0, none⟩) l1 l1) ∧ SliceOf rDom 2 w' (some ⟨g, 0, none⟩) g 0 l1 (domsOf L c.vars) ∧ Below z.heap.size z w' from (domains_any (nums_below (nums_of h1) (below_two hb0 hz)) (hss.below rDom_stays (below_two hb0 hz)) hl1 hvin).mono (fun _ _ q => ⟨_, q⟩)))
    have KC := Lib.hid (fun (z : World) (hz : Below W0.heap.size W0 z) (bb : Nat) (g1 : w.heap.size ≤ bb) (g2 : bb < z.heap.size) (g : Nat) (hd : SliceOf rDom 2 z (some ⟨g, 0, none⟩) g 0 l1 (domsOf L c.vars)) =>
      (show Calls Tryd.prog 21 #[.agg #[.int .i64 c.kind, .slice p1 l1 c1, .slice p2 l2 c2, .int .i64 c.rel, .int .i64 c.const, v3], .slice (some ⟨g, 0, none⟩) l1 l1] z fun e w' => ∃ v, e = .returned v ∧ Keeps (fun i => i = bb) w' v l1 K ∧ Below z.heap.size z w' from by
        rw [hK]
        exact keeper_any (X := fun i => i = bb) (fun i hi => hi ▸ g2) (B.Tab.below hT h0 (below_two hb0 hz)) (Nat.lt_of_lt_of_le h0 (below_two hb0 hz).size) (fun y hy => (nums_of h2).frame2 (below_two hb0 hz) g1 hy) hd hl1 hlk hDm hkb hrl))
    have KC1 := Lib.hid (KC.out)
    have HBQ := Lib.hid (show Below W0.heap.size W0 w1.drew from HB1.out.drew)
    have HBA := Lib.hid (show Below W0.heap.size W0 (w1.alloc (.cells #[.nilFunc] 50)).drew from (below_two HB1.out (new_below _ _)).drew)
    have OBA := Lib.hid (show Own1 (w1.alloc (.cells #[.nilFunc] 50)).drew w1.heap.size 50 .nilFunc from Own1.new _ _ _)
    have HSZ := Lib.hid (show w.heap.size + 1 = W0.heap.size by rw [HW.out, World.size_alloc])
    have hlt1 : w.heap.size < w1.heap.size := Dm.cell_lt q1
    have hmk := make_doms len (by have := hss.long; omega)
    have HLN := Lib.hid hss.long
    have hle : len ≤ 1000 := by have := hss.long; omega
    have hle1 : l1 ≤ 1000 := hl1
    have HNV := Lib.hid (nums_of h1)
    have HVI := Lib.hid (show ∀ k, k < l1 → 0 ≤ c.vars.getD k 0 ∧ c.vars.getD k 0 < (len : Int) by rw [hss.long, h1.long]; exact hvin)
    have HSS := Lib.hid hss
    have HMY := Lib.hid hmy
    have HMM := Lib.hid hm
    have hp := hss.at_
    have HL1 := Lib.hid h1.long
    clear hK hkd hmy hrc hvt hln hkd2 hlk hco hrl hl1 hkb hvin hDm KC hb0 hT h0 hs hn hm hsl hss h1 h2 hcon f1 f2 f3 hcap hcap1
    go_upto_region 3 with fail
    go_cut [6] (fun p wx => ∃ b6 v6, p = .pointer (some ⟨b6, 0, none⟩) ∧ wx.cell? ⟨b6, 0, none⟩ = some v6 ∧ Keeps (fun _ => False) wx v6 l1 K ∧ Below W0.heap.size W0 wx)
    case first =>
      go_region_law (first
        | (go_simp; go_at_call 22; (first | (with_reducible refine (DC.out _ HBQ.out).mono ?_) | (with_reducible refine (DC.out _ HBA.out).mono ?_)); rintro e w2 ⟨g2, rfl, hd2, hB2⟩; have hw2 : Below W0.heap.size W0 w2 := (by first | exact below_two HBQ.out hB2 | exact below_two HBA.out hB2); (first | (have ob2 := Own1.below OBA.out hB2) | skip); obtain ⟨q0, q1, q2, q3, q4, q5⟩ := HC.out _ hw2; have hlt2 := Dm.cell_lt q1)
        | (go_simp; go_at_call 21; have ob2' := ob2; (with_reducible refine (KC1.out _ hw2 w1.heap.size (Nat.le_of_lt hlt1) ob2.lt _ hd2).mono ?_); rintro e w3 ⟨vk, rfl, ⟨gg, env, rfl, hE, hf⟩, hB3⟩; have hsf := run_store_func gg env; have KP : Keeps (fun i => i = w1.heap.size) w3 (.func (.func gg) #[] env) l1 K := ⟨gg, env, rfl, hE, hf⟩; clear hf; have KF : ∀ z, Fr (fun i => i = w1.heap.size) w3 (w3.setCell ⟨w1.heap.size, 0, none⟩ z) := fun z => Fr.set (X := fun i => i = w1.heap.size) (Fr.refl _ w3) rfl 0 z; have ob3 := Own1.below ob2 hB3; have c0 := ob3.cell; have f0 := ob3.frozen 0; have hw3 := below_two hw2 hB3; have KB : ∀ z, Below W0.heap.size W0 (w3.setCell ⟨w1.heap.size, 0, none⟩ z) := fun z => hw3.setCell (show W0.heap.size ≤ w1.heap.size from HB1.out.size) z)
        | (go_simp; go_at_call 21; (with_reducible refine (KC1.out _ hw2 w.heap.size (Nat.le_refl _) (Nat.lt_of_lt_of_le (by have := HSZ.out; omega) hw2.size) _ hd2).mono ?_); rintro e w3 ⟨vk, rfl, ⟨gg, env, rfl, hE, hf⟩, hB3⟩; have hsf := run_store_func gg env; have KP : Keeps (fun i => i = w.heap.size) w3 (.func (.func gg) #[] env) l1 K := ⟨gg, env, rfl, hE, hf⟩; clear hf; have hw3 := below_two hw2 hB3)
        | (go_simp; go_at_call 21; have hw2a := below_two hw2 (new_below w2 (.cells #[.nilFunc] 50)); have ob2a := Own1.new w2 50 .nilFunc; (with_reducible refine (KC1.out _ hw2a w2.heap.size (Nat.le_trans (by have := HSZ.out; omega) hw2.size) ob2a.lt _ (hd2.below rDom_stays (new_below _ _))).mono ?_); rintro e w3 ⟨vk, rfl, ⟨gg, env, rfl, hE, hf⟩, hB3⟩; have hsf := run_store_func gg env; have KP : Keeps (fun i => i = w2.heap.size) w3 (.func (.func gg) #[] env) l1 K := ⟨gg, env, rfl, hE, hf⟩; clear hf; have KF : ∀ z, Fr (fun i => i = w2.heap.size) w3 (w3.setCell ⟨w2.heap.size, 0, none⟩ z) := fun z => Fr.set (X := fun i => i = w2.heap.size) (Fr.refl _ w3) rfl 0 z; have ob3 := Own1.below ob2a hB3; have c0 := ob3.cell; have f0 := ob3.frozen 0; have hw3 := below_two hw2a hB3; have KB : ∀ z, Below W0.heap.size W0 (w3.setCell ⟨w2.heap.size, 0, none⟩ z) := fun z => hw3.setCell (show W0.heap.size ≤ w2.heap.size from hw2.size) z))
      all_goals go_wp2_with fail
      all_goals go_meet
      all_goals first
        | with_reducible exact ⟨_, _, rfl, (Own1.new _ _ _).cell, KP.less (.of_below (new_below _ _)) (fun k hk => hk.elim), below_two hw3 (new_below _ _)⟩
        | with_reducible exact ⟨_, _, rfl, (ob3.set _).cell, KP.less (KF _) (fun k hk => hk.elim), KB _⟩
    case rest =>
      obtain ⟨b6, v6, rfl, c6, hK6, hB⟩ := hcut
      have HBZ := Lib.hid hB
      have HK6 := Lib.hid hK6
      have HC6 := Lib.hid c6
      obtain ⟨wz, rfl⟩ : ∃ z, z = wc := ⟨_, rfl⟩
      clear q0 q1 q2 q3 q4 q5
      obtain ⟨q0, q1, q2, q3, q4, q5⟩ := HC.out _ hB
      clear hB hK6 c6
      go_wp2_with fail
      go_loopw [27] (fun i wr => ∃ (k : Nat) (F : Nat → Value × Value), k ≤ len ∧ i = .int .i64 k ∧ Row2 len 47 wr wz.heap.size F ∧ (∀ j, j < k → Dm.OwnsI wr 0 (F j).1 (L.getD j ([], 0)).1 ∧ (F j).2 = .int .u64 ((L.getD j ([], 0)).2 : Nat)) ∧ (∀ j, k ≤ j → F j = (.slice none 0 0, .int .u64 0)) ∧ Below wz.heap.size wz wr) (fun i _ => len - (intOf i).toNat)
      case atStart => exact ⟨0, _, by omega, rfl, row2_made len _ _ _ wz, fun j hj => by omega, fun j _ => rfl, new_below _ _⟩
      case round =>
        rename_i wr
        obtain ⟨k, F, hk, rfl, hrow, hown, hrest, hB⟩ := hrel
        have HR := Lib.hid hrow
        have HO := Lib.hid hown
        have HRS := Lib.hid hrest
        have HB := Lib.hid hB
        clear q0 q1 q2 q3 q4 q5
        by_cases hlt : k < len
        · obtain rfl := hp (by omega)
          have hBW := below_two HB0.out (below_two HBZ.out hB)
          obtain ⟨x, u, ex, ⟨a0, a1⟩, hx⟩ := dom_at2 (HSS.out.below rDom_stays hBW) hlt
          obtain ⟨p9, l9, c9, rfl⟩ := rDom_shape hx
          obtain ⟨r1, r2, _⟩ := rDom_parts hx
          have hxl : x.1.length ≤ 100000 := Nat.le_trans (HMM.out x (List.mem_of_getElem? ex)) (by decide)
          have eD : L.getD k ([], 0) = x := by rw [List.getD_eq_getElem?_getD, ex]; rfl
          obtain ⟨y, ey⟩ : ∃ y, y = x.2 := ⟨_, rfl⟩
          rw [← ey] at a1
          obtain ⟨W9, hW9⟩ : ∃ z, z = wr.alloc (.cells #[.slice p9 l9 c9, .int .u64 y] 47) := ⟨_, rfl⟩
          have hb9 : Below wr.heap.size wr W9 := by rw [hW9]; exact new_below _ _
          have hO9 : Own2 W9 wr.heap.size 47 (.slice p9 l9 c9) (.int .u64 y) := by rw [hW9]; exact Own2.new _ _ _ _
          have CL := Lib.hid (Dm.clone_any (w := W9.drew) (Dm.reads_below (Dm.reads_below (Dm.reads_of_readsN r1) hb9) (Below.refl _ _).drew) hxl)
          have HO9 := Lib.hid hO9
          have HB9 := Lib.hid hb9
          have HX := Lib.hid (And.intro eD ey)
          have HW9 := Lib.hid hW9
          have g0 := hO9.cell0
          have g1 := hO9.cell1
          have gl := hO9.lt
          have d5 : (k : Int) < (len : Int) := by omega
          clear hrow hown hrest hB hx r1 r2 hxl eD ey ex hb9 hO9 hW9 hBW
          go_upto_region 8 with fail
          rw [← HW9.out]
          go_region_law (first
            | (go_simp; go_at_call 23; refine CL.out.mono ?_; rintro e w5 ⟨v5, rfl, ho5, hB5⟩; obtain ⟨p5, _, c5, rfl, _, _⟩ := Dm.ints_shape ho5; have hB5 : Below W9.heap.size W9 w5 := below_two (Below.refl _ _).drew hB5; have o9 := HO9.out.below hB5; have g0 := o9.cell0; have g1 := o9.cell1; have hR5 := HR.out.below (below_two HB9.out hB5); have z0 := hR5.cell0 hlt; have z1 := hR5.cell1 hlt; have f0 := hR5.frozen (k * 2); have f1 := hR5.frozen (k * 2 + 1)))
          all_goals go_wp2_with fail
          all_goals
            go_roundw
            case rel =>
              have hb := below_two HB9.out hB5
              refine ⟨k + 1, fun j => if j = k then (.slice p5 x.1.length c5, .int .u64 (y : Int)) else F j, by omega, by go_num, hR5.set hlt _ _ (if_pos rfl) (fun j hj => if_neg hj), fun j hj => ?_, fun j hj => ?_, ((HB.out.trans (hb.mono HB.out.size)).setCell (Nat.le_refl _) _).setCell (Nat.le_refl _) _⟩
              · by_cases e : j = k
                · subst e
                  simp only [if_true]
                  rw [HX.out.1, ← HX.out.2]
                  exact ⟨own_set2 hR5 (by decide) (owns_low ho5 (Nat.zero_le _)), rfl⟩
                · simp only [if_neg e]
                  have o := HO.out j (by omega)
                  exact ⟨own_set2 hR5 (by decide) (owns_below o.1 hb), o.2⟩
              · simp only [if_neg (show ¬ j = k by omega)]
                exact HRS.out j (by omega)
            case measure => simp [intOf]; omega
        · obtain rfl : k = len := by omega
          have d6 : ¬ ((k : Int) < (k : Int)) := by omega
          obtain ⟨q0, q1, q2, q3, q4, q5⟩ := HC.out _ (HBZ.out.trans (HB.out.mono HBZ.out.size))
          clear hrest hown hrow hB
          have HG := Lib.hid (show W0.heap.size ≤ wz.heap.size from HBZ.out.size)
          have RB := Lib.hid (fun (z : World) (hz : Below wz.heap.size wz z) => HBZ.out.trans (hz.mono HBZ.out.size))
          go_wp2_with fail
          go_loopw [45] (fun i wx => ∃ (m : Nat) (G : Nat → Value × Value), m ≤ l1 ∧ i = .int .i64 m ∧ Row2 k 47 wx wz.heap.size G ∧ (∀ j, j < k → Dm.OwnsI wx 0 (G j).1 (L.getD j ([], 0)).1 ∧ (G j).2 = .int .u64 (((stepTo L c.vars K m).getD j ([], 0)).2 : Nat)) ∧ Below wz.heap.size wz wx) (fun i _ => l1 - (intOf i).toNat)
          case atStart => exact ⟨0, F, by omega, rfl, HR.out, HO.out, HB.out⟩
          case round =>
            obtain ⟨m, G, hmm, rfl, hrw, hon, hB⟩ := hrel
            have HR2 := Lib.hid hrw
            have HO2 := Lib.hid hon
            have HB2 := Lib.hid hB
            clear hrw hon q0 q1 q2 q3 q4 q5
            by_cases hlt : m < l1
            · have hvm := HVI.out m hlt
              obtain rfl := HNV.out.at_ (by omega)
              have hBW := below_two HB0.out (RB.out _ hB)
              have cv := cell_below hBW (HNV.out.cell m hlt)
              have hsc := stepTo_succ L c.vars K m
              obtain ⟨y, hy⟩ : ∃ y, y = c.vars.getD m 0 := ⟨_, rfl⟩
              rw [← hy] at hvm cv hsc
              obtain ⟨y, rfl⟩ := Int.eq_ofNat_of_zero_le hvm.1
              simp only [Int.toNat_natCast] at hsc
              have hyl : y < k := by omega
              obtain rfl := hp (by omega)
              obtain ⟨x, u, ex, ⟨a0, a1⟩, hx⟩ := dom_at2 (HSS.out.below rDom_stays hBW) hyl
              obtain ⟨p9, l9, c9, rfl⟩ := rDom_shape hx
              obtain ⟨r1, r2, _⟩ := rDom_parts hx
              have eD : L.getD y ([], 0) = x := by rw [List.getD_eq_getElem?_getD, ex]; rfl
              have hmx := may_all HMY.out (i := y) (by rw [← HLN.out]; exact hyl)
              rw [eD] at hsc hmx
              have hmi := Dm.may_iff.1 hmx
              obtain ⟨W9, hW9⟩ : ∃ z, z = wr.alloc (.cells #[.int .i64 m] 3) := ⟨_, rfl⟩
              have hb9 : Below wr.heap.size wr W9 := by rw [hW9]; exact new_below _ _
              have hc9 : W9.cell? ⟨wr.heap.size, 0, none⟩ = some (.int .i64 m) := by rw [hW9]; exact one_cell _ _ _ 0 _ rfl
              have KX := Lib.hid (kept_any (w := W9) (Dm.reads_below (Dm.reads_of_readsN r1) hb9) hmi.1 x.2 r2 25 (enters_of Tryd.func25 (by kernel_rfl) rfl) #[.pointer (some ⟨b6, 0, none⟩), .pointer (some ⟨wr.heap.size, 0, none⟩)] (K m)
                (fun z hz yy hyy => step1_any (HK6.out.frame (.of_below (below_two (show Below wz.heap.size wz W9 from HB2.out.trans (hb9.mono HB2.out.size)) hz))) (cell_below hz (cell_below (show Below wz.heap.size wz W9 from HB2.out.trans (hb9.mono HB2.out.size)) HC6.out)) (cell_below hz hc9) hlt yy (by have := Dm.rise_low hmi.2.2 hyy; omega)))
              have HB9 := Lib.hid hb9
              have HW9 := Lib.hid hW9
              have HSC := Lib.hid hsc
              obtain ⟨z0, hz0⟩ : ∃ z, z = Dm.keepN x.1 x.2 (K m) := ⟨_, rfl⟩
              rw [← hz0] at KX
              have HX := Lib.hid (And.intro eD hz0)
              obtain ⟨x2, hx2⟩ : ∃ z, z = x.2 := ⟨_, rfl⟩
              rw [← hx2] at a1 KX
              have a0' := cell_below hb9 a0
              have a1' := cell_below hb9 a1
              have d5 : (m : Int) < (l1 : Int) := by omega
              have d6 : (0 : Int) ≤ (y : Int) := hvm.1
              have d7 : (y : Int) < (k : Int) := hvm.2
              clear hvm hx r1 r2 eD hmx hmi hb9 hc9 hsc hz0 hx2 hy ex hBW hB hW9
              go_upto_region 13 with fail
              rw [← HW9.out]
              go_wp2_with fail
              refine KX.out.mono ?_
              rintro e w5 ⟨rfl, hB5⟩
              have hb := below_two HB9.out hB5
              have HBX := Lib.hid hb
              have hR5 := HR2.out.below hb
              have e0 := hR5.cell0 hyl
              have e1 := hR5.cell1 hyl
              have f0 := hR5.frozen (y * 2 + 1)
              have HR5 := Lib.hid hR5
              clear hB5 hb hR5 a0 a1 a0' a1'
              go_wp2_with fail
              go_roundw
              case rel =>
                refine ⟨m + 1, fun j => if j = y then ((G y).1, .int .u64 (z0 : Int)) else G j, by omega, by go_num, HR5.out.set1 hyl _ (if_pos rfl) (fun j hj => if_neg hj), fun j hj => ?_, (HB2.out.trans (HBX.out.mono HB2.out.size)).setCell (Nat.le_refl _) _⟩
                rw [HSC.out, getD_set, stepTo_length]
                by_cases e : j = y
                · subst e
                  rw [if_pos ⟨rfl, by rw [← HLN.out]; exact hj⟩]
                  simp only [if_true]
                  exact ⟨own_set HR5.out (by decide) (owns_below (HO2.out j hj).1 HBX.out), by rw [HX.out.2]⟩
                · rw [if_neg (fun q => e q.1.symm)]
                  simp only [if_neg e]
                  have o := HO2.out j hj
                  exact ⟨own_set HR5.out (by decide) (owns_below o.1 HBX.out), o.2⟩
              case measure => simp [intOf]; omega
            · obtain rfl : m = l1 := by omega
              have d8 : ¬ ((m : Int) < (m : Int)) := by omega
              clear hB
              go_wp2_with fail
              go_ret2
              refine ⟨_, by rw [HP2.out]; rfl, ?_, below_two HB0.out (RB.out _ HB2.out)⟩
              rw [HP2.out]
              refine ⟨_, wz.heap.size, 0, k, k, rfl, ⟨(fun e => by cases e), Nat.le_refl _⟩, ⟨by rw [stepTo_length]; exact HLN.out, fun _ => rfl, fun j a ha => ?_⟩⟩
              have hj : j < k := by
                have := (List.getElem?_eq_some_iff.1 ha).1
                rw [stepTo_length, ← HLN.out] at this
                exact this
              have ea : a = (stepTo L c.vars K c.vars.length).getD j ([], 0) := by rw [List.getD_eq_getElem?_getD, ha]; rfl
              have o := HO2.out j hj
              rw [← HL1.out] at ea
              have e1 := stepTo_first L c.vars K j m
              refine ⟨[(G j).1, (G j).2], rfl, fun i hi => ?_, (G j).1, by rw [o.2, ea], ?_, ?_, ?_⟩
              · have c0 := HR2.out.cell0 hj
                have c1 := HR2.out.cell1 hj
                rw [Nat.zero_add]
                match i, hi with
                | 0, _ => exact c0
                | 1, _ => exact c1
              · rw [ea, e1]
                exact Dm.readsN_of_owns o.1
              · rw [ea]
                exact stepTo_lt (doms_lt HSS.out) _ _ _ _
              · rw [ea, e1]
                have := HMM.out (L.getD j ([], 0)) (by rw [List.getD_eq_getElem?_getD, List.getElem?_eq_getElem (by rw [← HLN.out]; exact hj)]; exact List.getElem_mem _)
                exact Nat.le_trans this (by decide)
end Go.Proofs.YtakooocmnapjmaaDoor.St
