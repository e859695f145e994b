/-
  Of single values all is left just if the constraint holds; no row that holds loses a value; of a rel and its contrary each value is left by one. Nothing of the program.
  What the document's Right and Holds answer of one constraint.
  The law LinearSound, at every constraint, all domains and every row.
-/
import Derived.Test.YtakooocmnapjmaaDoorZYBT
import Derived.Test.YtakooocmnapjmaaDoorZYBU
import Derived.Test.YtakooocmnapjmaaDoorZYBG
namespace Go.Proofs.YtakooocmnapjmaaDoor.St
open Go.RowKit
set_option maxRecDepth 100000

/-- domains of single values, of variables -/
def oneD (row vars : List Int) : List (List Int × Nat) := vars.map fun v => ([Gr.val row v], 1)
theorem oneD_length (row vars : List Int) : (oneD row vars).length = vars.length := by simp [oneD]
theorem oneD_drop (row vars : List Int) : (oneD row vars).drop 1 = oneD row (vars.drop 1) := by simp [oneD]
theorem oneD_get {row vars : List Int} {k : Nat} (h : k < vars.length) : (oneD row vars).getD k ([], 0) = ([Gr.val row (vars.getD k 0)], 1) := by
  unfold oneD
  rw [List.getD_eq_getElem?_getD, List.getElem?_map, List.getElem?_eq_getElem h]
  simp [List.getD, List.getElem?_eq_getElem h]
theorem one_may {v : Int} (h : -1048576 ≤ v ∧ v ≤ 1048576) : Dm.mayL [v] 1 = true := by
  rw [Dm.may_iff]
  refine ⟨by simp, by simp, ?_⟩
  simp [Dm.riseF, h.1, h.2]
theorem left_one {v : Int} (h : -1048576 ≤ v ∧ v ≤ 1048576) : leftOf ([v], 1) = [v] := by
  unfold leftOf Dm.leftM
  rw [if_pos (one_may h), Dm.left_len (one_may h)]
  rfl
theorem end_one {row ks vars : List Int} (hrow : Gr.rowOk row = true) {k : Nat} (hk : k < vars.length) : endP ks (oneD row vars) k = (ks.getD k 0 * Gr.val row (vars.getD k 0), ks.getD k 0 * Gr.val row (vars.getD k 0)) := by
  unfold endP
  rw [oneD_get hk, left_one (Gr.val_small hrow _)]
  simp
theorem tot_one {row ks vars : List Int} (hrow : Gr.rowOk row = true) (hl : vars.length ≤ ks.length) : ∀ j, j ≤ vars.length → totTo (endP ks (oneD row vars)) j = (Gr.sumG row 0 ((vars.zip ks).take j), Gr.sumG row 0 ((vars.zip ks).take j))
  | 0, _ => by simp [totTo, Gr.sumG]
  | j + 1, hj => by
    have hz : j < (vars.zip ks).length := by rw [List.length_zip]; omega
    rw [List.take_succ_eq_append_getElem hz, List.getElem_zip, Gr.sum_step]
    simp only [totTo]
    rw [tot_one hrow hl j (by omega), end_one hrow (by omega : j < vars.length)]
    simp [List.getD, List.getElem?_eq_getElem (show j < vars.length by omega), List.getElem?_eq_getElem (show j < ks.length by omega)]
theorem sum_one {row ks vars : List Int} (hrow : Gr.rowOk row = true) (hl : vars.length ≤ ks.length) : totTo (endP ks (oneD row vars)) vars.length = (Gr.sumG row 0 (vars.zip ks), Gr.sumG row 0 (vars.zip ks)) := by
  rw [tot_one hrow hl _ (Nat.le_refl _), List.take_of_length_le (by rw [List.length_zip]; omega)]
theorem may_same {s rel ag : Int} (h : 0 ≤ rel ∧ rel ≤ 5) : mayG s s rel ag = Su.holdsB s rel ag := by
  rw [Bool.eq_iff_iff]
  rcases (by omega : rel = 0 ∨ rel = 1 ∨ rel = 2 ∨ rel = 3 ∨ rel = 4 ∨ rel = 5) with rfl | rfl | rfl | rfl | rfl | rfl <;> simp [mayG, Su.holdsB] <;> omega
theorem holds_not {s rel ag : Int} (h : 0 ≤ rel ∧ rel ≤ 5) : Su.holdsB s (contrary rel) ag = !Su.holdsB s rel ag := by
  rw [Bool.eq_iff_iff]
  rcases (by omega : rel = 0 ∨ rel = 1 ∨ rel = 2 ∨ rel = 3 ∨ rel = 4 ∨ rel = 5) with rfl | rfl | rfl | rfl | rfl | rfl <;> simp [contrary, Su.holdsB]
theorem contrary_two (r : Int) : contrary (contrary r) = r := by
  by_cases h : 0 ≤ r ∧ r ≤ 5
  · rcases (by omega : r = 0 ∨ r = 1 ∨ r = 2 ∨ r = 3 ∨ r = 4 ∨ r = 5) with rfl | rfl | rfl | rfl | rfl | rfl <;> decide
  · have : contrary r = r := by unfold contrary; rw [if_pos (by omega)]
    rw [this, this]
theorem contrary_ne {r : Int} (h : 0 ≤ r ∧ r ≤ 5) : contrary r ≠ r := by
  rcases (by omega : r = 0 ∨ r = 1 ∨ r = 2 ∨ r = 3 ∨ r = 4 ∨ r = 5) with rfl | rfl | rfl | rfl | rfl | rfl <;> decide
theorem may_other {lo hi rel ag : Int} (hr : 0 ≤ rel ∧ rel ≤ 5) (h : lo ≤ hi) (hn : mayG lo hi rel ag = false) : mayG lo hi (contrary rel) ag = true := by
  rcases (by omega : rel = 0 ∨ rel = 1 ∨ rel = 2 ∨ rel = 3 ∨ rel = 4 ∨ rel = 5) with rfl | rfl | rfl | rfl | rfl | rfl <;> simp [mayG, contrary] at hn ⊢ <;> omega
theorem sumK_one {row ks vars : List Int} {rel ag : Int} (hrow : Gr.rowOk row = true) (hl : vars.length ≤ ks.length) (hr : 0 ≤ rel ∧ rel ≤ 5) {a : Nat} (ha : a < vars.length) : sumK ks (endP ks (oneD row vars)) vars.length rel ag a (Gr.val row (vars.getD a 0)) = Gr.sumH row vars ks rel ag := by
  unfold sumK Gr.sumH
  rw [sum_one hrow hl, end_one hrow ha, ← may_same hr]
  simp only
  congr 1 <;> omega
/-- of single values a value is kept just if the constraint holds -/
theorem keep_single {c : PCon} {row : List Int} {n : Int} (hr : rightC c n = true) (hrow : Gr.rowOk row = true) (hk : c.kind = 1 ∨ c.kind = 3) {a : Nat} (ha : a < c.vars.length) : keepK c.kind c.coefs (oneD row c.vars) c.rel c.const a (Gr.val row (c.vars.getD a 0)) = Gr.holdsG c row := by
  have w : ((oneD row c.vars).any fun d => decide ((leftOf d).length = 0)) = false := by
    rw [List.any_eq_false]
    intro d hd
    obtain ⟨v, _, rfl⟩ := List.mem_map.1 hd
    rw [left_one (Gr.val_small hrow _)]
    simp
  have hln := right_lin hr
  by_cases h1 : c.kind = 1
  · obtain ⟨_, _, h3, _, h5, h6, _⟩ := Gr.lin_parts.1 (hln.1 h1)
    rw [keep_one w.symm h1, oneD_length, sumK_one hrow (by omega) ⟨h5, h6⟩ ha]
    unfold Gr.holdsG
    rw [if_pos h1]
  · have h3 : c.kind = 3 := hk.resolve_left h1
    obtain ⟨g1, _, g3, _, g5, g6, _⟩ := Gr.lin_parts.1 (hln.2 h3)
    have hd : (c.vars.drop 1).length = c.vars.length - 1 := List.length_drop
    have hld : (c.vars.drop 1).length ≤ c.coefs.length := by omega
    have h0 : 0 < c.vars.length := by omega
    have hvs := Gr.val_small hrow (c.vars.getD 0 0)
    rw [keep_three w.symm h1, oneD_length, oneD_drop, oneD_get h0, left_one hvs, ← hd, sum_one hrow hld]
    simp only
    rw [may_same ⟨g5, g6⟩, may_same (contrary_in ⟨g5, g6⟩), holds_not ⟨g5, g6⟩]
    have hH : Gr.holdsG c row = (decide (Gr.val row (c.vars.getD 0 0) = 0 ∨ Gr.val row (c.vars.getD 0 0) = 1) && (Gr.sumH row (c.vars.drop 1) c.coefs c.rel c.const == decide (Gr.val row (c.vars.getD 0 0) = 1))) := by
      unfold Gr.holdsG
      rw [if_neg h1, if_neg (by omega), if_pos h3]
    rw [hH]
    have hS : ∀ b, b < (c.vars.drop 1).length → sumK c.coefs (endP c.coefs (oneD row (c.vars.drop 1))) (c.vars.drop 1).length c.rel c.const b (Gr.val row ((c.vars.drop 1).getD b 0)) = Gr.sumH row (c.vars.drop 1) c.coefs c.rel c.const := fun b hb => sumK_one hrow hld ⟨g5, g6⟩ hb
    have hN : ∀ b, b < (c.vars.drop 1).length → sumK c.coefs (endP c.coefs (oneD row (c.vars.drop 1))) (c.vars.drop 1).length (contrary c.rel) c.const b (Gr.val row ((c.vars.drop 1).getD b 0)) = !Gr.sumH row (c.vars.drop 1) c.coefs c.rel c.const := fun b hb => by
      rw [sumK_one hrow hld (contrary_in ⟨g5, g6⟩) hb]
      unfold Gr.sumH
      exact holds_not ⟨g5, g6⟩
    rw [show Su.holdsB (Gr.sumG row 0 ((c.vars.drop 1).zip c.coefs)) c.rel c.const = Gr.sumH row (c.vars.drop 1) c.coefs c.rel c.const from rfl]
    obtain ⟨S, hSe⟩ : ∃ S, S = Gr.sumH row (c.vars.drop 1) c.coefs c.rel c.const := ⟨_, rfl⟩
    rw [← hSe] at hS hN ⊢
    unfold iffK
    by_cases a0 : a = 0
    · subst a0
      rw [if_pos rfl]
      generalize Gr.val row (c.vars.getD 0 0) = v0
      by_cases v1 : v0 = 1
      · subst v1; cases S <;> decide
      · by_cases v2 : v0 = 0
        · subst v2; cases S <;> decide
        · simp [v1, v2]
    · rw [if_neg a0]
      obtain ⟨b, rfl⟩ : ∃ b, a = b + 1 := ⟨a - 1, by omega⟩
      have hb : b < (c.vars.drop 1).length := by omega
      have hSb := hS b hb
      have hNb := hN b hb
      have eb : c.vars.getD (b + 1) 0 = (c.vars.drop 1).getD b 0 := by rw [drop_getD, Nat.add_comm]
      rw [eb, show b + 1 - 1 = b from rfl]
      unfold othK
      by_cases v1 : Gr.val row (c.vars.getD 0 0) = 1
      · rw [v1, if_pos (by decide), if_neg (by decide), hSb]
        cases S <;> decide
      · by_cases v2 : Gr.val row (c.vars.getD 0 0) = 0
        · rw [v2, if_neg (by decide), if_pos (by decide), hNb]
          cases S <;> decide
        · rw [if_neg (by simp; exact fun e => v1 e.symm), if_neg (by simp; exact fun e => v2 e.symm)]
          rw [show decide (Gr.val row (c.vars.getD 0 0) = 0 ∨ Gr.val row (c.vars.getD 0 0) = 1) = false from decide_eq_false (by omega)]
          rfl
theorem left_row {row : List Int} {L : List (List Int × Nat)} (h : leftB row L = true) : row.length = L.length ∧ ∀ i, i < L.length → row.getD i 0 ∈ leftOf (L.getD i ([], 0)) := of_decide_eq_true h
theorem within_law {c : PCon} {L : List (List Int × Nat)} (h : rightP c L = true) : withinB (stepP c L).1 L = true := by
  obtain ⟨_, _, hm⟩ := rightP_parts h
  rw [stepP_on h]
  unfold withinB
  rw [decide_eq_true_eq]
  refine ⟨stepTo_length _ _ _ _, fun i hi => ?_⟩
  rw [stepTo_length] at hi
  have hmi := hm i hi
  rcases step_at h i with e | ⟨a, ha, hai, e⟩
  · rw [e]
    exact ⟨rfl, (sub_iff (may_lt64 hmi) (may_lt64 hmi)).2 fun _ _ hb => hb⟩
  · rw [e]
    refine ⟨rfl, (sub_iff (Dm.keep_lt _ _ _) (may_lt64 hmi)).2 fun k hk hb => ?_⟩
    rw [Dm.keep_bit _ _ _ _ hk] at hb
    simp only [Bool.and_eq_true] at hb
    exact hb.1
/-- no row that holds loses a value -/
theorem sound_law {c : PCon} {L : List (List Int × Nat)} {row : List Int} (h : rightP c L = true) (hl : leftB row L = true) (hr : Gr.rightG [c] row = true) (hh : Gr.holdsG c row = true) : leftB row (stepP c L).1 = true := by
  obtain ⟨hk, hrc, hm⟩ := rightP_parts h
  obtain ⟨hlen, hin⟩ := left_row hl
  rw [Gr.rightG_one, Bool.and_eq_true] at hr
  rw [stepP_on h]
  unfold leftB
  rw [decide_eq_true_eq]
  refine ⟨by rw [stepTo_length]; exact hlen, fun i hi => ?_⟩
  rw [stepTo_length] at hi
  rcases step_at h i with e | ⟨a, ha, hai, e⟩
  · rw [e]; exact hin i hi
  · rw [e]
    refine (left_keep (hm i hi) _ _).2 ⟨hin i hi, ?_⟩
    have ev : row.getD i 0 = Gr.val row (c.vars.getD a 0) := by unfold Gr.val; rw [hai]
    rw [ev]
    refine keep_falls (D' := oneD row c.vars) (by rw [oneD_length, doms_length]) (fun j hj y hy => ?_) (by rw [doms_length]; exact ha) ((keep_single hrc hr.1 hk ha).trans hh)
    rw [doms_length] at hj
    rw [oneD_get hj, left_one (Gr.val_small hr.1 _)] at hy
    obtain rfl : y = Gr.val row (c.vars.getD j 0) := by simpa using hy
    rw [doms_get hj]
    have hjn : (c.vars.getD j 0).toNat < L.length := by have := (right_vars hrc j hj).1; omega
    exact hin _ hjn
end Go.Proofs.YtakooocmnapjmaaDoor.St
namespace Go.Proofs.YtakooocmnapjmaaDoor.St
open Go.RowKit
set_option maxRecDepth 100000

theorem rhold_any {pr : Option Addr} {br orr lr cr : Nat} {row : List Int} {w : World} {c : PCon} {v1 v2 v3 : Value} (h : rCon w [.int .i64 c.kind, v1, v2, .int .i64 c.rel, .int .i64 c.const, v3] c) (hs : Short 1000 c) (hr : Nums w pr br orr lr row) (hok : Gr.rowOk row = true) (hrt : rightC c (lr : Int) = true) :
    Calls Tryd.prog 17 #[.agg #[.int .i64 c.kind, v1, v2, .int .i64 c.rel, .int .i64 c.const, v3], .slice pr lr cr] w fun e w' => e = .returned (.bool (Gr.holdsG c row)) ∧ Below w.heap.size w w' := by
  obtain ⟨u1, u2, u3, e, ⟨_, _, f3⟩, ⟨p1, b1, o1, c1, l1, e1, hc1, h1⟩, ⟨p2, b2, o2, c2, l2, e2, _, h2⟩, ⟨p3, b3, o3, c3, l3, e3, hc3, h3⟩⟩ := h
  subst e1 e2 e3
  simp only [List.cons.injEq, and_true, true_and] at e
  obtain ⟨rfl, rfl, rfl⟩ := e
  exact Gr.rholds_cells p1 p2 p3 pr b1 o1 c1 l1 b2 o2 c2 l2 b3 o3 c3 l3 br orr cr lr c row w (nums_of h1) (nums_of h2) (nums_of h3) hr hc1.2 (by rw [h1.long]; exact hs.1) (by rw [h3.long]; exact hs.2.2) hok hrt f3
theorem one_con {w : World} {b : Nat} {t : TypeId} {a0 a1 a2 a3 a4 a5 : Value} {c : PCon} (h : w.heap[b]? = some (.cells #[a0, a1, a2, a3, a4, a5] t)) (r : rCon w [a0, a1, a2, a3, a4, a5] c) : SliceOf rCon 6 w (some ⟨b, 0, none⟩) b 0 1 [c] :=
  ⟨rfl, fun _ => rfl, fun k a hk => by
    match k, hk with
    | 0, hk =>
      obtain rfl : c = a := by simpa using hk
      refine ⟨_, rfl, fun j hj => ?_, r⟩
      rw [blk_in h]
      match j, hj with
      | 0, _ => rfl
      | 1, _ => rfl
      | 2, _ => rfl
      | 3, _ => rfl
      | 4, _ => rfl
      | 5, _ => rfl
    | k + 1, hk => simp at hk⟩
theorem rright1_any {pr : Option Addr} {br orr lr cr : Nat} {row : List Int} {w : World} {c : PCon} {z : Nat} {a1 a2 a3 : Value} (hr : Nums w pr br orr lr row) (hlr : lr ≤ 1000) (h : rCon w [.int .i64 c.kind, a1, a2, .int .i64 c.rel, .int .i64 c.const, a3] c) (hz : w.heap[z]? = some (.cells #[.int .i64 c.kind, a1, a2, .int .i64 c.rel, .int .i64 c.const, a3] 24)) (hs : Short 1000 c) :
    Calls Tryd.prog 16 #[.slice (some ⟨z, 0, none⟩) 1 1, .slice pr lr cr] w fun e w' => e = .returned (.bool (Gr.rightG [c] row)) ∧ Below w.heap.size w w' :=
  Gr.rright_cells (some ⟨z, 0, none⟩) z 0 1 1 pr br orr cr lr [c] row w (one_con hz h) hr (by decide) hlr (fun x hx => by simp at hx; subst hx; exact hs)
end Go.Proofs.YtakooocmnapjmaaDoor.St
namespace Go.Proofs.YtakooocmnapjmaaDoor.St
open Go.RowKit
set_option maxRecDepth 100000

set_option maxHeartbeats 8000000 in
theorem sound_any {w : World} {v1 v2 v3 v vr : Value} {c : PCon} {L : List (List Int × Nat)} {row : List Int} (hT : B.Tab w) (h0 : 0 < w.heap.size) (hc : rCon w [.int .i64 c.kind, v1, v2, .int .i64 c.rel, .int .i64 c.const, v3] c) (h : Slc rDom 2 w v L) (hrow : Slc rNum 1 w vr row) :
    Calls Tryd.prog 4 #[.agg #[.int .i64 c.kind, v1, v2, .int .i64 c.rel, .int .i64 c.const, v3], v, vr] w fun e w' => e = .returned (.bool true) ∧ Below w.heap.size w w' := by
  obtain ⟨W0, hW0⟩ : ∃ W0, W0 = w.alloc (.cells #[.int .i64 c.kind, v1, v2, .int .i64 c.rel, .int .i64 c.const, v3] 24) := ⟨_, rfl⟩
  have hb0 : Below w.heap.size w W0 := by rw [hW0]; exact new_below _ _
  have HB0 := Lib.hid hb0
  have Q0 := Lib.hid (show ConAt W0 w.heap.size [.int .i64 c.kind, v1, v2, .int .i64 c.rel, .int .i64 c.const, v3] by rw [hW0]; exact six_at _ _ _ _ _ _ _ _)
  have HW := Lib.hid (show w.alloc (.cells #[.int .i64 c.kind, v1, v2, .int .i64 c.rel, .int .i64 c.const, v3] 24) = W0 from hW0.symm)
  have AW := Lib.hid (show Calls Tryd.prog 8 #[] W0 (fun e w' => e = .returned (.bool true) ∧ Below W0.heap.size W0 w') from awake_any (B.Tab.below hT h0 hb0) (Nat.lt_of_lt_of_le h0 hb0.size))
  have LG := Lib.hid (fun (u : World) (hb : Below w.heap.size w u) => large_any (rCon_stays _ _ _ _ hb hc) (h.below rDom_stays hb))
  have SP := Lib.hid (fun (hs : Short 1000 c) (hn : L.length ≤ 1000) (hm : ∀ d ∈ L, d.1.length ≤ 1000) (u : World) (hb : Below w.heap.size w u) => step_any (B.Tab.below hT h0 hb) (Nat.lt_of_lt_of_le h0 hb.size) (rCon_stays _ _ _ _ hb hc) hs (h.below rDom_stays hb) hn hm)
  have h2 := h
  obtain ⟨pr, br, orr, cr, lr, rfl, _, hsr⟩ := hrow
  have hnr := nums_of hsr
  have LF := Lib.hid (fun (hn : L.length ≤ 1000) (hm : ∀ d ∈ L, d.1.length ≤ 1000) (u : World) (hb : Below w.heap.size w u) => left_any (cr := cr) (nums_below hnr hb) (h.below rDom_stays hb) hn hm)
  have NR := Lib.hid hnr
  have RC := Lib.hid (fun (u : World) (hb : Below w.heap.size w u) => rCon_stays _ _ _ _ hb hc)
  have HD := Lib.hid h2
  obtain ⟨G, hG⟩ : ∃ b, b = largeS c L := ⟨_, rfl⟩
  rw [← hG] at LG
  have HG := Lib.hid hG
  clear hT h0 hc h h2 hsr hnr hW0 hb0 hG
  obtain ⟨q0, q1, q2, q3, q4, q5⟩ := Q0.out.six
  go_enter Tryd.func4, Tryd.ntmps4
  go_wp2_with fail
  rw [HW.out]
  refine AW.out.mono ?_
  rintro e w1 ⟨rfl, hB⟩
  have HB1 := Lib.hid (below_two HB0.out hB)
  have Q1 := Lib.hid (Q0.out.below hB)
  clear hB q0 q1 q2 q3 q4 q5
  obtain ⟨q0, q1, q2, q3, q4, q5⟩ := Q1.out.six
  go_wp2_with fail
  refine (LG.out _ HB1.out).mono ?_
  rintro e w2 ⟨rfl, hB⟩
  have HB2 := Lib.hid (below_two HB1.out hB)
  have Q2 := Lib.hid (Q1.out.below hB)
  clear hB q0 q1 q2 q3 q4 q5
  obtain ⟨q0, q1, q2, q3, q4, q5⟩ := Q2.out.six
  cases G
  · obtain ⟨l1, l2, l3⟩ := largeS_no HG.out.symm
    have hn : L.length ≤ 1000 := by omega
    have hm : ∀ d ∈ L, d.1.length ≤ 1000 := fun d hd => Nat.le_trans (l3 d hd) (by decide)
    have hs := short_up l2
    have SP2 := Lib.hid (SP.out hs hn hm _ HB2.out)
    have LF2 := Lib.hid (LF.out hn hm)
    have WI := Lib.hid (fun (u : World) (x : Value) (hx : Slc rDom 2 u x (stepP c L).1) (hy : Slc rDom 2 u v L) => within_any hx hy (stepP_rows hm) hm (stepP_length hn))
    have LA := Lib.hid (fun (u : World) (x : Value) (hx : Slc rDom 2 u x (stepP c L).1) (hb : Below w.heap.size w u) => left_any (cr := cr) (nums_below NR.out hb) hx (stepP_length hn) (stepP_rows hm))
    cases hR : rightP c L
    · rw [stepP_off hR] at SP2
      clear l1 l2 l3 hn hm hs hR WI LA
      go_wp2_with fail
      refine SP2.out.mono ?_
      rintro e w3 ⟨x3, rfl, hx, hB⟩
      obtain ⟨p3, b3, o3, c3, len3, rfl, _, hs3⟩ := hx
      obtain rfl : len3 = 0 := by simpa using hs3.long
      have HB3 := Lib.hid (below_two HB2.out hB)
      clear hs3 hB q0 q1 q2 q3 q4 q5
      go_wp2_with fail
      go_ret
      exact ⟨by simp, HB3.out⟩
    · rw [within_law hR] at WI
      have SL := Lib.hid (fun (q1 : leftB row L = true) (q2 : Gr.rightG [c] row = true) (q3 : Gr.holdsG c row = true) => sound_law hR q1 q2 q3)
      have E2 := Lib.hid (show (stepP c L).2 = 0 by rw [stepP_on hR])
      rw [E2.out] at SP2
      obtain ⟨A1, hA1⟩ : ∃ A, A = (stepP c L).1 := ⟨_, rfl⟩
      rw [← hA1] at SP2 WI LA SL
      have RR := Lib.hid (fun (hlr : lr ≤ 1000) (u : World) (z : Nat) (hb : Below w.heap.size w u) (hz : u.heap[z]? = some (.cells #[.int .i64 c.kind, v1, v2, .int .i64 c.rel, .int .i64 c.const, v3] 24)) => rright1_any (orr := orr) (cr := cr) (nums_below NR.out hb) hlr (RC.out u hb) hz hs)
      have RH := Lib.hid (fun (hok : Gr.rowOk row = true) (hrt : rightC c (lr : Int) = true) (u : World) (hb : Below w.heap.size w u) => rhold_any (cr := cr) (RC.out u hb) hs (nums_below NR.out hb) hok hrt)
      have NL := Lib.hid (show leftB row L = true → lr ≤ 1000 from fun q => by have := (left_row q).1; have := NR.out.long; omega)
      have RL := Lib.hid (show Gr.rightG [c] row = true → Gr.rowOk row = true ∧ rightC c (lr : Int) = true from fun q => by rw [Gr.rightG_one, Bool.and_eq_true] at q; rw [NR.out.long]; exact q)
      obtain ⟨LB, hLB⟩ : ∃ x, x = leftB row L := ⟨_, rfl⟩
      rw [← hLB] at LF2 SL NL
      obtain ⟨LC, hLC⟩ : ∃ x, x = leftB row A1 := ⟨_, rfl⟩
      rw [← hLC] at LA SL
      obtain ⟨RG, hRG⟩ : ∃ x, x = Gr.rightG [c] row := ⟨_, rfl⟩
      rw [← hRG] at RR RL SL
      obtain ⟨HG2, hHG⟩ : ∃ x, x = Gr.holdsG c row := ⟨_, rfl⟩
      rw [← hHG] at RH SL
      clear hA1 l1 l2 l3 hn hm hs hR hLB hLC hRG hHG E2
      go_wp2_with fail
      refine SP2.out.mono ?_
      rintro e w3 ⟨x3, rfl, hx, hB⟩
      have X3 := Lib.hid hx
      have HB3 := Lib.hid (below_two HB2.out hB)
      have Q3 := Lib.hid (Q2.out.below hB)
      clear hx hB q0 q1 q2 q3 q4 q5
      obtain ⟨q0, q1, q2, q3, q4, q5⟩ := Q3.out.six
      go_wp2_with fail
      refine (WI.out _ _ X3.out (HD.out.below rDom_stays HB3.out)).mono ?_
      rintro e w4 ⟨rfl, hB⟩
      have HB4 := Lib.hid (below_two HB3.out hB)
      have X4 := Lib.hid (X3.out.below rDom_stays hB)
      have Q4 := Lib.hid (Q3.out.below hB)
      clear hB q0 q1 q2 q3 q4 q5
      obtain ⟨q0, q1, q2, q3, q4, q5⟩ := Q4.out.six
      go_wp2_with fail
      refine (LF2.out _ HB4.out).mono ?_
      rintro e w5 ⟨rfl, hB⟩
      have HB5 := Lib.hid (below_two HB4.out hB)
      have X5 := Lib.hid (X4.out.below rDom_stays hB)
      have Q5 := Lib.hid (Q4.out.below hB)
      clear hB q0 q1 q2 q3 q4 q5
      obtain ⟨q0, q1, q2, q3, q4, q5⟩ := Q5.out.six
      cases LB
      · go_wp2_with fail
        go_ret
        exact ⟨by simp, HB5.out⟩
      · have hlr := NL.out rfl
        have ZB := Lib.hid (new_below w5 (.cells #[.int .i64 c.kind, v1, v2, .int .i64 c.rel, .int .i64 c.const, v3] 24))
        have ZR := Lib.hid (RR.out hlr (w5.alloc (.cells #[.int .i64 c.kind, v1, v2, .int .i64 c.rel, .int .i64 c.const, v3] 24)) w5.heap.size (below_two HB5.out ZB.out) (blk_new _ _))
        clear hlr
        go_wp2_with fail
        refine ZR.out.mono ?_
        rintro e w6 ⟨rfl, hB⟩
        have HB6 := Lib.hid (below_two HB5.out (below_two ZB.out hB))
        have X6 := Lib.hid (X5.out.below rDom_stays (below_two ZB.out hB))
        have Q6 := Lib.hid (Q5.out.below (below_two ZB.out hB))
        clear hB q0 q1 q2 q3 q4 q5
        obtain ⟨q0, q1, q2, q3, q4, q5⟩ := Q6.out.six
        cases RG
        · go_wp2_with fail
          go_ret
          exact ⟨by simp, HB6.out⟩
        · obtain ⟨g1, g2⟩ := RL.out rfl
          have ZH := Lib.hid (RH.out g1 g2 _ HB6.out)
          clear g1 g2
          go_wp2_with fail
          refine ZH.out.mono ?_
          rintro e w7 ⟨rfl, hB⟩
          have HB7 := Lib.hid (below_two HB6.out hB)
          have X7 := Lib.hid (X6.out.below rDom_stays hB)
          clear hB q0 q1 q2 q3 q4 q5
          cases HG2
          · go_wp2_with fail
            go_ret
            exact ⟨by simp, HB7.out⟩
          · have hC : LC = true := by simpa using SL.out
            subst hC
            go_wp2_with fail
            refine (LA.out _ _ X7.out HB7.out).mono ?_
            rintro e w8 ⟨rfl, hB⟩
            have HB8 := Lib.hid (below_two HB7.out hB)
            clear hB
            go_wp2_with fail
            go_ret
            exact ⟨by simp, HB8.out⟩
  · go_wp2_with fail
    go_ret
    exact ⟨rfl, HB2.out⟩
end Go.Proofs.YtakooocmnapjmaaDoor.St
