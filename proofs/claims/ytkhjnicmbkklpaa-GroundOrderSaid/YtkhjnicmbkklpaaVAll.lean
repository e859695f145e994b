/-
  What All and Holds of package ground, and All of the document's answers, answer, at every constraints and every row that can be read.
-/
import Derived.Test.YtkhjnicmbkklpaaVPAll
namespace Go.Proofs.Ytkhjnicmbkklpaa.Gr
open Go.RowKit
set_option maxRecDepth 100000

theorem right_row {l : List PCon} {row : List Int} (h : rightG l row = true) : rowOk row = true ∧ ∀ c ∈ l, rightC c (row.length : Int) = true := by
  unfold rightG at h
  simp only [Bool.and_eq_true] at h
  exact ⟨h.1, fun c hc => List.all_eq_true.1 h.2 c hc⟩

set_option maxHeartbeats 2000000 in
theorem gall_cells (pr : Option Addr) (br orr lr cr : Nat) (l : List PCon) (row : List Int) (v : Value) (w : World) (h : Slc rCon 6 w v l) (hr : Nums w pr br orr lr row) (hll : l.length ≤ 1000) (hlr : lr ≤ 1000) (hs : ∀ c ∈ l, Short 1000 c) :
    Calls Try.prog 12 #[v, .slice pr lr cr] w fun e w' => e = .returned (.bool (allG l row)) ∧ Below w.heap.size w w' := by
  obtain ⟨W0, hW0⟩ : ∃ W0, W0 = w.alloc (.cells #[.slice pr lr cr] 23) := ⟨_, rfl⟩
  have hB0 : Below w.heap.size w W0 := by rw [hW0]; exact (Below.refl _ w).alloc (Nat.le_refl _) _
  have hbx : W0.cell? ⟨w.heap.size, 0, none⟩ = some (.slice pr lr cr) := by rw [hW0]; go_simp
  have hle := hr.long
  have CR := Lib.hid (gright_cells pr br orr lr cr l row v W0 (h.below rCon_stays hB0) (nums_stay hr hB0) hll hlr hs)
  have CA := Lib.hid (fun (hg : rightG l row = true) (u : World) (hB : Below W0.heap.size W0 u) => hasC_any 20 enters_all1 #[.pointer (some ⟨w.heap.size, 0, none⟩)] (fun c => !holdsG c row) (h.below rCon_stays (hB0.trans (hB.mono hB0.size))) (by omega) (fun u2 x v1 v2 v3 hB2 hx hc => each_any pr br orr w.heap.size lr cr u2 hc (hs x hx) (nums_stay (nums_stay (nums_stay hr hB0) hB) hB2) (cell_stays hB2 (cell_stays hB hbx)) (right_row hg).1 (by rw [hle]; exact (right_row hg).2 x hx)))
  rw [any_not] at CA
  obtain ⟨R, hR⟩ : ∃ R, R = allG l row := ⟨_, rfl⟩
  rw [← hR]
  have e1 : R = (rightG l row && l.all fun c => holdsG c row) := hR
  obtain ⟨Q, hQ⟩ : ∃ Q, Q = l.all fun c => holdsG c row := ⟨_, rfl⟩
  rw [← hQ] at CA e1
  obtain ⟨pv, bv, ov, cv, lv, rfl, _, _⟩ := h
  have HB0 := Lib.hid hB0
  have HW := Lib.hid hW0
  have HBX := Lib.hid hbx
  clear hR hQ hB0 hW0 hle hr hs hbx
  cases e : rightG l row
  · rw [e] at CR e1
    have key : R = false := e1
    subst key
    clear e e1
    have hbx := HBX.out
    go_enter Try.func12, Try.ntmps12
    go_upto_region 1 with fail
    rw [← HW.out]
    go_wp2_with fail
    refine CR.out.mono ?_
    rintro e w2 ⟨rfl, hB⟩
    have HB := Lib.hid (HB0.out.trans (hB.mono HB0.out.size))
    clear hB
    go_wp2_with fail
    go_ret
    exact ⟨rfl, HB.out⟩
  · have CB := Lib.hid (CA.out e)
    rw [e] at CR e1
    have key : R = Q := e1
    subst key
    clear e e1 CA
    have hbx := HBX.out
    go_enter Try.func12, Try.ntmps12
    go_upto_region 1 with fail
    rw [← HW.out]
    go_wp2_with fail
    refine CR.out.mono ?_
    rintro e w2 ⟨rfl, hB⟩
    have HB := Lib.hid hB
    clear hB
    go_wp2_with fail
    refine (CB.out _ HB.out).mono ?_
    rintro e w3 ⟨rfl, hB⟩
    have HB3 := Lib.hid (HB0.out.trans ((HB.out.trans (hB.mono HB.out.size)).mono HB0.out.size))
    clear hB
    go_wp2_with fail
    go_ret
    exact ⟨ret_b (by cases R <;> rfl), HB3.out⟩

/-- one constraint in new memory reads as a list of it -/
theorem slc_one {w : World} {v0 v1 v2 v3 v4 v5 : Value} {c : PCon} {b : Nat} (h6 : At6 w b v0 v1 v2 v3 v4 v5) (h : rCon w [v0, v1, v2, v3, v4, v5] c) : Slc rCon 6 w (.slice (some ⟨b, 0, none⟩) 1 1) [c] :=
  ⟨_, b, 0, 1, 1, rfl, ⟨fun h => (by cases h), Nat.le_refl _⟩, rfl, fun _ => rfl, fun k a hk => by
    obtain rfl : k = 0 := by
      have := (List.getElem?_eq_some_iff.1 hk).1
      simpa using this
    obtain rfl : c = a := by simpa using hk
    refine ⟨[v0, v1, v2, v3, v4, v5], rfl, fun j hj => ?_, h⟩
    rw [Nat.zero_mul, Nat.add_zero, Nat.zero_add]
    match j, hj with
    | 0, _ => exact h6.c0
    | 1, _ => exact h6.c1
    | 2, _ => exact h6.c2
    | 3, _ => exact h6.c3
    | 4, _ => exact h6.c4
    | 5, _ => exact h6.c5⟩

set_option maxHeartbeats 1000000 in
theorem gholds_any (pr : Option Addr) (br orr lr cr : Nat) (row : List Int) (w : World) {c : PCon} {v1 v2 v3 : Value} (h : rCon w [.int .i64 c.kind, v1, v2, .int .i64 c.rel, .int .i64 c.const, v3] c) (hs : Short 1000 c) (hr : Nums w pr br orr lr row) (hlr : lr ≤ 1000) :
    Calls Try.prog 8 #[.agg #[.int .i64 c.kind, v1, v2, .int .i64 c.rel, .int .i64 c.const, v3], .slice pr lr cr] w fun e w' => e = .returned (.bool (allG [c] row)) ∧ Below w.heap.size w w' := by
  obtain ⟨⟨p1, l1, c1, rfl⟩, ⟨p2, l2, c2, rfl⟩, ⟨p3, l3, c3, rfl⟩⟩ := rCon_shape h
  obtain ⟨R, hR⟩ : ∃ R, R = allG [c] row := ⟨_, rfl⟩
  obtain ⟨W0, hW0⟩ : ∃ W0, W0 = w.alloc (.cells #[.int .i64 c.kind, .slice p1 l1 c1, .slice p2 l2 c2, .int .i64 c.rel, .int .i64 c.const, .slice p3 l3 c3] 27) := ⟨_, rfl⟩
  have hB0 : Below w.heap.size w W0 := by rw [hW0]; exact (Below.refl _ w).alloc (Nat.le_refl _) _
  have h6 : At6 W0 w.heap.size (.int .i64 c.kind) (.slice p1 l1 c1) (.slice p2 l2 c2) (.int .i64 c.rel) (.int .i64 c.const) (.slice p3 l3 c3) := by rw [hW0]; exact six_new _ _ _ _ _ _ _ _
  obtain ⟨W1, hW1⟩ : ∃ W1, W1 = W0.alloc (.cells #[.int .i64 c.kind, .slice p1 l1 c1, .slice p2 l2 c2, .int .i64 c.rel, .int .i64 c.const, .slice p3 l3 c3] 27) := ⟨_, rfl⟩
  have hB1 : Below W0.heap.size W0 W1 := by rw [hW1]; exact (Below.refl _ W0).alloc (Nat.le_refl _) _
  have k6 : At6 W1 W0.heap.size (.int .i64 c.kind) (.slice p1 l1 c1) (.slice p2 l2 c2) (.int .i64 c.rel) (.int .i64 c.const) (.slice p3 l3 c3) := by rw [hW1]; exact six_new _ _ _ _ _ _ _ _
  have hB := hB0.trans (hB1.mono hB0.size)
  have C := Lib.hid (gall_cells pr br orr lr cr [c] row (.slice (some ⟨W0.heap.size, 0, none⟩) 1 1) W1 (slc_one k6 (rCon_stays _ _ _ _ hB h)) (nums_stay hr hB) (by simp) hlr (fun x hx => by simp at hx; subst hx; exact hs))
  rw [← hR] at C ⊢
  obtain ⟨m0, m1, m2, m3, m4, m5⟩ := h6
  obtain ⟨kd, ekd⟩ : ∃ kd, kd = c.kind := ⟨_, rfl⟩
  obtain ⟨rl, erl⟩ : ∃ rl, rl = c.rel := ⟨_, rfl⟩
  obtain ⟨ct, ect⟩ : ∃ ct, ct = c.const := ⟨_, rfl⟩
  rw [← ekd, ← erl, ← ect] at hW0 hW1 ⊢
  rw [← ekd] at m0
  rw [← erl] at m3
  rw [← ect] at m4
  have HB := Lib.hid hB
  have HW := Lib.hid hW0
  have HW1 := Lib.hid hW1
  clear hB0 hB1 hB hW0 hW1 k6 hR h hs hr ekd erl ect
  go_enter Try.func8, Try.ntmps8
  go_upto_region 1 with fail
  rw [← HW.out]
  go_wp2_with fail
  rw [← HW1.out]
  refine C.out.mono ?_
  rintro e w2 ⟨rfl, hB⟩
  have HB2 := Lib.hid (HB.out.trans (hB.mono HB.out.size))
  clear hB
  go_wp2_with fail
  go_ret
  exact ⟨rfl, HB2.out⟩

theorem rholds_any (pr : Option Addr) (br orr lr cr : Nat) (row : List Int) (w : World) {c : PCon} {v1 v2 v3 : Value} (h : rCon w [.int .i64 c.kind, v1, v2, .int .i64 c.rel, .int .i64 c.const, v3] c) (hs : Short 1000 c) (hr : Nums w pr br orr lr row) (hok : rowOk row = true) (hrt : rightC c (lr : Int) = true) :
    Calls Try.prog 13 #[.agg #[.int .i64 c.kind, v1, v2, .int .i64 c.rel, .int .i64 c.const, v3], .slice pr lr cr] w fun e w' => e = .returned (.bool (holdsG c row)) ∧ Below w.heap.size w w' := by
  obtain ⟨u1, u2, u3, e, ⟨_, _, f3⟩, ⟨p1, b1, o1, c1, l1, e1, hc1, h1⟩, ⟨p2, b2, o2, c2, l2, e2, _, h2⟩, ⟨p3, b3, o3, c3, l3, e3, hc3, h3⟩⟩ := h
  subst e1 e2 e3
  simp only [List.cons.injEq, and_true, true_and] at e
  obtain ⟨rfl, rfl, rfl⟩ := e
  exact rholds_cells p1 p2 p3 pr b1 o1 c1 l1 b2 o2 c2 l2 b3 o3 c3 l3 br orr cr lr c row w (nums_of h1) (nums_of h2) (nums_of h3) hr hc1.2 (by rw [h1.long]; exact hs.1) (by rw [h3.long]; exact hs.2.2) hok hrt f3

set_option maxHeartbeats 2000000 in
theorem rall_cells (pr : Option Addr) (br orr lr cr : Nat) (l : List PCon) (row : List Int) (v : Value) (w : World) (h : Slc rCon 6 w v l) (hr : Nums w pr br orr lr row) (hll : l.length ≤ 1000) (hlr : lr ≤ 1000) (hs : ∀ c ∈ l, Short 1000 c) :
    Calls Try.prog 9 #[v, .slice pr lr cr] w fun e w' => e = .returned (.bool (allG l row)) ∧ Below w.heap.size w w' := by
  obtain ⟨pv, bv, ov, cv, lv, rfl, _, hsl⟩ := h
  have hle := hr.long
  have CR := Lib.hid (rright_cells pv bv ov cv lv pr br orr cr lr l row w hsl hr (by rw [hsl.long]; exact hll) hlr hs)
  obtain ⟨R, hR⟩ : ∃ R, R = allG l row := ⟨_, rfl⟩
  rw [← hR]
  have e1 : R = (rightG l row && l.all fun c => holdsG c row) := hR
  have HL := Lib.hid hsl
  have HN := Lib.hid hr
  have HS := Lib.hid hs
  have q1 := hsl.at_
  have e2 := Lib.hid hsl.long
  have hlv : lv ≤ 1000 := by rw [hsl.long]; exact hll
  have HLE := Lib.hid hle
  clear hR hle hr hs hsl hll
  cases e : rightG l row
  · rw [e] at CR e1
    have key : R = false := e1
    subst key
    clear e e1
    go_enter Try.func9, Try.ntmps9
    go_wp2_with fail
    refine CR.out.mono ?_
    rintro e w2 ⟨rfl, hB⟩
    have HB := Lib.hid hB
    clear hB
    go_wp2_with fail
    go_ret
    exact ⟨rfl, HB.out⟩
  · have HG := Lib.hid (right_row e)
    rw [e] at CR e1
    have HR := Lib.hid (show R = l.all fun c => holdsG c row from e1)
    clear e e1
    go_enter Try.func9, Try.ntmps9
    go_wp2_with fail
    refine CR.out.mono ?_
    rintro e w2 ⟨rfl, hB⟩
    have HB := Lib.hid hB
    clear hB
    go_wp2_with fail
    go_loopw [5] (fun i wr => (∃ j : Nat, j ≤ lv ∧ i = .int .i64 j ∧ ∀ (j' : Nat) (c : PCon), j' < j → l[j']? = some c → holdsG c row = true) ∧ Below w.heap.size w wr) (fun i _ => lv - (intOf i).toNat)
    case atStart => exact ⟨⟨0, by omega, rfl, fun j c h => by omega⟩, HB.out⟩
    case round =>
      rename_i wr
      obtain ⟨⟨j, hj, rfl, hrel⟩, hB⟩ := hrel
      have HJ := Lib.hid hrel
      have HBr := Lib.hid hB
      clear hrel hB
      by_cases hlj : j < lv
      · obtain rfl := q1 (by omega)
        obtain ⟨c, v1, v2, v3, hc, ⟨c0, c1, c2, c3, c4, c5⟩, hrc⟩ := con_at2 (HL.out.below rCon_stays HBr.out) hlj
        have HC := Lib.hid hc
        have hmem := List.mem_of_getElem? hc
        have CA := Lib.hid (rholds_any pr br orr lr cr row wr hrc (HS.out c hmem) (nums_stay HN.out HBr.out) HG.out.1 (by rw [HLE.out]; exact HG.out.2 c hmem))
        clear hc hmem
        obtain ⟨b, hb⟩ : ∃ b, b = holdsG c row := ⟨_, rfl⟩
        rw [← hb] at CA
        have HBB := Lib.hid hb
        obtain ⟨⟨p1, l1, k1, rfl⟩, ⟨p2, l2, k2, rfl⟩, ⟨p3, l3, k3, rfl⟩⟩ := rCon_shape hrc
        clear hb hrc
        cases b
        · have key : R = false := by rw [HR.out]; exact cons_bad HC.out HBB.out.symm
          subst key
          go_wp2_with fail
          refine CA.out.mono ?_
          rintro e w' ⟨rfl, hw⟩
          have HB2 := Lib.hid (HBr.out.trans (hw.mono HBr.out.size))
          clear hw
          go_wp2_with fail
          go_ret
          exact ⟨rfl, HB2.out⟩
        · have NX := Lib.hid (show ∀ (j' : Nat) (c : PCon), j' < j + 1 → l[j']? = some c → holdsG c row = true from fun j' c' hj' hc' => by
            by_cases h : j' < j
            · exact HJ.out j' c' h hc'
            · obtain rfl : j' = j := by omega
              rw [HC.out] at hc'
              obtain rfl := Option.some.inj hc'
              exact HBB.out.symm)
          go_wp2_with fail
          refine CA.out.mono ?_
          rintro e w' ⟨rfl, hw⟩
          have HB2 := Lib.hid (HBr.out.trans (hw.mono HBr.out.size))
          clear hw
          go_wp2_with fail
          go_roundw
          case rel => exact ⟨⟨j + 1, by omega, by go_num, NX.out⟩, HB2.out⟩
          case measure => simp [intOf]; omega
      · obtain rfl : j = lv := by omega
        have key : R = true := by
          rw [HR.out]
          exact cons_good fun i c hc => HJ.out i c (by
            have := (List.getElem?_eq_some_iff.1 hc).1
            rw [← e2.out] at this
            exact this) hc
        subst key
        go_wp2_with fail
        go_ret
        exact ⟨rfl, HBr.out⟩
end Go.Proofs.Ytkhjnicmbkklpaa.Gr
