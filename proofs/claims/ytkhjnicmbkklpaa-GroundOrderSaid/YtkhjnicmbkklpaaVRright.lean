/-
  What Right of the document's answers for constraints and values answers.
-/
import Derived.Test.YtkhjnicmbkklpaaVRun
import Derived.Test.YtkhjnicmbkklpaaQCheck
namespace Go.Proofs.Ytkhjnicmbkklpaa.Gr
open Go.RowKit
set_option maxRecDepth 100000

set_option maxHeartbeats 1000000 in
theorem rright_cells (pl : Option Addr) (bl ol cl ll : Nat) (pr : Option Addr) (br orr cr lr : Nat) (l : List PCon) (row : List Int) (w : World) (h : SliceOf rCon 6 w pl bl ol ll l) (hr : Nums w pr br orr lr row) (hll : ll ≤ 1000) (hlr : lr ≤ 1000) (hs : ∀ c ∈ l, Short 1000 c) :
    Calls Try.prog 11 #[.slice pl ll cl, .slice pr lr cr] w fun e w' => e = .returned (.bool (rightG l row)) ∧ Below w.heap.size w w' := by
  obtain ⟨R, hR⟩ : ∃ R, R = rightG l row := ⟨_, rfl⟩
  rw [← hR]
  have HR := Lib.hid hR
  have HL := Lib.hid h
  have HN := Lib.hid hr
  have HS := Lib.hid hs
  have q1 := h.at_
  have q2 := hr.at_
  have e1 := Lib.hid h.long
  have e2 := Lib.hid hr.long
  clear hR h hr hs
  go_enter Try.func11, Try.ntmps11
  go_wp2_with fail
  go_loopw [5] (fun i wr => (∃ k : Nat, k ≤ lr ∧ i = .int .i64 k ∧ ∀ j, j < k → -1048576 ≤ row.getD j 0 ∧ row.getD j 0 ≤ 1048576) ∧ ∃ n, wr = w.drewN n) (fun i _ => lr - (intOf i).toNat)
  case atStart => exact ⟨⟨0, by omega, rfl, fun j h => by omega⟩, 0, rfl⟩
  case round =>
    obtain ⟨⟨k, hk, rfl, hrel⟩, n, rfl⟩ := hrel
    have HK := Lib.hid hrel
    clear hrel
    by_cases hlt : k < lr
    · obtain rfl := q2 (by omega)
      have a0 := HN.out.cell k hlt
      have hfx := HN.out.fit k hlt
      obtain ⟨x, ex⟩ : ∃ x, x = row.getD k 0 := ⟨_, rfl⟩
      rw [← ex] at a0 hfx
      unfold Fit at hfx
      have HE := Lib.hid ex
      clear ex
      by_cases g1 : x < -1048576
      · have key : R = false := by
          rw [HR.out, rightG, row_bad (k := k) (by rw [← e2.out]; exact hlt) (Or.inl (by rw [← HE.out]; exact g1))]; rfl
        subst key
        have d1 : decide (x < (-1048576 : Int)) = true := decide_eq_true g1
        go_wp2_with fail
        go_ret
        exact ⟨rfl, below_drewN (Below.refl _ w)⟩
      · have d1 : decide (x < (-1048576 : Int)) = false := decide_eq_false g1
        by_cases g2 : 1048576 < x
        · have key : R = false := by
            rw [HR.out, rightG, row_bad (k := k) (by rw [← e2.out]; exact hlt) (Or.inr (by rw [← HE.out]; exact g2))]; rfl
          subst key
          have d2 : decide ((1048576 : Int) < x) = true := decide_eq_true g2
          go_wp2_with fail
          go_ret
          exact ⟨rfl, below_drewN (Below.refl _ w)⟩
        · have d2 : decide ((1048576 : Int) < x) = false := decide_eq_false g2
          have NX := Lib.hid (show ∀ j, j < k + 1 → -1048576 ≤ row.getD j 0 ∧ row.getD j 0 ≤ 1048576 from fun j hj => by
            by_cases h : j < k
            · exact HK.out j h
            · obtain rfl : j = k := by omega
              rw [← HE.out]
              omega)
          go_wp2_with fail
          go_roundw
          case rel => exact ⟨⟨k + 1, by omega, by go_num, NX.out⟩, _, rfl⟩
          case measure => simp [intOf]; omega
    · obtain rfl : k = lr := by omega
      have hon : R = l.all fun c => rightC c (k : Int) := by
        rw [HR.out, rightG, row_good fun j hj => HK.out j (by rw [e2.out]; exact hj), Bool.true_and, ← e2.out]
      have HON := Lib.hid hon
      clear hon
      go_wp2_with fail
      go_loopw [6] (fun i wr => (∃ j : Nat, j ≤ ll ∧ i = .int .i64 j ∧ ∀ (j' : Nat) (c : PCon), j' < j → l[j']? = some c → rightC c (k : Int) = true) ∧ Below w.heap.size w wr) (fun i _ => ll - (intOf i).toNat)
      case atStart => exact ⟨⟨0, by omega, rfl, fun j c h => by omega⟩, below_drewN (Below.refl _ w)⟩
      case round =>
        rename_i wr
        obtain ⟨⟨j, hj, rfl, hrel⟩, hB⟩ := hrel
        have HJ := Lib.hid hrel
        have HB := Lib.hid hB
        clear hrel hB
        by_cases hlj : j < ll
        · obtain rfl := q1 (by omega)
          obtain ⟨c, v1, v2, v3, hc, ⟨c0, c1, c2, c3, c4, c5⟩, hrc⟩ := con_at2 (HL.out.below rCon_stays HB.out) hlj
          have HC := Lib.hid hc
          have CA := Lib.hid (show ∀ u, Below wr.heap.size wr u → Calls Try.prog 19 #[.agg #[.int .i64 c.kind, v1, v2, .int .i64 c.rel, .int .i64 c.const, v3], .int .i64 (k : Int)] u fun e w' => e = .returned (.bool (rightC c (k : Int))) ∧ Below u.heap.size u w' from
            fun u hu => rrcon_any (k : Int) (by unfold Fit; omega) (rCon_stays _ _ _ _ hu hrc) (HS.out c (List.mem_of_getElem? hc)))
          clear hc hrc
          obtain ⟨b, hb⟩ : ∃ b, b = rightC c (k : Int) := ⟨_, rfl⟩
          rw [← hb] at CA
          have HBB := Lib.hid hb
          clear hb
          cases b
          · have key : R = false := by rw [HON.out]; exact cons_bad HC.out HBB.out.symm
            subst key
            go_wp2_with fail
            refine (CA.out _ (Below.refl _ _)).mono ?_
            rintro e w' ⟨rfl, hw⟩
            have HB2 := Lib.hid (HB.out.trans (hw.mono HB.out.size))
            clear hw
            go_wp2_with fail
            go_ret
            exact ⟨rfl, HB2.out⟩
          · have NX := Lib.hid (show ∀ (j' : Nat) (c : PCon), j' < j + 1 → l[j']? = some c → rightC c (k : Int) = true from fun j' c' hj' hc' => by
              by_cases h : j' < j
              · exact HJ.out j' c' h hc'
              · obtain rfl : j' = j := by omega
                rw [HC.out] at hc'
                obtain rfl := Option.some.inj hc'
                exact HBB.out.symm)
            go_wp2_with fail
            refine (CA.out _ (Below.refl _ _)).mono ?_
            rintro e w' ⟨rfl, hw⟩
            have HB2 := Lib.hid (HB.out.trans (hw.mono HB.out.size))
            clear hw
            go_wp2_with fail
            go_roundw
            case rel => exact ⟨⟨j + 1, by omega, by go_num, NX.out⟩, HB2.out⟩
            case measure => simp [intOf]; omega
        · obtain rfl : j = ll := by omega
          have key : R = true := by
            rw [HON.out]
            exact cons_good fun i c hc => HJ.out i c (by
              have := (List.getElem?_eq_some_iff.1 hc).1
              rw [← e1.out] at this
              exact this) hc
          subst key
          go_wp2_with fail
          go_ret
          exact ⟨rfl, HB.out⟩
end Go.Proofs.Ytkhjnicmbkklpaa.Gr
