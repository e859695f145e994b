/-
  What Large of the laws answers: where it doesn't, there are few constraints, of few numbers each, and few values.
-/
import Derived.Test.YtkhjnicmbkklpaaVAll
namespace Go.Proofs.Ytkhjnicmbkklpaa.Gr
open Go.RowKit
set_option maxRecDepth 100000

open Classical in
/-- are there many constraints, or values, or numbers of a constraint? -/
noncomputable def largeB (l : List PCon) (lr : Nat) : Bool := !decide (l.length ≤ 40 ∧ lr ≤ 40 ∧ ∀ c ∈ l, Short 150 c)
open Classical in
theorem large_true {l : List PCon} {lr : Nat} (h : ¬ (l.length ≤ 40 ∧ lr ≤ 40 ∧ ∀ c ∈ l, Short 150 c)) : largeB l lr = true := by unfold largeB; rw [decide_eq_false h]; rfl
open Classical in
theorem large_false {l : List PCon} {lr : Nat} (h : l.length ≤ 40 ∧ lr ≤ 40 ∧ ∀ c ∈ l, Short 150 c) : largeB l lr = false := by unfold largeB; rw [decide_eq_true h]; rfl
open Classical in
theorem large_no {l : List PCon} {lr : Nat} (h : largeB l lr = false) : l.length ≤ 40 ∧ lr ≤ 40 ∧ ∀ c ∈ l, Short 150 c := by
  unfold largeB at h
  exact of_decide_eq_true (by simpa using h)
set_option maxHeartbeats 2000000 in
theorem large_any (pr : Option Addr) (lr cr : Nat) (l : List PCon) (v : Value) (w : World) (h : Slc rCon 6 w v l) :
    Calls Try.prog 7 #[v, .slice pr lr cr] w fun e w' => e = .returned (.bool (largeB l lr)) ∧ Below w.heap.size w w' := by
  obtain ⟨pv, bv, ov, cv, lv, rfl, _, hsl⟩ := h
  have HL := Lib.hid hsl
  have q1 := hsl.at_
  have e2 := Lib.hid hsl.long
  clear hsl
  obtain ⟨R, hR⟩ : ∃ R, R = largeB l lr := ⟨_, rfl⟩
  rw [← hR]
  have HR := Lib.hid hR
  clear hR
  by_cases g1 : 40 < lv
  · have d1 : decide ((40 : Int) < (lv : Int)) = true := decide_eq_true (by omega)
    have key : R = true := HR.out.trans (large_true fun h => by have := e2.out; omega)
    subst key
    go_enter Try.func7, Try.ntmps7
    go_wp2_with fail
    go_ret
    exact ⟨rfl, Below.refl _ _⟩
  · have d1 : decide ((40 : Int) < (lv : Int)) = false := decide_eq_false (by omega)
    by_cases g2 : 40 < lr
    · have d2 : decide ((40 : Int) < (lr : Int)) = true := decide_eq_true (by omega)
      have key : R = true := HR.out.trans (large_true fun h => by omega)
      subst key
      go_enter Try.func7, Try.ntmps7
      go_wp2_with fail
      go_ret
      exact ⟨rfl, Below.refl _ _⟩
    · have d2 : decide ((40 : Int) < (lr : Int)) = false := decide_eq_false (by omega)
      have G := Lib.hid (And.intro g1 g2)
      have g1' : lv ≤ 40 := by omega
      go_enter Try.func7, Try.ntmps7
      go_wp2_with fail
      go_loopw [17] (fun i wr => (∃ k : Nat, k ≤ lv ∧ i = .int .i64 k ∧ ∀ (j : Nat) (c : PCon), j < k → l[j]? = some c → Short 150 c) ∧ Below w.heap.size w wr) (fun i _ => lv - (intOf i).toNat)
      case atStart => exact ⟨⟨0, by omega, rfl, fun j c h => by omega⟩, Below.refl _ _⟩
      case round =>
        rename_i wr
        obtain ⟨⟨k, hk, rfl, hrel⟩, hB⟩ := hrel
        have HJ := Lib.hid hrel
        have HB := Lib.hid hB
        clear hrel hB
        by_cases hlt : k < lv
        · obtain rfl := q1 (by omega)
          obtain ⟨c, v1, v2, v3, hc, ⟨c0, c1, c2, c3, c4, c5⟩, hrc⟩ := con_at2 (HL.out.below rCon_stays HB.out) hlt
          have HC := Lib.hid hc
          obtain ⟨u1, u2, u3, e, _, ⟨p1, b1, o1, k1, l1, e1, _, h1⟩, ⟨p2, b2, o2, k2, l2, e2', _, h2⟩, ⟨p3, b3, o3, k3, l3, e3, _, h3⟩⟩ := hrc
          subst e1 e2' e3
          simp only [List.cons.injEq, and_true, true_and] at e
          obtain ⟨rfl, rfl, rfl⟩ := e
          have HS := Lib.hid (And.intro h1.long (And.intro h2.long h3.long))
          have HBn := Lib.hid (HB.out.alloc HB.out.size (.cells #[.int .i64 c.kind, .slice p1 l1 k1, .slice p2 l2 k2, .int .i64 c.rel, .int .i64 c.const, .slice p3 l3 k3] 27))
          generalize c.kind = kd at c0 HBn
          generalize c.rel = rl at c3 HBn
          generalize c.const = ct at c4 HBn
          clear hc h1 h2 h3
          by_cases t1 : 150 < l1
          · have f1 : decide ((150 : Int) < (l1 : Int)) = true := decide_eq_true (by omega)
            have key : R = true := HR.out.trans (large_true fun h => by have := h.2.2 c (List.mem_of_getElem? HC.out); have := HS.out; unfold Short at *; omega)
            subst key
            go_wp2_with fail
            go_ret
            exact ⟨rfl, HBn.out⟩
          · have f1 : decide ((150 : Int) < (l1 : Int)) = false := decide_eq_false (by omega)
            by_cases t2 : 150 < l2
            · have f2 : decide ((150 : Int) < (l2 : Int)) = true := decide_eq_true (by omega)
              have key : R = true := HR.out.trans (large_true fun h => by have := h.2.2 c (List.mem_of_getElem? HC.out); have := HS.out; unfold Short at *; omega)
              subst key
              go_wp2_with fail
              go_ret
              exact ⟨rfl, HBn.out⟩
            · have f2 : decide ((150 : Int) < (l2 : Int)) = false := decide_eq_false (by omega)
              by_cases t3 : 150 < l3
              · have f3 : decide ((150 : Int) < (l3 : Int)) = true := decide_eq_true (by omega)
                have key : R = true := HR.out.trans (large_true fun h => by have := h.2.2 c (List.mem_of_getElem? HC.out); have := HS.out; unfold Short at *; omega)
                subst key
                go_wp2_with fail
                go_ret
                exact ⟨rfl, HBn.out⟩
              · have f3 : decide ((150 : Int) < (l3 : Int)) = false := decide_eq_false (by omega)
                have NX := Lib.hid (show ∀ (j : Nat) (c : PCon), j < k + 1 → l[j]? = some c → Short 150 c from fun j c' hj hc' => by
                  by_cases h : j < k
                  · exact HJ.out j c' h hc'
                  · obtain rfl : j = k := by omega
                    rw [HC.out] at hc'
                    obtain rfl := Option.some.inj hc'
                    obtain ⟨s1, s2, s3⟩ := HS.out
                    exact ⟨by omega, by omega, by omega⟩)
                go_wp2_with fail
                go_roundw
                case rel => exact ⟨⟨k + 1, by omega, by go_num, NX.out⟩, HBn.out⟩
                case measure => simp [intOf]; omega
        · obtain rfl : k = lv := by omega
          have key : R = false := HR.out.trans (large_false ⟨by rw [← e2.out]; omega, by have := G.out.2; omega, fun c hc => by
            obtain ⟨i, hi, e⟩ := List.getElem_of_mem hc
            exact HJ.out i c (by rw [e2.out]; exact hi) (by rw [List.getElem?_eq_getElem hi, e])⟩)
          subst key
          go_wp2_with fail
          go_ret
          exact ⟨rfl, HB.out⟩
end Go.Proofs.Ytkhjnicmbkklpaa.Gr
