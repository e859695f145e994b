/-
  The law DifferTells, at every constraint and all domains.
-/
import Derived.Test.YtiaibggbbkhjlaaDoorZYCE
import Derived.Test.YtiaibggbbkhjlaaDoorZYCF
import Derived.Test.YtiaibggbbkhjlaaDoorZYCH
import Derived.Test.YtiaibggbbkhjlaaDoorZZLaw
import Derived.Test.YtiaibggbbkhjlaaDoorZYBR
namespace Go.Proofs.YtiaibggbbkhjlaaDoor.Ge.Di
open Go.RowKit St
set_option maxRecDepth 100000

set_option maxHeartbeats 8000000 in
theorem tells_any {w : World} {v1 v2 v3 v : Value} {c : PCon} {L : List (List Int × Nat)} (hT : B.Tab w) (h0 : 0 < w.heap.size) (hc : rCon w [.int .i64 c.kind, v1, v2, .int .i64 c.rel, .int .i64 c.const, v3] c) (h : Slc rDom 2 w v L) :
    Calls Tryd.prog 3 #[.agg #[.int .i64 c.kind, v1, v2, .int .i64 c.rel, .int .i64 c.const, v3], v] w fun e w' => e = .returned (.bool true) ∧ Below w.heap.size w w' := by
  obtain ⟨W0, hW0⟩ : ∃ W0, W0 = w.alloc (.cells #[.int .i64 c.kind, v1, v2, .int .i64 c.rel, .int .i64 c.const, v3] 24) := ⟨_, rfl⟩
  have hb0 : Below w.heap.size w W0 := by rw [hW0]; exact new_below _ _
  have HB0 := Lib.hid hb0
  have Q0 := Lib.hid (show ConAt W0 w.heap.size [.int .i64 c.kind, v1, v2, .int .i64 c.rel, .int .i64 c.const, v3] by rw [hW0]; exact six_at _ _ _ _ _ _ _ _)
  have HW := Lib.hid (show w.alloc (.cells #[.int .i64 c.kind, v1, v2, .int .i64 c.rel, .int .i64 c.const, v3] 24) = W0 from hW0.symm)
  have AW := Lib.hid (show Calls Tryd.prog 7 #[] W0 (fun e w' => e = .returned (.bool true) ∧ Below W0.heap.size W0 w') from awake_any (B.Tab.below hT h0 hb0) (Nat.lt_of_lt_of_le h0 hb0.size))
  have LG := Lib.hid (fun (u : World) (hb : Below w.heap.size w u) => large_any (rCon_stays _ _ _ _ hb hc) (h.below rDom_stays hb))
  have SP := Lib.hid (fun (hs : Short 1000 c) (hn : L.length ≤ 1000) (hm : ∀ d ∈ L, d.1.length ≤ 1000) (u : World) (hb : Below w.heap.size w u) => step_any (B.Tab.below hT h0 hb) (Nat.lt_of_lt_of_le h0 hb.size) (rCon_stays _ _ _ _ hb hc) hs (h.below rDom_stays hb) hn hm)
  have SR := Lib.hid (fun (hs : Short 1000 c) (hn : L.length ≤ 1000) (hm : ∀ d ∈ L, d.1.length ≤ 1000) (u : World) (hb : Below w.heap.size w u) (r : Value) (hr : Slc rDom 2 u r L) => rstep_any (rCon_stays _ _ _ _ hb hc) hs hr hn hm)
  have OW := Lib.hid (fun (hn : L.length ≤ 1000) (u : World) (hb : Below w.heap.size w u) => own_any (h.below rDom_stays hb) hn)
  obtain ⟨G, hG⟩ : ∃ b, b = largeS c L := ⟨_, rfl⟩
  rw [← hG] at LG
  have HG := Lib.hid hG
  clear hT h0 hc h hW0 hb0 hG
  obtain ⟨q0, q1, q2, q3, q4, q5⟩ := Q0.out.six
  go_enter Tryd.func3, Tryd.ntmps3
  go_wp2_with fail
  rw [HW.out]
  refine AW.out.mono ?_
  rintro e w1 ⟨rfl, hB⟩
  have HB1 := Lib.hid (below_two HB0.out hB)
  have Q1 := Lib.hid (Q0.out.below hB)
  clear hB q0 q1 q2 q3 q4 q5
  obtain ⟨q0, q1, q2, q3, q4, q5⟩ := Q1.out.six
  go_wp2_with fail
  refine (LG.out _ HB1.out).mono ?_
  rintro e w2 ⟨rfl, hB⟩
  have HB2 := Lib.hid (below_two HB1.out hB)
  have Q2 := Lib.hid (Q1.out.below hB)
  clear hB q0 q1 q2 q3 q4 q5
  obtain ⟨q0, q1, q2, q3, q4, q5⟩ := Q2.out.six
  cases G
  · obtain ⟨l1, l2, l3⟩ := largeS_no HG.out.symm
    have hn : L.length ≤ 1000 := by omega
    have hm : ∀ d ∈ L, d.1.length ≤ 1000 := fun d hd => Nat.le_trans (l3 d hd) (by decide)
    have hs := short_up l2
    have SP2 := Lib.hid (SP.out hs hn hm _ HB2.out)
    have SR2 := Lib.hid (SR.out hs hn hm)
    have OW2 := Lib.hid (OW.out hn)
    have HM := Lib.hid (And.intro (stepG_rows (c := c) hm) (stepG_length (c := c) hn))
    have OA := Lib.hid (fun (u : World) (x : Value) (hx : Slc rDom 2 u x (stepG c L).1) => own_any hx HM.out.2)
    have SS := Lib.hid (fun (u : World) (x y : Value) (hx : Slc rDom 2 u x (stepG c L).1) (hy : Slc rDom 2 u y (stepG c L).1) => rssame2_any hx hy HM.out.1 HM.out.1 HM.out.2 HM.out.2)
    obtain ⟨A, hA⟩ : ∃ A, A = (stepG c L).1 := ⟨_, rfl⟩
    obtain ⟨er, hE⟩ : ∃ E, E = (stepG c L).2 := ⟨_, rfl⟩
    rw [← hA] at SP2 SR2 HM OA SS
    rw [← hE] at SP2 SR2
    rw [show decide (A = A) = true from decide_eq_true rfl] at SS
    clear hA hE l1 l2 l3 hn hm hs
    go_wp2_with fail
    refine SP2.out.mono ?_
    rintro e w3 ⟨x3, rfl, hx, hB⟩
    have X3 := Lib.hid hx
    have HB3 := Lib.hid (below_two HB2.out hB)
    have Q3 := Lib.hid (Q2.out.below hB)
    clear hx hB q0 q1 q2 q3 q4 q5
    obtain ⟨q0, q1, q2, q3, q4, q5⟩ := Q3.out.six
    go_upto_region 6 with fail
    go_cut [7, 8] (fun r f wx => Slc rDom 2 wx x3 A ∧ Slc rDom 2 wx r A ∧ f = .int .i64 er ∧ Below w.heap.size w wx)
    case first =>
      have BD := Lib.hid (show ∀ q, Below w3.heap.size w3 (w3.drewN q) from fun q => below_drewN (Below.refl _ w3))
      go_region_law (first
        | (go_simp; go_at_call 11; refine (OW2.out _ (below_two HB3.out (BD.out _))).mono ?_; rintro e w4 ⟨r4, rfl, hr, hB⟩; have R4 := Lib.hid hr; have HB4 := Lib.hid (below_two (BD.out 1) hB); have Q4 := Lib.hid (Q3.out.below HB4.out); clear hr hB; obtain ⟨q0, q1, q2, q3, q4, q5⟩ := Q4.out.six)
        | (go_simp; go_at_call 10; refine (SR2.out _ (below_two HB3.out HB4.out) _ R4.out).mono ?_; rintro e w5 ⟨x5, rfl, hx, hB⟩; have X5 := Lib.hid hx; have HB5 := Lib.hid (below_two HB4.out hB); clear hx hB))
      all_goals go_wp2_with fail
      all_goals go_meet
      all_goals exact ⟨X3.out.below rDom_stays HB5.out, X5.out.slc HM.out.1, rfl, below_two HB3.out HB5.out⟩
    case rest =>
      obtain ⟨h3, h5, rfl, hB⟩ := hcut
      have Y3 := Lib.hid h3
      have Y5 := Lib.hid h5
      have HB6 := Lib.hid hB
      clear h3 h5 hB q0 q1 q2 q3 q4 q5
      obtain ⟨w6, rfl⟩ : ∃ x, x = wc := ⟨_, rfl⟩
      go_wp2_with fail
      refine (OA.out _ _ Y3.out).mono ?_
      rintro e w7 ⟨r7, rfl, hr, hB⟩
      have R7 := Lib.hid hr
      have HB7 := Lib.hid (below_two HB6.out hB)
      have Z5 := Lib.hid (Y5.out.below rDom_stays hB)
      clear hr hB
      go_wp2_with fail
      refine (SS.out _ _ _ R7.out Z5.out).mono ?_
      rintro e w8 ⟨rfl, hB⟩
      have HB8 := Lib.hid (below_two HB7.out hB)
      clear hB
      go_wp2_with fail
      go_ret
      exact ⟨by simp, HB8.out⟩
  · go_wp2_with fail
    go_ret
    exact ⟨rfl, HB2.out⟩
end Go.Proofs.YtiaibggbbkhjlaaDoor.Ge.Di
