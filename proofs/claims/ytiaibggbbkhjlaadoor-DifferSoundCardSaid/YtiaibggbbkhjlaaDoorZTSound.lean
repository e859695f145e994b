/-
  The law DifferSound, at every constraint, all domains and every row.
-/
import Derived.Test.YtiaibggbbkhjlaaDoorZYCE
import Derived.Test.YtiaibggbbkhjlaaDoorZYCH
import Derived.Test.YtiaibggbbkhjlaaDoorZZLaw
namespace Go.Proofs.YtiaibggbbkhjlaaDoor.Ge.Di
open Go.RowKit St
set_option maxRecDepth 100000

set_option maxHeartbeats 8000000 in
theorem sound_any {w : World} {v1 v2 v3 v vr : Value} {c : PCon} {L : List (List Int × Nat)} {row : List Int} (hT : B.Tab w) (h0 : 0 < w.heap.size) (hc : rCon w [.int .i64 c.kind, v1, v2, .int .i64 c.rel, .int .i64 c.const, v3] c) (h : Slc rDom 2 w v L) (hrow : Slc rNum 1 w vr row) :
    Calls Tryd.prog 4 #[.agg #[.int .i64 c.kind, v1, v2, .int .i64 c.rel, .int .i64 c.const, v3], v, vr] w fun e w' => e = .returned (.bool true) ∧ Below w.heap.size w w' := by
  obtain ⟨W0, hW0⟩ : ∃ W0, W0 = w.alloc (.cells #[.int .i64 c.kind, v1, v2, .int .i64 c.rel, .int .i64 c.const, v3] 24) := ⟨_, rfl⟩
  have hb0 : Below w.heap.size w W0 := by rw [hW0]; exact new_below _ _
  have HB0 := Lib.hid hb0
  have Q0 := Lib.hid (show ConAt W0 w.heap.size [.int .i64 c.kind, v1, v2, .int .i64 c.rel, .int .i64 c.const, v3] by rw [hW0]; exact six_at _ _ _ _ _ _ _ _)
  have HW := Lib.hid (show w.alloc (.cells #[.int .i64 c.kind, v1, v2, .int .i64 c.rel, .int .i64 c.const, v3] 24) = W0 from hW0.symm)
  have AW := Lib.hid (show Calls Tryd.prog 7 #[] W0 (fun e w' => e = .returned (.bool true) ∧ Below W0.heap.size W0 w') from awake_any (B.Tab.below hT h0 hb0) (Nat.lt_of_lt_of_le h0 hb0.size))
  have LG := Lib.hid (fun (u : World) (hb : Below w.heap.size w u) => large_any (rCon_stays _ _ _ _ hb hc) (h.below rDom_stays hb))
  have SP := Lib.hid (fun (hs : Short 1000 c) (hn : L.length ≤ 1000) (hm : ∀ d ∈ L, d.1.length ≤ 1000) (u : World) (hb : Below w.heap.size w u) => step_any (B.Tab.below hT h0 hb) (Nat.lt_of_lt_of_le h0 hb.size) (rCon_stays _ _ _ _ hb hc) hs (h.below rDom_stays hb) hn hm)
  have h2 := h
  obtain ⟨pr, br, orr, cr, lr, rfl, _, hsr⟩ := hrow
  have hnr := nums_of hsr
  have LF := Lib.hid (fun (hn : L.length ≤ 1000) (hm : ∀ d ∈ L, d.1.length ≤ 1000) (u : World) (hb : Below w.heap.size w u) => left_any (cr := cr) (nums_below hnr hb) (h.below rDom_stays hb) hn hm)
  have NR := Lib.hid hnr
  have RC := Lib.hid (fun (u : World) (hb : Below w.heap.size w u) => rCon_stays _ _ _ _ hb hc)
  have HD := Lib.hid h2
  obtain ⟨G, hG⟩ : ∃ b, b = largeS c L := ⟨_, rfl⟩
  rw [← hG] at LG
  have HG := Lib.hid hG
  clear hT h0 hc h h2 hsr hnr hW0 hb0 hG
  obtain ⟨q0, q1, q2, q3, q4, q5⟩ := Q0.out.six
  go_enter Tryd.func4, Tryd.ntmps4
  go_wp2_with fail
  rw [HW.out]
  refine AW.out.mono ?_
  rintro e w1 ⟨rfl, hB⟩
  have HB1 := Lib.hid (below_two HB0.out hB)
  have Q1 := Lib.hid (Q0.out.below hB)
  clear hB q0 q1 q2 q3 q4 q5
  obtain ⟨q0, q1, q2, q3, q4, q5⟩ := Q1.out.six
  go_wp2_with fail
  refine (LG.out _ HB1.out).mono ?_
  rintro e w2 ⟨rfl, hB⟩
  have HB2 := Lib.hid (below_two HB1.out hB)
  have Q2 := Lib.hid (Q1.out.below hB)
  clear hB q0 q1 q2 q3 q4 q5
  obtain ⟨q0, q1, q2, q3, q4, q5⟩ := Q2.out.six
  cases G
  · obtain ⟨l1, l2, l3⟩ := largeS_no HG.out.symm
    have hn : L.length ≤ 1000 := by omega
    have hm : ∀ d ∈ L, d.1.length ≤ 1000 := fun d hd => Nat.le_trans (l3 d hd) (by decide)
    have hs := short_up l2
    have SP2 := Lib.hid (SP.out hs hn hm _ HB2.out)
    have LF2 := Lib.hid (LF.out hn hm)
    have WI := Lib.hid (fun (u : World) (x : Value) (hx : Slc rDom 2 u x (stepG c L).1) (hy : Slc rDom 2 u v L) => St.within_any hx hy (stepG_rows hm) hm (stepG_length hn))
    have LA := Lib.hid (fun (u : World) (x : Value) (hx : Slc rDom 2 u x (stepG c L).1) (hb : Below w.heap.size w u) => left_any (cr := cr) (nums_below NR.out hb) hx (stepG_length hn) (stepG_rows hm))
    cases hR : rightK [5] c L
    · rw [stepG_off hR] at SP2
      clear l1 l2 l3 hn hm hs hR WI LA
      go_wp2_with fail
      refine SP2.out.mono ?_
      rintro e w3 ⟨x3, rfl, hx, hB⟩
      obtain ⟨p3, b3, o3, c3, len3, rfl, _, hs3⟩ := hx
      obtain rfl : len3 = 0 := by simpa using hs3.long
      have HB3 := Lib.hid (below_two HB2.out hB)
      clear hs3 hB q0 q1 q2 q3 q4 q5
      go_wp2_with fail
      go_ret
      exact ⟨by simp, HB3.out⟩
    · rw [withinG hR] at WI
      have SL := Lib.hid (fun (q1 : leftB row L = true) (q2 : Gr.rightG [c] row = true) (q3 : Gr.holdsG c row = true) => soundG hR q1 q2 q3)
      have E2 := Lib.hid (show (stepG c L).2 = 0 from stepG_err hR)
      rw [E2.out] at SP2
      obtain ⟨A1, hA1⟩ : ∃ A, A = (stepG c L).1 := ⟨_, rfl⟩
      rw [← hA1] at SP2 WI LA SL
      have RR := Lib.hid (fun (hlr : lr ≤ 1000) (u : World) (z : Nat) (hb : Below w.heap.size w u) (hz : u.heap[z]? = some (.cells #[.int .i64 c.kind, v1, v2, .int .i64 c.rel, .int .i64 c.const, v3] 24)) => rright1_any (orr := orr) (cr := cr) (nums_below NR.out hb) hlr (RC.out u hb) hz hs)
      have RH := Lib.hid (fun (hok : Gr.rowOk row = true) (hrt : rightC c (lr : Int) = true) (u : World) (hb : Below w.heap.size w u) => rhold_any (cr := cr) (RC.out u hb) hs (nums_below NR.out hb) hok hrt)
      have NL := Lib.hid (show leftB row L = true → lr ≤ 1000 from fun q => by have := (left_row q).1; have := NR.out.long; omega)
      have RL := Lib.hid (show Gr.rightG [c] row = true → Gr.rowOk row = true ∧ rightC c (lr : Int) = true from fun q => by rw [Gr.rightG_one, Bool.and_eq_true] at q; rw [NR.out.long]; exact q)
      obtain ⟨LB, hLB⟩ : ∃ x, x = leftB row L := ⟨_, rfl⟩
      rw [← hLB] at LF2 SL NL
      obtain ⟨LC, hLC⟩ : ∃ x, x = leftB row A1 := ⟨_, rfl⟩
      rw [← hLC] at LA SL
      obtain ⟨RG, hRG⟩ : ∃ x, x = Gr.rightG [c] row := ⟨_, rfl⟩
      rw [← hRG] at RR RL SL
      obtain ⟨HG2, hHG⟩ : ∃ x, x = Gr.holdsG c row := ⟨_, rfl⟩
      rw [← hHG] at RH SL
      clear hA1 l1 l2 l3 hn hm hs hR hLB hLC hRG hHG E2
      go_wp2_with fail
      refine SP2.out.mono ?_
      rintro e w3 ⟨x3, rfl, hx, hB⟩
      have X3 := Lib.hid hx
      have HB3 := Lib.hid (below_two HB2.out hB)
      have Q3 := Lib.hid (Q2.out.below hB)
      clear hx hB q0 q1 q2 q3 q4 q5
      obtain ⟨q0, q1, q2, q3, q4, q5⟩ := Q3.out.six
      go_wp2_with fail
      refine (WI.out _ _ X3.out (HD.out.below rDom_stays HB3.out)).mono ?_
      rintro e w4 ⟨rfl, hB⟩
      have HB4 := Lib.hid (below_two HB3.out hB)
      have X4 := Lib.hid (X3.out.below rDom_stays hB)
      have Q4 := Lib.hid (Q3.out.below hB)
      clear hB q0 q1 q2 q3 q4 q5
      obtain ⟨q0, q1, q2, q3, q4, q5⟩ := Q4.out.six
      go_wp2_with fail
      refine (LF2.out _ HB4.out).mono ?_
      rintro e w5 ⟨rfl, hB⟩
      have HB5 := Lib.hid (below_two HB4.out hB)
      have X5 := Lib.hid (X4.out.below rDom_stays hB)
      have Q5 := Lib.hid (Q4.out.below hB)
      clear hB q0 q1 q2 q3 q4 q5
      obtain ⟨q0, q1, q2, q3, q4, q5⟩ := Q5.out.six
      cases LB
      · go_wp2_with fail
        go_ret
        exact ⟨by simp, HB5.out⟩
      · have hlr := NL.out rfl
        have ZB := Lib.hid (new_below w5 (.cells #[.int .i64 c.kind, v1, v2, .int .i64 c.rel, .int .i64 c.const, v3] 24))
        have ZR := Lib.hid (RR.out hlr (w5.alloc (.cells #[.int .i64 c.kind, v1, v2, .int .i64 c.rel, .int .i64 c.const, v3] 24)) w5.heap.size (below_two HB5.out ZB.out) (blk_new _ _))
        clear hlr
        go_wp2_with fail
        refine ZR.out.mono ?_
        rintro e w6 ⟨rfl, hB⟩
        have HB6 := Lib.hid (below_two HB5.out (below_two ZB.out hB))
        have X6 := Lib.hid (X5.out.below rDom_stays (below_two ZB.out hB))
        have Q6 := Lib.hid (Q5.out.below (below_two ZB.out hB))
        clear hB q0 q1 q2 q3 q4 q5
        obtain ⟨q0, q1, q2, q3, q4, q5⟩ := Q6.out.six
        cases RG
        · go_wp2_with fail
          go_ret
          exact ⟨by simp, HB6.out⟩
        · obtain ⟨g1, g2⟩ := RL.out rfl
          have ZH := Lib.hid (RH.out g1 g2 _ HB6.out)
          clear g1 g2
          go_wp2_with fail
          refine ZH.out.mono ?_
          rintro e w7 ⟨rfl, hB⟩
          have HB7 := Lib.hid (below_two HB6.out hB)
          have X7 := Lib.hid (X6.out.below rDom_stays hB)
          clear hB q0 q1 q2 q3 q4 q5
          cases HG2
          · go_wp2_with fail
            go_ret
            exact ⟨by simp, HB7.out⟩
          · have hC : LC = true := by simpa using SL.out
            subst hC
            go_wp2_with fail
            refine (LA.out _ _ X7.out HB7.out).mono ?_
            rintro e w8 ⟨rfl, hB⟩
            have HB8 := Lib.hid (below_two HB7.out hB)
            clear hB
            go_wp2_with fail
            go_ret
            exact ⟨by simp, HB8.out⟩
  · go_wp2_with fail
    go_ret
    exact ⟨rfl, HB2.out⟩
end Go.Proofs.YtiaibggbbkhjlaaDoor.Ge.Di
