/-
  The law DifferSingle, at every constraint and every row.
-/
import Derived.Test.YtiaibggbbkhjlaaDoorZYCE
import Derived.Test.YtiaibggbbkhjlaaDoorZYCH
import Derived.Test.YtiaibggbbkhjlaaDoorZZLaw
namespace Go.Proofs.YtiaibggbbkhjlaaDoor.Ge.Di
open Go.RowKit St
set_option maxRecDepth 100000

set_option maxHeartbeats 8000000 in
theorem single_any {w : World} {v1 v2 v3 vr : Value} {c : PCon} {row : List Int} (hT : B.Tab w) (h0 : 0 < w.heap.size) (hc : rCon w [.int .i64 c.kind, v1, v2, .int .i64 c.rel, .int .i64 c.const, v3] c) (hrow : Slc rNum 1 w vr row) :
    Calls Tryd.prog 6 #[.agg #[.int .i64 c.kind, v1, v2, .int .i64 c.rel, .int .i64 c.const, v3], vr] w fun e w' => e = .returned (.bool true) ∧ Below w.heap.size w w' := by
  obtain ⟨⟨p1, m1, k1, rfl⟩, ⟨p2, m2, k2, rfl⟩, ⟨p3, m3, k3, rfl⟩⟩ := rCon_shape hc
  have hnv : (∃ b1 o1, Nums w p1 b1 o1 m1 c.vars) ∧ m2 = c.coefs.length ∧ m3 = c.nums.length := by
    obtain ⟨u1, u2, u3, e, _, ⟨_, b1, o1, _, _, e1, _, h1⟩, ⟨_, _, _, _, _, e2, _, h2⟩, ⟨_, _, _, _, _, e3, _, h3⟩⟩ := id hc
    subst e1 e2 e3
    simp only [List.cons.injEq, true_and, and_true, Value.slice.injEq] at e
    obtain ⟨⟨rfl, rfl, rfl⟩, ⟨rfl, rfl, rfl⟩, ⟨rfl, rfl, rfl⟩⟩ := e
    exact ⟨⟨b1, o1, nums_of h1⟩, h2.long, h3.long⟩
  obtain ⟨⟨b1, o1, hnv⟩, hm2, hm3⟩ := hnv
  obtain ⟨pr, br, orr, cr, lr, rfl, _, hsr⟩ := hrow
  have NR := Lib.hid (nums_of hsr)
  have hpr := NR.out.at_
  obtain ⟨W0, hW0⟩ : ∃ W0, W0 = w.alloc (.cells #[.int .i64 c.kind, (.slice p1 m1 k1), (.slice p2 m2 k2), .int .i64 c.rel, .int .i64 c.const, (.slice p3 m3 k3)] 24) := ⟨_, rfl⟩
  have hb0 : Below w.heap.size w W0 := by rw [hW0]; exact new_below _ _
  have HB0 := Lib.hid hb0
  have Q0 := Lib.hid (show W0.heap[w.heap.size]? = some (.cells #[.int .i64 c.kind, (.slice p1 m1 k1), (.slice p2 m2 k2), .int .i64 c.rel, .int .i64 c.const, (.slice p3 m3 k3)] 24) by rw [hW0]; exact blk_new _ _)
  have HW := Lib.hid (show w.alloc (.cells #[.int .i64 c.kind, (.slice p1 m1 k1), (.slice p2 m2 k2), .int .i64 c.rel, .int .i64 c.const, (.slice p3 m3 k3)] 24) = W0 from hW0.symm)
  have AW := Lib.hid (show Calls Tryd.prog 7 #[] W0 (fun e w' => e = .returned (.bool true) ∧ Below W0.heap.size W0 w') from awake_any (B.Tab.below hT h0 hb0) (Nat.lt_of_lt_of_le h0 hb0.size))
  have SP := Lib.hid (fun (hs : Short 1000 c) (M : List (List Int × Nat)) (hn : M.length ≤ 1000) (hm : ∀ d ∈ M, d.1.length ≤ 1000) (u : World) (x : Value) (hb : Below w.heap.size w u) (hx : Slc rDom 2 u x M) => step_any (B.Tab.below hT h0 hb) (Nat.lt_of_lt_of_le h0 hb.size) (rCon_stays _ _ _ _ hb hc) hs hx hn hm)
  have RC := Lib.hid (fun (u : World) (hb : Below w.heap.size w u) => rCon_stays _ _ _ _ hb hc)
  have RR := Lib.hid (fun (hs : Short 1000 c) (hlr : lr ≤ 1000) (u : World) (z : Nat) (hb : Below w.heap.size w u) (hz : u.heap[z]? = some (.cells #[.int .i64 c.kind, (.slice p1 m1 k1), (.slice p2 m2 k2), .int .i64 c.rel, .int .i64 c.const, (.slice p3 m3 k3)] 24)) => rright1_any (orr := orr) (cr := cr) (nums_below NR.out hb) hlr (RC.out u hb) hz hs)
  have RH := Lib.hid (fun (hs : Short 1000 c) (hok : Gr.rowOk row = true) (hrt : rightC c (lr : Int) = true) (u : World) (hb : Below w.heap.size w u) => rhold_any (cr := cr) (RC.out u hb) hs (nums_below NR.out hb) hok hrt)
  have RL := Lib.hid (show Gr.rightG [c] row = true → Gr.rowOk row = true ∧ rightC c (lr : Int) = true from fun q => by rw [Gr.rightG_one, Bool.and_eq_true] at q; rw [NR.out.long]; exact q)
  have SG := Lib.hid (fun (q1 : Gr.rightG [c] row = true) (q2 : rightK [5] c (singles row) = true) => singleG q1 q2)
  have HNV := Lib.hid hnv
  have HM := Lib.hid (And.intro hm2 hm3)
  obtain ⟨RG, hRG⟩ : ∃ x, x = Gr.rightG [c] row := ⟨_, rfl⟩
  rw [← hRG] at RR RL SG
  clear hT h0 hc hW0 hb0 hsr hnv hRG hm2 hm3
  obtain ⟨q0, q1, q2, q3, q4, q5⟩ := six_in Q0.out
  go_enter Tryd.func6, Tryd.ntmps6
  go_wp2_with fail
  rw [HW.out]
  refine AW.out.mono ?_
  rintro e w1 ⟨rfl, hB⟩
  have HB1 := Lib.hid (below_two HB0.out hB)
  have Q1 := Lib.hid (blk_below Q0.out hB)
  clear hB q0 q1 q2 q3 q4 q5
  obtain ⟨q0, q1, q2, q3, q4, q5⟩ := six_in Q1.out
  by_cases g0 : 20 < lr
  · have d1 : decide ((20 : Int) < (lr : Int)) = true := decide_eq_true (by omega)
    go_wp2_with fail
    go_ret
    exact ⟨rfl, HB1.out⟩
  · have d0 : decide ((20 : Int) < (lr : Int)) = false := decide_eq_false (by omega)
    by_cases g1 : 150 < m1
    · have d1 : decide ((150 : Int) < (m1 : Int)) = true := decide_eq_true (by omega)
      go_wp2_with fail
      go_ret
      exact ⟨rfl, HB1.out⟩
    · have d1 : decide ((150 : Int) < (m1 : Int)) = false := decide_eq_false (by omega)
      by_cases g2 : 150 < m2
      · have d2 : decide ((150 : Int) < (m2 : Int)) = true := decide_eq_true (by omega)
        go_wp2_with fail
        go_ret
        exact ⟨rfl, HB1.out⟩
      · have d2 : decide ((150 : Int) < (m2 : Int)) = false := decide_eq_false (by omega)
        by_cases g3 : 150 < m3
        · have d3 : decide ((150 : Int) < (m3 : Int)) = true := decide_eq_true (by omega)
          go_wp2_with fail
          go_ret
          exact ⟨rfl, HB1.out⟩
        · have d3 : decide ((150 : Int) < (m3 : Int)) = false := decide_eq_false (by omega)
          have hs : Short 1000 c := by
            have := HM.out
            have := HNV.out.long
            unfold Short
            omega
          have hlr : lr ≤ 20 := by omega
          have hm1 : m1 ≤ 150 := by omega
          have hrl : row.length ≤ 1000 := by have := NR.out.long; omega
          have ZB := Lib.hid (new_below w1 (.cells #[.int .i64 c.kind, (.slice p1 m1 k1), (.slice p2 m2 k2), .int .i64 c.rel, .int .i64 c.const, (.slice p3 m3 k3)] 24))
          have ZR := Lib.hid (RR.out hs (by omega) (w1.alloc (.cells #[.int .i64 c.kind, (.slice p1 m1 k1), (.slice p2 m2 k2), .int .i64 c.rel, .int .i64 c.const, (.slice p3 m3 k3)] 24)) w1.heap.size (below_two HB1.out ZB.out) (blk_new _ _))
          have SP2 := Lib.hid (fun (u : World) (x : Value) (hb : Below w.heap.size w u) (hx : Slc rDom 2 u x (singles row)) => SP.out hs (singles row) (by rw [singles_length]; exact hrl) (singles_rows row) u x hb hx)
          have RH2 := Lib.hid (RH.out hs)
          clear g0 g1 g2 g3 hs hrl
          go_wp2_with fail
          refine ZR.out.mono ?_
          rintro e w2 ⟨rfl, hB⟩
          have HB2 := Lib.hid (below_two HB1.out (below_two ZB.out hB))
          have Q2 := Lib.hid (blk_below Q1.out (below_two ZB.out hB))
          clear hB q0 q1 q2 q3 q4 q5 d0 d1 d2 d3
          cases RG
          · go_wp2_with fail
            go_ret
            exact ⟨rfl, HB2.out⟩
          · obtain ⟨t1, t2⟩ := RL.out rfl
            have RH3 := Lib.hid (RH2.out t1 t2)
            have hSG : rightK [5] c (singles row) = true → allO (stepG c (singles row)).1 c.vars c.vars.length = Gr.holdsG c row := by simpa using SG.out
            have SG2 := Lib.hid hSG
            clear t1 t2 hSG
            go_wp2_with fail
            go_loopw [5, 45] (fun l i wr => ∃ k : Nat, k ≤ lr ∧ i = .int .i64 k ∧ DomsM wr w2.heap.size l (singles (row.take k)) ∧ Below w2.heap.size w2 wr) (fun _ i _ => lr - (intOf i).toNat)
            case atStart => exact ⟨0, by omega, rfl, domsM_nil _ _, Below.refl _ _⟩
            case round =>
              rename_i out wr
              obtain ⟨k, hk, rfl, hown, hB⟩ := hrel
              have HO := Lib.hid hown
              have HB := Lib.hid hB
              clear hown hB
              by_cases hlt : k < lr
              · obtain rfl := hpr (by omega)
                have d5 : (k : Int) < (lr : Int) := by omega
                have c0 := cell_below (below_two HB2.out HB.out) (NR.out.cell k hlt)
                have HY := Lib.hid (singles_take (row := row) (k := k) (by have := NR.out.long; omega))
                have hl7 : (singles (row.take k)).length = k := by rw [singles_length, List.length_take]; have := NR.out.long; omega
                obtain ⟨M, hM⟩ : ∃ M, M = singles (row.take k) := ⟨_, rfl⟩
                rw [← hM] at HO hl7 HY
                obtain ⟨z, hz⟩ : ∃ z, z = row.getD k 0 := ⟨_, rfl⟩
                rw [← hz] at c0 HY
                have hl6 : M.length ≤ 100000 := by omega
                obtain ⟨W8, hW8⟩ : ∃ x, x = wr.alloc (.cells #[.int .i64 z] 3) := ⟨_, rfl⟩
                obtain ⟨W9, hW9⟩ : ∃ x, x = W8.alloc (.cells #[.slice (some ⟨wr.heap.size, 0, none⟩) 1 1, .int .u64 1] 47) := ⟨_, rfl⟩
                have hb8 : Below wr.heap.size wr W8 := by rw [hW8]; exact new_below _ _
                have hb9 : Below W8.heap.size W8 W9 := by rw [hW9]; exact new_below _ _
                have s8 : W8.heap.size = wr.heap.size + 1 := by rw [hW8, World.size_alloc]
                have HOV := Lib.hid (HO.out.below (below_two hb8 hb9))
                have HLB := Lib.hid (below_two HB.out (below_two hb8 hb9))
                have HLV := Lib.hid HLB.out.size
                have hcv := two_cells W8 (.slice (some ⟨wr.heap.size, 0, none⟩) 1 1) (.int .u64 1) 47
                rw [← hW9, s8] at hcv
                have HCV := Lib.hid hcv
                have HX := Lib.hid (show domP W9 [.slice (some ⟨wr.heap.size, 0, none⟩) 1 1, .int .u64 ((([z], 1) : List Int × Nat).2 : Nat)] ([z], 1) from ⟨_, rfl, owns_below (by rw [hW8]; exact lit_owns wr z (Nat.zero_le _)) hb9, by simp⟩)
                have HW9 := Lib.hid (show (wr.alloc (.cells #[.int .i64 z] 3)).alloc (.cells #[.slice (some ⟨wr.heap.size, 0, none⟩) 1 1, .int .u64 1] 47) = W9 by rw [hW9, hW8])
                clear hM hz hb8 hb9 hcv hW8 hW9 s8
                go_wp2_with (at_builtin; rw [HW9.out]; refine put_row infoM rfl (by decide) (by decide) Tryd.underlying25 rfl _ _ rfl rfl rfl HOV.out rfl HCV.out (by simp [Value.oneCell']) HX.out hl6 HLV.out ?_; intro p8 cap8 w8 hp1 hp2 hp3; have HN := Lib.hid (domsM_put HOV.out hp1 hp2 HLB.out HLV.out); clear hp1 hp2 hp3)
                go_roundw
                case rel => exact ⟨k + 1, by omega, by go_num, by have h := HN.out.1; rw [hl7] at h; rw [HY.out]; exact h, HN.out.2⟩
                case measure => simp [intOf]; omega
              · have d6 : ¬ ((k : Int) < (lr : Int)) := by omega
                obtain rfl : k = lr := by omega
                have hall : row.take k = row := List.take_of_length_le (by have := NR.out.long; omega)
                rw [hall] at HO
                have HOS := Lib.hid (HO.out.slc (singles_rows row))
                have Q3 := Lib.hid (blk_below Q2.out HB.out)
                have HB3 := Lib.hid (below_two HB2.out HB.out)
                obtain ⟨q0, q1, q2, q3, q4, q5⟩ := six_in Q3.out
                have SP3 := Lib.hid (SP2.out _ _ HB3.out HOS.out)
                clear hall
                cases hR : rightK [5] c (singles row)
                · rw [stepG_off hR] at SP3
                  clear hR
                  go_wp2_with fail
                  refine SP3.out.mono ?_
                  rintro e w4 ⟨x4, rfl, hx, hB⟩
                  obtain ⟨p4, b4, o4, c4, len4, rfl, _, hs4⟩ := hx
                  obtain rfl : len4 = 0 := by simpa using hs4.long
                  have HB4 := Lib.hid (below_two HB3.out hB)
                  clear hs4 hB q0 q1 q2 q3 q4 q5
                  go_wp2_with fail
                  go_ret
                  exact ⟨by simp, HB4.out⟩
                · have SG3 := Lib.hid (SG2.out hR)
                  have E1 := Lib.hid (show (stepG c (singles row)).2 = 0 from stepG_err hR)
                  have L1 := Lib.hid (show (stepG c (singles row)).1.length = row.length from (stepG_same hR).trans (singles_length row))
                  have HVT := Lib.hid (show VarsTo c.vars (row.length : Int) c.vars.length by have h := vars_to (rightK_parts hR).2.1; rw [singles_length] at h; exact h)
                  rw [E1.out] at SP3
                  obtain ⟨A1, hA1⟩ : ∃ A, A = (stepG c (singles row)).1 := ⟨_, rfl⟩
                  rw [← hA1] at SP3 SG3 L1
                  obtain ⟨HH, hHH⟩ : ∃ x, x = Gr.holdsG c row := ⟨_, rfl⟩
                  rw [← hHH] at SG3 RH3
                  clear hR hA1 hHH E1
                  go_wp2_with fail
                  refine SP3.out.mono ?_
                  rintro e w4 ⟨x4, rfl, hx, hB⟩
                  obtain ⟨p4, b4, o4, c4, len4, rfl, _, hs4⟩ := hx
                  have hp4 := hs4.at_
                  obtain rfl : len4 = k := by have := hs4.long; have := L1.out; have := NR.out.long; omega
                  have SA := Lib.hid hs4
                  have HB4 := Lib.hid (below_two HB3.out hB)
                  have Q4 := Lib.hid (blk_below Q3.out hB)
                  have NV := Lib.hid (nums_below HNV.out HB4.out)
                  have hp1 := NV.out.at_
                  clear hs4 hB q0 q1 q2 q3 q4 q5
                  obtain ⟨q0, q1, q2, q3, q4, q5⟩ := six_in Q4.out
                  have H0 := Lib.hid (show allO A1 c.vars 0 = true from rfl)
                  go_wp2_with fail
                  go_loopw [10, 81] (fun t i wx => ∃ j : Nat, j ≤ m1 ∧ i = .int .i64 j ∧ t = .bool (allO A1 c.vars j) ∧ Below w4.heap.size w4 wx) (fun _ i _ => m1 - (intOf i).toNat)
                  case atStart => exact ⟨0, by omega, rfl, by rw [H0.out], Below.refl _ _⟩
                  case round =>
                    rename_i wx
                    obtain ⟨j, hj, rfl, rfl, hB⟩ := hrel
                    have HBx := Lib.hid hB
                    clear hB q0 q1 q2 q3 q4 q5
                    by_cases hjm : j < m1
                    · have d7 : (j : Int) < (m1 : Int) := by omega
                      obtain rfl := hp1 (by omega)
                      have c0 := cell_below HBx.out (NV.out.cell j hjm)
                      have hjv : j < c.vars.length := by have := NV.out.long; omega
                      have hy := (HVT.out j hjv).1
                      have e2 := allO_succ (A := A1) hjv
                      obtain ⟨y, hyy⟩ : ∃ y : Nat, c.vars.getD j 0 = (y : Int) := ⟨(c.vars.getD j 0).toNat, by omega⟩
                      rw [hyy] at c0 hy e2
                      rw [Int.toNat_natCast] at e2
                      have hyl : y < len4 := by have := NR.out.long; omega
                      have d8 : (y : Int) < (len4 : Int) := by omega
                      obtain rfl := hp4 (by omega)
                      obtain ⟨x, u, ex, ⟨_, a1⟩, _⟩ := dom_at2 (SA.out.below rDom_stays HBx.out) hyl
                      have hxx : A1.getD y ([], 0) = x := by rw [List.getD_eq_getElem?_getD, ex]; rfl
                      rw [hxx] at e2
                      have E2 := Lib.hid e2
                      generalize x.2 = n at a1 E2
                      clear e2 hyy hy ex hxx hjv
                      cases hz : allO A1 c.vars j
                      · rw [hz, Bool.false_and] at E2
                        clear hz
                        go_wp2_with fail
                        go_roundw
                        case rel => exact ⟨j + 1, by omega, by go_num, by rw [E2.out], HBx.out⟩
                        case measure => simp [intOf]; omega
                      · rw [hz, Bool.true_and] at E2
                        by_cases n0 : n = 1
                        · subst n0
                          have E3 := Lib.hid (show allO A1 c.vars (j + 1) = true from E2.out.trans (decide_eq_true rfl))
                          clear E2 hz
                          go_wp2_with fail
                          go_roundw
                          case rel => exact ⟨j + 1, by omega, by go_num, by rw [E3.out], HBx.out⟩
                          case measure => simp [intOf]; omega
                        · have E3 := Lib.hid (show allO A1 c.vars (j + 1) = false from E2.out.trans (decide_eq_false n0))
                          have d9 : ((n : Int) == 1) = false := by simp; omega
                          have d9' : decide ((n : Int) = 1) = false := decide_eq_false (by omega)
                          clear E2 hz
                          go_wp2_with fail
                          go_roundw
                          case rel => exact ⟨j + 1, by omega, by go_num, by rw [E3.out], HBx.out⟩
                          case measure => simp [intOf]; omega
                    · have d8 : ¬ ((j : Int) < (m1 : Int)) := by omega
                      obtain rfl : j = m1 := by omega
                      have eH : allO A1 c.vars j = HH := by rw [NV.out.long]; exact SG3.out
                      rw [eH]
                      clear eH
                      have HB5 := Lib.hid (below_two HB4.out HBx.out)
                      obtain ⟨q0, q1, q2, q3, q4, q5⟩ := six_in (blk_below Q4.out HBx.out)
                      have RH4 := Lib.hid (RH3.out _ HB5.out)
                      go_wp2_with fail
                      refine RH4.out.mono ?_
                      rintro e w6 ⟨rfl, hB⟩
                      have HB6 := Lib.hid (below_two HB5.out hB)
                      clear hB
                      go_wp2_with fail
                      go_ret
                      exact ⟨by simp, HB6.out⟩
end Go.Proofs.YtiaibggbbkhjlaaDoor.Ge.Di
