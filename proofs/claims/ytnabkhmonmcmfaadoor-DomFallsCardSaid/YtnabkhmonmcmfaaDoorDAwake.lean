/-
  awake of layer 4 answers true, where the table of the library lies in its variable.
-/
import Derived.Test.YtnabkhmonmcmfaaDoorDAw
namespace Go.Proofs.YtnabkhmonmcmfaaDoor
open Go.RowKit

set_option maxRecDepth 100000 in
set_option maxHeartbeats 8000000 in
theorem awake_any (w : World) (hT : B.Tab w) (h0 : 0 < w.heap.size) : Calls Tryd.prog 6 #[] w (Yes w) := by
  have HT := Lib.hid hT
  have H0 := Lib.hid h0
  clear hT h0
  go_enter Tryd.func6, Tryd.ntmps6
  go_wp2_with fail
  refine (aw_new1 (litS2 w _ rfl 1 3 7 9)).mono ?_
  rintro e w1 ⟨pd, nd, cd, rfl, hrd, hB⟩
  have B1 := Lib.hid (below_two (below_alloc w _) hB)
  have R1 := Lib.hid hrd
  clear hrd hB
  go_wp2_with fail
  refine aw_new2.mono ?_
  rintro e w2 ⟨pe, ne, ce, rfl, _, hB⟩
  have K2 := Lib.hid (And.intro (cell_below hB (new_two w1 (.slice pd nd cd) (.int .u64 63) 26 w1.heap.size rfl).1) (cell_below hB (new_two w1 (.slice pd nd cd) (.int .u64 63) 26 w1.heap.size rfl).2.1))
  have B2 := Lib.hid (below_two (below_alloc w1 _) hB)
  clear hB
  go_wp2_with fail
  refine (aw_new3 (litS1 _ _ (by simp) 0 64)).mono ?_
  rintro e w3 ⟨pf, nf, cf, rfl, _, hB⟩
  have B3 := Lib.hid (below_two (below_alloc w2 _) (below_two (below_alloc _ _) hB))
  have hall := below_two B2.out B3.out
  have k0 := cell_below (below_alloc w3 (.cells #[.slice pf nf cf, .int .u64 0] 26)) (cell_below B3.out K2.out.1)
  have k1 := cell_below (below_alloc w3 (.cells #[.slice pf nf cf, .int .u64 0] 26)) (cell_below B3.out K2.out.2)
  have R3 := Lib.hid (reads_below R1.out hall)
  have BW := Lib.hid (below_two B1.out hall)
  clear hB hall
  go_wp2_with fail
  refine (aw_between (reads_alloc R3.out _)).mono ?_
  rintro e w4 ⟨px, nx, cx, rfl, hrx, hB⟩
  have HA4 : Hid (StA w (.slice pd nd cd) (.slice px nx cx) w4) := by
    have b := below_two BW.out (below_two (below_alloc w3 _) hB)
    exact ⟨B.Tab.below HT.out H0.out b, Nat.lt_of_lt_of_le H0.out b.size, reads_below R3.out (below_two (below_alloc w3 _) hB), hrx, b⟩
  have q4 := new_two w4 (.slice px nx cx) (.int .u64 30) 26 w4.heap.size rfl
  have k0 := cell_below (below_alloc w4 (.cells #[.slice px nx cx, .int .u64 30] 26)) (cell_below hB k0)
  have k1 := cell_below (below_alloc w4 (.cells #[.slice px nx cx, .int .u64 30] 26)) (cell_below hB k1)
  have HK := Lib.hid (And.intro q4.1 (And.intro q4.2.1 (And.intro k0 (And.intro k1 (Lib.hid (HA4.out.on (below_alloc w4 (.cells #[.slice px nx cx, .int .u64 30] 26))))))))
  clear hB hrx k0 k1 q4 K2 HA4 B1 B2 B3 R1 R3 BW HT H0
  obtain ⟨k0, k1, k2, k3, _⟩ := HK.out
  go_wp2_with fail
  refine (aw_only (heldAs HK.out).rd).mono ?_
  rintro e w5 ⟨po, no, co, rfl, hro, hB⟩
  have HK := Lib.hid (heldA HK.out hB)
  have RO := Lib.hid hro
  clear hB hro k0 k1 k2 k3
  go_wp2_with fail
  refine (aw_single8 RO.out (heldAs HK.out).tab (heldAs HK.out).pos).mono ?_
  rintro e w6 ⟨rfl, hB⟩
  have HK := Lib.hid (heldA HK.out hB)
  clear hB RO
  obtain ⟨k0, k1, k2, k3, _⟩ := HK.out
  go_wp2_with fail
  refine (aw_single63 (heldAs HK.out).rd (heldAs HK.out).tab (heldAs HK.out).pos).mono ?_
  rintro e w7 ⟨rfl, hB⟩
  have HK := Lib.hid (heldA HK.out hB)
  clear hB k0 k1 k2 k3
  obtain ⟨k0, k1, k2, k3, _⟩ := HK.out
  go_wp2_with fail
  refine (aw_least (heldAs HK.out).rx (heldAs HK.out).tab (heldAs HK.out).pos).mono ?_
  rintro e w8 ⟨rfl, hB⟩
  have HK := Lib.hid (heldA HK.out hB)
  clear hB k0 k1 k2 k3
  obtain ⟨k0, k1, k2, k3, _⟩ := HK.out
  go_wp2_with fail
  refine (aw_greatest (heldAs HK.out).rx).mono ?_
  rintro e w9 ⟨rfl, hB⟩
  have HK := Lib.hid (heldA HK.out hB)
  clear hB k0 k1 k2 k3
  obtain ⟨k0, k1, k2, k3, _⟩ := HK.out
  go_wp2_with fail
  refine (aw_list30 (heldAs HK.out).rx (heldAs HK.out).tab (heldAs HK.out).pos).mono ?_
  rintro e wx ⟨pl, nl, cl, rfl, hrl, hB⟩
  have HK := Lib.hid (heldA HK.out hB)
  clear hB k0 k1 k2 k3
  obtain ⟨k0, k1, k2, k3, _⟩ := HK.out
  have RL := Lib.hid hrl
  clear hrl
  go_wp2_with fail
  refine (aw_ints (reads_alloc RL.out _) (litI4 _ _ rfl 2 3 7 8) (by decide)).mono ?_
  rintro e wx ⟨rfl, hB⟩
  have HK := Lib.hid (heldA HK.out (below_two (below_alloc _ _) hB))
  clear hB k0 k1 k2 k3
  obtain ⟨k0, k1, k2, k3, _⟩ := HK.out
  go_wp2_with fail
  refine (aw_size (heldAs HK.out).rx).mono ?_
  rintro e wx ⟨rfl, hB⟩
  have HK := Lib.hid (heldA HK.out hB)
  clear hB k0 k1 k2 k3
  obtain ⟨k0, k1, k2, k3, _⟩ := HK.out
  go_wp2_with fail
  refine (aw_has3 (heldAs HK.out).rx).mono ?_
  rintro e wx ⟨rfl, hB⟩
  have HK := Lib.hid (heldA HK.out hB)
  clear hB k0 k1 k2 k3
  obtain ⟨k0, k1, k2, k3, _⟩ := HK.out
  go_wp2_with fail
  refine (aw_has1 (heldAs HK.out).rx).mono ?_
  rintro e wx ⟨rfl, hB⟩
  have HK := Lib.hid (heldA HK.out hB)
  clear hB k0 k1 k2 k3
  obtain ⟨k0, k1, k2, k3, _⟩ := HK.out
  go_wp2_with fail
  refine (aw_less (heldAs HK.out).rx).mono ?_
  rintro e wx ⟨pm, nm, cm, rfl, hrm, hB⟩
  have HK := Lib.hid (heldA HK.out hB)
  clear hB k0 k1 k2 k3
  obtain ⟨k0, k1, k2, k3, _⟩ := HK.out
  have RM := Lib.hid hrm
  clear hrm
  go_wp2_with fail
  refine (aw_list26 RM.out (heldAs HK.out).tab (heldAs HK.out).pos).mono ?_
  rintro e wx ⟨po, no, co, rfl, hro, hB⟩
  have HK := Lib.hid (heldA HK.out hB)
  clear hB k0 k1 k2 k3
  obtain ⟨k0, k1, k2, k3, _⟩ := HK.out
  have RO := Lib.hid hro
  clear hro RM
  go_wp2_with fail
  refine (aw_ints (reads_alloc RO.out _) (litI3 _ _ rfl 2 7 8) (by decide)).mono ?_
  rintro e wx ⟨rfl, hB⟩
  have HK := Lib.hid (heldA HK.out (below_two (below_alloc _ _) hB))
  clear hB k0 k1 k2 k3
  obtain ⟨k0, k1, k2, k3, _⟩ := HK.out
  go_wp2_with fail
  refine (aw_spans (heldAs HK.out).rx (heldAs HK.out).tab (heldAs HK.out).pos).mono ?_
  rintro e wx ⟨ps, ns, cs, rfl, hrs, hB⟩
  have HK := Lib.hid (heldA HK.out hB)
  clear hB k0 k1 k2 k3
  obtain ⟨k0, k1, k2, k3, _⟩ := HK.out
  have RS := Lib.hid hrs
  clear hrs
  go_wp2_with fail
  refine (same_any (sees_below RS.out (below_alloc _ _)) (litS2 _ _ rfl 2 3 7 8) (by decide)).mono ?_
  rintro e wx ⟨rfl, hB⟩
  have HK := Lib.hid (heldA HK.out (below_two (below_alloc _ _) hB))
  clear hB k0 k1 k2 k3
  obtain ⟨k0, k1, k2, k3, _⟩ := HK.out
  go_wp2_with fail
  refine (aw_may (heldAs HK.out).rx).mono ?_
  rintro e wx ⟨rfl, hB⟩
  have HK := Lib.hid (heldA HK.out hB)
  clear hB k0 k1 k2 k3
  obtain ⟨k0, k1, k2, k3, _⟩ := HK.out
  go_wp2_with fail
  refine (aw_mayno).mono ?_
  rintro e wx ⟨rfl, hB⟩
  have HK := Lib.hid (heldA HK.out hB)
  clear hB k0 k1 k2 k3
  obtain ⟨k0, k1, k2, k3, _⟩ := HK.out
  go_wp2_with fail
  refine (aw_same (heldAs HK.out).rx).mono ?_
  rintro e wx ⟨rfl, hB⟩
  have HK := Lib.hid (heldA HK.out hB)
  clear hB k0 k1 k2 k3
  obtain ⟨k0, k1, k2, k3, _⟩ := HK.out
  go_wp2_with fail
  refine (aw_diff (heldAs HK.out).rx (heldAs HK.out).rd).mono ?_
  rintro e wx ⟨rfl, hB⟩
  have HK := Lib.hid (heldA HK.out hB)
  clear hB k0 k1 k2 k3
  obtain ⟨k0, k1, k2, k3, _⟩ := HK.out
  go_wp2_with fail
  go_ret
  exact ⟨rfl, (heldAs HK.out).below⟩
end Go.Proofs.YtnabkhmonmcmfaaDoor
