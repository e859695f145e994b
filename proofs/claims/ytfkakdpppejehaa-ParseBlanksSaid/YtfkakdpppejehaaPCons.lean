/-
  What wrong of package model answers, and its look con, at every model that can be read and whose lists are short.
-/
import Derived.Test.YtfkakdpppejehaaPLook
namespace Go.Proofs.Ytfkakdpppejehaa
open Go.RowKit
set_option maxRecDepth 100000

theorem short_150 {c : PCon} (h : Short 1000 c) : Short 1000 c := h
set_option maxRecDepth 100000 in
set_option maxHeartbeats 1000000 in
theorem wrong1_any (u : World) (x : PCon) (v1 v2 v3 : Value) (b : Nat) (n : Int) (h : rCon u [.int .i64 x.kind, v1, v2, .int .i64 x.rel, .int .i64 x.const, v3] x) (hs : Short 1000 x) (hc : u.cell? ⟨b, 0, none⟩ = some (.int .i64 n)) :
    Calls Try.prog 65 (#[.agg #[.int .i64 x.kind, v1, v2, .int .i64 x.rel, .int .i64 x.const, v3]] ++ #[.pointer (some ⟨b, 0, none⟩)]) u fun e w' => e = .returned (.bool (!rightC x n)) ∧ Below u.heap.size u w' := by
  obtain ⟨⟨p1, l1, c1, rfl⟩, ⟨p2, l2, c2, rfl⟩, ⟨p3, l3, c3, rfl⟩⟩ := rCon_shape h
  obtain ⟨W0, hW0⟩ : ∃ W0, W0 = u.alloc (.cells #[.int .i64 x.kind, .slice p1 l1 c1, .slice p2 l2 c2, .int .i64 x.rel, .int .i64 x.const, .slice p3 l3 c3] 50) := ⟨_, rfl⟩
  have hB0 : Below u.heap.size u W0 := by rw [hW0]; exact (Below.refl _ u).alloc (Nat.le_refl _) _
  have h6 : At6 W0 u.heap.size (.int .i64 x.kind) (.slice p1 l1 c1) (.slice p2 l2 c2) (.int .i64 x.rel) (.int .i64 x.const) (.slice p3 l3 c3) := by rw [hW0]; exact six_new _ _ _ _ _ _ _ _
  obtain ⟨m0, m1, m2, m3, m4, m5⟩ := h6
  have hc := cell_stays hB0 hc
  have C := Lib.hid (pright_any n (rCon_stays _ _ _ _ hB0 h) (short_150 hs))
  have HW := Lib.hid hW0
  have HB0 := Lib.hid hB0
  obtain ⟨B, hB⟩ : ∃ B, B = rightC x n := ⟨_, rfl⟩
  rw [← hB] at C ⊢
  generalize x.kind = xk at m0 C HW ⊢
  generalize x.rel = xr at m3 C HW ⊢
  generalize x.const = xt at m4 C HW ⊢
  clear h hs hW0 hB0 hB
  have e : (#[.agg #[.int .i64 xk, .slice p1 l1 c1, .slice p2 l2 c2, .int .i64 xr, .int .i64 xt, .slice p3 l3 c3]] ++ #[.pointer (some ⟨b, 0, none⟩)] : Array Value) = #[.agg #[.int .i64 xk, .slice p1 l1 c1, .slice p2 l2 c2, .int .i64 xr, .int .i64 xt, .slice p3 l3 c3], .pointer (some ⟨b, 0, none⟩)] := by simp
  rw [e]
  clear e
  go_enter Try.func65, Try.ntmps65
  go_upto_region 1 with fail
  rw [← HW.out]
  go_wp2_with fail
  refine C.out.mono ?_
  rintro e w2 ⟨rfl, hB2⟩
  have HB2 := Lib.hid (HB0.out.trans (hB2.mono HB0.out.size))
  clear hB2
  cases B
  · skip
    go_wp2_with fail
    go_ret
    exact ⟨rfl, HB2.out⟩
  · skip
    go_wp2_with fail
    go_ret
    exact ⟨rfl, HB2.out⟩

set_option maxRecDepth 100000 in
set_option maxHeartbeats 1000000 in
theorem wrong_any {w : World} {v : Value} {L : List PCon} (n : Nat) (h : Slc rCon 6 w v L) (hl : L.length ≤ 1000) (hs : ∀ c ∈ L, Short 1000 c) :
    Calls Try.prog 51 #[v, .int .i64 (n : Int)] w fun e w' => e = .returned (.bool (wrongL L n)) ∧ Below w.heap.size w w' := by
  obtain ⟨R, hR⟩ : ∃ R, R = wrongL L n := ⟨_, rfl⟩
  rw [← hR]
  have hR2 : L.any (fun c => !rightC c (n : Int)) = R := by rw [hR]; rfl
  obtain ⟨W0, hW0⟩ : ∃ W0, W0 = w.alloc (.cells #[.int .i64 (n : Int)] 3) := ⟨_, rfl⟩
  have hB0 : Below w.heap.size w W0 := by rw [hW0]; exact (Below.refl _ w).alloc (Nat.le_refl _) _
  have m0 : W0.cell? ⟨w.heap.size, 0, none⟩ = some (.int .i64 (n : Int)) := by rw [hW0]; go_simp
  have C := Lib.hid (hasC_any 65 enters71 #[.pointer (some ⟨w.heap.size, 0, none⟩)] (fun c => !rightC c (n : Int)) (h.below rCon_stays hB0) (by omega) fun u x v1 v2 v3 hb hm hx => wrong1_any u x v1 v2 v3 w.heap.size n hx (hs x hm) (cell_stays hb m0))
  rw [hR2] at C
  obtain ⟨p, l, c, rfl⟩ := slc_shape h
  have HW := Lib.hid hW0
  have HB0 := Lib.hid hB0
  clear hR h hs hW0 hB0 hR2 m0
  go_enter Try.func51, Try.ntmps51
  go_upto_region 1 with fail
  rw [← HW.out]
  go_wp2_with fail
  refine C.out.mono ?_
  rintro e w2 ⟨rfl, hB2⟩
  have HB2 := Lib.hid (HB0.out.trans (hB2.mono HB0.out.size))
  clear hB2
  go_wp2_with fail
  go_ret
  exact ⟨rfl, HB2.out⟩

set_option maxRecDepth 100000 in
set_option maxHeartbeats 2000000 in
theorem con_cells (pb : Option Addr) (bb ob cb lb : Nat) (pg : Option Addr) (lg cg : Nat) (m : PModel) (w : World) (h : Mo w pb bb ob cb lb pg lg cg m) (hf : Few m) :
    Calls Try.prog 29 #[.agg #[.slice pb lb cb, .slice pg lg cg]] w fun e w' => e = .returned (.bool (conM m)) ∧ Below w.heap.size w w' := by
  obtain ⟨R, hR⟩ : ∃ R, R = conM m := ⟨_, rfl⟩
  rw [← hR]
  obtain ⟨T, hT⟩ : ∃ T, T = (varsL m.blocks).length := ⟨_, rfl⟩
  have hR2 : R = (conF 0 m.blocks || wrongL m.goal T) := by rw [hR, conM, hT]
  have hp := h.mod.blocks.at_
  have hlb : lb ≤ 1000 := by rw [h.mod.blocks.long]; exact hf.blocks
  have HLB := Lib.hid h.mod.blocks.long
  have HF := Lib.hid hf
  obtain ⟨W0, hW0⟩ : ∃ W0, W0 = w.alloc (.cells #[.slice pb lb cb, .slice pg lg cg] 60) := ⟨_, rfl⟩
  have hB0 : Below w.heap.size w W0 := by rw [hW0]; exact (Below.refl _ w).alloc (Nat.le_refl _) _
  have m0 : W0.cell? ⟨w.heap.size, 0, none⟩ = some (.slice pb lb cb) := by rw [hW0]; go_simp
  have m1 : W0.cell? ⟨w.heap.size, 1, none⟩ = some (.slice pg lg cg) := by rw [hW0]; go_simp
  have HM := Lib.hid (h.below hB0)
  have HW := Lib.hid hW0
  have HB0 := Lib.hid hB0
  have HM1 := Lib.hid m1
  have HT := Lib.hid hT
  have HS := Lib.hid (show R = (conF 0 (m.blocks.drop 0) || wrongL m.goal T) ∧ 0 = (varsL (m.blocks.take 0)).length ∧ 0 ≤ 0 * 1000 by exact ⟨by rw [hR2]; simp, by simp [varsL], by omega⟩)
  clear hR h hf hW0 hB0 hR2 hT
  go_enter Try.func29, Try.ntmps29
  go_upto_region 1 with fail
  rw [← HW.out]
  go_wp2_with fail
  go_loopw [3, 10] (fun t i wr => ∃ k n : Nat, k ≤ lb ∧ i = .int .i64 k ∧ t = .int .i64 n ∧ (R = (conF n (m.blocks.drop k) || wrongL m.goal T) ∧ n = (varsL (m.blocks.take k)).length ∧ n ≤ k * 1000) ∧ Below W0.heap.size W0 wr) (fun _ i _ => lb - (intOf i).toNat)
  case atStart => exact ⟨0, 0, by omega, rfl, rfl, HS.out, Below.refl _ _⟩
  case round =>
    obtain ⟨k, n, hk, rfl, rfl, ⟨hrel, hn, hn2⟩, hB⟩ := hrel
    by_cases hlt : k < lb
    · obtain rfl := hp (by omega)
      obtain ⟨x, v1, v2, ex, ed, a0, a1, a2, sv, sc⟩ := block_at (HM.out.mod.below hB).blocks hlt
      have hstep := hrel.trans (by rw [con_at_k ex])
      have htot := totals ex
      obtain ⟨p1, l1, c1, rfl, hl1⟩ := slc_long sv
      have hxv := HF.out.vars x (List.mem_of_getElem? ex)
      have hxc := HF.out.wheres x (List.mem_of_getElem? ex)
      rw [← hl1] at hxv htot hstep
      rw [← hn] at htot
      generalize x.all = xa at a0
      obtain ⟨p2, l2, c2, hv2⟩ := slc_shape sc
      have CW := Lib.hid (fun o => wrong_any (n + l1) (sc.below rCon_stays (w' := wr.alloc o) ((Below.refl _ wr).alloc (Nat.le_refl _) _)) hxc.1 hxc.2)
      subst hv2
      have HB := Lib.hid (fun o => hB.alloc hB.size o)
      have HT := Lib.hid htot
      obtain ⟨B, eB⟩ : ∃ B, B = wrongL x.cons (n + l1) := ⟨_, rfl⟩
      rw [← eB] at CW hstep
      clear hrel hB ex ed sv sc hl1 htot hn eB hxc
      have en : (n : Int) + (l1 : Int) = ((n + l1 : Nat) : Int) := by omega
      cases B
      · rw [Bool.false_or] at hstep
        have NX := Lib.hid hstep
        clear hstep
        have CW2 : Hid (∀ o, Calls Try.prog 51 #[.slice p2 l2 c2, .int .i64 ((n : Int) + (l1 : Int))] (wr.alloc o) fun e w' => e = .returned (.bool false) ∧ Below (wr.alloc o).heap.size (wr.alloc o) w') := Lib.hid (by rw [en]; exact CW.out)
        clear en CW
        go_wp2_with fail
        refine (CW2.out _).mono ?_
        rintro e w2 ⟨rfl, hB2⟩
        have HB2 := Lib.hid ((HB.out _).trans (hB2.mono (HB.out _).size))
        clear hB2
        go_wp2_with fail
        go_roundw
        case rel => exact ⟨k + 1, n + l1, by omega, by go_num, by go_num, ⟨NX.out, HT.out.symm, by omega⟩, HB2.out⟩
        case measure => simp [intOf]; omega
      · rw [Bool.true_or, Bool.true_or] at hstep
        subst hstep
        have CW2 : Hid (∀ o, Calls Try.prog 51 #[.slice p2 l2 c2, .int .i64 ((n : Int) + (l1 : Int))] (wr.alloc o) fun e w' => e = .returned (.bool true) ∧ Below (wr.alloc o).heap.size (wr.alloc o) w') := Lib.hid (by rw [en]; exact CW.out)
        clear en CW
        go_wp2_with fail
        refine (CW2.out _).mono ?_
        rintro e w2 ⟨rfl, hB2⟩
        have HB2 := Lib.hid ((HB.out _).trans (hB2.mono (HB.out _).size))
        clear hB2
        go_wp2_with fail
        go_ret
        exact ⟨rfl, HB0.out.trans (HB2.out.mono HB0.out.size)⟩
    · have key : R = wrongL m.goal n := by
        have e : n = T := by rw [hn, HT.out, List.take_of_length_le (by rw [← HLB.out]; omega)]
        rw [hrel, List.drop_of_length_le (by rw [← HLB.out]; omega), conF, Bool.false_or, ← e]
      have m1 := cell_stays hB HM1.out
      have CW := Lib.hid (wrong_any n (HM.out.mod.below hB).goal HF.out.goal.1 HF.out.goal.2)
      rw [← key] at CW
      have HB := Lib.hid hB
      clear hrel hB hn key
      go_wp2_with fail
      refine CW.out.mono ?_
      rintro e w2 ⟨rfl, hB2⟩
      have HB2 := Lib.hid (HB.out.trans (hB2.mono HB.out.size))
      clear hB2
      go_wp2_with fail
      go_ret
      exact ⟨rfl, HB0.out.trans (HB2.out.mono HB0.out.size)⟩
end Go.Proofs.Ytfkakdpppejehaa
