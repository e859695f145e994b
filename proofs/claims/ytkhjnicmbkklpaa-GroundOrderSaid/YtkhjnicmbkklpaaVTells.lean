/-
  GroundTells answers true, at every constraints and every row that can be read.
-/
import Derived.Test.YtkhjnicmbkklpaaVAwake
import Derived.Test.YtkhjnicmbkklpaaVLarge
namespace Go.Proofs.Ytkhjnicmbkklpaa.Gr
open Go.RowKit
set_option maxRecDepth 100000

theorem heap_0d {W : World} (a : Obj) : (W.alloc a).drew.heap[W.heap.size]? = some a := heap_new _ _
theorem short_up {c : PCon} (h : Short 150 c) : Short 1000 c := by unfold Short at *; omega
theorem held6 {W0 u u' : World} {b : Nat} {a0 a1 a2 a3 a4 a5 : Value} (h : u.cell? ⟨b, 0, none⟩ = some a0 ∧ u.cell? ⟨b, 1, none⟩ = some a1 ∧ u.cell? ⟨b, 2, none⟩ = some a2 ∧ u.cell? ⟨b, 3, none⟩ = some a3 ∧ u.cell? ⟨b, 4, none⟩ = some a4 ∧ u.cell? ⟨b, 5, none⟩ = some a5 ∧ Below W0.heap.size W0 u) (hb : Below u.heap.size u u') :
    u'.cell? ⟨b, 0, none⟩ = some a0 ∧ u'.cell? ⟨b, 1, none⟩ = some a1 ∧ u'.cell? ⟨b, 2, none⟩ = some a2 ∧ u'.cell? ⟨b, 3, none⟩ = some a3 ∧ u'.cell? ⟨b, 4, none⟩ = some a4 ∧ u'.cell? ⟨b, 5, none⟩ = some a5 ∧ Below W0.heap.size W0 u' :=
  ⟨cell_stays hb h.1, cell_stays hb h.2.1, cell_stays hb h.2.2.1, cell_stays hb h.2.2.2.1, cell_stays hb h.2.2.2.2.1, cell_stays hb h.2.2.2.2.2.1, h.2.2.2.2.2.2.trans (hb.mono h.2.2.2.2.2.2.size)⟩
theorem held6b {W0 u : World} {b : Nat} {a0 a1 a2 a3 a4 a5 : Value} (h : u.cell? ⟨b, 0, none⟩ = some a0 ∧ u.cell? ⟨b, 1, none⟩ = some a1 ∧ u.cell? ⟨b, 2, none⟩ = some a2 ∧ u.cell? ⟨b, 3, none⟩ = some a3 ∧ u.cell? ⟨b, 4, none⟩ = some a4 ∧ u.cell? ⟨b, 5, none⟩ = some a5 ∧ Below W0.heap.size W0 u) : Below W0.heap.size W0 u := h.2.2.2.2.2.2

set_option maxHeartbeats 4000000 in
theorem tells_law (l : List PCon) (row : List Int) (v vr : Value) (w : World) (h : Slc rCon 6 w v l) (hr : Slc rNum 1 w vr row) :
    Calls Try.prog 3 #[v, vr] w fun e w' => e = .returned (.bool true) ∧ Below w.heap.size w w' := by
  obtain ⟨pr, br, orr, cr, lr, rfl, _, hsr⟩ := hr
  have NR := Lib.hid (nums_of hsr)
  have HL := Lib.hid h
  have HLG := Lib.hid (fun u (hB : Below w.heap.size w u) => large_any pr lr cr l v u (h.below rCon_stays hB))
  obtain ⟨pv, bv, ov, cv, lv, rfl, _, hsl⟩ := h
  have q1 := hsl.at_
  have e2 := Lib.hid hsl.long
  have HSL := Lib.hid hsl
  clear hsr hsl
  obtain ⟨B, hB⟩ : ∃ B, B = largeB l lr := ⟨_, rfl⟩
  rw [← hB] at HLG
  have HBB := Lib.hid hB
  clear hB
  go_enter Try.func3, Try.ntmps3
  go_wp2_with fail
  refine (awake_any w).mono ?_
  rintro e w1 ⟨rfl, hB1⟩
  have HB1 := Lib.hid hB1
  clear hB1
  go_wp2_with fail
  refine (HLG.out _ HB1.out).mono ?_
  rintro e w2 ⟨rfl, hB2⟩
  have HB2 := Lib.hid (HB1.out.trans (hB2.mono HB1.out.size))
  clear hB2
  cases B
  · obtain ⟨s1, s2, s3⟩ := large_no HBB.out.symm
    have HS := Lib.hid s3
    have hlv : lv ≤ 40 := by rw [e2.out]; exact s1
    have HLL := Lib.hid s1
    clear s1 s3
    go_wp2_with fail
    go_loopw [14] (fun i wr => (∃ k : Nat, k ≤ lv ∧ i = .int .i64 k) ∧ Below w.heap.size w wr) (fun i _ => lv - (intOf i).toNat)
    case atStart => exact ⟨⟨0, by omega, rfl⟩, HB2.out⟩
    case round =>
      rename_i wr
      obtain ⟨⟨k, hk, rfl⟩, hB⟩ := hrel
      have HB := Lib.hid hB
      clear hB
      by_cases hlt : k < lv
      · obtain rfl := q1 (by omega)
        obtain ⟨c, v1, v2, v3, hc, ⟨c0, c1, c2, c3, c4, c5⟩, hrc⟩ := con_at2 (HSL.out.below rCon_stays HB.out) hlt
        have hsc := short_up (HS.out c (List.mem_of_getElem? hc))
        obtain ⟨⟨p1, l1, k1, rfl⟩, ⟨p2, l2, k2, rfl⟩, ⟨p3, l3, k3, rfl⟩⟩ := rCon_shape hrc
        have CH := Lib.hid (fun (u : World) (hu : Below wr.heap.size wr u) => gholds_any pr br orr lr cr row u (rCon_stays _ _ _ _ hu hrc) hsc (nums_stay NR.out (HB.out.trans (hu.mono HB.out.size))) (by omega))
        have CA := Lib.hid (fun (u : World) (hu : Below wr.heap.size wr u) (z : Nat) (hz : u.heap[z]? = some (.cells #[.int .i64 c.kind, .slice p1 l1 k1, .slice p2 l2 k2, .int .i64 c.rel, .int .i64 c.const, .slice p3 l3 k3] 27)) => rall_cells pr br orr lr cr [c] row (.slice (some ⟨z, 0, none⟩) 1 1) u (slc_con1 hz (rCon_stays _ _ _ _ hu hrc)) (nums_stay NR.out (HB.out.trans (hu.mono HB.out.size))) (by simp) (by omega) (fun x hx => by simp at hx; subst hx; exact hsc))
        obtain ⟨q, hq⟩ : ∃ q, q = allG [c] row := ⟨_, rfl⟩
        rw [← hq] at CH CA
        generalize c.kind = kd at c0 CH CA
        generalize c.rel = rl at c3 CH CA
        generalize c.const = ct at c4 CH CA
        have h6 := six_new wr (.int .i64 kd) (.slice p1 l1 k1) (.slice p2 l2 k2) (.int .i64 rl) (.int .i64 ct) (.slice p3 l3 k3) 27
        have H0 := Lib.hid (And.intro h6.c0 (And.intro h6.c1 (And.intro h6.c2 (And.intro h6.c3 (And.intro h6.c4 (And.intro h6.c5 (below_new wr (.cells #[.int .i64 kd, .slice p1 l1 k1, .slice p2 l2 k2, .int .i64 rl, .int .i64 ct, .slice p3 l3 k3] 27))))))))
        obtain ⟨W0, hW0⟩ : ∃ W0, W0 = wr.alloc (.cells #[.int .i64 kd, .slice p1 l1 k1, .slice p2 l2 k2, .int .i64 rl, .int .i64 ct, .slice p3 l3 k3] 27) := ⟨_, rfl⟩
        rw [← hW0] at H0
        have HW0 := Lib.hid hW0
        clear hc hrc hsc hq h6 hW0
        go_upto_region 8 with fail
        rw [← HW0.out]
        go_region_held3 (fun w' => w'.cell? ⟨wr.heap.size, 0, none⟩ = some (.int .i64 kd) ∧ w'.cell? ⟨wr.heap.size, 1, none⟩ = some (.slice p1 l1 k1) ∧ w'.cell? ⟨wr.heap.size, 2, none⟩ = some (.slice p2 l2 k2) ∧ w'.cell? ⟨wr.heap.size, 3, none⟩ = some (.int .i64 rl) ∧ w'.cell? ⟨wr.heap.size, 4, none⟩ = some (.int .i64 ct) ∧ w'.cell? ⟨wr.heap.size, 5, none⟩ = some (.slice p3 l3 k3) ∧ Below wr.heap.size wr w')
          (first | exact held6 (by assumption) (by assumption) | exact held6 (by assumption) (below_new _ _) | exact held6 H0.out (below_drewN (n := 1) (Below.refl _ _)))
          (first
            | (go_at_call 8; refine Calls.mono (CH.out _ (held6b (by assumption))) ?_; rintro e u1 ⟨rfl, hBh⟩)
            | (go_at_call 9; refine Calls.mono (CA.out _ (held6b (by assumption)) _ ?_) ?_; (first | exact heap_0 _ | exact heap_0d _ | exact heap_below (heap_0 _) (by assumption) | exact heap_below (heap_0d _) (by assumption)); rintro e u2 ⟨rfl, hBa⟩))
        all_goals
          have HH := Lib.hid (HB.out.trans ((held6b (by assumption : u2.cell? ⟨wr.heap.size, 0, none⟩ = some (.int .i64 kd) ∧ u2.cell? ⟨wr.heap.size, 1, none⟩ = some (.slice p1 l1 k1) ∧ u2.cell? ⟨wr.heap.size, 2, none⟩ = some (.slice p2 l2 k2) ∧ u2.cell? ⟨wr.heap.size, 3, none⟩ = some (.int .i64 rl) ∧ u2.cell? ⟨wr.heap.size, 4, none⟩ = some (.int .i64 ct) ∧ u2.cell? ⟨wr.heap.size, 5, none⟩ = some (.slice p3 l3 k3) ∧ Below wr.heap.size wr u2)).mono HB.out.size))
          go_wp2_with fail
          go_roundw
          case rel => exact ⟨⟨k + 1, by omega, by go_num⟩, HH.out⟩
          case measure => simp [intOf]; omega
      · obtain rfl : k = lv := by omega
        have CR := Lib.hid (fun (u : World) (hu : Below w.heap.size w u) => gright_cells pr br orr lr cr l row (.slice pv k cv) u (HL.out.below rCon_stays hu) (nums_stay NR.out hu) (by have := HLL.out; omega) (by omega) (fun c hc => short_up (HS.out c hc)))
        have CD := Lib.hid (fun (u : World) (hu : Below w.heap.size w u) => rright_cells pv bv ov cv k pr br orr cr lr l row u (HSL.out.below rCon_stays hu) (nums_stay NR.out hu) (by omega) (by omega) (fun c hc => short_up (HS.out c hc)))
        have CA := Lib.hid (fun (u : World) (hu : Below w.heap.size w u) => gall_cells pr br orr lr cr l row (.slice pv k cv) u (HL.out.below rCon_stays hu) (nums_stay NR.out hu) (by have := HLL.out; omega) (by omega) (fun c hc => short_up (HS.out c hc)))
        have CB := Lib.hid (fun (u : World) (hu : Below w.heap.size w u) => rall_cells pr br orr lr cr l row (.slice pv k cv) u (HL.out.below rCon_stays hu) (nums_stay NR.out hu) (by have := HLL.out; omega) (by omega) (fun c hc => short_up (HS.out c hc)))
        generalize rightG l row = r at CR CD
        generalize allG l row = a at CA CB
        have hr0 : (r == r) = true := beq_self_eq_true _
        have ha0 : (a == a) = true := beq_self_eq_true _
        go_wp2_with fail
        refine (CR.out _ HB.out).mono ?_
        rintro e u1 ⟨rfl, h1⟩
        have H1 := Lib.hid (HB.out.trans (h1.mono HB.out.size))
        clear h1
        go_wp2_with fail
        refine (CD.out _ H1.out).mono ?_
        rintro e u2 ⟨rfl, h2⟩
        have H2 := Lib.hid (H1.out.trans (h2.mono H1.out.size))
        clear h2
        go_wp2_with fail
        refine (CA.out _ H2.out).mono ?_
        rintro e u3 ⟨rfl, h3⟩
        have H3 := Lib.hid (H2.out.trans (h3.mono H2.out.size))
        clear h3
        go_wp2_with fail
        refine (CB.out _ H3.out).mono ?_
        rintro e u4 ⟨rfl, h4⟩
        have H4 := Lib.hid (H3.out.trans (h4.mono H3.out.size))
        clear h4
        go_wp2_with fail
        go_ret
        exact ⟨ret_b (by simp), H4.out⟩
  · go_wp2_with fail
    go_ret
    exact ⟨rfl, HB2.out⟩
end Go.Proofs.Ytkhjnicmbkklpaa.Gr
