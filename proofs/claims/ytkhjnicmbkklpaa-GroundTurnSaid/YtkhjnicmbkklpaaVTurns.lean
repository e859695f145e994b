/-
  GroundTurn answers true, at every constraint and every row that can be read.
-/
import Derived.Test.YtkhjnicmbkklpaaVTwo
import Derived.Deep.RegionLaw
import Derived.Deep.RegionHeld3
namespace Go.Proofs.Ytkhjnicmbkklpaa.Gr
open Go.RowKit
set_option maxRecDepth 100000

theorem vars_fit {vs : List Int} {row : List Int} {lr : Nat} (h : VarsTo vs row.length vs.length) (e : lr = row.length) (hl : lr ≤ 40) : ∀ v ∈ (lr : Int) :: vs, Fit v := fun v hv => by
  rcases List.mem_cons.1 hv with rfl | hv
  · unfold Fit; omega
  · have := vars_in h hv
    unfold Fit
    omega
theorem row_fit {row : List Int} {e : Int} (h : rowOk row = true) (he : -1048576 ≤ e ∧ e ≤ 1048576) : ∀ n ∈ row ++ [e], Fit n := fun n hn => by
  rcases List.mem_append.1 hn with hn | hn
  · have := List.all_eq_true.1 h n hn
    simp only [okN, decide_eq_true_eq] at this
    unfold Fit; omega
  · simp at hn
    subst hn
    unfold Fit; omega
theorem short_iff {c : PCon} {n : Int} (h : Short 150 c) : Short 1000 (iffC c n) := by
  unfold Short iffC at *
  simp only [List.length_cons, List.length_nil]
  omega
theorem fit_rel {r : Int} (h : 0 ≤ r ∧ r ≤ 5) : Fit r := by unfold Fit; omega
theorem fits_neg {ks ns : List Int} (e : ns = ks.map fun n => -n) (h : allN ks 1048576 = true) : ∀ n ∈ ns, Fit n := fun n hn => by
  rw [e] at hn
  obtain ⟨m, hm, rfl⟩ := List.mem_map.1 hn
  have := List.all_eq_true.1 h m hm
  simp only [Bool.and_eq_true, decide_eq_true_eq] at this
  unfold Fit
  omega
theorem short_turn {c : PCon} (h : Short 1000 c) : Short 1000 (turnC c) := by
  unfold Short turnC at *
  simpa using h
theorem wrap_in {n : Int} (h : -9223372036854775808 ≤ n ∧ n ≤ 9223372036854775807) : IntKind.i64.wrap n = n := IntWalk.i64_in n h
theorem arr_contrary {n : Nat} (h : n ≤ 5) : (#[.int .i64 1, .int .i64 0, .int .i64 5, .int .i64 4, .int .i64 3, .int .i64 2] : Array Value)[n]? = some (.int .i64 (contraryR n)) := by
  rcases (by omega : n = 0 ∨ n = 1 ∨ n = 2 ∨ n = 3 ∨ n = 4 ∨ n = 5) with rfl | rfl | rfl | rfl | rfl | rfl <;> rfl
theorem arr_about {n : Nat} (h : n ≤ 5) : (#[.int .i64 0, .int .i64 1, .int .i64 4, .int .i64 5, .int .i64 2, .int .i64 3] : Array Value)[n]? = some (.int .i64 (aboutR n)) := by
  rcases (by omega : n = 0 ∨ n = 1 ∨ n = 2 ∨ n = 3 ∨ n = 4 ∨ n = 5) with rfl | rfl | rfl | rfl | rfl | rfl <;> rfl
theorem block_lt {w : World} {b off : Nat} {v : Value} (h : w.cell? ⟨b, off, none⟩ = some v) : b < w.heap.size := by
  unfold World.cell? at h
  cases hh : w.heap[b]? with
  | none => simp [hh] at h
  | some q => exact (Array.getElem?_eq_some_iff.1 hh).1

set_option maxHeartbeats 16000000 in
theorem turns_law {c : PCon} {row : List Int} {v1 v2 v3 vr : Value} (w : World) (h : rCon w [.int .i64 c.kind, v1, v2, .int .i64 c.rel, .int .i64 c.const, v3] c) (hr : Slc rNum 1 w vr row) :
    Calls Try.prog 4 #[.agg #[.int .i64 c.kind, v1, v2, .int .i64 c.rel, .int .i64 c.const, v3], vr] w fun e w' => e = .returned (.bool true) ∧ Below w.heap.size w w' := by
  obtain ⟨pr, br, orr, cr, lr, rfl, hcr, hsr⟩ := hr
  have NR := Lib.hid (nums_of hsr)
  have hle := NR.out.long
  have HLE := Lib.hid hle
  have h0 := h
  obtain ⟨u1, u2, u3, eu, hfit, ⟨p1, b1, o1, k1, l1, e1, hc1, hs1⟩, ⟨p2, b2, o2, k2, l2, e2, hc2, hs2⟩, ⟨p3, b3, o3, k3, l3, e3, hc3, hs3⟩⟩ := h0
  subst e1 e2 e3
  simp only [List.cons.injEq, and_true, true_and] at eu
  obtain ⟨rfl, rfl, rfl⟩ := eu
  have N1 := Lib.hid (nums_of hs1)
  have N2 := Lib.hid (nums_of hs2)
  have HFIT := Lib.hid hfit
  have HC := Lib.hid h
  have SL1 := Lib.hid (show Slc rNum 1 w (.slice p1 l1 k1) c.vars from ⟨p1, b1, o1, k1, l1, rfl, hc1, hs1⟩)
  have SL2 := Lib.hid (show Slc rNum 1 w (.slice p2 l2 k2) c.coefs from ⟨p2, b2, o2, k2, l2, rfl, hc2, hs2⟩)
  have SL3 := Lib.hid (show Slc rNum 1 w (.slice p3 l3 k3) c.nums from ⟨p3, b3, o3, k3, l3, rfl, hc3, hs3⟩)
  clear hs1 hs2 hs3 hfit hc3
  obtain ⟨W0, hW0⟩ : ∃ W0, W0 = w.alloc (.cells #[.int .i64 c.kind, .slice p1 l1 k1, .slice p2 l2 k2, .int .i64 c.rel, .int .i64 c.const, .slice p3 l3 k3] 27) := ⟨_, rfl⟩
  have hB0 : Below w.heap.size w W0 := by rw [hW0]; exact below_new _ _
  have h6 : At6 W0 w.heap.size (.int .i64 c.kind) (.slice p1 l1 k1) (.slice p2 l2 k2) (.int .i64 c.rel) (.int .i64 c.const) (.slice p3 l3 k3) := by rw [hW0]; exact six_new _ _ _ _ _ _ _ _
  have LG := Lib.hid (fun (u : World) (hB : Below w.heap.size w u) (z : Nat) (hz : u.heap[z]? = some (.cells #[.int .i64 c.kind, .slice p1 l1 k1, .slice p2 l2 k2, .int .i64 c.rel, .int .i64 c.const, .slice p3 l3 k3] 27)) => large_any pr lr cr [c] (.slice (some ⟨z, 0, none⟩) 1 1) u (slc_con1 hz (rCon_stays _ _ _ _ hB h)))
  have GR := Lib.hid (fun (hs : Short 150 c ∧ lr ≤ 40) (u : World) (hB : Below w.heap.size w u) (z : Nat) (hz : u.heap[z]? = some (.cells #[.int .i64 c.kind, .slice p1 l1 k1, .slice p2 l2 k2, .int .i64 c.rel, .int .i64 c.const, .slice p3 l3 k3] 27)) => gright_cells pr br orr lr cr [c] row (.slice (some ⟨z, 0, none⟩) 1 1) u (slc_con1 hz (rCon_stays _ _ _ _ hB h)) (nums_stay NR.out hB) (by simp) (by omega) (fun x hx => by simp at hx; subst hx; exact short_up hs.1))
  obtain ⟨B, hB⟩ : ∃ B, B = largeB [c] lr := ⟨_, rfl⟩
  rw [← hB] at LG
  have HBB := Lib.hid hB
  obtain ⟨RG, hRG⟩ : ∃ RG, RG = rightG [c] row := ⟨_, rfl⟩
  rw [← hRG] at GR
  have HRG := Lib.hid hRG
  obtain ⟨kd, ekd⟩ : ∃ kd, kd = c.kind := ⟨_, rfl⟩
  obtain ⟨rl, erl⟩ : ∃ rl, rl = c.rel := ⟨_, rfl⟩
  obtain ⟨ct, ect⟩ : ∃ ct, ct = c.const := ⟨_, rfl⟩
  rw [← ekd, ← erl, ← ect] at LG GR HC hW0 h6 ⊢
  have EK := Lib.hid ekd
  have ER := Lib.hid erl
  have EC := Lib.hid ect
  have H6 := Lib.hid h6
  have HB0 := Lib.hid hB0
  have HW := Lib.hid hW0
  clear hle h hsr hB0 hW0 hB hRG ekd erl ect h6
  go_enter Try.func4, Try.ntmps4
  go_upto_region 1 with fail
  rw [← HW.out]
  go_wp2_with fail
  refine (awake_any W0).mono ?_
  rintro e w1 ⟨rfl, hB1⟩
  have HB1 := Lib.hid (HB0.out.trans (hB1.mono HB0.out.size))
  have H61 := Lib.hid (six_stay H6.out hB1)
  clear hB1
  obtain ⟨m0, m1, m2, m3, m4, m5⟩ := H61.out
  have hb2 := below_new w1 (.cells #[.int .i64 kd, .slice p1 l1 k1, .slice p2 l2 k2, .int .i64 rl, .int .i64 ct, .slice p3 l3 k3] 27)
  go_wp2_with fail
  refine (LG.out _ (HB1.out.trans (hb2.mono HB1.out.size)) _ (heap_0 _)).mono ?_
  rintro e w2 ⟨rfl, hB2⟩
  have hb3 := hb2.trans (hB2.mono hb2.size)
  have HB2 := Lib.hid (HB1.out.trans (hb3.mono HB1.out.size))
  have H62 := Lib.hid (six_stay H61.out hb3)
  clear hB2 hb2 hb3 m0 m1 m2 m3 m4 m5
  cases B
  · obtain ⟨_, s2, s3⟩ := large_no HBB.out.symm
    have hsc := s3 c (by simp)
    have GR2 := Lib.hid (GR.out ⟨hsc, s2⟩)
    have HSC := Lib.hid (short_up hsc)
    have HS150 := Lib.hid hsc
    clear s3 hsc GR
    by_cases hk : kd = 1
    · subst hk
      obtain ⟨m0, m1, m2, m3, m4, m5⟩ := H62.out
      have hb2 := below_new w2 (.cells #[.int .i64 1, .slice p1 l1 k1, .slice p2 l2 k2, .int .i64 rl, .int .i64 ct, .slice p3 l3 k3] 27)
      go_wp2_with fail
      refine (GR2.out _ (HB2.out.trans (hb2.mono HB2.out.size)) _ (heap_0 _)).mono ?_
      rintro e w3 ⟨rfl, hB3⟩
      have hb3 := hb2.trans (hB3.mono hb2.size)
      have HB3 := Lib.hid (HB2.out.trans (hb3.mono HB2.out.size))
      have H63 := Lib.hid (six_stay H62.out hb3)
      clear hB3 hb2 hb3 m0 m1 m2 m3 m4 m5
      cases RG
      · go_wp2_with fail
        go_ret
        exact ⟨rfl, HB3.out⟩
      · obtain ⟨m0, m1, m2, m3, m4, m5⟩ := H63.out
        go_upto_region 7 with fail
        obtain ⟨W5, hW5⟩ : ∃ W5, W5 = ((w3.alloc (.cells #[.int .i64 1, .int .i64 0, .int .i64 5, .int .i64 4, .int .i64 3, .int .i64 2] 29)).alloc (.cells #[.int .i64 0, .int .i64 1, .int .i64 4, .int .i64 5, .int .i64 2, .int .i64 3] 29)) := ⟨_, rfl⟩
        have hb5 : Below w3.heap.size w3 W5 := by rw [hW5]; exact ((Below.refl _ w3).alloc (Nat.le_refl _) _).alloc (by simp) _
        rw [← hW5]
        have HB5 := Lib.hid (HB3.out.trans (hb5.mono HB3.out.size))
        have A5 := Lib.hid (show W5.heap[w3.heap.size]? = some (.cells #[.int .i64 1, .int .i64 0, .int .i64 5, .int .i64 4, .int .i64 3, .int .i64 2] 29) by rw [hW5]; exact heap_old _ (heap_new _ _))
        have A6 := Lib.hid (show W5.heap[w3.heap.size + 1]? = some (.cells #[.int .i64 0, .int .i64 1, .int .i64 4, .int .i64 5, .int .i64 2, .int .i64 3] 29) by
          have := heap_new (w3.alloc (.cells #[.int .i64 1, .int .i64 0, .int .i64 5, .int .i64 4, .int .i64 3, .int .i64 2] 29)) (.cells #[.int .i64 0, .int .i64 1, .int .i64 4, .int .i64 5, .int .i64 2, .int .i64 3] 29)
          rw [World.size_alloc] at this
          rw [hW5]; exact this)
        have H65 := Lib.hid (six_stay H63.out hb5)
        clear m0 m1 m2 m3 m4 m5 hb5 hW5
        obtain ⟨m0, m1, m2, m3, m4, m5⟩ := H65.out
        obtain ⟨q, hq⟩ : ∃ q, q = allG [c] row := ⟨_, rfl⟩
        have CH := Lib.hid (by
          have := gholds_any pr br orr lr cr row W5 (c := c) (by rw [← EK.out, ← ER.out, ← EC.out]; exact rCon_stays _ _ _ _ HB5.out HC.out) HSC.out (nums_stay NR.out HB5.out) (by omega)
          rwa [← EK.out, ← ER.out, ← EC.out, ← hq] at this)
        have HQ := Lib.hid hq
        clear hq
        go_wp2_with fail
        refine CH.out.mono ?_
        rintro e w7 ⟨rfl, hB7⟩
        have HB7 := Lib.hid (HB5.out.trans (hB7.mono HB5.out.size))
        have H67 := Lib.hid (six_stay H65.out hB7)
        have A57 := Lib.hid (heap_below A5.out hB7)
        have A67 := Lib.hid (heap_below A6.out hB7)
        have HLN := Lib.hid (lin_have EK.out.symm HRG.out.symm)
        have HLP := Lib.hid (lin_parts.1 HLN.out.2.2.2)
        obtain ⟨rn, hrn⟩ : ∃ rn : Nat, rl = (rn : Int) := ⟨rl.toNat, by have := HLP.out; have := ER.out; omega⟩
        subst hrn
        have hrn5 : rn ≤ 5 := by have := HLP.out; have := ER.out; omega
        have hctb : -1099511627776 ≤ ct ∧ ct ≤ 1099511627776 := by
          have h9 := HLP.out.2.2.2.2.2.2.1
          rw [← EC.out] at h9
          simpa [allN] using h9
        clear m0 m1 m2 m3 m4 m5 hB7
        obtain ⟨m0, m1, m2, m3, m4, m5⟩ := H67.out
        have hz1 : w.heap.size < w7.heap.size := block_lt m0
        have hz2 : w.heap.size < w7.heap.size + 1 := by omega
        go_upto_region 8 with fail
        go_cut [8, 9] (fun d t wx => ∃ x y : Nat, d = .pointer (some ⟨x, 0, none⟩) ∧ t = .pointer (some ⟨y, 0, none⟩) ∧ TwoAt w7 wx x y #[.int .i64 1, .slice p1 l1 k1, .slice p2 l2 k2, .int .i64 (rn : Int), .int .i64 ct, .slice p3 l3 k3] #[.int .i64 1, .slice p1 l1 k1, .slice p2 l2 k2, .int .i64 (rn : Int), .int .i64 ct, .slice p3 l3 k3])
        case first =>
          go_region_law fail
          all_goals go_wp2_with fail
          all_goals go_meet
          all_goals (first | with_reducible exact ⟨_, _, rfl, rfl, two_new1 w7 _ _⟩ | with_reducible exact ⟨_, _, rfl, rfl, (two_new1 w7 _ _).swap⟩)
        case rest =>
          obtain ⟨x, y, rfl, rfl, hT⟩ := hcut
          have x3 := hT.cellx 3
          have f3 := hT.frozx 3
          simp only [List.getElem?_toArray, List.getElem?_cons_succ, List.getElem?_cons_zero] at x3
          have r5 := cell_in (heap_below A57.out hT.low) rn
          have r6 := cell_in (heap_below A67.out hT.low) rn
          rw [arr_contrary hrn5] at r5
          rw [arr_about hrn5] at r6
          have HT := Lib.hid hT
          have g1 : w.heap.size ≠ x := by have := hT.hx; omega
          have g2 : w.heap.size ≠ y := by have := hT.hy; omega
          have hz3 := block_lt (cell_in A67.out 0)
          have g3 : w3.heap.size ≠ x := by have := hT.hx; omega
          have g4 : w3.heap.size + 1 ≠ x := by have := hT.hx; omega
          have g5 : w3.heap.size + 1 ≠ y := by have := hT.hy; omega
          obtain ⟨n0, n1, n2, n3, n4, n5⟩ := (six_stay H67.out hT.low)
          have hri : (rn : Int) < 6 := by omega
          clear m0 m1 m2 m3 m4 m5
          have y2 := hT.celly 2
          have y3 := hT.celly 3
          have y4 := hT.celly 4
          have h2 := hT.frozy 2
          have h3 := hT.frozy 3
          have h4 := hT.frozy 4
          have g6 := hT.ne
          simp only [List.getElem?_toArray, List.getElem?_cons_succ, List.getElem?_cons_zero] at y2 y3 y4
          clear hT
          have hwr : IntKind.i64.wrap (-ct) = -ct := wrap_in (by omega)
          go_upto_region 10 with fail
          go_cut [] (fun wx => TwoAt w7 wx x y #[.int .i64 1, .slice p1 l1 k1, .slice p2 l2 k2, .int .i64 (contraryR rn), .int .i64 ct, .slice p3 l3 k3] #[.int .i64 1, .slice p1 l1 k1, .slice none 0 0, .int .i64 (aboutR rn), .int .i64 (-ct), .slice p3 l3 k3])
          case first =>
            go_region_law fail
            all_goals go_wp2_with fail
            all_goals go_meet
            all_goals
              exact ((((HT.out.setx 3 _).sety 3 _).sety 4 _).sety 2 _).drew 1
          case rest =>
            have HT2 := Lib.hid hcut
            obtain ⟨m0, m1, m2, m3, m4, m5⟩ := six_stay H67.out hcut.low
            have HB9 := Lib.hid (HB7.out.trans (hcut.low.mono HB7.out.size))
            obtain ⟨bs, hbs⟩ : ∃ bs, bs = wc.heap.size := ⟨_, rfl⟩
            have HLY := Lib.hid (show (x < bs ∧ y < bs) ∧ w7.heap.size ≤ bs from ⟨by rw [hbs]; exact ⟨hcut.ltx, hcut.lty⟩, by rw [hbs]; exact hcut.low.size⟩)
            have HBS := Lib.hid hbs
            clear hbs
            have hl2 : l2 ≤ 150 := by rw [N2.out.long]; exact HS150.out.2.1
            clear n0 n1 n2 n3 n4 n5 y2 y3 y4 h2 h3 h4 x3 f3 r5 r6 hcut hwr
            go_wp2_with fail
            go_loopw [59] (fun i wr => ∃ (k : Nat) (v : Value), k ≤ l2 ∧ i = .int .i64 k ∧ OwnsI wr bs v ((c.coefs.take k).map fun n => -n) ∧ TwoAt w7 wr x y #[.int .i64 1, .slice p1 l1 k1, .slice p2 l2 k2, .int .i64 (contraryR rn), .int .i64 ct, .slice p3 l3 k3] #[.int .i64 1, .slice p1 l1 k1, v, .int .i64 (aboutR rn), .int .i64 (-ct), .slice p3 l3 k3] ∧ bs ≤ wr.heap.size) (fun i _ => l2 - (intOf i).toNat)
            case atStart => exact ⟨0, .slice none 0 0, by omega, rfl, World.ownsRow_nil _ _ _ _, HT2.out, Nat.le_of_eq HBS.out⟩
            case round =>
              obtain ⟨k, v, hk, rfl, hown, hT, hsz⟩ := hrel
              rename_i wr
              obtain ⟨ns, hns⟩ : ∃ ns, ns = (c.coefs.take k).map fun n => -n := ⟨_, rfl⟩
              rw [← hns] at hown
              have HNS := Lib.hid hns
              have hxl : ns.length = k := by rw [hns, List.length_map, List.length_take, ← N2.out.long]; omega
              have HXL := Lib.hid hxl
              obtain ⟨pv, cv, rfl⟩ := ints_shape hown
              have HO := Lib.hid hown
              have HTr := Lib.hid hT
              clear hns hxl
              have HWS := Lib.hid hsz
              by_cases hlt : k < l2
              · obtain rfl := N2.out.at_ (by omega)
                have hvk : k < c.coefs.length := by rw [← N2.out.long]; exact hlt
                have a0 := cell_stays (HB7.out.trans (hT.low.mono HB7.out.size)) (N2.out.cell k hlt)
                have hzb : -1048576 ≤ c.coefs.getD k 0 ∧ c.coefs.getD k 0 ≤ 1048576 := by
                  have := List.all_eq_true.1 HLP.out.2.2.2.1 (c.coefs.getD k 0) (List.mem_of_getElem? (getD_at hvk))
                  simpa [Bool.and_eq_true] using this
                have NX := Lib.hid (show (c.coefs.take (k + 1)).map (fun n => -n) = (c.coefs.take k).map (fun n => -n) ++ [-(c.coefs.getD k 0)] by
                  rw [List.take_add_one, getD_at hvk]; simp)
                obtain ⟨n, en⟩ : ∃ n, n = c.coefs.getD k 0 := ⟨_, rfl⟩
                rw [← en] at a0 hzb NX
                have y2 := hT.celly 2
                have f2 := hT.frozy 2
                simp only [List.getElem?_toArray, List.getElem?_cons_succ, List.getElem?_cons_zero] at y2
                have hly := HLY.out
                have hwr : IntKind.i64.wrap (-n) = -n := wrap_in (by omega)
                have hzf : Fit (-n) := by unfold Fit; omega
                clear en hown hT
                go_wp2_with (at_builtin; refine wpList_put rfl _ _ rfl bs _ _ [-n] (some ⟨wr.heap.size, 0, none⟩) wr.heap.size 0 1 1 rfl rfl (HO.out.alloc _) (fun h => by cases h) (nums_new wr (-n) _ hzf) (by have := HXL.out; simp; omega) (by simp; omega) ?_; intro v' w1 hown' hgrow; obtain ⟨ns2, hns2⟩ : ∃ l, l = ns ++ [-n] := ⟨_, rfl⟩; rw [← hns2] at hown'; have HNS2 := Lib.hid hns2; obtain ⟨pw, cw, rfl⟩ := ints_shape hown'; clear hns2; have HT1 := Lib.hid ((HTr.out.below (below_new wr _)).grown hgrow (fun j e => by have := (HO.out.lt j e).1; have := HLY.out; omega)); have y2' := HT1.out.celly 2; have f2' := HT1.out.frozy 2; simp only [List.getElem?_toArray, List.getElem?_cons_succ, List.getElem?_cons_zero] at y2'; have HO1 := Lib.hid hown'; have hgs := hgrow.size; clear hown' hgrow)
                go_roundw
                case rel =>
                  refine ⟨k + 1, _, by omega, by go_num, ?_, HT1.out.sety 2 _, by simp at hgs ⊢; omega⟩
                  rw [NX.out, ← HNS.out, ← HNS2.out]
                  exact owns_set HO1.out hly.1.2 _
                case measure => simp [intOf]; omega
              · obtain rfl : k = l2 := by omega
                have hns3 : ns = c.coefs.map fun n => -n := by rw [HNS.out, List.take_of_length_le (by rw [← N2.out.long]; omega)]
                have HNS3 := Lib.hid hns3
                have hly := HLY.out
                have TS0 := Lib.hid (show Ts w7 wr x y wr.heap.size bs #[.int .i64 1, .slice p1 l1 k1, .slice p2 k k2, .int .i64 (contraryR rn), .int .i64 ct, .slice p3 l3 k3] #[.int .i64 1, .slice p1 l1 k1, .slice pv ns.length cv, .int .i64 (aboutR rn), .int .i64 (-ct), .slice p3 l3 k3] (.slice pv ns.length cv) ns from ⟨HTr.out, HO.out, by omega, by omega, fun j e => (HO.out.lt j e).2, HTr.out.low.size, Nat.le_refl _⟩)
                have BT := Lib.hid (HB7.out.trans (HTr.out.low.mono HB7.out.size))
                clear hns3 hown hT hlt
                go_wp2_with (first
                  | (at_builtin; refine wpList_put rfl _ _ rfl wr.heap.size _ row [1] (some ⟨w8.heap.size, 0, none⟩) w8.heap.size 0 1 1 rfl rfl (HM8.out.alloc _) (fun h => by cases h) (nums_new w8 1 _ (by unfold Fit; omega)) (by simp; have := HLE.out; omega) (by have := HB8.out.size; simp; omega) ?_; intro v3 w9 hM9 hg9; have HBA := Lib.hid (((HB8.out.alloc HB8.out.size _).grown hg9 (by have := HB8.out.size; simp; omega) (fun j e => (HM8.out.lt j e).1))); obtain ⟨gm, cm, rfl⟩ := owns_shape hM9 (by simp); have HM9 := Lib.hid hM9; clear hM9 hg9)
                  | (at_builtin; refine wpList_put rfl _ _ rfl wr.heap.size _ [] row pr br orr lr cr rfl rfl (World.ownsRow_made wr #[] 0 (Nat.le_refl _) (by decide) rfl) hcr.1 (nums_stay NR.out (BT.out.trans ((below_new wr _).mono BT.out.size))) (by simp; have := HLE.out; omega) (by simp) ?_; intro v2 w8 hM hg8; rw [List.nil_append] at hM; have HB8 := Lib.hid ((below_new wr _).grown hg8 (by simp) (fun j e => by cases e; exact Nat.le_refl _)); have HM8 := Lib.hid hM; obtain ⟨p8, c8, rfl⟩ := ints_shape hM; clear hM hg8))
                have hw9 := HTr.out.low.trans (HBA.out.mono HTr.out.low.size)
                have H69 := Lib.hid (six_stay H67.out hw9)
                have B9 := Lib.hid (HB7.out.trans (hw9.mono HB7.out.size))
                have hl1 : 0 < l1 ∧ l1 ≤ 150 := ⟨by have := HLP.out.1; have := N1.out.long; omega, by rw [N1.out.long]; exact HS150.out.1⟩
                obtain rfl := N1.out.at_ hl1.1
                have N19 := Lib.hid (nums_stay N1.out B9.out)
                have hlt9 : w.heap.size < w9.heap.size := block_lt H69.out.c0
                have H0 := Lib.hid (And.intro H69.out.c0 (And.intro H69.out.c1 (And.intro H69.out.c2 (And.intro H69.out.c3 (And.intro H69.out.c4 (And.intro H69.out.c5 (Below.refl w9.heap.size w9)))))))
                clear hw9
                go_cut [13] (fun zz wx => ∃ (z : Nat) (vi : Value), zz = .pointer (some ⟨z, 0, none⟩) ∧ wx.heap[z]? = some (.cells #[.int .i64 3, vi, .slice p2 k k2, .int .i64 (rn : Int), .int .i64 ct, .slice none 0 0] 27) ∧ OwnsI wx w9.heap.size vi ((lr : Int) :: c.vars) ∧ w9.heap.size ≤ z ∧ Below w9.heap.size w9 wx)
                case first =>
                  go_region_held3 (fun w' => w'.cell? ⟨w.heap.size, 0, none⟩ = some (.int .i64 1) ∧ w'.cell? ⟨w.heap.size, 1, none⟩ = some (.slice (some ⟨b1, o1, none⟩) l1 k1) ∧ w'.cell? ⟨w.heap.size, 2, none⟩ = some (.slice p2 k k2) ∧ w'.cell? ⟨w.heap.size, 3, none⟩ = some (.int .i64 (rn : Int)) ∧ w'.cell? ⟨w.heap.size, 4, none⟩ = some (.int .i64 ct) ∧ w'.cell? ⟨w.heap.size, 5, none⟩ = some (.slice p3 l3 k3) ∧ Below w9.heap.size w9 w')
                    (first | with_reducible exact held6n hlt9 H0.out (HST.out _ _ _ _ _ _) | exact held6n hlt9 (by assumption) (by assumption) | exact held6n hlt9 (by assumption) ((Below.refl _ _).alloc (Below.size (held6b (by assumption))) _) | exact held6n hlt9 H0.out (below_drewN (n := 1) (Below.refl _ _)) | exact held6n hlt9 H0.out (HW2.out.alloc HW2.out.size _))
                    (first
                      | (refine step_put rfl _ _ rfl w9.heap.size _ [(lr : Int)] c.vars b1 o1 l1 k1 rfl rfl (by first | exact own_lit1 _ _ _ (Nat.le_refl _) | exact own_lit _ _ (Nat.le_refl _) | exact (own_lit _ _ (Nat.le_refl _)).alloc _) (nums_stay N19.out (held6b (by assumption))) hl1.1 (by simp; have := N1.out.long; omega) (Below.size (held6b (by assumption))) ?_; intro g cap w2 ho2 hg2 hg3 hg4; have hG := (Below.refl _ _).grown hg2 (Below.size (held6b (by assumption))) (fun j e => by have e' := Option.some.inj e; simp at e'; omega); have HO2 := Lib.hid (show OwnsI w2 w9.heap.size (.slice (some ⟨g, 0, none⟩) (1 + l1) cap) ((lr : Int) :: c.vars) from ho2); have HW2 := Lib.hid ((held6b (by assumption)).trans hG); (first | (have hz : w2.heap[w9.heap.size]? = some (.cells #[.int .i64 0, .slice none 0 0, .slice none 0 0, .int .i64 0, .int .i64 0, .slice none 0 0] 27) := zero_first hg2; have HGZ := Lib.hid (first_ne hg3); obtain ⟨⟨zc0, zc1, zc2, zc3, zc4, zc5⟩, zf0, zf1, zf2, zf3, zf4, zf5⟩ := six_in hz; have HST := Lib.hid (set6_low (z := w9.heap.size) HW2.out (Nat.le_refl _)); have HZ := Lib.hid hz; clear hz) | (have hz : w2.heap[w9.heap.size + 1]? = some (.cells #[.int .i64 0, .slice none 0 0, .slice none 0 0, .int .i64 0, .int .i64 0, .slice none 0 0] 27) := zero_second hg2; have HGZ := Lib.hid (second_ne hg3); obtain ⟨⟨zc0, zc1, zc2, zc3, zc4, zc5⟩, zf0, zf1, zf2, zf3, zf4, zf5⟩ := six_in hz; have HST := Lib.hid (set6_low (z := w9.heap.size + 1) HW2.out (by omega)); have HZ := Lib.hid hz; clear hz) | skip); clear ho2 hg2 hg3 hg4))
                  all_goals go_wp2_with fail
                  all_goals go_meet
                  all_goals (first
                    | with_reducible exact ⟨_, _, rfl, heap_new _ _, owns_up HO2.out (below_new _ _), HW2.out.size, HW2.out.alloc HW2.out.size _⟩
                    | with_reducible exact ⟨_, _, rfl, set6_heap HZ.out _ _ _ _ _ _, set6_owns HO2.out HGZ.out _ _ _ _ _ _, Nat.le_refl _, HST.out _ _ _ _ _ _⟩
                    | with_reducible exact ⟨_, _, rfl, set6_heap HZ.out _ _ _ _ _ _, set6_owns HO2.out HGZ.out _ _ _ _ _ _, Nat.le_succ _, HST.out _ _ _ _ _ _⟩)
                case rest =>
                  obtain ⟨z, vi, rfl, hbz, hvi, hlz, hw17⟩ := hcut
                  obtain ⟨gi, ci, evi⟩ := owns_shape hvi (by simp)
                  obtain ⟨nl, hnl⟩ : ∃ nl, nl = ((lr : Int) :: c.vars).length := ⟨_, rfl⟩
                  rw [← hnl] at evi
                  subst evi
                  have HNL := Lib.hid hnl
                  have HLT := Lib.hid (show w.heap.size ≤ wr.heap.size from BT.out.size)
                  have HMO := Lib.hid (show OwnsI wc wr.heap.size (.slice (some ⟨gm, 0, none⟩) (row.length + 1) cm) (row ++ [1]) by have := owns_up HM9.out hw17; rw [List.length_append] at this; exact this)
                  have FN : Fin w w7 wc x y wr.heap.size bs #[.int .i64 1, .slice (some ⟨b1, o1, none⟩) l1 k1, .slice p2 k k2, .int .i64 (contraryR rn), .int .i64 ct, .slice p3 l3 k3] #[.int .i64 1, .slice (some ⟨b1, o1, none⟩) l1 k1, .slice pv ns.length cv, .int .i64 (aboutR rn), .int .i64 (-ct), .slice p3 l3 k3] (.slice pv ns.length cv) ns z w9.heap.size #[.int .i64 3, .slice (some ⟨gi, 0, none⟩) nl ci, .slice p2 k k2, .int .i64 (rn : Int), .int .i64 ct, .slice none 0 0] (.slice (some ⟨gi, 0, none⟩) nl ci) ((lr : Int) :: c.vars) gm cm row 1 :=
                    ⟨TS0.out.up (HBA.out.trans (hw17.mono HBA.out.size)), hbz, hvi, HMO.out, (HM9.out.lt gm rfl).2, hlz, B9.out.trans (hw17.mono B9.out.size)⟩
                  have F1 := Lib.hid FN
                  have HOK := Lib.hid HLN.out.1
                  have CI := Lib.hid (fun (u : World) (e : Int) (he : -1048576 ≤ e ∧ e ≤ 1048576) (hF : Fin w w7 u x y wr.heap.size bs #[.int .i64 1, .slice (some ⟨b1, o1, none⟩) l1 k1, .slice p2 k k2, .int .i64 (contraryR rn), .int .i64 ct, .slice p3 l3 k3] #[.int .i64 1, .slice (some ⟨b1, o1, none⟩) l1 k1, .slice pv ns.length cv, .int .i64 (aboutR rn), .int .i64 (-ct), .slice p3 l3 k3] (.slice pv ns.length cv) ns z w9.heap.size #[.int .i64 3, .slice (some ⟨gi, 0, none⟩) nl ci, .slice p2 k k2, .int .i64 (rn : Int), .int .i64 ct, .slice none 0 0] (.slice (some ⟨gi, 0, none⟩) nl ci) ((lr : Int) :: c.vars) gm cm row e) => gholds_at (some ⟨gm, 0, none⟩) gm 0 (row.length + 1) cm (row ++ [e]) u (c := iffC c lr)
                    (rcon_at (kd := 3) (rl := (rn : Int)) (ct := ct) rfl ER.out EC.out ⟨by unfold Fit; omega, by unfold Fit; omega, by unfold Fit; omega⟩ (slc_of_ints hF.vi_ (vars_fit HLN.out.2.1 HLE.out s2)) (SL2.out.below rNum_stays hF.low) (none_slcN u))
                    (short_iff HS150.out) (hF.rows (row_fit HOK.out he)) (by have := HLE.out; omega))
                  clear hnl FN hvi hbz hlz hw17
                  have CD := Lib.hid (fun (u : World) (e : Int) (hF : Fin w w7 u x y wr.heap.size bs #[.int .i64 1, .slice (some ⟨b1, o1, none⟩) l1 k1, .slice p2 k k2, .int .i64 (contraryR rn), .int .i64 ct, .slice p3 l3 k3] #[.int .i64 1, .slice (some ⟨b1, o1, none⟩) l1 k1, .slice pv ns.length cv, .int .i64 (aboutR rn), .int .i64 (-ct), .slice p3 l3 k3] (.slice pv ns.length cv) ns z w9.heap.size #[.int .i64 3, .slice (some ⟨gi, 0, none⟩) nl ci, .slice p2 k k2, .int .i64 (rn : Int), .int .i64 ct, .slice none 0 0] (.slice (some ⟨gi, 0, none⟩) nl ci) ((lr : Int) :: c.vars) gm cm row e) => gholds_at pr br orr lr cr row u (c := contraryC c)
                    (rcon_at (kd := 1) (rl := contraryR rn) (ct := ct) EK.out (by show contraryR (rn : Int) = contraryR c.rel; rw [ER.out]) EC.out ⟨by unfold Fit; omega, fit_rel (rel_contrary ⟨by omega, by omega⟩), by unfold Fit; omega⟩ (SL1.out.below rNum_stays hF.low) (SL2.out.below rNum_stays hF.low) (SL3.out.below rNum_stays hF.low))
                    HSC.out (nums_stay NR.out hF.low) (by omega))
                  have CT := Lib.hid (fun (u : World) (e : Int) (hF : Fin w w7 u x y wr.heap.size bs #[.int .i64 1, .slice (some ⟨b1, o1, none⟩) l1 k1, .slice p2 k k2, .int .i64 (contraryR rn), .int .i64 ct, .slice p3 l3 k3] #[.int .i64 1, .slice (some ⟨b1, o1, none⟩) l1 k1, .slice pv ns.length cv, .int .i64 (aboutR rn), .int .i64 (-ct), .slice p3 l3 k3] (.slice pv ns.length cv) ns z w9.heap.size #[.int .i64 3, .slice (some ⟨gi, 0, none⟩) nl ci, .slice p2 k k2, .int .i64 (rn : Int), .int .i64 ct, .slice none 0 0] (.slice (some ⟨gi, 0, none⟩) nl ci) ((lr : Int) :: c.vars) gm cm row e) => gholds_at pr br orr lr cr row u (c := turnC c) (v2 := .slice pv ns.length cv)
                    (rcon_at (kd := 1) (rl := aboutR rn) (ct := -ct) EK.out (by show aboutR (rn : Int) = aboutR c.rel; rw [ER.out]) (by show -ct = -c.const; rw [EC.out]) ⟨by unfold Fit; omega, fit_rel (rel_about ⟨by omega, by omega⟩), by unfold Fit; omega⟩ (SL1.out.below rNum_stays hF.low) (by
                      have := slc_of_ints hF.ts.co (fits_neg HNS3.out HLP.out.2.2.2.1)
                      rw [show (turnC c).coefs = ns from HNS3.out.symm]
                      exact this) (SL3.out.below rNum_stays hF.low))
                    (short_turn HSC.out) (nums_stay NR.out hF.low) (by omega))
                  have E1 := Lib.hid (show allG [iffC c lr] (row ++ [1]) = q by rw [HLE.out, iff_one EK.out.symm HRG.out.symm, HQ.out])
                  have E0 := Lib.hid (show allG [iffC c lr] (row ++ [0]) = !q by rw [HLE.out, iff_zero EK.out.symm HRG.out.symm, HQ.out])
                  have E2 := Lib.hid (show allG [iffC c lr] (row ++ [2]) = false by rw [HLE.out, iff_two EK.out.symm HRG.out.symm])
                  have ED := Lib.hid (show allG [contraryC c] row = !q by rw [contrary_law EK.out.symm HRG.out.symm, HQ.out])
                  have ET := Lib.hid (show allG [turnC c] row = q by rw [turn_law EK.out.symm HRG.out.symm, HQ.out])
                  have hix : lr < row.length + 1 := by have := HLE.out; omega
                  have hix2 : (lr : Int) < (row.length : Int) + 1 := by omega
                  obtain ⟨⟨z0, z1, z2, z3, z4, z5⟩, _⟩ := six_in F1.out.bz
                  go_wp2_with fail
                  refine (CI.out _ 1 (by omega) F1.out).mono ?_
                  rintro e u18 ⟨he, hB⟩
                  rw [E1.out] at he
                  subst he
                  have F18 := Lib.hid (F1.out.below hB)
                  have c18 : u18.cell? ⟨gm, lr, none⟩ = some (.int .i64 1) := by have := F18.out.cell; rwa [← HLE.out] at this
                  have f18 := F18.out.froz lr
                  clear hB z0 z1 z2 z3 z4 z5
                  go_upto_region 20 with fail
                  obtain ⟨u19, hu19⟩ : ∃ u19, u19 = u18.setCell ⟨gm, lr, none⟩ (.int .i64 0) := ⟨_, rfl⟩
                  rw [← hu19]
                  have F19 := Lib.hid (show Fin w w7 u19 x y wr.heap.size bs #[.int .i64 1, .slice (some ⟨b1, o1, none⟩) l1 k1, .slice p2 k k2, .int .i64 (contraryR rn), .int .i64 ct, .slice p3 l3 k3] #[.int .i64 1, .slice (some ⟨b1, o1, none⟩) l1 k1, .slice pv ns.length cv, .int .i64 (aboutR rn), .int .i64 (-ct), .slice p3 l3 k3] (.slice pv ns.length cv) ns z w9.heap.size #[.int .i64 3, .slice (some ⟨gi, 0, none⟩) nl ci, .slice p2 k k2, .int .i64 (rn : Int), .int .i64 ct, .slice none 0 0] (.slice (some ⟨gi, 0, none⟩) nl ci) ((lr : Int) :: c.vars) gm cm row 0 by
                    have := F18.out.store HLT.out 0
                    rw [← HLE.out, ← hu19] at this
                    exact this)
                  clear c18 f18 hu19
                  obtain ⟨⟨z0, z1, z2, z3, z4, z5⟩, _⟩ := six_in F19.out.bz
                  go_wp2_with fail
                  refine (CI.out _ 0 (by omega) F19.out).mono ?_
                  rintro e u20 ⟨he, hB⟩
                  rw [E0.out] at he
                  subst he
                  have F20 := Lib.hid (F19.out.below hB)
                  have c20 : u20.cell? ⟨gm, lr, none⟩ = some (.int .i64 0) := by have := F20.out.cell; rwa [← HLE.out] at this
                  have f20 := F20.out.froz lr
                  clear hB z0 z1 z2 z3 z4 z5
                  go_upto_region 22 with fail
                  obtain ⟨u21, hu21⟩ : ∃ u21, u21 = u20.setCell ⟨gm, lr, none⟩ (.int .i64 2) := ⟨_, rfl⟩
                  rw [← hu21]
                  have F21 := Lib.hid (show Fin w w7 u21 x y wr.heap.size bs #[.int .i64 1, .slice (some ⟨b1, o1, none⟩) l1 k1, .slice p2 k k2, .int .i64 (contraryR rn), .int .i64 ct, .slice p3 l3 k3] #[.int .i64 1, .slice (some ⟨b1, o1, none⟩) l1 k1, .slice pv ns.length cv, .int .i64 (aboutR rn), .int .i64 (-ct), .slice p3 l3 k3] (.slice pv ns.length cv) ns z w9.heap.size #[.int .i64 3, .slice (some ⟨gi, 0, none⟩) nl ci, .slice p2 k k2, .int .i64 (rn : Int), .int .i64 ct, .slice none 0 0] (.slice (some ⟨gi, 0, none⟩) nl ci) ((lr : Int) :: c.vars) gm cm row 2 by
                    have := F20.out.store HLT.out 2
                    rw [← HLE.out, ← hu21] at this
                    exact this)
                  clear c20 f20 hu21
                  obtain ⟨⟨d0, d1, d2, d3, d4, d5⟩, _⟩ := six_in F21.out.ts.tw.bx
                  go_wp2_with fail
                  refine (CD.out _ 2 F21.out).mono ?_
                  rintro e u22 ⟨he, hB⟩
                  rw [ED.out] at he
                  subst he
                  have F22 := Lib.hid (F21.out.below hB)
                  clear hB d0 d1 d2 d3 d4 d5
                  obtain ⟨⟨d0, d1, d2, d3, d4, d5⟩, _⟩ := six_in F22.out.ts.tw.by_
                  have hne : ((!q) != q) = true := by cases q <;> rfl
                  have heq : (q == q) = true := by cases q <;> rfl
                  go_wp2_with fail
                  refine (CT.out _ 2 F22.out).mono ?_
                  rintro e u23 ⟨he, hB⟩
                  rw [ET.out] at he
                  subst he
                  have F23 := Lib.hid (F22.out.below hB)
                  clear hB d0 d1 d2 d3 d4 d5
                  obtain ⟨⟨d0, d1, d2, d3, d4, d5⟩, _⟩ := six_in F23.out.bz
                  go_wp2_with fail
                  refine (CI.out _ 2 (by omega) F23.out).mono ?_
                  rintro e u24 ⟨he, hB⟩
                  rw [E2.out] at he
                  subst he
                  have F24 := Lib.hid (F23.out.below hB)
                  clear hB d0 d1 d2 d3 d4 d5
                  go_wp2_with fail
                  go_ret
                  exact ⟨rfl, F24.out.low⟩
    · have d1 : (kd == 1) = false := beq_eq_false_iff_ne.2 hk
      obtain ⟨m0, m1, m2, m3, m4, m5⟩ := H62.out
      go_wp2_with fail
      go_ret
      exact ⟨rfl, HB2.out⟩
  · go_wp2_with fail
    go_ret
    exact ⟨rfl, HB2.out⟩
end Go.Proofs.Ytkhjnicmbkklpaa.Gr
