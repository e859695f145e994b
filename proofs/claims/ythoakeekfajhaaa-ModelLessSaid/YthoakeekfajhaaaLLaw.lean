/-
  What the law ModelLess answers, at every model that can be read and every two bytes: true.
-/
import Derived.Test.YthoakeekfajhaaaLMem
import Derived.IntWalk
import Derived.Deep.CutBlock
namespace Go.Proofs.Ythoakeekfajhaaa
open Go.RowKit

theorem slc_take {α : Type} {R : Reader α} {n : Nat} {w : World} {p : Option Addr} {b off len : Nat} {L : List α} (h : SliceOf R n w p b off len L) {q : Nat} (hq : q ≤ len) : SliceOf R n w p b off q (L.take q) := by
  refine ⟨by rw [List.length_take, ← h.long]; omega, fun h0 => h.at_ (by omega), fun k a ha => ?_⟩
  have hk : k < q := by
    have := (List.getElem?_eq_some_iff.1 ha).1
    rw [List.length_take] at this
    omega
  rw [List.getElem?_take, if_pos hk] at ha
  exact h.cell k a ha
theorem hold8 {W0 u u' : World} {p0 p1 p2 p3 p4 p5 p6 p7 : Addr} {a0 a1 a2 a3 a4 a5 a6 a7 : Value} (h : u.cell? p0 = some a0 ∧ u.cell? p1 = some a1 ∧ u.cell? p2 = some a2 ∧ u.cell? p3 = some a3 ∧ u.cell? p4 = some a4 ∧ u.cell? p5 = some a5 ∧ u.cell? p6 = some a6 ∧ u.cell? p7 = some a7 ∧ Hid (Below W0.heap.size W0 u)) (hb : Below u.heap.size u u') :
    u'.cell? p0 = some a0 ∧ u'.cell? p1 = some a1 ∧ u'.cell? p2 = some a2 ∧ u'.cell? p3 = some a3 ∧ u'.cell? p4 = some a4 ∧ u'.cell? p5 = some a5 ∧ u'.cell? p6 = some a6 ∧ u'.cell? p7 = some a7 ∧ Hid (Below W0.heap.size W0 u') :=
  ⟨cell_stays hb h.1, cell_stays hb h.2.1, cell_stays hb h.2.2.1, cell_stays hb h.2.2.2.1, cell_stays hb h.2.2.2.2.1, cell_stays hb h.2.2.2.2.2.1, cell_stays hb h.2.2.2.2.2.2.1, cell_stays hb h.2.2.2.2.2.2.2.1, Lib.hid (h.2.2.2.2.2.2.2.2.out.trans (hb.mono h.2.2.2.2.2.2.2.2.out.size))⟩
theorem hold8b {W0 u : World} {p0 p1 p2 p3 p4 p5 p6 p7 : Addr} {a0 a1 a2 a3 a4 a5 a6 a7 : Value} (h : u.cell? p0 = some a0 ∧ u.cell? p1 = some a1 ∧ u.cell? p2 = some a2 ∧ u.cell? p3 = some a3 ∧ u.cell? p4 = some a4 ∧ u.cell? p5 = some a5 ∧ u.cell? p6 = some a6 ∧ u.cell? p7 = some a7 ∧ Hid (Below W0.heap.size W0 u)) : Below W0.heap.size W0 u := h.2.2.2.2.2.2.2.2.out
theorem info45 : (Try.prog.info? 45).map (fun i => (i.zero, i.size, i.bytes)) = some (some (.agg #[.bool false, .slice none 0 0, .slice none 0 0]), 3, 56) := by kernel_rfl

theorem cells2 (w : World) (u v : Value) (t : TypeId) : ∀ i z, [u, v][i]? = some z → (w.alloc (.cells #[u, v] t)).cell? ⟨w.heap.size, i, none⟩ = some z := fun i z h => cell_in (heap_alloc_new w _) i (by simpa using h)
theorem cells3 {w : World} {g : Nat} {e : TypeId} {v0 v1 v2 : Value} (h : Box3 w g e v0 v1 v2) : ∀ i z, [v0, v1, v2][i]? = some z → w.cell? ⟨g, i, none⟩ = some z := fun i z hz => cell_in h i (by simpa using hz)
theorem one2 {s : ByteArray} {p : Option Addr} {l c : Nat} : ∀ u ∈ [Value.string s, .slice p l c], u.oneCell' = true := fun u hu => by
  simp at hu
  rcases hu with rfl | rfl <;> rfl
theorem one3 {a : Bool} {p q : Option Addr} {l c l' c' : Nat} : ∀ u ∈ [Value.bool a, .slice p l c, .slice q l' c'], u.oneCell' = true := fun u hu => by
  simp at hu
  rcases hu with rfl | rfl | rfl <;> rfl
set_option maxRecDepth 100000 in
set_option maxHeartbeats 8000000 in
theorem less_law {w : World} {bv gv : Value} {m : PModel} (h : rModel w [bv, gv] m) (f o : Nat) (hf0 : f < 256) (ho0 : o < 256) :
    Calls Try.prog 4 #[.agg #[bv, gv], .int .u8 (f : Int), .int .u8 (o : Int)] w fun e w' => e = .returned (.bool true) ∧ Below w.heap.size w w' := by
  obtain ⟨i48, hi, hz0, hz1, hz2⟩ := info_parts info48
  have I48 := Lib.hid (And.intro hi (And.intro hz0 (And.intro hz1 hz2)))
  clear hi hz0 hz1 hz2
  obtain ⟨i45, hi, hz0, hz1, hz2⟩ := info_parts info45
  have I45 := Lib.hid (And.intro hi (And.intro hz0 (And.intro hz1 hz2)))
  clear hi hz0 hz1 hz2
  obtain ⟨pb, bb, ob, cb, lb, pg, lg, cg, rfl, rfl, hc, hm⟩ := rModel_open h
  obtain ⟨W0, hW0⟩ : ∃ W0, W0 = w.alloc (.cells #[.slice pb lb cb, .slice pg lg cg] 25) := ⟨_, rfl⟩
  have hB0 : Below w.heap.size w W0 := by rw [hW0]; exact (Below.refl _ w).alloc (Nat.le_refl _) _
  have m0 : W0.cell? ⟨w.heap.size, 0, none⟩ = some (.slice pb lb cb) := by rw [hW0]; go_simp
  have m1 : W0.cell? ⟨w.heap.size, 1, none⟩ = some (.slice pg lg cg) := by rw [hW0]; go_simp
  have HM := Lib.hid (And.intro m0 m1)
  have HR := Lib.hid (fun u (hb : Below W0.heap.size W0 u) => ((hm.below hB0).below hb).model hc)
  have HMO := Lib.hid (hm.below hB0)
  have HCB := Lib.hid hc
  have HW := Lib.hid hW0
  have HB0 := Lib.hid hB0
  clear h hm hc hW0 hB0 m0 m1
  go_enter Try.func4, Try.ntmps4
  go_upto_region 1 with fail
  rw [← HW.out]
  go_wp2_with fail
  refine (awake_any _).mono ?_
  rintro e w1 ⟨rfl, hB1⟩
  have m0 := cell_stays hB1 HM.out.1
  have m1 := cell_stays hB1 HM.out.2
  have CL := Lib.hid (large_any (HR.out w1 hB1))
  have HB1 := Lib.hid hB1
  clear hB1
  obtain ⟨B, hBe⟩ : ∃ B, B = largeB m := ⟨_, rfl⟩
  rw [← hBe] at CL
  go_wp2_with fail
  refine CL.out.mono ?_
  rintro e w2 ⟨rfl, hB2⟩
  have HB2 := Lib.hid (HB1.out.trans (hB2.mono HB1.out.size))
  clear hB2 m0 m1
  cases B
  · have hf := few_of hBe.symm
    have HF := Lib.hid hf
    have m0 := cell_stays HB2.out HM.out.1
    have m1 := cell_stays HB2.out HM.out.2
    have CC := Lib.hid (check_any (HR.out w2 HB2.out) hf)
    have CV := Lib.hid (fun u (hb : Below W0.heap.size W0 u) => vars_any (HR.out u hb) (by have := hf.blocks; omega) (fun x hx => by have := hf.vars x hx; omega))
    obtain ⟨z, hz⟩ : ∃ z, z = checkM m := ⟨_, rfl⟩
    rw [← hz] at CC
    clear hBe hf
    by_cases z0 : z = 0
    · subst z0
      have HZ := Lib.hid hz.symm
      clear hz
      go_wp2_with fail
      refine CC.out.mono ?_
      rintro e w3 ⟨rfl, hB3⟩
      have HB3 := Lib.hid (HB2.out.trans (hB3.mono HB2.out.size))
      clear hB3 m0 m1
      have m0 := cell_stays HB3.out HM.out.1
      have m1 := cell_stays HB3.out HM.out.2
      go_wp2_with fail
      refine (CV.out w3 HB3.out).mono ?_
      rintro e w4 ⟨v, rfl, hsl, hB4⟩
      have HB4 := Lib.hid (HB3.out.trans (hB4.mono HB3.out.size))
      clear hB4 m0 m1
      have m0 := cell_stays HB4.out HM.out.1
      have m1 := cell_stays HB4.out HM.out.2
      have hLs := vars_some HZ.out
      have hLm := HF.out.few
      obtain ⟨pl, bl, ol, cl, ll, rfl, hs⟩ := hsl.open_
      have hll := hs.long
      obtain rfl := hs.at_ (by omega)
      have HLL := Lib.hid hll
      have HSL := Lib.hid hs
      have hl1 : 1 ≤ ll := by omega
      have hl9 : ll ≤ 900 := by omega
      have el : ((ll : Int) == 0) = false := beq_eq_false_iff_ne.2 (by omega)
      have hlg : lg ≤ 30 := by rw [HMO.out.goal]; exact HF.out.goal.1
      have hlb : lb ≤ 30 := by rw [HMO.out.mod.blocks.long]; exact HF.out.blocks
      clear hs hsl hll hLs hLm
      go_upto_if 37 with (fail)
      go_cut [9, 37] from 38 to 68 (fun _ _ wx => Below W0.heap.size W0 wx ∧ SliceOf rDecl 2 wx (some ⟨bl, ol, none⟩) bl ol ll (varsL m.blocks))
      case first =>
        by_cases g0 : lg = 0
        · have dg : decide ((0 : Int) < (lg : Int)) = false := decide_eq_false (by omega)
          have dn : decide (0 < lg) = false := decide_eq_false (by omega)
          clear g0
          first
            | rw [dg]
            | rw [dn]
          go_wp2_with fail
          go_meet
          case rel => exact ⟨HB4.out, HSL.out⟩
        · have dg : decide ((0 : Int) < (lg : Int)) = true := decide_eq_true (by omega)
          have dn : decide (0 < lg) = true := decide_eq_true (by omega)
          obtain ⟨q, hq⟩ : ∃ q, lg = q + 1 := ⟨lg - 1, by omega⟩
          have e1 : ((lg : Int) - 1) = (q : Int) := by omega
          obtain ⟨pgg, bg, og, cgg, lgg, eg, hcg, hgs⟩ := HMO.out.mod.goal
          simp only [Value.slice.injEq] at eg
          obtain ⟨rfl, rfl, rfl⟩ := eg
          obtain rfl := hgs.at_ (by omega)
          obtain ⟨d, v1, v2, v3, ex, ⟨a0, a1, a2, a3, a4, a5⟩, hd⟩ := con_at2 hgs (k := q) (by omega)
          have HD := Lib.hid hd
          obtain ⟨⟨p1, l1, c1, rfl⟩, ⟨p2, l2, c2, rfl⟩, ⟨p3, l3, c3, rfl⟩⟩ := rCon_shape hd
          have a0 := cell_stays HB4.out a0
          have a1 := cell_stays HB4.out a1
          have a2 := cell_stays HB4.out a2
          have a3 := cell_stays HB4.out a3
          have a4 := cell_stays HB4.out a4
          have a5 := cell_stays HB4.out a5
          have hmem := List.mem_of_getElem? ex
          have hsh := short_150 (HF.out.goal.2 d hmem)
          have hr1 := right_goal HZ.out hmem
          rw [← HLL.out] at hr1
          have hqc : q ≤ cg := by have := hcg.2; omega
          have hqc2 : (q : Int) ≤ (cg : Int) := by omega
          have hq0 : (0 : Int) ≤ (q : Int) := by omega
          have hw1 : IntKind.i64.wrap ((ll : Int) + 1) = (ll : Int) + 1 := IntWalk.i64_in _ (by omega)
          have hw2 : IntKind.i64.wrap (q : Int) = (q : Int) := IntWalk.i64_in _ (by omega)
          have CR1 : Hid (∀ u, Below W0.heap.size W0 u → ∀ vs : Int, (ll : Int) ≤ vs → Calls Try.prog 13 #[.agg #[.int .i64 d.kind, .slice p1 l1 c1, .slice p2 l2 c2, .int .i64 d.rel, .int .i64 d.const, .slice p3 l3 c3], .int .i64 vs] u fun e w' => e = .returned (.bool true) ∧ Below u.heap.size u w') := Lib.hid fun u hb vs hvs => by
            have hc := pright_any vs (rCon_stays _ _ _ _ hb HD.out) hsh
            rw [right_up hr1 hvs] at hc
            exact hc
          have hck := check_less HZ.out q
          have CK := Lib.hid (fun u (hb : Below W0.heap.size W0 u) => check_any (bv := .slice pb lb cb) (gv := .slice (some ⟨bg, og, none⟩) q cg) (m := ⟨m.blocks, m.goal.take q⟩) ⟨_, _, rfl, ⟨pb, bb, ob, cb, lb, rfl, HCB.out, (HMO.out.mod.below hb).blocks⟩, ⟨_, bg, og, cg, q, rfl, ⟨(fun h => by cases h), hqc⟩, (slc_take hgs (by omega)).below rCon_stays hb⟩⟩ (HF.out.less q))
          rw [hck] at CK
          generalize d.kind = k0 at a0 CR1
          generalize d.rel = r0 at a3 CR1
          generalize d.const = t0 at a4 CR1
          obtain ⟨W5, hW5⟩ : ∃ W5, W5 = w4.alloc (.cells #[.int .i64 k0, .slice p1 l1 c1, .slice p2 l2 c2, .int .i64 r0, .int .i64 t0, .slice p3 l3 c3] 28) := ⟨_, rfl⟩
          have hB5 : Below w4.heap.size w4 W5 := by rw [hW5]; exact (Below.refl _ w4).alloc (Nat.le_refl _) _
          have h6 : At6 W5 w4.heap.size (.int .i64 k0) (.slice p1 l1 c1) (.slice p2 l2 c2) (.int .i64 r0) (.int .i64 t0) (.slice p3 l3 c3) := by rw [hW5]; exact six_new _ _ _ _ _ _ _ _
          have hst : W5.cell? ⟨w4.heap.size, 0, none⟩ = some (.int .i64 k0) ∧ W5.cell? ⟨w4.heap.size, 1, none⟩ = some (.slice p1 l1 c1) ∧ W5.cell? ⟨w4.heap.size, 2, none⟩ = some (.slice p2 l2 c2) ∧ W5.cell? ⟨w4.heap.size, 3, none⟩ = some (.int .i64 r0) ∧ W5.cell? ⟨w4.heap.size, 4, none⟩ = some (.int .i64 t0) ∧ W5.cell? ⟨w4.heap.size, 5, none⟩ = some (.slice p3 l3 c3) ∧ W5.cell? ⟨w.heap.size, 0, none⟩ = some (.slice pb lb cb) ∧ W5.cell? ⟨w.heap.size, 1, none⟩ = some (.slice (some ⟨bg, og, none⟩) lg cg) ∧ Hid (Below W5.heap.size W5 W5) :=
            ⟨h6.c0, h6.c1, h6.c2, h6.c3, h6.c4, h6.c5, cell_stays hB5 m0, cell_stays hB5 m1, Lib.hid (Below.refl _ _)⟩
          have H0 := Lib.hid hst
          have HB5 := Lib.hid (HB4.out.trans (hB5.mono HB4.out.size))
          have HW5 := Lib.hid hW5
          have HSL5 := Lib.hid (HSL.out.below rDecl_stays hB5)
          clear hcg hgs ex hd hmem hsh hr1 hck hW5 hB5 h6 hst g0 hq
          go_upto_region 11 with fail
          rw [← HW5.out]
          clear a0 a1 a2 a3 a4 a5 m0 m1
          go_region_held3 (fun w' => w'.cell? ⟨w4.heap.size, 0, none⟩ = some (.int .i64 k0) ∧ w'.cell? ⟨w4.heap.size, 1, none⟩ = some (.slice p1 l1 c1) ∧ w'.cell? ⟨w4.heap.size, 2, none⟩ = some (.slice p2 l2 c2) ∧ w'.cell? ⟨w4.heap.size, 3, none⟩ = some (.int .i64 r0) ∧ w'.cell? ⟨w4.heap.size, 4, none⟩ = some (.int .i64 t0) ∧ w'.cell? ⟨w4.heap.size, 5, none⟩ = some (.slice p3 l3 c3) ∧ w'.cell? ⟨w.heap.size, 0, none⟩ = some (.slice pb lb cb) ∧ w'.cell? ⟨w.heap.size, 1, none⟩ = some (.slice (some ⟨bg, og, none⟩) lg cg) ∧ Hid (Below W5.heap.size W5 w'))
            (first | exact hold8 (by assumption) (by assumption) | exact hold8 H0.out (below_drewN (n := 1) (Below.refl _ _)))
            (first
              | (go_at_call 13; refine (CR1.out _ (HB5.out.trans ((hold8b (by assumption)).mono HB5.out.size)) _ (by omega)).mono ?_; rintro e u ⟨rfl, hB⟩)
              | (go_at_call 9; refine (CK.out _ (HB5.out.trans ((hold8b (by assumption)).mono HB5.out.size))).mono ?_; rintro e u3 ⟨rfl, hB⟩))
          have hB5c := Lib.hid (hold8b (by assumption))
          go_wp2_with fail
          go_meet
          case rel => exact ⟨HB5.out.trans (hB5c.out.mono HB5.out.size), HSL5.out.below rDecl_stays hB5c.out⟩
      case rest =>
        obtain ⟨hBC, hSC⟩ := hcut
        have HBC := Lib.hid hBC
        have HSC := Lib.hid hSC
        clear hBC hSC m0 m1
        go_upto_region 13 with fail
        obtain ⟨a, ha⟩ : ∃ a, a = f % ll := ⟨_, rfl⟩
        obtain ⟨b, hb⟩ : ∃ b, b = o % ll := ⟨_, rfl⟩
        have ea : (f : Int) % (ll : Int) = (a : Int) := by rw [ha]; omega
        have eb : (o : Int) % (ll : Int) = (b : Int) := by rw [hb]; omega
        have hal : a < ll := by rw [ha]; exact Nat.mod_lt _ (by omega)
        have hbl : b < ll := by rw [hb]; exact Nat.mod_lt _ (by omega)
        have hz : ¬ (ll : Int) = 0 := by omega
        clear ha hb
        go_quiet (fail)
        obtain ⟨dl, sl, ul, exl, x0, x1, hsl, _⟩ := decl_at HSC.out hbl
        have HX0 := Lib.hid x0
        have HSN := Lib.hid hsl
        have HEX := Lib.hid exl
        clear x0 x1 hsl exl
        obtain ⟨wd, hwd⟩ : ∃ wd, wd = wc.drewN nq := ⟨_, rfl⟩
        have HBD := Lib.hid (show Below W0.heap.size W0 wd by rw [hwd]; exact below_drewN HBC.out)
        have HX0 := Lib.hid (show wd.cell? ⟨bl, ol + b * 2, none⟩ = some (.string sl) by rw [hwd]; exact HX0.out)
        have HXL0 := Lib.hid (World.block_lt_of_cell? wd _ HX0.out)
        rw [← hwd]
        rw [ea, eb]
        clear hwd ea eb
        by_cases hab : a = b
        · have tab : ((a : Int) == (b : Int)) = true := beq_iff_eq.2 (by omega)
          have u1 : (a : Int) ≤ (b : Int) := by omega
          have u2 : (b : Int) ≤ (a : Int) := by omega
          clear hab
          go_wp2_with fail
          all_goals try (exfalso; omega)
          go_ret
          exact ⟨rfl, HB0.out.trans (HBD.out.mono HB0.out.size)⟩
        · have tab : ((a : Int) == (b : Int)) = false := beq_eq_false_iff_ne.2 (by omega)
          have hpb := HMO.out.mod.blocks.at_
          have HLB := Lib.hid HMO.out.mod.blocks.long
          have HCK := Lib.hid (check_ren HZ.out (by rw [← HLL.out]; exact hal) HEX.out hab)
          have hnm : dl.name.length ≤ 100 := (HF.out.decl dl (List.mem_of_getElem? HEX.out)).1
          have HFR := Lib.hid (HF.out.ren a hnm)
          obtain ⟨nm, hnme⟩ : ∃ nm, nm = dl.name := ⟨_, rfl⟩
          rw [← hnme] at HCK HFR HSN
          clear HEX hnm hnme
          have m0 := cell_stays HBD.out HM.out.1
          have HAL := Lib.hid (show Below wd.heap.size wd (wd.alloc (.cells #[] 45)) from (Below.refl _ wd).alloc (Nat.le_refl _) _)
          have HOW := Lib.hid (ownsP_made (blkO W0 (wd.alloc (.cells #[] 45))) 3 45 (base := wd.heap.size) wd (Nat.le_refl _))
          have HBE := Lib.hid (HBD.out.trans (HAL.out.mono HBD.out.size))
          have HX1 := Lib.hid (cell_stays HAL.out HX0.out)
          obtain ⟨we, hwe⟩ : ∃ we, we = wd.alloc (.cells #[] 45) := ⟨_, rfl⟩
          rw [← hwe] at HAL HOW HBE HX1
          have HWE := Lib.hid hwe
          go_upto_region 17 with fail
          rw [← HWE.out]
          have m0 := cell_stays HAL.out m0
          clear hwe tab
          go_wp2_with fail
          go_loopw [12, 13, 86] (fun vo vt vi wr => ∃ k n : Nat, k ≤ lb ∧ vi = .int .i64 k ∧ vt = .int .i64 n ∧ (n = (varsL (m.blocks.take k)).length ∧ n ≤ k * 30) ∧ OwnsP (blkO W0 wr) 3 45 wd.heap.size wr vo (renB 0 a nm (m.blocks.take k)) ∧ Below W0.heap.size W0 wr ∧ wr.cell? ⟨bl, ol + b * 2, none⟩ = some (.string sl) ∧ wd.heap.size ≤ wr.heap.size) (fun _ _ vi _ => lb - (intOf vi).toNat)
          case atStart => exact ⟨0, 0, by omega, rfl, rfl, ⟨by simp [varsL], by omega⟩, HOW.out, HBE.out, HX1.out, HAL.out.size⟩
          case round =>
            obtain ⟨k, n, hk, rfl, rfl, ⟨hn, hn2⟩, hown, hB, hxl, hwr⟩ := hrel
            obtain ⟨wo, rfl⟩ : ∃ wo, wo = wr := ⟨_, rfl⟩
            have HWR := Lib.hid hwr
            clear hwr
            obtain ⟨Lb, hLb⟩ : ∃ Lb, Lb = renB 0 a nm (m.blocks.take k) := ⟨_, rfl⟩
            have hlen : Lb.length ≤ 30 := by rw [hLb, renB_length, List.length_take]; omega
            rw [← hLb] at hown
            obtain ⟨po, co, rfl⟩ := hown.shape
            by_cases hlt : k < lb
            · obtain rfl := hpb (by omega)
              obtain ⟨x, v1, v2, ex, ed, a0, a1, a2, sv, sc⟩ := block_at HMO.out.mod.blocks hlt
              have htot := totals ex
              have hnx := renB_next (a := a) (nm := nm) ex
              rw [← hLb, ← hn] at hnx
              rw [← hn] at htot
              have hxv := HF.out.vars x (List.mem_of_getElem? ex)
              have HDC := Lib.hid (HF.out.decls x (List.mem_of_getElem? ex))
              have HSCC := Lib.hid sc
              obtain ⟨p1, b1, o1, c1, l1, rfl, hs1⟩ := sv.open_
              have hp1 := hs1.at_
              have hl1x := hs1.long
              rw [← hl1x] at hxv htot
              obtain ⟨p2, l2, c2, rfl⟩ := slc_shape sc
              have a0 := cell_stays hB a0
              have a1 := cell_stays hB a1
              have a2 := cell_stays hB a2
              obtain ⟨xa, hxa⟩ : ∃ xa, xa = x.all := ⟨_, rfl⟩
              rw [← hxa] at a0
              have HXA := Lib.hid hxa
              have HS1 := Lib.hid hs1
              have HL1 := Lib.hid hl1x
              have HNX := Lib.hid hnx
              have HTOT := Lib.hid htot
              have HOWN := Lib.hid hown
              have HB := Lib.hid hB
              have HXL := Lib.hid hxl
              obtain ⟨W1, hW1⟩ : ∃ W1, W1 = wo.alloc (.cells #[.bool xa, .slice p1 l1 c1, .slice p2 l2 c2] 45) := ⟨_, rfl⟩
              have hB1 : Below wo.heap.size wo W1 := by rw [hW1]; exact (Below.refl _ wo).alloc (Nat.le_refl _) _
              have x1 : W1.cell? ⟨wo.heap.size, 1, none⟩ = some (.slice p1 l1 c1) := by rw [hW1]; go_simp
              have x0 : W1.cell? ⟨wo.heap.size, 0, none⟩ = some (.bool xa) := by rw [hW1]; go_simp
              have x2 : W1.cell? ⟨wo.heap.size, 2, none⟩ = some (.slice p2 l2 c2) := by rw [hW1]; go_simp
              have hsz1 : W1.heap.size = wo.heap.size + 1 := by rw [hW1]; simp
              obtain ⟨W2, hW2⟩ : ∃ W2, W2 = W1.alloc (.cells #[.bool xa, .slice none 0 0, .slice p2 l2 c2] 45) := ⟨_, rfl⟩
              have hB2 : Below W1.heap.size W1 W2 := by rw [hW2]; exact (Below.refl _ W1).alloc (Nat.le_refl _) _
              have hbx : Box3 W2 W1.heap.size 45 (.bool xa) (.slice none 0 0) (.slice p2 l2 c2) := by rw [hW2]; exact box3_new _ _ _ _ _
              obtain ⟨Y, hY⟩ : ∃ Y, Y = W1.heap.size := ⟨_, rfl⟩
              rw [← hY] at hbx
              have HY := Lib.hid hY
              have HBX := Lib.hid hbx
              have HWW1 := Lib.hid hW1
              have HWW2 := Lib.hid hW2
              have HBa1 := Lib.hid hB1
              have HBa2 := Lib.hid hB2
              have HB01 := Lib.hid (HB.out.trans (hB1.mono HB.out.size))
              have HSZ := Lib.hid hsz1
              have HO0 := Lib.hid (ownsP_nil (rDecl W0) 2 48 W1.heap.size W2)
              clear ex ed sv sc hnx htot hs1 hown hB hxl hLb hn hW1 hB1 hW2 hB2 hbx hY hsz1 hl1x hxa
              go_upto_region 21 with fail
              rw [← HWW1.out]
              clear a0 a1 a2
              go_upto_region 22 with fail
              rw [← HY.out]
              have hwy : W1.alloc (.cells #[.bool xa, .slice none 0 0, .slice p2 l2 c2] 45) = W2 := HWW2.out.symm
              rw [hwy]
              have x1 := cell_stays HBa2.out x1
              clear x0 x2 hwy
              go_wp2_with fail
              go_loopw [13, 98] (fun vt vi wr => ∃ (j t : Nat) (v1' : Value), j ≤ l1 ∧ vi = .int .i64 j ∧ vt = .int .i64 t ∧ t = n + j ∧ Box3 wr Y 45 (.bool xa) v1' (.slice p2 l2 c2) ∧ OwnsP (rDecl W0) 2 48 W1.heap.size wr v1' (renV n a nm (x.vars.take j)) ∧ Below W1.heap.size W1 wr) (fun _ vi _ => l1 - (intOf vi).toNat)
              case atStart => exact ⟨0, n, _, by omega, rfl, rfl, by omega, HBX.out, HO0.out, HBa2.out⟩
              case round =>
                obtain ⟨j, t, v1', hj, rfl, rfl, ht, hbx, how, hBq⟩ := hrel
                obtain ⟨Lv, hLv⟩ : ∃ Lv, Lv = renV n a nm (x.vars.take j) := ⟨_, rfl⟩
                have hlv : Lv.length ≤ 30 := by rw [hLv, renV_length, List.length_take]; omega
                rw [← hLv] at how
                obtain ⟨pv, cv, rfl⟩ := how.shape
                have HBQ := Lib.hid hBq
                have HTT := Lib.hid ht
                have HBX := Lib.hid hbx
                have HOV := Lib.hid how
                have HBW := Lib.hid (HB01.out.trans (hBq.mono HB01.out.size))
                by_cases hlj : j < l1
                · obtain rfl := hp1 (by omega)
                  obtain ⟨d, s, u, exd, e0, e1, hsd, hdm⟩ := decl_at HS1.out hlj
                  have e0 := cell_stays HBW.out e0
                  have e1 := cell_stays HBW.out e1
                  obtain ⟨pd, ld, cd, hu⟩ := slc_shape hdm
                  subst hu
                  have hnv := renV_next (n := n) (a := a) (nm := nm) exd
                  rw [← hLv, ← ht] at hnv
                  have HXQ := Lib.hid (cell_stays HBQ.out (cell_stays HBa1.out HXL.out))
                  have hYQ := hbx.lt
                  clear hbx how hBq exd hLv
                  have hht : t ≤ 930 := by omega
                  clear ht
                  by_cases hta : t = a
                  · have tta : ((t : Int) == (a : Int)) = true := beq_iff_eq.2 (by omega)
                    have v1 : (t : Int) ≤ (a : Int) := by omega
                    have v2 : (a : Int) ≤ (t : Int) := by omega
                    rw [if_pos hta] at hnv
                    have HRD := Lib.hid (show rDecl W0 [.string sl, .slice pd ld cd] ⟨nm, d.dom⟩ from ⟨_, _, rfl, HSN.out, hdm⟩)
                    have HNV := Lib.hid hnv
                    have xq := cell_stays ((Below.refl wr.heap.size wr).alloc (Nat.le_refl _) (.cells #[.string s, .slice pd ld cd] 48)) HXQ.out
                    clear hta hsd hdm hnv
                    go_upto_region 27 with fail
                    all_goals try (exfalso; omega)
                    obtain ⟨sz, hsz⟩ : ∃ sz, sz = sl := ⟨_, rfl⟩
                    rw [← hsz] at HRD ⊢
                    clear xq e0 e1 tta v1 v2 hsz
                    obtain ⟨o1', ho1⟩ : ∃ o1' : Obj, o1' = .cells #[.string sz, .slice pd ld cd] 48 := ⟨_, rfl⟩
                    have HBa := Lib.hid (show Below wr.heap.size wr (wr.alloc o1') from (Below.refl _ wr).alloc (Nat.le_refl _) _)
                    have HBb := Lib.hid (show Below (wr.alloc o1').heap.size (wr.alloc o1') ((wr.alloc o1').alloc o1') from (Below.refl _ _).alloc (Nat.le_refl _) _)
                    have HBX4 := Lib.hid ((HBX.out.below HBa.out).below HBb.out)
                    have HOV4 := Lib.hid ((HOV.out.below HBa.out).below HBb.out)
                    have HBQ4 := Lib.hid ((HBQ.out.trans (HBa.out.mono HBQ.out.size)).trans (HBb.out.mono (HBQ.out.trans (HBa.out.mono HBQ.out.size)).size))
                    have y1 := (HBX.out.below HBa.out).c1
                    have dd0 : (wr.alloc o1').cell? ⟨wr.heap.size, 0, none⟩ = some (.string sz) := by rw [ho1]; go_simp
                    have dd1 : (wr.alloc o1').cell? ⟨wr.heap.size, 1, none⟩ = some (.slice pd ld cd) := by rw [ho1]; go_simp
                    have HNC := Lib.hid (show ∀ i v, [Value.string sz, .slice pd ld cd][i]? = some v → ((wr.alloc o1').alloc o1').cell? ⟨(wr.alloc o1').heap.size, i, none⟩ = some v by rw [ho1]; exact cells2 _ _ _ _)
                    have HSW := Lib.hid (show (wr.alloc o1').heap.size = wr.heap.size + 1 by simp)
                    have HYL := Lib.hid hYQ
                    have hi := I48.out.1
                    have hz0 := I48.out.2.1
                    have hz1 := I48.out.2.2.1
                    have hz2 := I48.out.2.2.2
                    rw [← ho1]
                    subst ho1
                    go_wp2_with (at_builtin; refine append_one rfl _ _ 37 48 2 40 i48 _ Try.underlying37 hi hz0 hz1 hz2 rfl (by decide) (by decide) rfl W1.heap.size _ (wr.heap.size + 1) 1 Lv _ [.string sz, .slice pd ld cd] rfl rfl HOV4.out rfl (HSW.out ▸ HNC.out) one2 HRD.out (by omega) HBQ4.out.size ?_; intro v' w8 hown' hgrow; obtain ⟨p8, c8, rfl⟩ := hown'.shape; have HBX8 := Lib.hid (HBX4.out.grown hgrow (HBX4.out.apart HOV4.out (by decide))); have y8 := HBX8.out.c1; have f8 := HBX8.out.f1; have HO8 := Lib.hid hown'; have HG8 := Lib.hid (HBQ4.out.grown hgrow HBQ4.out.size (fun y e => (HOV4.out.lt y e).1)))
                    have HN8 := Lib.hid (HBX8.out.apart HO8.out (by decide))
                    go_roundw
                    case rel =>
                      refine ⟨j + 1, t + 1, _, by omega, by go_num, by go_num, by have := HTT.out; omega, HBX8.out.set1 _, ?_, ?_⟩
                      · rw [HNV.out]
                        have hk8 := HO8.out.kept (set_grown _ ⟨Y, 1, none⟩ (.slice p8 (Lv.length + 1) c8)) (.inr (Ne.symm HN8.out))
                        rw [List.length_append] at hk8
                        exact hk8
                      · exact HG8.out.setCell (by rw [← HY.out]; exact Nat.le_refl _) _
                    case measure => simp [intOf]; omega
                  · have tta : ((t : Int) == (a : Int)) = false := beq_eq_false_iff_ne.2 (by omega)
                    rw [if_neg hta] at hnv
                    have HRD := Lib.hid (show rDecl W0 [.string s, .slice pd ld cd] d from ⟨_, _, rfl, hsd, hdm⟩)
                    have HNV := Lib.hid hnv
                    clear hsd hdm hnv
                    go_upto_region 27 with fail
                    obtain ⟨sz, hsz⟩ : ∃ sz, sz = s := ⟨_, rfl⟩
                    rw [← hsz] at HRD ⊢
                    clear e0 e1 tta hsz
                    obtain ⟨o1', ho1⟩ : ∃ o1' : Obj, o1' = .cells #[.string sz, .slice pd ld cd] 48 := ⟨_, rfl⟩
                    have HBa := Lib.hid (show Below wr.heap.size wr (wr.alloc o1') from (Below.refl _ wr).alloc (Nat.le_refl _) _)
                    have HBb := Lib.hid (show Below (wr.alloc o1').heap.size (wr.alloc o1') ((wr.alloc o1').alloc o1') from (Below.refl _ _).alloc (Nat.le_refl _) _)
                    have HBX4 := Lib.hid ((HBX.out.below HBa.out).below HBb.out)
                    have HOV4 := Lib.hid ((HOV.out.below HBa.out).below HBb.out)
                    have HBQ4 := Lib.hid ((HBQ.out.trans (HBa.out.mono HBQ.out.size)).trans (HBb.out.mono (HBQ.out.trans (HBa.out.mono HBQ.out.size)).size))
                    have y1 := (HBX.out.below HBa.out).c1
                    have dd0 : (wr.alloc o1').cell? ⟨wr.heap.size, 0, none⟩ = some (.string sz) := by rw [ho1]; go_simp
                    have dd1 : (wr.alloc o1').cell? ⟨wr.heap.size, 1, none⟩ = some (.slice pd ld cd) := by rw [ho1]; go_simp
                    have HNC := Lib.hid (show ∀ i v, [Value.string sz, .slice pd ld cd][i]? = some v → ((wr.alloc o1').alloc o1').cell? ⟨(wr.alloc o1').heap.size, i, none⟩ = some v by rw [ho1]; exact cells2 _ _ _ _)
                    have HSW := Lib.hid (show (wr.alloc o1').heap.size = wr.heap.size + 1 by simp)
                    have HYL := Lib.hid hYQ
                    have hi := I48.out.1
                    have hz0 := I48.out.2.1
                    have hz1 := I48.out.2.2.1
                    have hz2 := I48.out.2.2.2
                    rw [← ho1]
                    subst ho1
                    go_wp2_with (at_builtin; refine append_one rfl _ _ 37 48 2 40 i48 _ Try.underlying37 hi hz0 hz1 hz2 rfl (by decide) (by decide) rfl W1.heap.size _ (wr.heap.size + 1) 1 Lv _ [.string sz, .slice pd ld cd] rfl rfl HOV4.out rfl (HSW.out ▸ HNC.out) one2 HRD.out (by omega) HBQ4.out.size ?_; intro v' w8 hown' hgrow; obtain ⟨p8, c8, rfl⟩ := hown'.shape; have HBX8 := Lib.hid (HBX4.out.grown hgrow (HBX4.out.apart HOV4.out (by decide))); have y8 := HBX8.out.c1; have f8 := HBX8.out.f1; have HO8 := Lib.hid hown'; have HG8 := Lib.hid (HBQ4.out.grown hgrow HBQ4.out.size (fun y e => (HOV4.out.lt y e).1)))
                    have HN8 := Lib.hid (HBX8.out.apart HO8.out (by decide))
                    go_roundw
                    case rel =>
                      refine ⟨j + 1, t + 1, _, by omega, by go_num, by go_num, by have := HTT.out; omega, HBX8.out.set1 _, ?_, ?_⟩
                      · rw [HNV.out]
                        have hk8 := HO8.out.kept (set_grown _ ⟨Y, 1, none⟩ (.slice p8 (Lv.length + 1) c8)) (.inr (Ne.symm HN8.out))
                        rw [List.length_append] at hk8
                        exact hk8
                      · exact HG8.out.setCell (by rw [← HY.out]; exact Nat.le_refl _) _
                    case measure => simp [intOf]; omega
                · obtain rfl : j = l1 := by omega
                  have c0 := hbx.c0
                  have c1' := hbx.c1
                  have c2' := hbx.c2
                  have hLv2 : Lv = renV n a nm x.vars := by rw [hLv, List.take_of_length_le (by rw [← HL1.out]; exact Nat.le_refl _)]
                  have how2 : OwnsP (rDecl W0) 2 48 W1.heap.size wr (.slice pv Lv.length cv) (renV n a nm x.vars) := by
                    rw [← hLv2]
                    exact how
                  have hbq2 : Below wo.heap.size wo wr := HBa1.out.trans (HBQ.out.mono HBa1.out.size)
                  have HO3 := Lib.hid ((HOWN.out.below hbq2).imp fun c b' _ q => blkO_below q hbq2)
                  have HXQ := Lib.hid (cell_stays hbq2 HXL.out)
                  have hbn : blkO W0 wr [.bool xa, .slice pv Lv.length cv, .slice p2 l2 c2] ⟨x.all, renV n a nm x.vars, x.cons⟩ := ⟨_, _, by rw [HXA.out], how2.low (by have := HB01.out.size; omega), HSCC.out⟩
                  have HBN := Lib.hid hbn
                  have hi := I45.out.1
                  have hz0 := I45.out.2.1
                  have hz1 := I45.out.2.2.1
                  have hz2 := I45.out.2.2.2
                  obtain ⟨oo, hoo⟩ : ∃ oo : Obj, oo = .cells #[.bool xa, .slice pv Lv.length cv, .slice p2 l2 c2] 45 := ⟨_, rfl⟩
                  have hBo : Below wr.heap.size wr (wr.alloc oo) := (Below.refl _ wr).alloc (Nat.le_refl _) _
                  have HO4 := Lib.hid ((HO3.out.below hBo).imp fun c b' _ q => blkO_below q hBo)
                  have HBN4 := Lib.hid (blkO_below hbn hBo)
                  have HB4q := Lib.hid (HBW.out.trans (hBo.mono HBW.out.size))
                  have HSQ := Lib.hid (show wd.heap.size ≤ (wr.alloc oo).heap.size from Nat.le_trans HWR.out (hbq2.trans (hBo.mono hbq2.size)).size)
                  have HXQ4 := Lib.hid (cell_stays hBo HXQ.out)
                  have HBx := Lib.hid (show Box3 (wr.alloc oo) wr.heap.size 45 (.bool xa) (.slice pv Lv.length cv) (.slice p2 l2 c2) by rw [hoo]; exact box3_new _ _ _ _ _)
                  clear hbx how how2 hBq hbq2 hbn hLv hLv2 hBo ht
                  subst hoo
                  go_wp2_with (at_builtin; refine append_one rfl _ _ 22 45 3 56 i45 _ Try.underlying22 hi hz0 hz1 hz2 rfl (by decide) (by decide) rfl wd.heap.size _ wr.heap.size 1 Lb ⟨x.all, renV n a nm x.vars, x.cons⟩ [.bool xa, .slice pv Lv.length cv, .slice p2 l2 c2] rfl rfl HO4.out rfl (cells3 HBx.out) one3 HBN4.out (by omega) HSQ.out ?_; intro v' w8 hown' hgrow)
                  go_roundw
                  case rel =>
                    refine ⟨k + 1, t, by omega, by go_num, rfl, ⟨by rw [HTOT.out, HTT.out], by have := HTT.out; omega⟩, ?_, ?_, ?_, Nat.le_trans HSQ.out hgrow.size⟩
                    · rw [HNX.out]
                      exact hown'.imp fun c b' _ q => blocks_kept q HO4.out hgrow
                    · exact HB4q.out.grown hgrow HB4q.out.size (fun y e => Nat.le_trans HBD.out.size (HO4.out.lt y e).1)
                    · exact hgrow.cell HXQ4.out (fun e => Nat.lt_irrefl _ (Nat.lt_of_lt_of_le HXL0.out (HO4.out.lt _ e.symm).1))
                  case measure => simp [intOf]; omega
            · have hLf : Lb = renB 0 a nm m.blocks := by rw [hLb, List.take_of_length_le (by rw [← HLB.out]; omega)]
              have hown2 : OwnsP (blkO W0 wo) 3 45 wd.heap.size wo (.slice po Lb.length co) (renB 0 a nm m.blocks) := by
                rw [← hLf]
                exact hown
              have m1 := cell_stays hB HM.out.2
              have hrm : rModel wo [.slice po Lb.length co, .slice pg lg cg] ⟨renB 0 a nm m.blocks, m.goal⟩ := ⟨_, _, rfl, blocks_slc hown2 hB, (HMO.out.mod.below hB).goal⟩
              have CF := Lib.hid (check_any hrm HFR.out)
              rw [HCK.out] at CF
              have HBZ := Lib.hid (HB0.out.trans (hB.mono HB0.out.size))
              clear hown hown2 hB hxl hLb hLf hrm hn
              go_wp2_with fail
              refine CF.out.mono ?_
              rintro e w9 ⟨rfl, hB9⟩
              have HB9 := Lib.hid (HBZ.out.trans (hB9.mono HBZ.out.size))
              clear hB9 m1
              go_wp2_with fail
              go_ret
              exact ⟨rfl, HB9.out⟩
    · have e0 : (z == 0) = false := beq_eq_false_iff_ne.2 z0
      go_wp2_with fail
      refine CC.out.mono ?_
      rintro e w3 ⟨rfl, hB3⟩
      have HB3 := Lib.hid (HB2.out.trans (hB3.mono HB2.out.size))
      clear hB3 m0 m1
      go_wp2_with fail
      all_goals try (exfalso; omega)
      go_ret
      exact ⟨rfl, HB0.out.trans (HB3.out.mono HB0.out.size)⟩
  · clear hBe
    go_wp2_with fail
    go_ret
    exact ⟨rfl, HB0.out.trans (HB2.out.mono HB0.out.size)⟩
end Go.Proofs.Ythoakeekfajhaaa
