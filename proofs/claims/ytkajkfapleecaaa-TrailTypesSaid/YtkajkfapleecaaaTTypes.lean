/-
  What TrailTypes answers: true; and nothing that was there turns.
-/
import Derived.Test.YtkajkfapleecaaaTAlike
import Derived.Test.YtkajkfapleecaaaTBack
import Derived.Deep.CutBlock
namespace Go.Proofs.Ytkajkfapleecaaa
open Go.RowKit

/-- both trails are alike, behind k acts -/
def Same2 (W : World) (n a b k : Nat) (wr : World) : Prop :=
  ∃ F G σ τ, TwoS (k + 1) (k + 1) W wr F a σ G b τ ∧ Alike σ τ ∧ σ.n = n ∧ σ.Up k

set_option maxRecDepth 100000 in
set_option maxHeartbeats 4000000 in
theorem types_law (p : Option Addr) (c n m : Nat) (L : List (Int × Int × Int)) (W : World) (hm : m = L.length) {pb po : Nat} (hp : 0 < m → p = some ⟨pb, po, none⟩) (hx : ActCells W pb po L)
    (hn : n ≤ 40) (h1 : m ≤ 150) :
    Calls Try.prog 5 #[.int .u8 (n : Int), .slice p m c] W fun e w' => e = .returned (.bool true) ∧ Below W.heap.size W w' := by
  have HX := Lib.hid hx
  have HM := Lib.hid hm
  have n0 : (0 : Int) ≤ (n : Int) := by omega
  have n1 : (n : Int) ≤ 40 := by omega
  have m1 : (m : Int) ≤ 150 := by omega
  have m3 : decide ((150 : Int) < (m : Int)) = false := decide_eq_false (by omega)
  clear hx hm
  go_enter Try.func5, Try.ntmps5
  go_wp2_with fail
  go_at_call 6
  refine (awake_any W).mono ?_
  rintro e w0 ⟨rfl, hB0⟩
  have HB0 := Lib.hid hB0
  clear hB0
  go_wp2_with fail
  go_at_call 7
  refine (new_int n w0 (by omega)).mono ?_
  rintro e w1 ⟨F, a, rfl, hA1, hB1, hl1⟩
  have H1 := Lib.hid hA1
  have HB1 := Lib.hid hB1
  have HL1 := Lib.hid hl1
  clear hA1 hB1 hl1
  go_wp2_with fail
  go_at_call 22
  refine (new_text n w1 (by omega)).mono ?_
  rintro e w2 ⟨G, b, rfl, hA2, hB2, hl2⟩
  have HT := Lib.hid (show Same2 W n a b 0 w2 from by
    have hs := HB0.out.size
    have hs1 := HB1.out.size
    refine ⟨F, G, Tr.new n 0, Tr.new n ByteArray.empty, { t := H1.out.below hB2, u := hA2, below := (HB0.out.trans (HB1.out.mono hs)).trans (hB2.mono (by omega)), lowF := fun x hx => Nat.le_trans hs (HL1.out x hx), lowG := fun x hx => Nat.le_trans hs (Nat.le_trans hs1 (hl2 x hx)), apart := fun x hx hg => ?_ }, alike_new n, rfl, Tr.up_new n 0⟩
    have e1 := H1.out.lts x hx
    have e2 := hl2 x hg
    omega)
  clear hA2 hB2 hl2 HB0 H1 HB1 HL1
  go_wp2_with fail
  go_loopw [51] (fun i wr => ∃ k : Nat, k ≤ m ∧ i = .int .i64 k ∧ Same2 W n a b k wr) (fun i _ => m - (intOf i).toNat)
  case atStart => exact ⟨0, by omega, rfl, HT.out⟩
  case round =>
    obtain ⟨k, hk, rfl, F, G, σ, τ, hT, hal, hσn, hσu⟩ := hrel
    have HTT := Lib.hid hT
    have HAL := Lib.hid hal
    have HSN := Lib.hid hσn
    have HSU := Lib.hid hσu
    clear hT hal hσn hσu HT
    by_cases hlt : k < m
    · obtain rfl := hp (by omega)
      have hlx : k < L.length := by have := HM.out; omega
      have hB := HTT.out.below
      obtain ⟨c0, c1, c2⟩ := HX.out k hlx
      have c0 := cell_below hB c0
      have c1 := cell_below hB c1
      have c2 := cell_below hB c2
      obtain ⟨x0, e0⟩ : ∃ x, x = (L.getD k (0, 0, 0)).1 := ⟨_, rfl⟩
      obtain ⟨x1, e1⟩ : ∃ x, x = (L.getD k (0, 0, 0)).2.1 := ⟨_, rfl⟩
      obtain ⟨x2, e2⟩ : ∃ x, x = (L.getD k (0, 0, 0)).2.2 := ⟨_, rfl⟩
      rw [← e0] at c0
      rw [← e1] at c1
      rw [← e2] at c2
      have d5 : (k : Int) < (m : Int) := by omega
      clear e0 e1 e2 hlx hB
      go_upto_region 14 with fail
      have hz := and255 x2
      generalize bits BinOp.and IntKind.i64 x2 255 = z at hz ⊢
      have HZ := Lib.hid hz
      clear hz
      go_upto_if 59 with (fail)
      go_cut [12, 59] from 60 to 149 (fun t _ wx => t = .string (tx z) ∧ Below (wr.heap.size + 1) (wr.alloc (.cells #[.int .i64 x0, .int .i64 x1, .int .i64 x2] 32)) wx)
      case first =>
        by_cases hz0 : z = 0
        · subst hz0
          go_wp2
          go_meet
          case rel => exact ⟨rfl, Below.refl _ _⟩
        · have hz1 : 0 < z := by have := HZ.out.1; omega
          have hz2 : z ≤ 255 := HZ.out.2
          have hcv := text_of HZ.out hz0 (wr.alloc (.cells #[.int .i64 x0, .int .i64 x1, .int .i64 x2] 32)) (wr.heap.size + 1) (by simp)
          clear hz0
          go_wp2
          go_meet
          case rel => exact ⟨rfl, (Below.refl _ _).alloc (by simp) _⟩
      case rest =>
        obtain ⟨rfl, hBc⟩ := hcut
        have hVlt : wr.heap.size < wc.heap.size := Nat.lt_of_lt_of_le (by simp) hBc.size
        have hBw : Below wr.heap.size wr wc := ((Below.refl _ wr).alloc (Nat.le_refl _) _).trans (hBc.mono (Nat.le_succ _))
        obtain ⟨v0, v1, v2⟩ := var3 wr (.int .i64 x0) (.int .i64 x1) (.int .i64 x2)
        have u0 := (hBc.cell (p := ⟨wr.heap.size, 0, none⟩) (by simp)).trans v0
        have u1 := (hBc.cell (p := ⟨wr.heap.size, 1, none⟩) (by simp)).trans v1
        have u2 := (hBc.cell (p := ⟨wr.heap.size, 2, none⟩) (by simp)).trans v2
        have uf : wc.frozen? ⟨wr.heap.size, 2, none⟩ = false := by
          rw [hBc.frozen (p := ⟨wr.heap.size, 2, none⟩) (by simp)]
          exact frozen_of_heap (heap_alloc_new wr _)
        have hTc := HTT.out.step hBw
        have hnF : wr.heap.size ∉ F := fun hm => by have := HTT.out.t.lts _ hm; omega
        have hnG : wr.heap.size ∉ G := fun hm => by have := HTT.out.u.lts _ hm; omega
        have hVW : W.heap.size ≤ wr.heap.size := HTT.out.below.size
        have hTs : Turn [wr.heap.size] wc (wc.setCell ⟨wr.heap.size, 2, none⟩ (.int .i64 z)) := (Turn.refl _ _).setCell (.inl (by simp)) _
        have hT1 : TwoS (k + 1) (k + 1) W (wc.setCell ⟨wr.heap.size, 2, none⟩ (.int .i64 z)) F a σ G b τ := {
          t := hTc.t.turn hTs (fun x hx => by simp only [List.mem_singleton]; rintro rfl; exact hnF hx)
          u := hTc.u.turn hTs (fun x hx => by simp only [List.mem_singleton]; rintro rfl; exact hnG hx)
          below := hTs.below hTc.below hTc.below.size (fun x hx => by rw [List.mem_singleton.1 hx]; exact hVW)
          lowF := hTc.lowF
          lowG := hTc.lowG
          apart := hTc.apart }
        have HT1 := Lib.hid hT1
        have HNF := Lib.hid hnF
        have HNG := Lib.hid hnG
        clear hBc hBw v0 v1 v2 hTc hnF hnG hVW hTs hT1 hVlt
        generalize wr.heap.size = V at *
        go_wp2_with fail
        go_at_call 9
        refine (do_any HT1.out.t (by omega) (HSU.out.mono (by omega)) x0 x1 z).mono ?_
        rintro e w3 ⟨rfl, F', hA, hMv⟩
        have y0 : (wc.setCell ⟨V, 2, none⟩ (.int .i64 z)).cell? ⟨V, 0, none⟩ = some (.int .i64 x0) := by
          rw [World.cell?_setCell_other _ _ _ _ (by simp)]
          exact u0
        have y1 : (wc.setCell ⟨V, 2, none⟩ (.int .i64 z)).cell? ⟨V, 1, none⟩ = some (.int .i64 x1) := by
          rw [World.cell?_setCell_other _ _ _ _ (by simp)]
          exact u1
        have y0 := hMv.turn.cell y0 HNF.out
        have y1 := hMv.turn.cell y1 HNF.out
        have HT2 := Lib.hid (HT1.out.left hA hMv)
        clear hA hMv HNF HNG HT1 u0 u1 u2 uf c0 c1 c2
        obtain ⟨er, her⟩ : ∃ q, q = σ.err x0 x1 := ⟨_, rfl⟩
        obtain ⟨nm, hnm⟩ : ∃ q, q = σ.num x0 := ⟨_, rfl⟩
        rw [← her, ← hnm]
        have HER := Lib.hid (her.trans (HAL.out.err x0 x1).symm)
        have HNM := Lib.hid (hnm.trans (HAL.out.num x0).symm)
        clear her hnm
        go_upto_block 2 with fail
        go_cut [15, 16] from 74 to 149 (fun v15 v16 wx => v15 = .int .i64 er ∧ v16 = .int .i64 nm ∧ Same2 W n a b (k + 1) wx)
        case first =>
          have HFI : Hid (∀ (G' : List Nat) (w' : World) (τ' : Tr ByteArray), Attext (k + 2) w' G' b τ' → Moves G w3 G' w' → τ' = τ.act x0 x1 (tx z) → Same2 W n a b (k + 1) w') := by
            rintro G' w' τ' hA hMv rfl
            exact ⟨F', G', _, _, HT2.out.right hA hMv, HAL.out.act HZ.out x0 x1, by rw [σ.act_n]; exact HSN.out, HSU.out.act x0 x1 z⟩
          have HUT := Lib.hid (HAL.out.up HSU.out)
          by_cases h0 : x0 = 0
          · subst h0
            have hn0 : nm = 0 := by rw [HNM.out]; rfl
            have HN0 := Lib.hid hn0
            clear hn0
            by_cases hi : 0 ≤ x1 ∧ x1 < τ.n
            · obtain ⟨y, rfl⟩ : ∃ y : Nat, x1 = (y : Int) := ⟨x1.toNat, by omega⟩
              have hy : y < τ.n := by omega
              have he0 : er = 0 := by rw [HER.out]; simp [Tr.err, hy]
              have hac : τ.set y (tx z) = τ.act 0 (y : Int) (tx z) := by simp [Tr.act, hy]
              have HE0 := Lib.hid he0
              have HAC := Lib.hid hac
              have HY := Lib.hid hy
              clear hi he0 hac hy
              go_wp2_with fail
              go_at_call 23
              refine (set_yes_text HT2.out.u HY.out (HUT.out.mono (by omega)) (tx z)).mono ?_
              rintro e w4 ⟨rfl, G', hA, hMv⟩
              have HF := Lib.hid (HFI.out G' w4 _ (hA.mono (by omega)) hMv HAC.out)
              clear hA hMv
              go_wp2_with fail
              go_meet
              case rel => exact ⟨by rw [HE0.out], by rw [HN0.out], HF.out⟩
            · have he0 : er = 1 := by rw [HER.out]; simp [Tr.err, hi]
              have hac : τ = τ.act 0 x1 (tx z) := by simp [Tr.act, hi]
              have HE0 := Lib.hid he0
              have HAC := Lib.hid hac
              have HY := Lib.hid hi
              clear hi he0 hac
              go_wp2_with fail
              go_at_call 23
              refine (set_no_text HT2.out.u HY.out (tx z)).mono ?_
              rintro e w4 ⟨rfl, rfl⟩
              have HF := Lib.hid (HFI.out G w3 _ (HT2.out.u.mono (by omega)) (Moves.refl _ _) HAC.out)
              go_wp2_with fail
              go_meet
              case rel => exact ⟨by rw [HE0.out], by rw [HN0.out], HF.out⟩
          · by_cases h1 : x0 = 1
            · subst h1
              have hn0 : nm = ((τ.top + 1 : Nat) : Int) := by rw [HNM.out]; rfl
              have he0 : er = 0 := by rw [HER.out]; rfl
              have HN0 := Lib.hid hn0
              have HE0 := Lib.hid he0
              clear hn0 he0 h0
              go_wp2_with fail
              go_at_call 24
              refine (save_text HT2.out.u (by omega)).mono ?_
              rintro e w4 ⟨rfl, G', hA, hMv⟩
              have HF := Lib.hid (HFI.out G' w4 _ hA hMv rfl)
              rw [← HN0.out]
              clear hA hMv
              go_wp2_with fail
              go_meet
              case rel => exact ⟨by rw [HE0.out], rfl, HF.out⟩
            · by_cases h2 : x0 = 2
              · subst h2
                have hn0 : nm = 0 := by rw [HNM.out]; rfl
                have HN0 := Lib.hid hn0
                clear hn0 h0 h1
                by_cases ht : τ.top = 0
                · have he0 : er = 9 := by rw [HER.out]; simp [Tr.err, ht]
                  have hac : τ = τ.act 2 x1 (tx z) := by simp [Tr.act, ht]
                  have HE0 := Lib.hid he0
                  have HAC := Lib.hid hac
                  have HY := Lib.hid ht
                  clear ht he0 hac
                  go_wp2_with fail
                  go_at_call 25
                  refine (undo_none_text HT2.out.u HY.out).mono ?_
                  rintro e w4 ⟨rfl, rfl⟩
                  have HF := Lib.hid (HFI.out G w3 _ (HT2.out.u.mono (by omega)) (Moves.refl _ _) HAC.out)
                  go_wp2_with fail
                  go_meet
                  case rel => exact ⟨by rw [HE0.out], by rw [HN0.out], HF.out⟩
                · have he0 : er = 0 := by rw [HER.out]; simp [Tr.err, ht]
                  have hac : τ.undo = τ.act 2 x1 (tx z) := by simp [Tr.act, ht]
                  have HE0 := Lib.hid he0
                  have HAC := Lib.hid hac
                  have HY := Lib.hid (show 0 < τ.top by omega)
                  clear ht he0 hac
                  go_wp2_with fail
                  go_at_call 25
                  refine (undo_text HT2.out.u HY.out (by omega) (HUT.out.mono (by omega))).mono ?_
                  rintro e w4 ⟨rfl, G', hA, hMv⟩
                  have HF := Lib.hid (HFI.out G' w4 _ (hA.mono (by omega)) hMv HAC.out)
                  clear hA hMv
                  go_wp2_with fail
                  go_meet
                  case rel => exact ⟨by rw [HE0.out], by rw [HN0.out], HF.out⟩
              · have hn0 : nm = 0 := by rw [HNM.out]; simp [Tr.num, h1]
                have he0 : er = 0 := by rw [HER.out]; simp [Tr.err, h0, h1, h2]
                have hac : τ = τ.act x0 x1 (tx z) := by simp [Tr.act, h0, h1, h2]
                have HN0 := Lib.hid hn0
                have HE0 := Lib.hid he0
                have HF := Lib.hid (HFI.out G w3 _ (HT2.out.u.mono (by omega)) (Moves.refl _ _) hac)
                have d0 : (x0 == 0) = false := by simpa using h0
                have d1 : (x0 == 1) = false := by simpa using h1
                have d2 : (x0 == 2) = false := by simpa using h2
                clear hn0 he0 hac h0 h1 h2
                go_wp2_with fail
                go_meet
                case rel => exact ⟨by rw [HE0.out], by rw [HN0.out], HF.out⟩
        case rest =>
          obtain ⟨rfl, rfl, hS⟩ := hcut
          obtain ⟨F2, G2, σ2, τ2, hT5, hal5, hn5, hu5⟩ := hS
          have HT5 := Lib.hid hT5
          have HA5 := Lib.hid hal5
          have HN5 := Lib.hid hn5
          have HU5 := Lib.hid hu5
          clear hT5 hal5 hn5 hu5 HT2 HER HNM HAL HSN HSU HZ y0 y1 HTT
          have hlen := changed_length σ2 (by rw [HN5.out]; omega)
          have HLN := Lib.hid hlen
          clear hlen
          go_wp2_with fail
          go_at_call 16
          refine (changed_int HT5.out.t).mono ?_
          rintro e w4 ⟨v, rfl, hV, hB4⟩
          have HT6 := Lib.hid (HT5.out.step hB4)
          have HV := Lib.hid hV
          clear hV hB4 HT5
          go_wp2_with fail
          go_at_call 26
          refine (changed_text HT6.out.u).mono ?_
          rintro e w5 ⟨v', rfl, hV', hB5⟩
          have HT7 := Lib.hid (HT6.out.step hB5)
          have HR1 := Lib.hid (reads_below (reads_of_owns HV.out) hB5)
          have hr2 := reads_of_owns hV'
          rw [HA5.out.changed] at hr2
          have HR2 := Lib.hid hr2
          clear hV' hB5 HT6 hr2
          go_wp2_with fail
          go_at_call 15
          refine (rsameI_any HR1.out HR2.out HLN.out HLN.out).mono ?_
          rintro e w6 ⟨rfl, hq6⟩
          have hB6 : Below w5.heap.size w5 w6 := by
            obtain ⟨q, rfl⟩ := hq6
            exact ⟨rfl, rfl, rfl, Nat.le_refl _, fun _ _ => rfl⟩
          have HT8 := Lib.hid (HT7.out.step hB6)
          have hs : (σ2.changed == σ2.changed) = true := beq_self_eq_true _
          simp only [hs]
          clear hs hB6 hq6 HR1 HR2 HT7 HV HLN
          obtain ⟨bc, k0, k1, k2⟩ := HT8.out.t.parts
          obtain ⟨bc', l0, l1, l2⟩ := HT8.out.u.parts
          have en : σ2.n = n := HN5.out
          have en' : τ2.n = n := HA5.out.n.trans HN5.out
          rw [en] at k0 k1
          rw [en'] at l0 l1
          have K0 := Lib.hid k0
          have K1 := Lib.hid k1
          have L0 := Lib.hid l0
          have L1 := Lib.hid l1
          clear k0 k1 k2 l0 l1 l2 en en'
          have HB6 := Lib.hid (Below.refl w6.heap.size w6)
          go_wp2_with fail
          go_loopw [107] (fun i wz => ∃ y : Nat, y ≤ n ∧ i = .int .i64 y ∧ Below w6.heap.size w6 wz) (fun i _ => n - (intOf i).toNat)
          case atStart => exact ⟨0, by omega, rfl, HB6.out⟩
          case round =>
            obtain ⟨y, hy, rfl, hBz⟩ := hrel
            have HBZ := Lib.hid hBz
            clear hBz HB6
            by_cases hlt : y < n
            · have d5 : (y : Int) < (n : Int) := by omega
              have cells := K1.out.turn (turn_of_below HBZ.out []) (by simp)
              have cells' := L1.out.turn (turn_of_below HBZ.out []) (by simp)
              have G0 := Lib.hid (get_yes_int (cell_below HBZ.out K0.out) cells hlt)
              have g1 := get_yes_text (cell_below HBZ.out L0.out) cells' hlt
              have S0 := Lib.hid (stamp_yes_int (cell_below HBZ.out K0.out) cells hlt)
              have s1 := stamp_yes_text (cell_below HBZ.out L0.out) cells' hlt
              rw [(HA5.out.cur y).2] at g1
              rw [HA5.out.st y] at s1
              have hin := (HA5.out.cur y).1
              generalize σ2.cur y = c0 at G0 g1 hin
              generalize σ2.st y = s0 at S0 s1
              have HIN := Lib.hid hin
              have G1 := Lib.hid g1
              have S1 := Lib.hid s1
              clear cells cells' g1 s1 hin
              by_cases hc : c0 = 0
              · subst hc
                have e0 : tx 0 = { data := #[] } := rfl
                rw [e0] at G1
                clear e0
                go_wp2_with fail
                go_at_call 18
                refine G0.out.mono ?_
                rintro e w' ⟨rfl, rfl⟩
                go_wp2_with fail
                go_at_call 27
                refine G1.out.mono ?_
                rintro e w' ⟨rfl, rfl⟩
                go_wp2_with fail
                go_at_call 19
                refine S0.out.mono ?_
                rintro e w' ⟨rfl, rfl⟩
                go_wp2_with fail
                go_at_call 28
                refine S1.out.mono ?_
                rintro e w' ⟨rfl, rfl⟩
                go_wp2_with fail
                go_roundw
                case rel => exact ⟨y + 1, by omega, by go_num, HBZ.out⟩
                case measure => simp [intOf]; omega
              · have i0 : 0 ≤ c0 := HIN.out.1
                have i1 : c0 ≤ 255 := HIN.out.2
                have i2 : (c0 == 0) = false := by simpa using hc
                have i3 : (tx c0).toList.isEmpty = false := by
                  rw [tx, if_neg hc, ByteArray.toList_eq]
                  rfl
                have hcv := text_of HIN.out hc wr wr.heap.size rfl
                have S2 := Lib.hid (fun w' (hw : Below w6.heap.size w6 w') => stamp_yes_int (cell_below hw K0.out) (K1.out.turn (turn_of_below hw []) (by simp)) hlt)
                have HC := Lib.hid hc
                have HBY := Lib.hid (HBZ.out.alloc HBZ.out.size (.cells #[.int .u8 c0] 5))
                have S0 := Lib.hid (stamp_yes_int (cell_below HBY.out K0.out) (K1.out.turn (turn_of_below HBY.out []) (by simp)) hlt)
                have s1 := stamp_yes_text (cell_below HBY.out L0.out) (L1.out.turn (turn_of_below HBY.out []) (by simp)) hlt
                rw [HA5.out.st y] at s1
                have S1 := Lib.hid s1
                clear s1 S2 hc
                go_wp2_with fail
                go_at_call 18
                refine G0.out.mono ?_
                rintro e w' ⟨rfl, rfl⟩
                go_wp2_with fail
                go_at_call 27
                refine G1.out.mono ?_
                rintro e w' ⟨rfl, rfl⟩
                go_wp2_with fail
                go_at_call 19
                refine S0.out.mono ?_
                rintro e w' ⟨rfl, rfl⟩
                go_wp2_with fail
                go_at_call 28
                refine S1.out.mono ?_
                rintro e w' ⟨rfl, rfl⟩
                go_wp2_with fail
                go_roundw
                case rel => exact ⟨y + 1, by omega, by go_num, HBY.out⟩
                case measure => simp [intOf]; omega
            · have HBF := Lib.hid (show Same2 W n a b (k + 1) wr from ⟨F2, G2, σ2, τ2, HT8.out.step HBZ.out, HA5.out, HN5.out, HU5.out⟩)
              go_wp2_with fail
              go_roundw
              case rel => exact ⟨k + 1, by omega, by go_num, HBF.out⟩
              case measure => simp [intOf]; omega
    · obtain rfl : k = m := by omega
      clear hlt hp
      go_wp2_with fail
      go_ret
      exact ⟨rfl, HTT.out.below⟩
end Go.Proofs.Ytkajkfapleecaaa
