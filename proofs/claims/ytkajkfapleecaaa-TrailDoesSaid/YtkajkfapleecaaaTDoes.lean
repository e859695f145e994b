/-
  What TrailDoes answers where there are up to 40 cells and 150 acts: true; and nothing that was there turns.
-/
import Derived.Test.YtkajkfapleecaaaTBack
import Derived.Test.YtkajkfapleecaaaTRSave
import Derived.Deep.CutBlock
import Derived.IntWalk
namespace Go.Proofs.Ytkajkfapleecaaa
open Go.RowKit

/-- the program's trail beside the document's, both at σ -/
structure TwoR (M : Nat) (W w : World) (F : List Nat) (a : Nat) (σ : Tr Int) (G : List Nat) (r : Nat) (τ : Tr Int) : Prop where
  t : Atint M w F a σ
  s : RAt M w G r τ
  below : Below W.heap.size W w
  lowF : ∀ x, x ∈ F → W.heap.size ≤ x
  lowG : ∀ x, x ∈ G → W.heap.size ≤ x
  apart : ∀ x, x ∈ F → x ∉ G
section
variable {M : Nat} {W w : World} {F : List Nat} {a : Nat} {σ τ : Tr Int} {G : List Nat} {r : Nat}
theorem TwoR.left {w' : World} {F' : List Nat} {σ' : Tr Int} (h : TwoR M W w F a σ G r τ) (hA : Atint (M + 1) w' F' a σ') (hM : Moves F w F' w') : TwoR (M + 1) W w' F' a σ' G r τ where
  t := hA
  s := (h.s.turn hM.turn (fun x hx hy => h.apart x hy hx)).mono (Nat.le_succ _)
  below := hM.turn.below h.below h.below.size h.lowF
  lowF := hM.low h.lowF h.below.size
  lowG := h.lowG
  apart := fun x hx hg => by
    rcases hM.foot x hx with h1 | h1
    · exact h.apart x h1 hg
    · have := h.s.ltall x hg
      omega
theorem TwoR.right {w' : World} {G' : List Nat} {τ' : Tr Int} (h : TwoR M W w F a σ G r τ) (hA : RAt (M + 1) w' G' r τ') (hM : Moves G w G' w') : TwoR (M + 1) W w' F a σ G' r τ' where
  t := (h.t.turn hM.turn h.apart).mono (Nat.le_succ _)
  s := hA
  below := hM.turn.below h.below h.below.size h.lowG
  lowF := h.lowF
  lowG := hM.low h.lowG h.below.size
  apart := fun x hx hg => by
    rcases hM.foot x hg with h1 | h1
    · exact h.apart x hx h1
    · have := h.t.lts x hx
      omega
theorem TwoR.step {w' : World} (h : TwoR M W w F a σ G r τ) (hB : Below w.heap.size w w') : TwoR M W w' F a σ G r τ where
  t := h.t.below hB
  s := h.s.below hB
  below := h.below.trans (hB.mono h.below.size)
  lowF := h.lowF
  lowG := h.lowG
  apart := h.apart
theorem TwoR.mono {M' : Nat} (h : TwoR M W w F a σ G r τ) (hM : M ≤ M') : TwoR M' W w F a σ G r τ := { h with t := h.t.mono hM, s := h.s.mono hM }
end

/-- both are at one state, behind k acts -/
def Like (W : World) (n a r k : Nat) (wr : World) : Prop :=
  ∃ F G σ, TwoR (2 * k + 1) W wr F a σ G r σ ∧ σ.n = n ∧ σ.Up k

set_option maxRecDepth 100000 in
set_option maxHeartbeats 4000000 in
theorem does_law (p : Option Addr) (c n m : Nat) (L : List (Int × Int × Int)) (W : World) (hm : m = L.length) {pb po : Nat} (hp : 0 < m → p = some ⟨pb, po, none⟩) (hx : ActCells W pb po L)
    (hn : n ≤ 40) (h1 : m ≤ 150) :
    Calls Try.prog 3 #[.int .i64 (n : Int), .slice p m c] W fun e w' => e = .returned (.bool true) ∧ Below W.heap.size W w' := by
  have HX := Lib.hid hx
  have HM := Lib.hid hm
  have n0 : (0 : Int) ≤ (n : Int) := by omega
  have n1 : (n : Int) ≤ 40 := by omega
  have m1 : (m : Int) ≤ 150 := by omega
  have m3 : decide ((150 : Int) < (m : Int)) = false := decide_eq_false (by omega)
  clear hx hm
  go_enter Try.func3, Try.ntmps3
  go_wp2_with fail
  go_at_call 6
  refine (awake_any W).mono ?_
  rintro e w0 ⟨rfl, hB0⟩
  have HB0 := Lib.hid hB0
  clear hB0
  go_wp2_with fail
  go_at_call 7
  refine (new_int n w0 (by omega)).mono ?_
  rintro e w1 ⟨F, a, rfl, hA1, hB1, hl1⟩
  have H1 := Lib.hid hA1
  have HB1 := Lib.hid hB1
  have HL1 := Lib.hid hl1
  clear hA1 hB1 hl1
  go_wp2_with fail
  go_at_call 8
  refine (rnew_any n w1 (by omega)).mono ?_
  rintro e w2 ⟨G, r, rfl, hA2, hB2, hl2⟩
  have HT := Lib.hid (show Like W n a r 0 w2 from by
    have hs := HB0.out.size
    have hs1 := HB1.out.size
    refine ⟨F, G, Tr.new n 0, { t := H1.out.below hB2, s := hA2, below := (HB0.out.trans (HB1.out.mono hs)).trans (hB2.mono (by omega)), lowF := fun x hx => Nat.le_trans hs (HL1.out x hx), lowG := fun x hx => Nat.le_trans hs (Nat.le_trans hs1 (hl2 x hx)), apart := fun x hx hg => ?_ }, rfl, Tr.up_new n 0⟩
    have e1 := H1.out.lts x hx
    have e2 := hl2 x hg
    omega)
  clear hA2 hB2 hl2 HB0 H1 HB1 HL1
  go_wp2_with fail
  go_loopw [59] (fun i wr => ∃ k : Nat, k ≤ m ∧ i = .int .i64 k ∧ Like W n a r k wr) (fun i _ => m - (intOf i).toNat)
  case atStart => exact ⟨0, by omega, rfl, HT.out⟩
  case round =>
    obtain ⟨k, hk, rfl, F, G, σ, hT, hσn, hσu⟩ := hrel
    have HTT := Lib.hid hT
    have HSN := Lib.hid hσn
    have HSU := Lib.hid hσu
    clear hT hσn hσu HT
    by_cases hlt : k < m
    · obtain rfl := hp (by omega)
      have hlx : k < L.length := by have := HM.out; omega
      have hB := HTT.out.below
      obtain ⟨c0, c1, c2⟩ := HX.out k hlx
      have c0 := cell_below hB c0
      have c1 := cell_below hB c1
      have c2 := cell_below hB c2
      obtain ⟨x0, e0⟩ : ∃ x, x = (L.getD k (0, 0, 0)).1 := ⟨_, rfl⟩
      obtain ⟨x1, e1⟩ : ∃ x, x = (L.getD k (0, 0, 0)).2.1 := ⟨_, rfl⟩
      obtain ⟨x2, e2⟩ : ∃ x, x = (L.getD k (0, 0, 0)).2.2 := ⟨_, rfl⟩
      rw [← e0] at c0
      rw [← e1] at c1
      rw [← e2] at c2
      have d5 : (k : Int) < (m : Int) := by omega
      clear e0 e1 e2 hlx hB
      have hT1 := HTT.out.step ((Below.refl _ wr).alloc (Nat.le_refl _) (.cells #[.int .i64 x0, .int .i64 x1, .int .i64 x2] 32))
      have hno : wr.heap.size ∉ F := fun hm => by have := HTT.out.t.lts _ hm; omega
      obtain ⟨v0, v1, v2⟩ := var3 wr (.int .i64 x0) (.int .i64 x1) (.int .i64 x2)
      have HV0 := Lib.hid v0
      have HV1 := Lib.hid v1
      have HV2 := Lib.hid v2
      have HT1 := Lib.hid hT1
      have HNO := Lib.hid hno
      clear hT1 hno v0 v1 v2
      go_wp2_with fail
      go_at_call 9
      refine (do_any HT1.out.t (by omega) (HSU.out.mono (by omega)) x0 x1 x2).mono ?_
      rintro e w3 ⟨rfl, F', hA, hMv⟩
      have u0 := hMv.turn.cell HV0.out HNO.out
      have u1 := hMv.turn.cell HV1.out HNO.out
      have u2 := hMv.turn.cell HV2.out HNO.out
      have HT2 := Lib.hid (HT1.out.left hA hMv)
      clear hA hMv HV0 HV1 HV2 HNO HT1 c0 c1 c2
      generalize wr.heap.size = V at *
      obtain ⟨er, her⟩ : ∃ q, q = σ.err x0 x1 := ⟨_, rfl⟩
      obtain ⟨nm, hnm⟩ : ∃ q, q = σ.num x0 := ⟨_, rfl⟩
      rw [← her, ← hnm]
      have HER := Lib.hid her
      have HNM := Lib.hid hnm
      clear her hnm
      go_upto_block 2 with fail
      go_cut [13, 14] from 71 to 165 (fun v13 v14 wx => v13 = .int .i64 er ∧ v14 = .int .i64 nm ∧ Like W n a r (k + 1) wx)
      case first =>
        have HFI : Hid (∀ (G' : List Nat) (w' : World) (τ' : Tr Int), RAt (2 * k + 1 + 1 + 1) w' G' r τ' → Moves G w3 G' w' → τ' = σ.act x0 x1 x2 → Like W n a r (k + 1) w') := by
          rintro G' w' τ' hA hMv rfl
          exact ⟨F', G', _, (HT2.out.right hA hMv).mono (by omega), by rw [σ.act_n]; exact HSN.out, HSU.out.act x0 x1 x2⟩
        have HS2 := Lib.hid HT2.out.s
        by_cases h0 : x0 = 0
        · subst h0
          have hn0 : nm = 0 := by rw [HNM.out]; rfl
          have HN0 := Lib.hid hn0
          clear hn0
          by_cases hi : 0 ≤ x1 ∧ x1 < σ.n
          · obtain ⟨y, rfl⟩ : ∃ y : Nat, x1 = (y : Int) := ⟨x1.toNat, by omega⟩
            have hy : y < σ.n := by omega
            have he0 : er = 0 := by rw [HER.out]; simp [Tr.err, hy]
            have hac : σ.set y x2 = σ.act 0 (y : Int) x2 := by simp [Tr.act, hy]
            have HE0 := Lib.hid he0
            have HAC := Lib.hid hac
            have HY := Lib.hid hy
            clear hi he0 hac hy
            go_wp2_with fail
            go_at_call 10
            refine (rset_yes HS2.out HY.out (HSU.out.mono (by omega)) x2).mono ?_
            rintro e w4 ⟨rfl, G', hA, hMv⟩
            have HF := Lib.hid (HFI.out G' w4 _ (hA.mono (by omega)) hMv HAC.out)
            clear hA hMv
            go_wp2_with fail
            go_meet
            case rel => exact ⟨by rw [HE0.out], by rw [HN0.out], HF.out⟩
          · have he0 : er = 1 := by rw [HER.out]; simp [Tr.err, hi]
            have hac : σ = σ.act 0 x1 x2 := by simp [Tr.act, hi]
            have HE0 := Lib.hid he0
            have HAC := Lib.hid hac
            have HY := Lib.hid hi
            clear hi he0 hac
            go_wp2_with fail
            go_at_call 10
            refine (rset_no HS2.out HY.out x2).mono ?_
            rintro e w4 ⟨rfl, rfl⟩
            have HF := Lib.hid (HFI.out G w3 _ (HS2.out.mono (by omega)) (Moves.refl _ _) HAC.out)
            go_wp2_with fail
            go_meet
            case rel => exact ⟨by rw [HE0.out], by rw [HN0.out], HF.out⟩
        · by_cases h1 : x0 = 1
          · subst h1
            have hn0 : nm = ((σ.top + 1 : Nat) : Int) := by rw [HNM.out]; rfl
            have he0 : er = 0 := by rw [HER.out]; rfl
            have HN0 := Lib.hid hn0
            have HE0 := Lib.hid he0
            clear hn0 he0 h0
            go_wp2_with fail
            go_at_call 11
            refine (rsave_any HS2.out (by omega)).mono ?_
            rintro e w4 ⟨rfl, G', hA, hMv⟩
            have HF := Lib.hid (HFI.out G' w4 _ hA hMv rfl)
            rw [← HN0.out]
            clear hA hMv
            go_wp2_with fail
            go_meet
            case rel => exact ⟨by rw [HE0.out], rfl, HF.out⟩
          · by_cases h2 : x0 = 2
            · subst h2
              have hn0 : nm = 0 := by rw [HNM.out]; rfl
              have HN0 := Lib.hid hn0
              clear hn0 h0 h1
              by_cases ht : σ.top = 0
              · have he0 : er = 9 := by rw [HER.out]; simp [Tr.err, ht]
                have hac : σ = σ.act 2 x1 x2 := by simp [Tr.act, ht]
                have HE0 := Lib.hid he0
                have HAC := Lib.hid hac
                have HY := Lib.hid ht
                clear ht he0 hac
                go_wp2_with fail
                go_at_call 12
                refine (rundo_none HS2.out HY.out).mono ?_
                rintro e w4 ⟨rfl, rfl⟩
                have HF := Lib.hid (HFI.out G w3 _ (HS2.out.mono (by omega)) (Moves.refl _ _) HAC.out)
                go_wp2_with fail
                go_meet
                case rel => exact ⟨by rw [HE0.out], by rw [HN0.out], HF.out⟩
              · have he0 : er = 0 := by rw [HER.out]; simp [Tr.err, ht]
                have hac : σ.undo = σ.act 2 x1 x2 := by simp [Tr.act, ht]
                have HE0 := Lib.hid he0
                have HAC := Lib.hid hac
                have HY := Lib.hid (show 0 < σ.top by omega)
                clear ht he0 hac
                go_wp2_with fail
                go_at_call 12
                refine (rundo_any HS2.out HY.out (by omega) (HSU.out.mono (by omega))).mono ?_
                rintro e w4 ⟨rfl, G', hA, hMv⟩
                have HF := Lib.hid (HFI.out G' w4 _ (hA.mono (by omega)) hMv HAC.out)
                clear hA hMv
                go_wp2_with fail
                go_meet
                case rel => exact ⟨by rw [HE0.out], by rw [HN0.out], HF.out⟩
            · have hn0 : nm = 0 := by rw [HNM.out]; simp [Tr.num, h1]
              have he0 : er = 0 := by rw [HER.out]; simp [Tr.err, h0, h1, h2]
              have hac : σ = σ.act x0 x1 x2 := by simp [Tr.act, h0, h1, h2]
              have HN0 := Lib.hid hn0
              have HE0 := Lib.hid he0
              have HF := Lib.hid (HFI.out G w3 _ (HS2.out.mono (by omega)) (Moves.refl _ _) hac)
              have d0 : (x0 == 0) = false := by simpa using h0
              have d1 : (x0 == 1) = false := by simpa using h1
              have d2 : (x0 == 2) = false := by simpa using h2
              clear hn0 he0 hac h0 h1 h2
              go_wp2_with fail
              go_meet
              case rel => exact ⟨by rw [HE0.out], by rw [HN0.out], HF.out⟩
      case rest =>
        obtain ⟨rfl, rfl, hS⟩ := hcut
        obtain ⟨F2, G2, σ2, hT5, hn5, hu5⟩ := hS
        have HT5 := Lib.hid hT5
        have HN5 := Lib.hid hn5
        have HU5 := Lib.hid hu5
        clear hT5 hn5 hu5 HT2 HER HNM HSN HSU u0 u1 u2 HTT
        have hlen := changed_length σ2 (by rw [HN5.out]; omega)
        have HLN := Lib.hid hlen
        clear hlen
        obtain ⟨bc, bs, bo, cap, vs, G0, hP, hG0⟩ := HT5.out.s
        have HP := Lib.hid hP
        have hc0 := hP.c0
        have hc2 := hP.c2
        rw [show σ2.n = n from HN5.out] at hc0
        obtain ⟨t, ht⟩ : ∃ t, t = σ2.top := ⟨_, rfl⟩
        rw [← ht] at hc2
        have HTP := Lib.hid ht
        have htm : t ≤ 400 := by have := hP.most; omega
        have C0 := Lib.hid hc0
        have C2 := Lib.hid hc2
        have hBx : RSt wc wc := Below.refl _ wc
        obtain ⟨bt, q0, q1, q2⟩ := HT5.out.t.parts
        rw [show σ2.n = n from HN5.out] at q0
        have hmk := HT5.out.t.marks
        rw [← ht] at hmk
        have Q0 := Lib.hid q0
        have MK := Lib.hid hmk
        clear hP hG0 hc0 hc2 ht q0 q1 q2 hmk
        have z3 : IntKind.i64.wrap (t : Int) = (t : Int) := IntWalk.i64_in _ (by omega)
        have hs : (σ2.changed == σ2.changed) = true := beq_self_eq_true _
        go_upto_region 23 with fail
        go_region_held3 (fun u => u.cell? ⟨r, 0, none⟩ = some (.slice (some ⟨bc, 0, none⟩) n n) ∧ u.cell? ⟨r, 2, none⟩ = some (.slice (some ⟨bo, 0, none⟩) (t + 1) cap) ∧ RSt wc u)
          (first
            | exact rheld C0.out C2.out (by assumption)
            | exact rheld C0.out C2.out (RSt.drew hBx))
          (first
            | (go_at_call 13; refine (marks_int (cell_below (RSt.drew hBx) MK.out)).mono ?_; rintro e w' ⟨rfl, rfl⟩)
            | (go_at_call 14; refine (len_int (cell_below (RSt.drew hBx) Q0.out)).mono ?_; rintro e w' ⟨rfl, rfl⟩)
            | (go_at_call 16; refine (changed_int (HT5.out.step (RSt.drew hBx)).t).mono ?_; rintro e w4 ⟨v, rfl, hV, hB4⟩; have hR4 : RSt wc w4 := rbelow (RSt.drew hBx) hB4)
            | (go_at_call 17; refine (rchanged_any (HT5.out.step hR4).s (by omega)).mono ?_; rintro e w5 ⟨v', rfl, hV', hB5⟩; have hR5 : RSt wc w5 := rbelow hR4 hB5)
            | (go_at_call 15; refine (rsameI_any (reads_below (reads_of_owns hV) hB5) (reads_of_owns hV') HLN.out HLN.out).mono ?_; rintro e w6 ⟨rfl, hq6⟩; have hR6 : RSt wc w6 := by (obtain ⟨q, rfl⟩ := hq6; exact ⟨hR5.os, hR5.tape, hR5.output, hR5.size, hR5.block⟩)))
        have HT8 := Lib.hid (HT5.out.step hR6)
        have hc1 := HP.out.c1
        rw [show σ2.n = n from HN5.out] at hc1
        have D0 := Lib.hid (cell_below hR6 C0.out)
        have D1 := Lib.hid (cell_below hR6 hc1)
        have hcu := HP.out.cur
        have hst := HP.out.st
        rw [show σ2.n = n from HN5.out] at hcu hst
        have NC := Lib.hid (hcu.turn (turn_of_below hR6 []) (by simp))
        have NS := Lib.hid (hst.turn (turn_of_below hR6 []) (by simp))
        obtain ⟨b7, k0, k1, k2⟩ := HT8.out.t.parts
        rw [show σ2.n = n from HN5.out] at k0 k1
        have K0 := Lib.hid k0
        have K1 := Lib.hid k1
        clear k0 k1 k2 hc1 hcu hst hR6 hR5 hR4 hq6 hV' hV hB5 hB4 hBx HLN HP HTP C0 C2 MK Q0 z3 htm
        go_wp2_with fail
        have HB6 := Lib.hid (Below.refl w6.heap.size w6)
        go_loopw [129] (fun i wz => ∃ y : Nat, y ≤ n ∧ i = .int .i64 y ∧ Below w6.heap.size w6 wz) (fun i _ => n - (intOf i).toNat)
        case atStart => exact ⟨0, by omega, rfl, HB6.out⟩
        case round =>
          obtain ⟨y, hy, rfl, hBz⟩ := hrel
          have HBZ := Lib.hid hBz
          clear hBz HB6
          by_cases hlt : y < n
          · have d5 : (y : Int) < (n : Int) := by omega
            have cells := K1.out.turn (turn_of_below HBZ.out []) (by simp)
            have G0 := Lib.hid (get_yes_int (cell_below HBZ.out K0.out) cells hlt)
            have hc := (NC.out.turn (turn_of_below HBZ.out []) (by simp)).cell hlt
            have hd := (NS.out.turn (turn_of_below HBZ.out []) (by simp)).cell hlt
            have hr0 := cell_below HBZ.out D0.out
            have hr1 := cell_below HBZ.out D1.out
            have ST0 := Lib.hid (fun w' (hw : RSt wr w') => stamp_yes_int (cell_below hw (cell_below HBZ.out K0.out)) (cells.turn (turn_of_below hw []) (by simp)) hlt)
            obtain ⟨x, hx⟩ : ∃ x, x = σ2.cur y := ⟨_, rfl⟩
            obtain ⟨s, hsx⟩ : ∃ s, s = σ2.st y := ⟨_, rfl⟩
            rw [← hx] at hc G0
            rw [← hsx] at hd
            simp only [← hsx] at ST0
            have HC0 := Lib.hid hc
            have HD0 := Lib.hid hd
            have HR0 := Lib.hid hr0
            have HR1 := Lib.hid hr1
            have ex : (x == x) = true := beq_self_eq_true _
            have es : (s == s) = true := beq_self_eq_true _
            have n0y : (0 : Int) ≤ (y : Int) := by omega
            have hBx : RSt wr wr := Below.refl _ wr
            clear cells hc hd hr0 hr1 hx hsx
            go_upto_region 29 with (first | (go_at_call 18; refine G0.out.mono ?_; rintro e w' ⟨rfl, rfl⟩))
            go_region_held3 (fun u => u.cell? ⟨r, 0, none⟩ = some (.slice (some ⟨bc, 0, none⟩) n n) ∧ u.cell? ⟨r, 1, none⟩ = some (.slice (some ⟨bs, 0, none⟩) n n) ∧ u.cell? ⟨bc, y, none⟩ = some (.int .i64 x) ∧ u.cell? ⟨bs, y, none⟩ = some (.int .i64 s) ∧ RSt wr u)
              (first
                | exact ⟨HR0.out, HR1.out, HC0.out, HD0.out, hBx⟩
                | exact ⟨cell_below (RSt.drew hBx) HR0.out, cell_below (RSt.drew hBx) HR1.out, cell_below (RSt.drew hBx) HC0.out, cell_below (RSt.drew hBx) HD0.out, RSt.drew hBx⟩)
              (first
                | (go_at_call 19; refine (ST0.out _ (RSt.drew hBx)).mono ?_; rintro e w' ⟨rfl, rfl⟩; have hR7 := RSt.drew hBx))
            have HB7 := Lib.hid (HBZ.out.trans (hR7.mono HBZ.out.size))
            clear hR7 hBx
            go_wp2_with fail
            go_roundw
            case rel => exact ⟨y + 1, by omega, by go_num, HB7.out⟩
            case measure => simp [intOf]; omega
          · have HBF := Lib.hid (show Like W n a r (k + 1) wr from ⟨F2, G2, σ2, HT8.out.step HBZ.out, HN5.out, HU5.out⟩)
            go_wp2_with fail
            go_roundw
            case rel => exact ⟨k + 1, by omega, by go_num, HBF.out⟩
            case measure => simp [intOf]; omega
    · obtain rfl : k = m := by omega
      have hsn := HSN.out
      obtain ⟨bt, q0, q1, q2⟩ := HTT.out.t.parts
      rw [hsn] at q0
      have Q0 := Lib.hid q0
      clear hlt hp hsn q0 q1 q2
      go_wp2_with fail
      go_at_call 18
      refine (get_no_int Q0.out (by omega)).mono ?_
      rintro e w' ⟨rfl, rfl⟩
      go_wp2_with fail
      go_at_call 18
      refine (get_no_int Q0.out (by omega)).mono ?_
      rintro e w' ⟨rfl, rfl⟩
      go_wp2_with fail
      go_at_call 19
      refine (stamp_no_int Q0.out (by omega)).mono ?_
      rintro e w' ⟨rfl, rfl⟩
      go_wp2_with fail
      go_at_call 19
      refine (stamp_no_int Q0.out (by omega)).mono ?_
      rintro e w' ⟨rfl, rfl⟩
      go_wp2_with fail
      go_ret
      exact ⟨rfl, HTT.out.below⟩
end Go.Proofs.Ytkajkfapleecaaa
