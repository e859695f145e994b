/-
  What TrailBack answers: true; and nothing that was there turns.
-/
import Derived.Test.YtkajkfapleecaaaTActs
namespace Go.Proofs.Ytkajkfapleecaaa
open Go.RowKit

theorem var3 (w : World) (x0 x1 x2 : Value) : (w.alloc (.cells #[x0, x1, x2] 32)).cell? ⟨w.heap.size, 0, none⟩ = some x0 ∧ (w.alloc (.cells #[x0, x1, x2] 32)).cell? ⟨w.heap.size, 1, none⟩ = some x1 ∧ (w.alloc (.cells #[x0, x1, x2] 32)).cell? ⟨w.heap.size, 2, none⟩ = some x2 :=
  ⟨by rw [cell_of_heap (heap_alloc_new w _)]; rfl, by rw [cell_of_heap (heap_alloc_new w _)]; rfl, by rw [cell_of_heap (heap_alloc_new w _)]; rfl⟩

/-- both trails are at one state, behind k acts -/
def Both (W : World) (n a b k : Nat) (wr : World) : Prop :=
  ∃ F G σ, TwoI (k + 1) (k + 1) W wr F a σ G b σ ∧ σ.n = n ∧ σ.Up k ∧ σ.top ≤ k

/-- one trail is behind the mark that was set at σ, the other one at σ -/
def Behind (W : World) (σ : Tr Int) (a b M c : Nat) (wr : World) : Prop :=
  ∃ F G ρ, TwoI (c + 1) M W wr F a ρ G b σ ∧ Past σ ρ ∧ σ.top < ρ.top ∧ ρ.Up c ∧ ρ.top ≤ c

/-- on the way back to the mark -/
def Returning (W : World) (σ : Tr Int) (a b M : Nat) (wr : World) : Prop :=
  ∃ F G ρ cc, TwoI M M W wr F a ρ G b σ ∧ Past σ ρ ∧ ρ.Up cc ∧ cc + ρ.top ≤ 1000
def topOf (a : Nat) (w : World) : Nat := (intOf ((w.cell? ⟨a, 2, none⟩).getD (.int .i64 0))).toNat
theorem topOf_is {M a : Nat} {w : World} {F : List Nat} {σ : Tr Int} (h : Atint M w F a σ) : topOf a w = σ.top := by
  unfold topOf
  rw [h.marks]
  simp [intOf]

set_option maxRecDepth 100000 in
set_option maxHeartbeats 4000000 in
theorem back_law (p q : Option Addr) (c d n m m' : Nat) (L L' : List (Int × Int × Int)) (W : World) (hm : m = L.length) (hm' : m' = L'.length) {pb po qb qo : Nat} (hp : 0 < m → p = some ⟨pb, po, none⟩) (hq : 0 < m' → q = some ⟨qb, qo, none⟩) (hx : ActCells W pb po L) (hy : ActCells W qb qo L')
    (hn : n ≤ 40) (h1 : m ≤ 150) (h2 : m' ≤ 150) :
    Calls Try.prog 4 #[.int .u8 (n : Int), .slice p m c, .slice q m' d] W fun e w' => e = .returned (.bool true) ∧ Below W.heap.size W w' := by
  have HX := Lib.hid hx
  have HY := Lib.hid hy
  have HM := Lib.hid hm
  have HM' := Lib.hid hm'
  have n0 : (0 : Int) ≤ (n : Int) := by omega
  have n1 : (n : Int) ≤ 40 := by omega
  have m1 : (m : Int) ≤ 150 := by omega
  have m2 : (m' : Int) ≤ 150 := by omega
  have m3 : decide ((150 : Int) < (m' : Int)) = false := decide_eq_false (by omega)
  clear hx hy hm hm'
  go_enter Try.func4, Try.ntmps4
  go_wp2_with fail
  go_at_call 6
  refine (awake_any W).mono ?_
  rintro e w0 ⟨rfl, hB0⟩
  have HB0 := Lib.hid hB0
  clear hB0
  go_wp2_with fail
  go_at_call 7
  refine (new_int n w0 (by omega)).mono ?_
  rintro e w1 ⟨F, a, rfl, hA1, hB1, hl1⟩
  have H1 := Lib.hid hA1
  have HB1 := Lib.hid hB1
  have HL1 := Lib.hid hl1
  clear hA1 hB1 hl1
  go_wp2_with fail
  go_at_call 7
  refine (new_int n w1 (by omega)).mono ?_
  rintro e w2 ⟨G, b, rfl, hA2, hB2, hl2⟩
  have HT := Lib.hid (show Both W n a b 0 w2 from by
    have hs := HB0.out.size
    have hs1 := HB1.out.size
    refine ⟨F, G, Tr.new n 0, { t := H1.out.below hB2, u := hA2, below := (HB0.out.trans (HB1.out.mono hs)).trans (hB2.mono (by omega)), lowF := fun x hx => Nat.le_trans hs (HL1.out x hx), lowG := fun x hx => Nat.le_trans hs (Nat.le_trans hs1 (hl2 x hx)), apart := fun x hx hg => ?_ }, rfl, Tr.up_new n 0, Nat.le_refl _⟩
    have e1 := H1.out.lts x hx
    have e2 := hl2 x hg
    omega)
  clear hA2 hB2 hl2 HB0 H1 HB1 HL1
  go_wp2_with fail
  go_loopw [59] (fun i wr => ∃ k : Nat, k ≤ m ∧ i = .int .i64 k ∧ Both W n a b k wr) (fun i _ => m - (intOf i).toNat)
  case atStart => exact ⟨0, by omega, rfl, HT.out⟩
  case round =>
    obtain ⟨k, hk, rfl, F, G, σ, hT, hσn, hσu, hσt⟩ := hrel
    have HTT := Lib.hid hT
    have HSN := Lib.hid hσn
    have HSU := Lib.hid hσu
    have HST := Lib.hid hσt
    clear hT hσn hσu hσt HT
    by_cases hlt : k < m
    · obtain rfl := hp (by omega)
      have hlx : k < L.length := by have := HM.out; omega
      have hB := HTT.out.below
      obtain ⟨c0, c1, c2⟩ := HX.out k hlx
      have c0 := cell_below hB c0
      have c1 := cell_below hB c1
      have c2 := cell_below hB c2
      obtain ⟨x0, e0⟩ : ∃ x, x = (L.getD k (0, 0, 0)).1 := ⟨_, rfl⟩
      obtain ⟨x1, e1⟩ : ∃ x, x = (L.getD k (0, 0, 0)).2.1 := ⟨_, rfl⟩
      obtain ⟨x2, e2⟩ : ∃ x, x = (L.getD k (0, 0, 0)).2.2 := ⟨_, rfl⟩
      rw [← e0] at c0
      rw [← e1] at c1
      rw [← e2] at c2
      have d5 : (k : Int) < (m : Int) := by omega
      clear e0 e1 e2 hlx hB
      have hT1 := HTT.out.step ((Below.refl _ wr).alloc (Nat.le_refl _) (.cells #[.int .i64 x0, .int .i64 x1, .int .i64 x2] 32))
      have hno : wr.heap.size ∉ F := fun hm => by have := HTT.out.t.lts _ hm; omega
      obtain ⟨v0, v1, v2⟩ := var3 wr (.int .i64 x0) (.int .i64 x1) (.int .i64 x2)
      have HV0 := Lib.hid v0
      have HV1 := Lib.hid v1
      have HV2 := Lib.hid v2
      have HT1 := Lib.hid hT1
      have HNO := Lib.hid hno
      clear hT1 hno v0 v1 v2
      go_wp2_with fail
      refine (do_any HT1.out.t (by omega) (HSU.out.mono (by omega)) x0 x1 x2).mono ?_
      rintro e w3 ⟨rfl, F', hA, hMv⟩
      have u0 := hMv.turn.cell HV0.out HNO.out
      have u1 := hMv.turn.cell HV1.out HNO.out
      have u2 := hMv.turn.cell HV2.out HNO.out
      have HT2 := Lib.hid (HT1.out.left hA hMv)
      clear hA hMv HV0 HV1 HV2 HNO HT1 c0 c1 c2
      go_wp2_with fail
      refine (do_any HT2.out.u (by omega) (HSU.out.mono (by omega)) x0 x1 x2).mono ?_
      rintro e w4 ⟨rfl, G', hA, hMv⟩
      have HT3 := Lib.hid (show Both W n a b (k + 1) w4 from ⟨F', G', σ.act x0 x1 x2, HT2.out.right hA hMv, by rw [σ.act_n]; exact HSN.out, HSU.out.act x0 x1 x2, Nat.le_trans (σ.act_top x0 x1 x2) (by have := HST.out; omega)⟩)
      clear hA hMv HT2 u0 u1 u2
      go_wp2_with fail
      go_roundw
      case rel => exact ⟨k + 1, by omega, by go_num, HT3.out⟩
      case measure => simp [intOf]; omega
    · obtain rfl : k = m := by omega
      clear hlt hp
      go_wp2_with fail
      go_at_call 20
      refine (save_int HTT.out.t (by omega)).mono ?_
      rintro e w3 ⟨rfl, F', hA, hMv⟩
      have HT2 := Lib.hid (HTT.out.left hA hMv)
      clear hA hMv HTT
      obtain ⟨s, hs⟩ : ∃ s, s = σ.top + 1 := ⟨_, rfl⟩
      rw [← hs]
      have HSS := Lib.hid hs
      have HA2 := Lib.hid (show Behind W σ a b (k + 1) (k + 1) w3 from ⟨F', G, σ.save, HT2.out, past_save σ, Nat.lt_succ_self _, HSU.out.mono (by omega), by have := HST.out; show σ.top + 1 ≤ _; omega⟩)
      have hs1 : (s : Int) ≤ 151 := by have := HST.out; omega
      have hs0 : (0 : Int) ≤ (s : Int) := by omega
      clear hs HT2
      go_wp2_with fail
      go_loopw [74] (fun i wr => ∃ j : Nat, j ≤ m' ∧ i = .int .i64 j ∧ Behind W σ a b (k + 1) (k + 1 + j) wr) (fun i _ => m' - (intOf i).toNat)
      case atStart => exact ⟨0, by omega, rfl, HA2.out⟩
      case round =>
        obtain ⟨j, hj, rfl, F, G, ρ, hT, hpa, hpt, hpu, hpl⟩ := hrel
        have HTT := Lib.hid hT
        have HPA := Lib.hid hpa
        have HPT := Lib.hid hpt
        have HPU := Lib.hid hpu
        have HPL := Lib.hid hpl
        clear hT hpa hpt hpu hpl HA2
        by_cases hlt : j < m'
        · obtain rfl := hq (by omega)
          have hlx : j < L'.length := by have := HM'.out; omega
          have hB := HTT.out.below
          obtain ⟨c0, c1, c2⟩ := HY.out j hlx
          have c0 := cell_below hB c0
          have c1 := cell_below hB c1
          have c2 := cell_below hB c2
          obtain ⟨x0, e0⟩ : ∃ x, x = (L'.getD j (0, 0, 0)).1 := ⟨_, rfl⟩
          obtain ⟨x1, e1⟩ : ∃ x, x = (L'.getD j (0, 0, 0)).2.1 := ⟨_, rfl⟩
          obtain ⟨x2, e2⟩ : ∃ x, x = (L'.getD j (0, 0, 0)).2.2 := ⟨_, rfl⟩
          rw [← e0] at c0
          rw [← e1] at c1
          rw [← e2] at c2
          have d5 : (j : Int) < (m' : Int) := by omega
          clear e0 e1 e2 hlx hB
          have hT1 := HTT.out.step ((Below.refl _ wr).alloc (Nat.le_refl _) (.cells #[.int .i64 x0, .int .i64 x1, .int .i64 x2] 32))
          have HT1 := Lib.hid hT1
          have HMK := Lib.hid hT1.t.marks
          clear hT1
          obtain ⟨r, hr⟩ : ∃ r, r = ρ.top := ⟨_, rfl⟩
          rw [← hr] at HMK
          have HRR := Lib.hid hr
          clear hr
          have HDO : Hid ((x0 = 2 → s < r) → Calls Try.prog 9 #[.pointer (some ⟨a, 0, none⟩), .agg #[.int .i64 x0, .int .i64 x1, .int .i64 x2]] (wr.alloc (.cells #[.int .i64 x0, .int .i64 x1, .int .i64 x2] 32)) fun e w' => (∃ v, e = .returned v) ∧ Behind W σ a b (k + 1) (k + 1 + (j + 1)) w') := by
            intro hx2
            refine (do_any HT1.out.t (by omega) (HPU.out.mono (by omega)) x0 x1 x2).mono ?_
            rintro e w4 ⟨rfl, F', hA, hMv⟩
            obtain ⟨h3, h4⟩ := HPA.out.act HPT.out x0 x1 x2 (fun h => by have := hx2 h; have := HSS.out; have := HRR.out; omega)
            exact ⟨⟨_, rfl⟩, F', G, _, HT1.out.left hA hMv, h3, h4, HPU.out.act x0 x1 x2, Nat.le_trans (ρ.act_top x0 x1 x2) (by have := HPL.out; omega)⟩
          have HSK : Hid (Behind W σ a b (k + 1) (k + 1 + (j + 1)) (wr.alloc (.cells #[.int .i64 x0, .int .i64 x1, .int .i64 x2] 32))) :=
            ⟨F, G, ρ, HT1.out.mono (by omega) (by omega), HPA.out, HPT.out, HPU.out.mono (by omega), by have := HPL.out; omega⟩
          clear HT1 HTT
          by_cases hx2 : x0 = 2
          · subst hx2
            by_cases hrs : s < r
            · have d1 : decide (r ≤ s) = false := decide_eq_false (by omega)
              have HC := Lib.hid (HDO.out fun _ => hrs)
              clear hrs HDO
              go_wp2_with (go_at_call 13; refine (marks_int HMK.out).mono ?_; rintro e w' ⟨rfl, rfl⟩)
              go_at_call 9
              refine HC.out.mono ?_
              rintro e w4 ⟨⟨v, rfl⟩, hbeh⟩
              have HBE := Lib.hid hbeh
              clear hbeh
              go_wp2_with fail
              go_roundw
              case rel => exact ⟨j + 1, by omega, by go_num, HBE.out⟩
              case measure => simp [intOf]; omega
            · have d1 : decide (r ≤ s) = true := decide_eq_true (by omega)
              clear hrs HDO
              go_wp2_with (go_at_call 13; refine (marks_int HMK.out).mono ?_; rintro e w' ⟨rfl, rfl⟩)
              go_roundw
              case rel => exact ⟨j + 1, by omega, by go_num, HSK.out⟩
              case measure => simp [intOf]; omega
          · have d1 : (x0 == 2) = false := by simpa using hx2
            have HC := Lib.hid (HDO.out fun h => (hx2 h).elim)
            clear hx2 HDO
            go_wp2_with fail
            go_at_call 9
            refine HC.out.mono ?_
            rintro e w4 ⟨⟨v, rfl⟩, hbeh⟩
            have HBE := Lib.hid hbeh
            clear hbeh
            go_wp2_with fail
            go_roundw
            case rel => exact ⟨j + 1, by omega, by go_num, HBE.out⟩
            case measure => simp [intOf]; omega
        · obtain rfl : j = m' := by omega
          clear hlt hq
          have HRT := Lib.hid (show Returning W σ a b 400 wr from ⟨F, G, ρ, _, HTT.out.mono (by omega) (by omega), HPA.out, HPU.out, by have := HPL.out; omega⟩)
          clear HTT HPA HPT HPU HPL
          go_wp2_with fail
          go_loopw [91] (fun _ wr => Returning W σ a b 400 wr) (fun _ wr => topOf a wr)
          case atStart => exact HRT.out
          case round =>
            obtain ⟨F, G, ρ, cc, hT, hpa, hpu, hpl⟩ := hrel
            have HTT := Lib.hid hT
            have HPA := Lib.hid hpa
            have HPU := Lib.hid hpu
            have HPL := Lib.hid hpl
            have HMK := Lib.hid hT.t.marks
            have HTO := Lib.hid (topOf_is hT.t)
            have HPT := Lib.hid hpa.top
            clear hT hpa hpu hpl HRT
            obtain ⟨r, hr⟩ : ∃ r, r = ρ.top := ⟨_, rfl⟩
            rw [← hr] at HMK HTO HPT HPL
            have HRR := Lib.hid hr
            clear hr
            by_cases hrs : s ≤ r
            · have d1 : decide (s ≤ r) = true := decide_eq_true hrs
              have HRS := Lib.hid hrs
              clear hrs
              go_wp2_with (go_at_call 13; refine (marks_int HMK.out).mono ?_; rintro e w' ⟨rfl, rfl⟩)
              go_at_call 21
              refine (undo_int HTT.out.t (by have := HRS.out; have := HSS.out; have := HRR.out; omega) (by omega) (HPU.out.mono (by have := HPL.out; omega))).mono ?_
              rintro e w4 ⟨rfl, F', hA, hMv⟩
              have hlt : σ.top < ρ.top := by have := HRS.out; have := HSS.out; have := HRR.out; omega
              have HTO2 := Lib.hid (topOf_is hA)
              have HR2 := Lib.hid (show Returning W σ a b 400 w4 from ⟨F', G, ρ.undo, cc + 1, HTT.out.left hA hMv, HPA.out.undo hlt, by
                have e1 : ρ.undo = ρ.act 2 0 0 := by simp [Tr.act]; omega
                rw [e1]
                exact HPU.out.act 2 0 0, by
                have := HPL.out
                have := HRR.out
                show cc + 1 + ((ρ.top - 1 : Nat) : Int) ≤ 1000
                omega⟩)
              have HLT := Lib.hid hlt
              clear hA hMv hlt
              go_wp2_with fail
              go_roundw
              case rel => exact HR2.out
              case measure =>
                rw [HTO.out, HTO2.out]
                show ρ.top - 1 < r
                have := HLT.out
                have := HRR.out
                omega
            · have d1 : decide (s ≤ r) = false := decide_eq_false hrs
              have HRS := Lib.hid (show ρ.top = σ.top by have := HSS.out; have := HRR.out; have := HPT.out; omega)
              clear hrs
              have HMU := Lib.hid HTT.out.u.marks
              obtain ⟨z, hz⟩ : ∃ z, z = σ.top := ⟨_, rfl⟩
              have hrz : r = z := by have := HRS.out; have := HRR.out; omega
              subst hrz
              rw [← hz] at HMU
              clear hz
              have HCH := Lib.hid (changed_of HPA.out HRS.out)
              have hlen := changed_length σ (by rw [HSN.out]; omega)
              have HLN := Lib.hid hlen
              clear hlen
              go_wp2_with (go_at_call 13; refine (marks_int HMK.out).mono ?_; rintro e w' ⟨rfl, rfl⟩)
              go_at_call 13
              refine (marks_int HMU.out).mono ?_
              rintro e w' ⟨rfl, rfl⟩
              go_wp2_with fail
              go_at_call 16
              refine (changed_int HTT.out.t).mono ?_
              rintro e w4 ⟨v, rfl, hV, hB4⟩
              have HT4 := Lib.hid (HTT.out.step hB4)
              have HV := Lib.hid hV
              clear hV hB4 HTT
              go_wp2_with fail
              go_at_call 16
              refine (changed_int HT4.out.u).mono ?_
              rintro e w5 ⟨v', rfl, hV', hB5⟩
              have HT5 := Lib.hid (HT4.out.step hB5)
              have hr1 : Reads w5 v σ.changed := by
                have := reads_below (reads_of_owns HV.out) hB5
                rwa [HCH.out] at this
              have HR1 := Lib.hid hr1
              have HR2 := Lib.hid (reads_of_owns hV')
              clear hV' hB5 HT4 hr1
              go_wp2_with fail
              go_at_call 15
              refine (rsameI_any HR1.out HR2.out HLN.out HLN.out).mono ?_
              rintro e w6 ⟨rfl, hq6⟩
              have hB6 : Below w5.heap.size w5 w6 := by
                obtain ⟨x, rfl⟩ := hq6
                exact ⟨rfl, rfl, rfl, Nat.le_refl _, fun _ _ => rfl⟩
              have HT6 := Lib.hid (HT5.out.step hB6)
              have hs : (σ.changed == σ.changed) = true := beq_self_eq_true _
              simp only [hs]
              clear hs hB6 hq6 HR1 HR2 HT5
              obtain ⟨bc, k0, k1, k2⟩ := HT6.out.t.parts
              obtain ⟨bc', l0, l1, l2⟩ := HT6.out.u.parts
              have en : ρ.n = n := HPA.out.n.trans HSN.out
              have en' : σ.n = n := HSN.out
              rw [en] at k0 k1
              rw [en'] at l0 l1
              rw [HPA.out.cur HRS.out] at k1
              have K0 := Lib.hid k0
              have K1 := Lib.hid k1
              have L0 := Lib.hid l0
              have L1 := Lib.hid l1
              clear k0 k1 k2 l0 l1 l2 en en'
              go_wp2_with fail
              go_loop [113] (fun i => ∃ y : Nat, y ≤ n ∧ i = .int .i64 y) (fun i => n - (intOf i).toNat)
              case atStart => exact ⟨0, by omega, rfl⟩
              case round =>
                obtain ⟨y, hy, rfl⟩ := hrel
                by_cases hlt : y < n
                · have hst : decide (ρ.st y < σ.st y) = false := decide_eq_false (by have := HPA.out.st y; omega)
                  have d5 : (y : Int) < (n : Int) := by omega
                  have G0 := Lib.hid (get_yes_int K0.out K1.out hlt)
                  have G1 := Lib.hid (get_yes_int L0.out L1.out hlt)
                  have S0 := Lib.hid (stamp_yes_int K0.out K1.out hlt)
                  have S1 := Lib.hid (stamp_yes_int L0.out L1.out hlt)
                  generalize ρ.st y = s0 at hst S0
                  generalize σ.st y = s1 at hst S1
                  generalize σ.cur y = z at G0 G1
                  clear L0 L1 K0 K1
                  go_wp2_with fail
                  go_at_call 18
                  refine G0.out.mono ?_
                  rintro e w' ⟨rfl, rfl⟩
                  go_wp2_with fail
                  go_at_call 18
                  refine G1.out.mono ?_
                  rintro e w' ⟨rfl, rfl⟩
                  go_wp2_with fail
                  go_at_call 19
                  refine S0.out.mono ?_
                  rintro e w' ⟨rfl, rfl⟩
                  go_wp2_with fail
                  go_at_call 19
                  refine S1.out.mono ?_
                  rintro e w' ⟨rfl, rfl⟩
                  go_wp2_with fail
                  go_round
                  case rel => exact ⟨y + 1, by omega, by go_num⟩
                  case measure => simp [intOf]; omega
                · go_wp2_with fail
                  go_ret
                  exact ⟨rfl, HT6.out.below⟩
end Go.Proofs.Ytkajkfapleecaaa
