/-
  What Union, Meet and Less of the program answer, at every two lists of spans that can be read.
-/
import Derived.Test.YtehflpgnbbafpaaEnds
import Derived.Test.YtehflpgnbbafpaaSweep
import Derived.Shelf.Abstract
namespace Go.Proofs.Ytehflpgnbbafpaa
open Go.RowKit

/-- what is answered of two lists: none, or the right list of what is kept, in memory from base on -/
def ThruPost (keep : Bool → Bool → Bool) (base : Nat) (A B : List (Int × Int)) (e : Ending) (w' : World) : Prop :=
  (¬ (rightL A = true ∧ rightL B = true) ∧ e = .returned (.slice none 0 0)) ∨
  (rightL A = true ∧ rightL B = true ∧ ∃ s L, e = .returned s ∧ rightL L = true ∧ (∀ v, inL L v = keep (inL A v) (inL B v)) ∧ OwnsS w' base s L ∧ L.length ≤ 2 * A.length + 2 * B.length)

theorem cast_one (i : Nat) : ((i + 1 : Nat) : Int) = (i : Int) + 1 := by omega

set_option maxRecDepth 100000 in
set_option maxHeartbeats 8000000 in
theorem thru_any (f : Nat) (hE : Enters Try.prog f) (keep : Bool → Bool → Bool) (h0 : keep false false = false) (hK : ∀ a b w, Calls Try.prog f #[.bool a, .bool b] w fun e w' => e = .returned (.bool (keep a b)) ∧ w' = w)
    {w : World} {va vb : Value} {A B : List (Int × Int)} (sa : Sees w va A) (sb : Sees w vb B) (ma : A.length ≤ 100000) (mb : B.length ≤ 100000) :
    Calls Try.prog 27 #[va, vb, .func (.func f) #[] #[]] w fun e w' => ThruPost keep w.heap.size A B e w' ∧ Below w.heap.size w w' := by
  have C1 := Lib.hid (right_any sa (by omega))
  have C2 := Lib.hid (fun wr (h : Below w.heap.size w wr) => right_any (sees_below sb h) (by omega))
  cases hA : rightL A
  · rw [hA] at C1
    clear hK hE sa sb C2
    go_enter Try.func27, Try.ntmps27
    go_wp2
    go_step3
    go_wp2_with fail
    refine C1.out.mono ?_
    rintro e w1 ⟨rfl, hB1⟩
    have HB1 := Lib.hid hB1
    clear hB1
    go_wp2_with fail
    rw [Exit.noGoto_ret]
    go_ret
    exact ⟨.inl ⟨by simp [hA], rfl⟩, HB1.out⟩
  · cases hB : rightL B
    · rw [hA] at C1
      rw [hB] at C2
      clear hK hE sa sb
      go_enter Try.func27, Try.ntmps27
      go_wp2
      go_step3
      go_wp2_with fail
      refine C1.out.mono ?_
      rintro e w1 ⟨rfl, hB1⟩
      have HB1 := Lib.hid hB1
      clear hB1
      go_wp2_with fail
      refine (C2.out _ HB1.out).mono ?_
      rintro e w2 ⟨rfl, hB2⟩
      have HB2 := Lib.hid (below_two HB1.out hB2)
      clear hB2
      go_wp2_with fail
      rw [Exit.noGoto_ret]
      go_ret
      exact ⟨.inl ⟨by simp [hB], rfl⟩, HB2.out⟩
    · obtain ⟨i0, hi, hz0, hz1, hz2⟩ := info_parts info41
      have I := Lib.hid (And.intro hi (And.intro hz0 (And.intro hz1 hz2)))
      have EA := Lib.hid (fun wr (h : Below w.heap.size w wr) (i : Nat) (hi : i ≤ 2 * A.length) => end_any i (sees_below sa h) hA (by omega) (by omega))
      have EB := Lib.hid (fun wr (h : Below w.heap.size w wr) (i : Nat) (hi : i ≤ 2 * B.length) => end_any i (sees_below sb h) hB (by omega) (by omega))
      have KF := Lib.hid hK
      have HE := Lib.hid hE
      have HR := Lib.hid (And.intro hA hB)
      have H0 := Lib.hid h0
      have HS := Lib.hid (swept_start hA hB h0)
      rw [hA] at C1
      rw [hB] at C2
      clear hK hE sa sb hi hz0 hz1 hz2 hA hB h0
      go_enter Try.func27, Try.ntmps27
      go_wp2
      go_step3
      go_wp2_with fail
      refine C1.out.mono ?_
      rintro e w1 ⟨rfl, hB1⟩
      have HB1 := Lib.hid hB1
      clear hB1
      go_wp2_with fail
      refine (C2.out _ HB1.out).mono ?_
      rintro e w2 ⟨rfl, hB2⟩
      have HB2 := Lib.hid (below_two HB1.out hB2)
      clear hB2
      go_wp2_with fail
      go_step3
      go_wp2_with fail
      go_loopw [7, 8, 9, 10, 11] (fun l i k low kept wr => ∃ (i' k' : Nat) (lo : Int) (kp : Bool) (L : List (Int × Int)) (cur : Int), i = .int .i64 i' ∧ k = .int .i64 k' ∧ low = .int .i64 lo ∧ kept = .bool kp ∧ Swept A B keep i' k' lo kp L cur ∧ OwnsS wr w.heap.size l L ∧ Below w.heap.size w wr) (fun _ i k _ _ _ => 2 * A.length + 2 * B.length + 1 - (intOf i).toNat - (intOf k).toNat)
      case atStart => exact ⟨0, 0, 0, false, [], _, rfl, rfl, rfl, rfl, HS.out, World.ownsRow_nil _ _ _ _, HB2.out⟩
      case round =>
        obtain ⟨i, k, lo, kp, L, cur, rfl, rfl, rfl, rfl, hrel, hown, hB⟩ := hrel
        have il := hrel.il
        have kl := hrel.kl
        have E1 := Lib.hid (EA.out wr hB i il)
        have E2 := Lib.hid (EB.out wr hB k kl)
        have hm1 := end_most (i := i) HR.out.1
        have hm2 := end_most (i := k) HR.out.2
        obtain ⟨eA, ea⟩ : ∃ eA, eA = endL A i := ⟨_, rfl⟩
        obtain ⟨eB, eb⟩ : ∃ eB, eB = endL B k := ⟨_, rfl⟩
        rw [← ea] at E1 hm1
        rw [← eb] at E2 hm2
        have HREL := Lib.hid hrel
        have HOWN := Lib.hid hown
        have HB := Lib.hid hB
        have QA := Lib.hid ea
        have QB := Lib.hid eb
        have hsz := hB.size
        have hll : L.length ≤ 400000 := by have := hrel.len; omega
        clear hrel hown hB ea eb
        by_cases h1 : eA < eB
        · have d1 : (eA == eB) = false := by simp; omega
          have d3 : (eA == 9223372036854775807) = false := by simp; omega
          have n1 : nextI A i (min eA eB) = (i + 1) := by unfold nextI; rw [← QA.out, if_pos (by omega)]
          have n2 : nextI B k (min eA eB) = k := by unfold nextI; rw [← QB.out, if_neg (by omega)]
          have htA : (min eA eB) ≤ endL A i := by rw [← QA.out]; omega
          have htB : (min eA eB) ≤ endL B k := by rw [← QB.out]; omega
          have htO : (min eA eB) = endL A i ∨ (min eA eB) = endL B k := by rw [← QA.out, ← QB.out]; omega
          have htN : (min eA eB) ≠ 9223372036854775807 := by omega
          have hbd := sweep_bounds HR.out.1 HR.out.2 htO htN
          have W1 : ∀ w, Calls Try.prog 34 #[.int .i64 ((i : Int) + 1)] w fun e w' => e = .returned (.bool (odd (i + 1))) ∧ w' = w := by
            have := within_any (i + 1) (by omega)
            rw [cast_one] at this
            exact this
          have W2 : ∀ w, Calls Try.prog 34 #[.int .i64 ((k : Int))] w fun e w' => e = .returned (.bool (odd k)) ∧ w' = w := by
            have := within_any k (by omega)
            skip
            exact this
          have KK := Lib.hid (KF.out (odd (i + 1)) (odd k))
          have s1 := sweep_same HREL.out HR.out.1 HR.out.2 htA htB htO htN
          rw [n1, n2] at s1
          have W1 := Lib.hid W1
          have W2 := Lib.hid W2
          have il2 : (i + 1) + k ≤ 2 * A.length + 2 * B.length := by
            have a1 := (next_ok HR.out.1 HREL.out.ai (show cur < (min eA eB) by rcases htO with h | h; rw [h]; exact HREL.out.au; rw [h]; exact HREL.out.bu) htA htN HREL.out.il).2.2.1
            have b1 := (next_ok HR.out.2 HREL.out.bi (show cur < (min eA eB) by rcases htO with h | h; rw [h]; exact HREL.out.au; rw [h]; exact HREL.out.bu) htB htN HREL.out.kl).2.2.1
            rw [n1] at a1
            rw [n2] at b1
            omega
          cases hkn : keep (odd (i + 1)) (odd k)
          · rw [hkn] at KK
            cases kp
            · have S1 := Lib.hid (s1 hkn)
              clear htA htB htO n1 n2 s1 hkn
              go_wp2_with fail
              refine E1.out.mono ?_
              rintro e w1 ⟨rfl, rfl⟩
              go_wp2_with fail
              refine E2.out.mono ?_
              rintro e w1 ⟨rfl, rfl⟩
              go_wp2_with fail
              refine E1.out.mono ?_
              rintro e w1 ⟨rfl, rfl⟩
              go_wp2_with fail
              refine E2.out.mono ?_
              rintro e w1 ⟨rfl, rfl⟩
              go_wp2_with fail
              refine (W1.out _).mono ?_
              rintro e w1 ⟨rfl, rfl⟩
              go_wp2_with fail
              refine (W2.out _).mono ?_
              rintro e w1 ⟨rfl, rfl⟩
              go_wp2_with fail
              simp only [HE.out _ _]
              go_wp2_with fail
              refine (KK.out _).mono ?_
              rintro e w1 ⟨rfl, rfl⟩
              go_wp2_with fail
              go_roundw
              case rel => exact ⟨(i + 1), k, lo, false, L, (min eA eB), by go_num, rfl, rfl, rfl, S1.out, HOWN.out, HB.out⟩
              case measure => simp [intOf]; omega
            · have s2 := sweep_shut HREL.out HR.out.1 HR.out.2 htA htB htO htN
              rw [n1, n2] at s2
              have S2 := Lib.hid (s2 hkn)
              have hown := HOWN.out
              have hi := I.out.1
              have hz0 := I.out.2.1
              have hz1 := I.out.2.2.1
              have hz2 := I.out.2.2.2
              have hmx : L.length + 1 ≤ maxLen := by unfold maxLen; omega
              clear htA htB htO n1 n2 s1 hkn s2
              go_wp2_with fail
              refine E1.out.mono ?_
              rintro e w1 ⟨rfl, rfl⟩
              go_wp2_with fail
              refine E2.out.mono ?_
              rintro e w1 ⟨rfl, rfl⟩
              go_wp2_with fail
              refine E1.out.mono ?_
              rintro e w1 ⟨rfl, rfl⟩
              go_wp2_with fail
              refine E2.out.mono ?_
              rintro e w1 ⟨rfl, rfl⟩
              go_wp2_with fail
              refine (W1.out _).mono ?_
              rintro e w1 ⟨rfl, rfl⟩
              go_wp2_with fail
              refine (W2.out _).mono ?_
              rintro e w1 ⟨rfl, rfl⟩
              go_wp2_with fail
              simp only [HE.out _ _]
              go_wp2_with fail
              refine (KK.out _).mono ?_
              rintro e w1 ⟨rfl, rfl⟩
              go_wp2_with (at_builtin; refine wpList_append_own _ rfl _ _ 22 rfl w.heap.size 41 i0 (.agg #[.int .i64 0, .int .i64 0]) 2 16 Try.underlying22 hi hz0 hz1 hz2 rfl (by decide) _ _ _ rfl (hown.alloc _) ⟨w1.heap.size, 0, none⟩ 1 1 [.int .i64 lo, .int .i64 ((min eA eB) - 1)] rfl rfl (cells_two _ _ _ _) (by simp [Value.oneCell']) hmx (by omega) (by simp; omega) ?_; intro v' w3 hown' hgrow _)
              go_roundw
              case rel =>
                refine ⟨(i + 1), k, lo, false, L ++ [(lo, (min eA eB) - 1)], (min eA eB), by go_num, rfl, rfl, rfl, S2.out, ?_, ?_⟩
                · unfold OwnsS
                  rw [cellsOf_snoc]
                  simpa using hown'
                · exact (HB.out.alloc hsz _).grown hgrow (by simp; omega) (fun j e => (hown.lt j e).1)
              case measure => simp [intOf]; omega
          · rw [hkn] at KK
            cases kp
            · have s2 := sweep_open HREL.out HR.out.1 HR.out.2 htA htB htO htN
              rw [n1, n2] at s2
              have S2 := Lib.hid (s2 hkn)
              clear htA htB htO n1 n2 s1 hkn s2
              go_wp2_with fail
              refine E1.out.mono ?_
              rintro e w1 ⟨rfl, rfl⟩
              go_wp2_with fail
              refine E2.out.mono ?_
              rintro e w1 ⟨rfl, rfl⟩
              go_wp2_with fail
              refine E1.out.mono ?_
              rintro e w1 ⟨rfl, rfl⟩
              go_wp2_with fail
              refine E2.out.mono ?_
              rintro e w1 ⟨rfl, rfl⟩
              go_wp2_with fail
              refine (W1.out _).mono ?_
              rintro e w1 ⟨rfl, rfl⟩
              go_wp2_with fail
              refine (W2.out _).mono ?_
              rintro e w1 ⟨rfl, rfl⟩
              go_wp2_with fail
              simp only [HE.out _ _]
              go_wp2_with fail
              refine (KK.out _).mono ?_
              rintro e w1 ⟨rfl, rfl⟩
              go_wp2_with fail
              go_roundw
              case rel => exact ⟨(i + 1), k, (min eA eB), true, L, (min eA eB), by go_num, rfl, rfl, rfl, S2.out, HOWN.out, HB.out⟩
              case measure => simp [intOf]; omega
            · have S1 := Lib.hid (s1 hkn)
              clear htA htB htO n1 n2 s1 hkn
              go_wp2_with fail
              refine E1.out.mono ?_
              rintro e w1 ⟨rfl, rfl⟩
              go_wp2_with fail
              refine E2.out.mono ?_
              rintro e w1 ⟨rfl, rfl⟩
              go_wp2_with fail
              refine E1.out.mono ?_
              rintro e w1 ⟨rfl, rfl⟩
              go_wp2_with fail
              refine E2.out.mono ?_
              rintro e w1 ⟨rfl, rfl⟩
              go_wp2_with fail
              refine (W1.out _).mono ?_
              rintro e w1 ⟨rfl, rfl⟩
              go_wp2_with fail
              refine (W2.out _).mono ?_
              rintro e w1 ⟨rfl, rfl⟩
              go_wp2_with fail
              simp only [HE.out _ _]
              go_wp2_with fail
              refine (KK.out _).mono ?_
              rintro e w1 ⟨rfl, rfl⟩
              go_wp2_with fail
              go_roundw
              case rel => exact ⟨(i + 1), k, lo, true, L, (min eA eB), by go_num, rfl, rfl, rfl, S1.out, HOWN.out, HB.out⟩
              case measure => simp [intOf]; omega
        · by_cases h2 : eB < eA
          · have d1 : (eB == eA) = false := by simp; omega
            have d3 : (eB == 9223372036854775807) = false := by simp; omega
            have n1 : nextI A i (min eA eB) = i := by unfold nextI; rw [← QA.out, if_neg (by omega)]
            have n2 : nextI B k (min eA eB) = (k + 1) := by unfold nextI; rw [← QB.out, if_pos (by omega)]
            have htA : (min eA eB) ≤ endL A i := by rw [← QA.out]; omega
            have htB : (min eA eB) ≤ endL B k := by rw [← QB.out]; omega
            have htO : (min eA eB) = endL A i ∨ (min eA eB) = endL B k := by rw [← QA.out, ← QB.out]; omega
            have htN : (min eA eB) ≠ 9223372036854775807 := by omega
            have hbd := sweep_bounds HR.out.1 HR.out.2 htO htN
            have W1 : ∀ w, Calls Try.prog 34 #[.int .i64 ((i : Int))] w fun e w' => e = .returned (.bool (odd i)) ∧ w' = w := by
              have := within_any i (by omega)
              skip
              exact this
            have W2 : ∀ w, Calls Try.prog 34 #[.int .i64 ((k : Int) + 1)] w fun e w' => e = .returned (.bool (odd (k + 1))) ∧ w' = w := by
              have := within_any (k + 1) (by omega)
              rw [cast_one] at this
              exact this
            have KK := Lib.hid (KF.out (odd i) (odd (k + 1)))
            have s1 := sweep_same HREL.out HR.out.1 HR.out.2 htA htB htO htN
            rw [n1, n2] at s1
            have W1 := Lib.hid W1
            have W2 := Lib.hid W2
            have il2 : i + (k + 1) ≤ 2 * A.length + 2 * B.length := by
              have a1 := (next_ok HR.out.1 HREL.out.ai (show cur < (min eA eB) by rcases htO with h | h; rw [h]; exact HREL.out.au; rw [h]; exact HREL.out.bu) htA htN HREL.out.il).2.2.1
              have b1 := (next_ok HR.out.2 HREL.out.bi (show cur < (min eA eB) by rcases htO with h | h; rw [h]; exact HREL.out.au; rw [h]; exact HREL.out.bu) htB htN HREL.out.kl).2.2.1
              rw [n1] at a1
              rw [n2] at b1
              omega
            cases hkn : keep (odd i) (odd (k + 1))
            · rw [hkn] at KK
              cases kp
              · have S1 := Lib.hid (s1 hkn)
                clear htA htB htO n1 n2 s1 hkn
                go_wp2_with fail
                refine E1.out.mono ?_
                rintro e w1 ⟨rfl, rfl⟩
                go_wp2_with fail
                refine E2.out.mono ?_
                rintro e w1 ⟨rfl, rfl⟩
                go_wp2_with fail
                refine E1.out.mono ?_
                rintro e w1 ⟨rfl, rfl⟩
                go_wp2_with fail
                refine E2.out.mono ?_
                rintro e w1 ⟨rfl, rfl⟩
                go_wp2_with fail
                refine (W1.out _).mono ?_
                rintro e w1 ⟨rfl, rfl⟩
                go_wp2_with fail
                refine (W2.out _).mono ?_
                rintro e w1 ⟨rfl, rfl⟩
                go_wp2_with fail
                simp only [HE.out _ _]
                go_wp2_with fail
                refine (KK.out _).mono ?_
                rintro e w1 ⟨rfl, rfl⟩
                go_wp2_with fail
                go_roundw
                case rel => exact ⟨i, (k + 1), lo, false, L, (min eA eB), rfl, by go_num, rfl, rfl, S1.out, HOWN.out, HB.out⟩
                case measure => simp [intOf]; omega
              · have s2 := sweep_shut HREL.out HR.out.1 HR.out.2 htA htB htO htN
                rw [n1, n2] at s2
                have S2 := Lib.hid (s2 hkn)
                have hown := HOWN.out
                have hi := I.out.1
                have hz0 := I.out.2.1
                have hz1 := I.out.2.2.1
                have hz2 := I.out.2.2.2
                have hmx : L.length + 1 ≤ maxLen := by unfold maxLen; omega
                clear htA htB htO n1 n2 s1 hkn s2
                go_wp2_with fail
                refine E1.out.mono ?_
                rintro e w1 ⟨rfl, rfl⟩
                go_wp2_with fail
                refine E2.out.mono ?_
                rintro e w1 ⟨rfl, rfl⟩
                go_wp2_with fail
                refine E1.out.mono ?_
                rintro e w1 ⟨rfl, rfl⟩
                go_wp2_with fail
                refine E2.out.mono ?_
                rintro e w1 ⟨rfl, rfl⟩
                go_wp2_with fail
                refine (W1.out _).mono ?_
                rintro e w1 ⟨rfl, rfl⟩
                go_wp2_with fail
                refine (W2.out _).mono ?_
                rintro e w1 ⟨rfl, rfl⟩
                go_wp2_with fail
                simp only [HE.out _ _]
                go_wp2_with fail
                refine (KK.out _).mono ?_
                rintro e w1 ⟨rfl, rfl⟩
                go_wp2_with (at_builtin; refine wpList_append_own _ rfl _ _ 22 rfl w.heap.size 41 i0 (.agg #[.int .i64 0, .int .i64 0]) 2 16 Try.underlying22 hi hz0 hz1 hz2 rfl (by decide) _ _ _ rfl (hown.alloc _) ⟨w1.heap.size, 0, none⟩ 1 1 [.int .i64 lo, .int .i64 ((min eA eB) - 1)] rfl rfl (cells_two _ _ _ _) (by simp [Value.oneCell']) hmx (by omega) (by simp; omega) ?_; intro v' w3 hown' hgrow _)
                go_roundw
                case rel =>
                  refine ⟨i, (k + 1), lo, false, L ++ [(lo, (min eA eB) - 1)], (min eA eB), rfl, by go_num, rfl, rfl, S2.out, ?_, ?_⟩
                  · unfold OwnsS
                    rw [cellsOf_snoc]
                    simpa using hown'
                  · exact (HB.out.alloc hsz _).grown hgrow (by simp; omega) (fun j e => (hown.lt j e).1)
                case measure => simp [intOf]; omega
            · rw [hkn] at KK
              cases kp
              · have s2 := sweep_open HREL.out HR.out.1 HR.out.2 htA htB htO htN
                rw [n1, n2] at s2
                have S2 := Lib.hid (s2 hkn)
                clear htA htB htO n1 n2 s1 hkn s2
                go_wp2_with fail
                refine E1.out.mono ?_
                rintro e w1 ⟨rfl, rfl⟩
                go_wp2_with fail
                refine E2.out.mono ?_
                rintro e w1 ⟨rfl, rfl⟩
                go_wp2_with fail
                refine E1.out.mono ?_
                rintro e w1 ⟨rfl, rfl⟩
                go_wp2_with fail
                refine E2.out.mono ?_
                rintro e w1 ⟨rfl, rfl⟩
                go_wp2_with fail
                refine (W1.out _).mono ?_
                rintro e w1 ⟨rfl, rfl⟩
                go_wp2_with fail
                refine (W2.out _).mono ?_
                rintro e w1 ⟨rfl, rfl⟩
                go_wp2_with fail
                simp only [HE.out _ _]
                go_wp2_with fail
                refine (KK.out _).mono ?_
                rintro e w1 ⟨rfl, rfl⟩
                go_wp2_with fail
                go_roundw
                case rel => exact ⟨i, (k + 1), (min eA eB), true, L, (min eA eB), rfl, by go_num, rfl, rfl, S2.out, HOWN.out, HB.out⟩
                case measure => simp [intOf]; omega
              · have S1 := Lib.hid (s1 hkn)
                clear htA htB htO n1 n2 s1 hkn
                go_wp2_with fail
                refine E1.out.mono ?_
                rintro e w1 ⟨rfl, rfl⟩
                go_wp2_with fail
                refine E2.out.mono ?_
                rintro e w1 ⟨rfl, rfl⟩
                go_wp2_with fail
                refine E1.out.mono ?_
                rintro e w1 ⟨rfl, rfl⟩
                go_wp2_with fail
                refine E2.out.mono ?_
                rintro e w1 ⟨rfl, rfl⟩
                go_wp2_with fail
                refine (W1.out _).mono ?_
                rintro e w1 ⟨rfl, rfl⟩
                go_wp2_with fail
                refine (W2.out _).mono ?_
                rintro e w1 ⟨rfl, rfl⟩
                go_wp2_with fail
                simp only [HE.out _ _]
                go_wp2_with fail
                refine (KK.out _).mono ?_
                rintro e w1 ⟨rfl, rfl⟩
                go_wp2_with fail
                go_roundw
                case rel => exact ⟨i, (k + 1), lo, true, L, (min eA eB), rfl, by go_num, rfl, rfl, S1.out, HOWN.out, HB.out⟩
                case measure => simp [intOf]; omega
          · obtain rfl : eA = eB := by omega
            by_cases h3 : eA = 9223372036854775807
            · have fin := sweep_end HREL.out HR.out.1 HR.out.2 H0.out (by rw [← QA.out]; exact h3) (by rw [← QB.out]; exact h3)
              have FIN := Lib.hid fin
              subst h3
              clear fin h1 h2
              go_wp2_with fail
              refine E1.out.mono ?_
              rintro e w1 ⟨rfl, rfl⟩
              go_wp2_with fail
              refine E2.out.mono ?_
              rintro e w1 ⟨rfl, rfl⟩
              go_wp2_with fail
              refine E1.out.mono ?_
              rintro e w1 ⟨rfl, rfl⟩
              go_wp2_with fail
              refine E2.out.mono ?_
              rintro e w1 ⟨rfl, rfl⟩
              go_wp2_with fail
              rw [Exit.noGoto_ret]
              go_ret
              exact ⟨.inr ⟨HR.out.1, HR.out.2, _, L, rfl, HREL.out.rt, FIN.out, HOWN.out, by have := HREL.out.len; omega⟩, HB.out⟩
            · have d3 : (eA == 9223372036854775807) = false := by simp; omega
              have n1 : nextI A i eA = (i + 1) := by unfold nextI; rw [← QA.out, if_pos (by omega)]
              have n2 : nextI B k eA = (k + 1) := by unfold nextI; rw [← QB.out, if_pos (by omega)]
              have htA : eA ≤ endL A i := by rw [← QA.out]; omega
              have htB : eA ≤ endL B k := by rw [← QB.out]; omega
              have htO : eA = endL A i ∨ eA = endL B k := by rw [← QA.out, ← QB.out]; omega
              have htN : eA ≠ 9223372036854775807 := by omega
              have hbd := sweep_bounds HR.out.1 HR.out.2 htO htN
              have W1 : ∀ w, Calls Try.prog 34 #[.int .i64 ((i : Int) + 1)] w fun e w' => e = .returned (.bool (odd (i + 1))) ∧ w' = w := by
                have := within_any (i + 1) (by omega)
                rw [cast_one] at this
                exact this
              have W2 : ∀ w, Calls Try.prog 34 #[.int .i64 ((k : Int) + 1)] w fun e w' => e = .returned (.bool (odd (k + 1))) ∧ w' = w := by
                have := within_any (k + 1) (by omega)
                rw [cast_one] at this
                exact this
              have KK := Lib.hid (KF.out (odd (i + 1)) (odd (k + 1)))
              have s1 := sweep_same HREL.out HR.out.1 HR.out.2 htA htB htO htN
              rw [n1, n2] at s1
              have W1 := Lib.hid W1
              have W2 := Lib.hid W2
              have il2 : (i + 1) + (k + 1) ≤ 2 * A.length + 2 * B.length := by
                have a1 := (next_ok HR.out.1 HREL.out.ai (show cur < eA by rcases htO with h | h; rw [h]; exact HREL.out.au; rw [h]; exact HREL.out.bu) htA htN HREL.out.il).2.2.1
                have b1 := (next_ok HR.out.2 HREL.out.bi (show cur < eA by rcases htO with h | h; rw [h]; exact HREL.out.au; rw [h]; exact HREL.out.bu) htB htN HREL.out.kl).2.2.1
                rw [n1] at a1
                rw [n2] at b1
                omega
              cases hkn : keep (odd (i + 1)) (odd (k + 1))
              · rw [hkn] at KK
                cases kp
                · have S1 := Lib.hid (s1 hkn)
                  clear htA htB htO n1 n2 s1 hkn
                  go_wp2_with fail
                  refine E1.out.mono ?_
                  rintro e w1 ⟨rfl, rfl⟩
                  go_wp2_with fail
                  refine E2.out.mono ?_
                  rintro e w1 ⟨rfl, rfl⟩
                  go_wp2_with fail
                  refine E1.out.mono ?_
                  rintro e w1 ⟨rfl, rfl⟩
                  go_wp2_with fail
                  refine E2.out.mono ?_
                  rintro e w1 ⟨rfl, rfl⟩
                  go_wp2_with fail
                  refine (W1.out _).mono ?_
                  rintro e w1 ⟨rfl, rfl⟩
                  go_wp2_with fail
                  refine (W2.out _).mono ?_
                  rintro e w1 ⟨rfl, rfl⟩
                  go_wp2_with fail
                  simp only [HE.out _ _]
                  go_wp2_with fail
                  refine (KK.out _).mono ?_
                  rintro e w1 ⟨rfl, rfl⟩
                  go_wp2_with fail
                  go_roundw
                  case rel => exact ⟨(i + 1), (k + 1), lo, false, L, eA, by go_num, by go_num, rfl, rfl, S1.out, HOWN.out, HB.out⟩
                  case measure => simp [intOf]; omega
                · have s2 := sweep_shut HREL.out HR.out.1 HR.out.2 htA htB htO htN
                  rw [n1, n2] at s2
                  have S2 := Lib.hid (s2 hkn)
                  have hown := HOWN.out
                  have hi := I.out.1
                  have hz0 := I.out.2.1
                  have hz1 := I.out.2.2.1
                  have hz2 := I.out.2.2.2
                  have hmx : L.length + 1 ≤ maxLen := by unfold maxLen; omega
                  clear htA htB htO n1 n2 s1 hkn s2
                  go_wp2_with fail
                  refine E1.out.mono ?_
                  rintro e w1 ⟨rfl, rfl⟩
                  go_wp2_with fail
                  refine E2.out.mono ?_
                  rintro e w1 ⟨rfl, rfl⟩
                  go_wp2_with fail
                  refine E1.out.mono ?_
                  rintro e w1 ⟨rfl, rfl⟩
                  go_wp2_with fail
                  refine E2.out.mono ?_
                  rintro e w1 ⟨rfl, rfl⟩
                  go_wp2_with fail
                  refine (W1.out _).mono ?_
                  rintro e w1 ⟨rfl, rfl⟩
                  go_wp2_with fail
                  refine (W2.out _).mono ?_
                  rintro e w1 ⟨rfl, rfl⟩
                  go_wp2_with fail
                  simp only [HE.out _ _]
                  go_wp2_with fail
                  refine (KK.out _).mono ?_
                  rintro e w1 ⟨rfl, rfl⟩
                  go_wp2_with (at_builtin; refine wpList_append_own _ rfl _ _ 22 rfl w.heap.size 41 i0 (.agg #[.int .i64 0, .int .i64 0]) 2 16 Try.underlying22 hi hz0 hz1 hz2 rfl (by decide) _ _ _ rfl (hown.alloc _) ⟨w1.heap.size, 0, none⟩ 1 1 [.int .i64 lo, .int .i64 (eA - 1)] rfl rfl (cells_two _ _ _ _) (by simp [Value.oneCell']) hmx (by omega) (by simp; omega) ?_; intro v' w3 hown' hgrow _)
                  go_roundw
                  case rel =>
                    refine ⟨(i + 1), (k + 1), lo, false, L ++ [(lo, eA - 1)], eA, by go_num, by go_num, rfl, rfl, S2.out, ?_, ?_⟩
                    · unfold OwnsS
                      rw [cellsOf_snoc]
                      simpa using hown'
                    · exact (HB.out.alloc hsz _).grown hgrow (by simp; omega) (fun j e => (hown.lt j e).1)
                  case measure => simp [intOf]; omega
              · rw [hkn] at KK
                cases kp
                · have s2 := sweep_open HREL.out HR.out.1 HR.out.2 htA htB htO htN
                  rw [n1, n2] at s2
                  have S2 := Lib.hid (s2 hkn)
                  clear htA htB htO n1 n2 s1 hkn s2
                  go_wp2_with fail
                  refine E1.out.mono ?_
                  rintro e w1 ⟨rfl, rfl⟩
                  go_wp2_with fail
                  refine E2.out.mono ?_
                  rintro e w1 ⟨rfl, rfl⟩
                  go_wp2_with fail
                  refine E1.out.mono ?_
                  rintro e w1 ⟨rfl, rfl⟩
                  go_wp2_with fail
                  refine E2.out.mono ?_
                  rintro e w1 ⟨rfl, rfl⟩
                  go_wp2_with fail
                  refine (W1.out _).mono ?_
                  rintro e w1 ⟨rfl, rfl⟩
                  go_wp2_with fail
                  refine (W2.out _).mono ?_
                  rintro e w1 ⟨rfl, rfl⟩
                  go_wp2_with fail
                  simp only [HE.out _ _]
                  go_wp2_with fail
                  refine (KK.out _).mono ?_
                  rintro e w1 ⟨rfl, rfl⟩
                  go_wp2_with fail
                  go_roundw
                  case rel => exact ⟨(i + 1), (k + 1), eA, true, L, eA, by go_num, by go_num, rfl, rfl, S2.out, HOWN.out, HB.out⟩
                  case measure => simp [intOf]; omega
                · have S1 := Lib.hid (s1 hkn)
                  clear htA htB htO n1 n2 s1 hkn
                  go_wp2_with fail
                  refine E1.out.mono ?_
                  rintro e w1 ⟨rfl, rfl⟩
                  go_wp2_with fail
                  refine E2.out.mono ?_
                  rintro e w1 ⟨rfl, rfl⟩
                  go_wp2_with fail
                  refine E1.out.mono ?_
                  rintro e w1 ⟨rfl, rfl⟩
                  go_wp2_with fail
                  refine E2.out.mono ?_
                  rintro e w1 ⟨rfl, rfl⟩
                  go_wp2_with fail
                  refine (W1.out _).mono ?_
                  rintro e w1 ⟨rfl, rfl⟩
                  go_wp2_with fail
                  refine (W2.out _).mono ?_
                  rintro e w1 ⟨rfl, rfl⟩
                  go_wp2_with fail
                  simp only [HE.out _ _]
                  go_wp2_with fail
                  refine (KK.out _).mono ?_
                  rintro e w1 ⟨rfl, rfl⟩
                  go_wp2_with fail
                  go_roundw
                  case rel => exact ⟨(i + 1), (k + 1), lo, true, L, eA, by go_num, by go_num, rfl, rfl, S1.out, HOWN.out, HB.out⟩
                  case measure => simp [intOf]; omega

end Go.Proofs.Ytehflpgnbbafpaa
