/-
  SpansSets answers true, at every two lists of spans.
-/
import Derived.Test.YtehflpgnbbafpaaApp
namespace Go.Proofs.Ytehflpgnbbafpaa
open Go.RowKit

structure Pst (w : World) (va vb : Value) (A B : List (Int × Int)) (u : World) : Prop where
  sa : Sees u va A
  sb : Sees u vb B
  below : Below w.heap.size w u
theorem Pst.call {w u u' : World} {va vb : Value} {A B : List (Int × Int)} (h : Pst w va vb A B u) (hB : Below u.heap.size u u') : Pst w va vb A B u' :=
  ⟨sees_below h.sa hB, sees_below h.sb hB, below_two h.below hB⟩
structure Qst (w : World) (va vb su sm sl : Value) (A B U N D : List (Int × Int)) (u : World) : Prop where
  sa : Sees u va A
  sb : Sees u vb B
  ss : Sees u su U
  sn : Sees u sm N
  sd : Sees u sl D
  below : Below w.heap.size w u
theorem Qst.call {w u u' : World} {va vb su sm sl : Value} {A B U N D : List (Int × Int)} (h : Qst w va vb su sm sl A B U N D u) (hB : Below u.heap.size u u') : Qst w va vb su sm sl A B U N D u' :=
  ⟨sees_below h.sa hB, sees_below h.sb hB, sees_below h.ss hB, sees_below h.sn hB, sees_below h.sd hB, below_two h.below hB⟩

/-- of two right lists: right, of what is kept -/
def Kept (keep : Bool → Bool → Bool) (A B U : List (Int × Int)) : Prop := rightL U = true ∧ (∀ v, inL U v = keep (inL A v) (inL B v)) ∧ U.length ≤ 2 * A.length + 2 * B.length
theorem thru_right {keep : Bool → Bool → Bool} {base : Nat} {A B : List (Int × Int)} {e : Ending} {w' : World} (h : ThruPost keep base A B e w') (ha : rightL A = true) (hb : rightL B = true) : ∃ s U, e = .returned s ∧ Kept keep A B U ∧ Sees w' s U := by
  rcases h with ⟨h, _⟩ | ⟨_, _, s, U, rfl, r, i, ho, hl⟩
  · exact absurd ⟨ha, hb⟩ h
  · exact ⟨s, U, rfl, ⟨r, i, hl⟩, sees_of_owns ho⟩
theorem thru_wrong {keep : Bool → Bool → Bool} {base : Nat} {A B : List (Int × Int)} {e : Ending} {w' : World} (h : ThruPost keep base A B e w') (hw : ¬ (rightL A = true ∧ rightL B = true)) : e = .returned (.slice none 0 0) := by
  rcases h with ⟨_, h⟩ | ⟨h1, h2, _⟩
  · exact h
  · exact absurd ⟨h1, h2⟩ hw
theorem few_parts {L : List (Int × Int)} (hr : rightL L = true) (h : fewL L = true) : sizeL L ≤ 400 := by
  unfold fewL at h
  rw [hr] at h
  simpa using h

set_option maxRecDepth 100000 in
set_option maxHeartbeats 4000000 in
theorem sets_law (p q : Option Addr) (c d n m : Nat) (A B : List (Int × Int)) (w : World) (en : n = A.length) (em : m = B.length) (ha : Sees w (.slice p n c) A) (hb : Sees w (.slice q m d) B) :
    Calls Try.prog 4 #[.slice p n c, .slice q m d] w (Yes w) := by
  have AW := Lib.hid (awake_any w)
  have ST : Hid (Pst w (.slice p n c) (.slice q m d) A B w) := Lib.hid ⟨ha, hb, Below.refl _ w⟩
  by_cases h1 : 60 < n
  · clear ST ha hb en em
    have g1 : (60 : Int) < (n : Int) := by omega
    go_enter Try.func4, Try.ntmps4
    go_wp2_with fail
    refine AW.out.mono ?_
    rintro e w1 ⟨rfl, hB⟩
    have HB := Lib.hid hB
    clear hB
    go_wp2_with fail
    go_ret
    exact ⟨rfl, HB.out⟩
  · by_cases h2 : 60 < m
    · clear ST ha hb en em
      have g1 : (n : Int) ≤ 60 := by omega
      have g2 : (60 : Int) < (m : Int) := by omega
      go_enter Try.func4, Try.ntmps4
      go_wp2_with fail
      refine AW.out.mono ?_
      rintro e w1 ⟨rfl, hB⟩
      have HB := Lib.hid hB
      clear hB
      go_wp2_with fail
      go_ret
      exact ⟨rfl, HB.out⟩
    · have mA : A.length ≤ 60 := by omega
      have mB : B.length ≤ 60 := by omega
      have RA := Lib.hid (fun u (h : Sees u (.slice p n c) A) => rright_any h (by omega))
      have RB := Lib.hid (fun u (h : Sees u (.slice q m d) B) => rright_any h (by omega))
      by_cases hw : ¬ (rightL A = true ∧ rightL B = true)
      · have UN : Hid (∀ u, Sees u (.slice p n c) A → Sees u (.slice q m d) B → Calls Try.prog 19 #[.slice p n c, .slice q m d] u fun e w' => e = .returned (.slice none 0 0) ∧ Below u.heap.size u w') := Lib.hid (fun u h1 h2 => (union_any h1 h2 (by omega) (by omega)).mono fun e w' h => ⟨thru_wrong h.1 hw, h.2⟩)
        have ME : Hid (∀ u, Sees u (.slice p n c) A → Sees u (.slice q m d) B → Calls Try.prog 20 #[.slice p n c, .slice q m d] u fun e w' => e = .returned (.slice none 0 0) ∧ Below u.heap.size u w') := Lib.hid (fun u h1 h2 => (meet_any h1 h2 (by omega) (by omega)).mono fun e w' h => ⟨thru_wrong h.1 hw, h.2⟩)
        have LE : Hid (∀ u, Sees u (.slice p n c) A → Sees u (.slice q m d) B → Calls Try.prog 21 #[.slice p n c, .slice q m d] u fun e w' => e = .returned (.slice none 0 0) ∧ Below u.heap.size u w') := Lib.hid (fun u h1 h2 => (less_any h1 h2 (by omega) (by omega)).mono fun e w' h => ⟨thru_wrong h.1 hw, h.2⟩)
        cases hA : rightL A
        · rw [hA] at RA
          clear hA hw h1 h2 ha hb en em mA mB
          go_enter Try.func4, Try.ntmps4
          go_wp2_with fail
          refine AW.out.mono ?_
          rintro e u ⟨rfl, hB⟩
          have ST := Lib.hid (ST.out.call hB)
          clear hB
          go_wp2_with fail
          · go_ret
            exact ⟨rfl, ST.out.below⟩
          · go_ret
            exact ⟨rfl, ST.out.below⟩
          refine (UN.out _ ST.out.sa ST.out.sb).mono ?_
          rintro e u ⟨rfl, hB⟩
          have ST := Lib.hid (ST.out.call hB)
          clear hB
          go_wp2_with fail
          refine (ME.out _ ST.out.sa ST.out.sb).mono ?_
          rintro e u ⟨rfl, hB⟩
          have ST := Lib.hid (ST.out.call hB)
          clear hB
          go_wp2_with fail
          refine (LE.out _ ST.out.sa ST.out.sb).mono ?_
          rintro e u ⟨rfl, hB⟩
          have ST := Lib.hid (ST.out.call hB)
          clear hB
          go_wp2_with fail
          refine (RA.out _ ST.out.sa).mono ?_
          rintro e u ⟨rfl, hB⟩
          have ST := Lib.hid (ST.out.call hB)
          clear hB
          go_wp2_with fail
          go_ret
          exact ⟨rfl, ST.out.below⟩
        · have hB : rightL B = false := by
            cases e : rightL B
            · rfl
            · exact absurd ⟨hA, e⟩ hw
          rw [hA] at RA
          rw [hB] at RB
          clear hA hB hw h1 h2 ha hb en em mA mB
          go_enter Try.func4, Try.ntmps4
          go_wp2_with fail
          refine AW.out.mono ?_
          rintro e u ⟨rfl, hB⟩
          have ST := Lib.hid (ST.out.call hB)
          clear hB
          go_wp2_with fail
          · go_ret
            exact ⟨rfl, ST.out.below⟩
          · go_ret
            exact ⟨rfl, ST.out.below⟩
          refine (UN.out _ ST.out.sa ST.out.sb).mono ?_
          rintro e u ⟨rfl, hB⟩
          have ST := Lib.hid (ST.out.call hB)
          clear hB
          go_wp2_with fail
          refine (ME.out _ ST.out.sa ST.out.sb).mono ?_
          rintro e u ⟨rfl, hB⟩
          have ST := Lib.hid (ST.out.call hB)
          clear hB
          go_wp2_with fail
          refine (LE.out _ ST.out.sa ST.out.sb).mono ?_
          rintro e u ⟨rfl, hB⟩
          have ST := Lib.hid (ST.out.call hB)
          clear hB
          go_wp2_with fail
          refine (RA.out _ ST.out.sa).mono ?_
          rintro e u ⟨rfl, hB⟩
          have ST := Lib.hid (ST.out.call hB)
          clear hB
          go_wp2_with fail
          refine (RB.out _ ST.out.sb).mono ?_
          rintro e u ⟨rfl, hB⟩
          have ST := Lib.hid (ST.out.call hB)
          clear hB
          go_wp2_with fail
          go_ret
          exact ⟨rfl, ST.out.below⟩
      · have hw : rightL A = true ∧ rightL B = true := Classical.not_not.1 hw
        obtain ⟨hA, hB⟩ := hw
        have UN : Hid (∀ u, Sees u (.slice p n c) A → Sees u (.slice q m d) B → Calls Try.prog 19 #[.slice p n c, .slice q m d] u fun e w' => ∃ s U, e = .returned s ∧ Kept keepU A B U ∧ Sees w' s U ∧ Below u.heap.size u w') := Lib.hid (fun u h1 h2 => (union_any h1 h2 (by omega) (by omega)).mono fun e w' h => by
          obtain ⟨s, U, e1, e2, e3⟩ := thru_right h.1 hA hB
          exact ⟨s, U, e1, e2, e3, h.2⟩)
        have ME : Hid (∀ u, Sees u (.slice p n c) A → Sees u (.slice q m d) B → Calls Try.prog 20 #[.slice p n c, .slice q m d] u fun e w' => ∃ s U, e = .returned s ∧ Kept keepM A B U ∧ Sees w' s U ∧ Below u.heap.size u w') := Lib.hid (fun u h1 h2 => (meet_any h1 h2 (by omega) (by omega)).mono fun e w' h => by
          obtain ⟨s, U, e1, e2, e3⟩ := thru_right h.1 hA hB
          exact ⟨s, U, e1, e2, e3, h.2⟩)
        have LE : Hid (∀ u, Sees u (.slice p n c) A → Sees u (.slice q m d) B → Calls Try.prog 21 #[.slice p n c, .slice q m d] u fun e w' => ∃ s U, e = .returned s ∧ Kept keepD A B U ∧ Sees w' s U ∧ Below u.heap.size u w') := Lib.hid (fun u h1 h2 => (less_any h1 h2 (by omega) (by omega)).mono fun e w' h => by
          obtain ⟨s, U, e1, e2, e3⟩ := thru_right h.1 hA hB
          exact ⟨s, U, e1, e2, e3, h.2⟩)
        have FA := Lib.hid (fun u (h : Sees u (.slice p n c) A) => few_any h (by omega))
        have FB := Lib.hid (fun u (h : Sees u (.slice q m d) B) => few_any h (by omega))
        have SA := Lib.hid (fun u (h : Sees u (.slice p n c) A) => rsize_any h (by omega))
        have SB := Lib.hid (fun u (h : Sees u (.slice q m d) B) => rsize_any h (by omega))
        have RG : Hid (∀ u s U, Sees u s U → rightL U = true → U.length ≤ 1000000 → Calls Try.prog 7 #[s] u fun e w' => e = .returned (.bool true) ∧ Below u.heap.size u w') := Lib.hid (fun u s U h1 h2 h3 => by have := rright_any h1 h3; rw [h2] at this; exact this)
        have SG : Hid (∀ u s U, Sees u s U → rightL U = true → U.length ≤ 1000000 → Calls Try.prog 11 #[s] u fun e w' => e = .returned (.int .i64 (sizeL U)) ∧ Below u.heap.size u w') := Lib.hid (fun u s U h1 h2 h3 => by have := rsize_any h1 h3; rw [h2, if_pos rfl] at this; exact this)
        have IG : Hid (∀ u s U z, Sees u s U → U.length ≤ 1000000 → Calls Try.prog 13 #[s, .int .i64 z] u fun e w' => e = .returned (.bool (inL U z)) ∧ w' = u) := Lib.hid (fun u s U z h1 h2 => in_any z h1 h2)
        rw [hA] at RA SA
        rw [hB] at RB SB
        have bA := size_most hA
        have bB := size_most hB
        have HM := Lib.hid (And.intro mA mB)
        have HR := Lib.hid (And.intro hA hB)
        cases fA : fewL A
        · rw [fA] at FA
          clear ha hb en em mA mB h1 h2 bA bB hA hB fA
          go_enter Try.func4, Try.ntmps4
          go_wp2_with fail
          refine AW.out.mono ?_
          rintro e u ⟨rfl, hB⟩
          have ST := Lib.hid (ST.out.call hB)
          clear hB
          go_wp2_with fail
          · go_ret
            exact ⟨rfl, ST.out.below⟩
          · go_ret
            exact ⟨rfl, ST.out.below⟩
          refine (UN.out _ ST.out.sa ST.out.sb).mono ?_
          rintro e u ⟨su, U, rfl, hU, seeU, hB⟩
          have ST := Lib.hid (ST.out.call hB)
          have KU := Lib.hid hU
          have SU := Lib.hid seeU
          clear hB hU seeU
          go_wp2_with fail
          refine (ME.out _ ST.out.sa ST.out.sb).mono ?_
          rintro e u ⟨sm, N, rfl, hN, seeN, hB⟩
          have ST := Lib.hid (ST.out.call hB)
          have KN := Lib.hid hN
          have SU := Lib.hid (sees_below SU.out hB)
          have SN := Lib.hid seeN
          clear hB hN seeN
          go_wp2_with fail
          refine (LE.out _ ST.out.sa ST.out.sb).mono ?_
          rintro e u ⟨sl, D, rfl, hD, seeD, hB⟩
          have ST := Lib.hid (ST.out.call hB)
          have KD := Lib.hid hD
          have ST : Hid (Qst w (.slice p n c) (.slice q m d) su sm sl A B U N D u) := Lib.hid ⟨ST.out.sa, ST.out.sb, sees_below SU.out hB, sees_below SN.out hB, seeD, ST.out.below⟩
          clear hB hD seeD SU SN
          go_wp2_with fail
          refine (RA.out _ ST.out.sa).mono ?_
          rintro e u ⟨rfl, hB⟩
          have ST := Lib.hid (ST.out.call hB)
          clear hB
          go_wp2_with fail
          refine (RB.out _ ST.out.sb).mono ?_
          rintro e u ⟨rfl, hB⟩
          have ST := Lib.hid (ST.out.call hB)
          clear hB
          go_wp2_with fail
          refine (FA.out _ ST.out.sa).mono ?_
          rintro e u ⟨rfl, hB⟩
          have ST := Lib.hid (ST.out.call hB)
          clear hB
          go_wp2_with fail
          go_ret
          exact ⟨rfl, ST.out.below⟩
        · rw [fA] at FA
          cases fB : fewL B
          · rw [fB] at FB
            clear ha hb en em mA mB h1 h2 bA bB hA hB fA fB
            go_enter Try.func4, Try.ntmps4
            go_wp2_with fail
            refine AW.out.mono ?_
            rintro e u ⟨rfl, hB⟩
            have ST := Lib.hid (ST.out.call hB)
            clear hB
            go_wp2_with fail
            · go_ret
              exact ⟨rfl, ST.out.below⟩
            · go_ret
              exact ⟨rfl, ST.out.below⟩
            refine (UN.out _ ST.out.sa ST.out.sb).mono ?_
            rintro e u ⟨su, U, rfl, hU, seeU, hB⟩
            have ST := Lib.hid (ST.out.call hB)
            have KU := Lib.hid hU
            have SU := Lib.hid seeU
            clear hB hU seeU
            go_wp2_with fail
            refine (ME.out _ ST.out.sa ST.out.sb).mono ?_
            rintro e u ⟨sm, N, rfl, hN, seeN, hB⟩
            have ST := Lib.hid (ST.out.call hB)
            have KN := Lib.hid hN
            have SU := Lib.hid (sees_below SU.out hB)
            have SN := Lib.hid seeN
            clear hB hN seeN
            go_wp2_with fail
            refine (LE.out _ ST.out.sa ST.out.sb).mono ?_
            rintro e u ⟨sl, D, rfl, hD, seeD, hB⟩
            have ST := Lib.hid (ST.out.call hB)
            have KD := Lib.hid hD
            have ST : Hid (Qst w (.slice p n c) (.slice q m d) su sm sl A B U N D u) := Lib.hid ⟨ST.out.sa, ST.out.sb, sees_below SU.out hB, sees_below SN.out hB, seeD, ST.out.below⟩
            clear hB hD seeD SU SN
            go_wp2_with fail
            refine (RA.out _ ST.out.sa).mono ?_
            rintro e u ⟨rfl, hB⟩
            have ST := Lib.hid (ST.out.call hB)
            clear hB
            go_wp2_with fail
            refine (RB.out _ ST.out.sb).mono ?_
            rintro e u ⟨rfl, hB⟩
            have ST := Lib.hid (ST.out.call hB)
            clear hB
            go_wp2_with fail
            refine (FA.out _ ST.out.sa).mono ?_
            rintro e u ⟨rfl, hB⟩
            have ST := Lib.hid (ST.out.call hB)
            clear hB
            go_wp2_with fail
            refine (FB.out _ ST.out.sb).mono ?_
            rintro e u ⟨rfl, hB⟩
            have ST := Lib.hid (ST.out.call hB)
            clear hB
            go_wp2_with fail
            go_ret
            exact ⟨rfl, ST.out.below⟩
          · rw [fB] at FB
            have sA := few_parts hA fA
            have sB := few_parts hB fB
            have VA := Lib.hid (fun u (h : Sees u (.slice p n c) A) => values_any h (by omega) hA (by omega))
            have VB := Lib.hid (fun u (h : Sees u (.slice q m d) B) => values_any h (by omega) hB (by omega))
            have lA := values_length hA
            have lB := values_length hB
            have hlen : (valuesL A).length + (valuesL B).length ≤ 800 := by omega
            have HLEN := Lib.hid hlen
            simp only [if_true] at SA SB
            clear ha hb en em mA mB h1 h2 hA hB fA fB sA sB lA lB hlen
            go_enter Try.func4, Try.ntmps4
            go_wp2_with fail
            refine AW.out.mono ?_
            rintro e u ⟨rfl, hB⟩
            have ST := Lib.hid (ST.out.call hB)
            clear hB
            go_wp2_with fail
            · go_ret
              exact ⟨rfl, ST.out.below⟩
            · go_ret
              exact ⟨rfl, ST.out.below⟩
            refine (UN.out _ ST.out.sa ST.out.sb).mono ?_
            rintro e u ⟨su, U, rfl, hU, seeU, hB⟩
            have ST := Lib.hid (ST.out.call hB)
            have KU := Lib.hid hU
            have SU := Lib.hid seeU
            clear hB hU seeU
            go_wp2_with fail
            refine (ME.out _ ST.out.sa ST.out.sb).mono ?_
            rintro e u ⟨sm, N, rfl, hN, seeN, hB⟩
            have ST := Lib.hid (ST.out.call hB)
            have KN := Lib.hid hN
            have SU := Lib.hid (sees_below SU.out hB)
            have SN := Lib.hid seeN
            clear hB hN seeN
            go_wp2_with fail
            refine (LE.out _ ST.out.sa ST.out.sb).mono ?_
            rintro e u ⟨sl, D, rfl, hD, seeD, hB⟩
            have ST := Lib.hid (ST.out.call hB)
            have KD := Lib.hid hD
            have ST : Hid (Qst w (.slice p n c) (.slice q m d) su sm sl A B U N D u) := Lib.hid ⟨ST.out.sa, ST.out.sb, sees_below SU.out hB, sees_below SN.out hB, seeD, ST.out.below⟩
            clear hB hD seeD SU SN
            go_wp2_with fail
            refine (RA.out _ ST.out.sa).mono ?_
            rintro e u ⟨rfl, hB⟩
            have ST := Lib.hid (ST.out.call hB)
            clear hB
            go_wp2_with fail
            refine (RB.out _ ST.out.sb).mono ?_
            rintro e u ⟨rfl, hB⟩
            have ST := Lib.hid (ST.out.call hB)
            clear hB
            go_wp2_with fail
            refine (FA.out _ ST.out.sa).mono ?_
            rintro e u ⟨rfl, hB⟩
            have ST := Lib.hid (ST.out.call hB)
            clear hB
            go_wp2_with fail
            refine (FB.out _ ST.out.sb).mono ?_
            rintro e u ⟨rfl, hB⟩
            have ST := Lib.hid (ST.out.call hB)
            clear hB
            have hbU : U.length ≤ 1000000 := by have := KU.out.2.2; have := HM.out; omega
            have hbN : N.length ≤ 1000000 := by have := KN.out.2.2; have := HM.out; omega
            have hbD : D.length ≤ 1000000 := by have := KD.out.2.2; have := HM.out; omega
            have HBU := Lib.hid hbU
            have HBN := Lib.hid hbN
            have HBD := Lib.hid hbD
            clear hbU hbN hbD
            go_wp2_with fail
            refine (RG.out _ _ _ ST.out.ss KU.out.1 HBU.out).mono ?_
            rintro e u ⟨rfl, hB⟩
            have ST := Lib.hid (ST.out.call hB)
            clear hB
            go_wp2_with fail
            refine (RG.out _ _ _ ST.out.sn KN.out.1 HBN.out).mono ?_
            rintro e u ⟨rfl, hB⟩
            have ST := Lib.hid (ST.out.call hB)
            clear hB
            go_wp2_with fail
            refine (RG.out _ _ _ ST.out.sd KD.out.1 HBD.out).mono ?_
            rintro e u ⟨rfl, hB⟩
            have ST := Lib.hid (ST.out.call hB)
            clear hB
            go_wp2_with fail
            refine (VA.out _ ST.out.sa).mono ?_
            rintro e w2 ⟨s2, rfl, ho2, hB2⟩
            have ST2 := Lib.hid (ST.out.call hB2)
            have O2 := Lib.hid ho2
            have HB2 := Lib.hid hB2
            clear ho2 hB2
            go_wp2_with fail
            refine (VB.out _ ST2.out.sb).mono ?_
            rintro e w3 ⟨s3, rfl, ho3, hB3⟩
            have O2 := Lib.hid (owns_below O2.out hB3)
            have O3 := Lib.hid ho3
            have HB3 := Lib.hid (below_two HB2.out hB3)
            clear ho3 hB3 HB2 ST2
            obtain ⟨vs, evs⟩ : ∃ vs, vs = valuesL A ++ valuesL B := ⟨_, rfl⟩
            have EV := Lib.hid evs
            clear evs
            go_wp2_with (at_builtin; refine wpList_append_ints rfl _ _ rfl u.heap.size _ _ (valuesL A) (valuesL B) rfl rfl O2.out (readsN_of_owns O3.out) (by have := HLEN.out; omega) HB3.out.size ?_; intro v4 w4 ho4 hgrow; rw [← EV.out] at ho4; obtain ⟨p4, g4, c4, rfl, hp4, hc4⟩ := ints_shape ho4; have ST4 := Lib.hid (ST.out.call (HB3.out.grown hgrow HB3.out.size (fun j e => (O2.out.lt j e).1))); have HC4 := Lib.hid hc4; obtain ⟨n4, en4⟩ : ∃ n4, n4 = vs.length := ⟨_, rfl⟩; rw [← en4] at hp4 ⊢; have EN := Lib.hid en4; clear ho4 hgrow hc4 en4)
            have hn4 : n4 ≤ 800 := by have := HLEN.out; rw [EN.out, EV.out, List.length_append]; exact this
            go_loopw [75] (fun i wr => ∃ k : Nat, k ≤ n4 ∧ i = .int .i64 k ∧ wr = w4) (fun i _ => n4 - (intOf i).toNat)
            case atStart => exact ⟨0, by omega, rfl, rfl⟩
            case round =>
              obtain ⟨k, hk, rfl, rfl⟩ := hrel
              by_cases hlt : k < n4
              · obtain rfl := hp4 (by omega)
                have hlx : k < vs.length := by have := EN.out; omega
                have ck := HC4.out k hlx
                obtain ⟨z, ez⟩ : ∃ z, z = vs.getD k 0 := ⟨_, rfl⟩
                rw [← ez] at ck
                have hz : inL A z = true ∨ inL B z = true := by
                  have h1 := mem_getD hlx
                  rw [← ez, EV.out, List.mem_append, values_mem, values_mem] at h1
                  exact h1
                have IA := Lib.hid (IG.out _ _ _ z ST4.out.sa (by have := HM.out; omega))
                have IB := Lib.hid (IG.out _ _ _ z ST4.out.sb (by have := HM.out; omega))
                have IU := Lib.hid (IG.out _ _ _ z ST4.out.ss HBU.out)
                have IN := Lib.hid (IG.out _ _ _ z ST4.out.sn HBN.out)
                have ID := Lib.hid (IG.out _ _ _ z ST4.out.sd HBD.out)
                rw [KU.out.2.1 z] at IU
                rw [KN.out.2.1 z] at IN
                rw [KD.out.2.1 z] at ID
                generalize inL A z = xa at IA IU IN ID hz
                generalize inL B z = xb at IB IU IN ID hz
                clear ez hlx
                cases xa
                · cases xb
                  · simp at hz
                  · rw [show keepU false true = true from rfl] at IU
                    rw [show keepM false true = false from rfl] at IN
                    rw [show keepD false true = false from rfl] at ID
                    clear hz
                    go_wp2_with fail
                    refine IA.out.mono ?_
                    rintro e u5 ⟨rfl, rfl⟩
                    go_wp2_with fail
                    refine IB.out.mono ?_
                    rintro e u5 ⟨rfl, rfl⟩
                    go_wp2_with fail
                    refine IU.out.mono ?_
                    rintro e u5 ⟨rfl, rfl⟩
                    go_wp2_with fail
                    refine IN.out.mono ?_
                    rintro e u5 ⟨rfl, rfl⟩
                    go_wp2_with fail
                    refine ID.out.mono ?_
                    rintro e u5 ⟨rfl, rfl⟩
                    go_wp2_with fail
                    go_roundw
                    case rel => exact ⟨k + 1, by omega, by go_num, trivial⟩
                    case measure => simp [intOf]; omega
                · cases xb
                  · rw [show keepU true false = true from rfl] at IU
                    rw [show keepM true false = false from rfl] at IN
                    rw [show keepD true false = true from rfl] at ID
                    clear hz
                    go_wp2_with fail
                    refine IA.out.mono ?_
                    rintro e u5 ⟨rfl, rfl⟩
                    go_wp2_with fail
                    refine IB.out.mono ?_
                    rintro e u5 ⟨rfl, rfl⟩
                    go_wp2_with fail
                    refine IU.out.mono ?_
                    rintro e u5 ⟨rfl, rfl⟩
                    go_wp2_with fail
                    refine IN.out.mono ?_
                    rintro e u5 ⟨rfl, rfl⟩
                    go_wp2_with fail
                    refine ID.out.mono ?_
                    rintro e u5 ⟨rfl, rfl⟩
                    go_wp2_with fail
                    go_roundw
                    case rel => exact ⟨k + 1, by omega, by go_num, trivial⟩
                    case measure => simp [intOf]; omega
                  · rw [show keepU true true = true from rfl] at IU
                    rw [show keepM true true = true from rfl] at IN
                    rw [show keepD true true = false from rfl] at ID
                    clear hz
                    go_wp2_with fail
                    refine IA.out.mono ?_
                    rintro e u5 ⟨rfl, rfl⟩
                    go_wp2_with fail
                    refine IB.out.mono ?_
                    rintro e u5 ⟨rfl, rfl⟩
                    go_wp2_with fail
                    refine IU.out.mono ?_
                    rintro e u5 ⟨rfl, rfl⟩
                    go_wp2_with fail
                    refine IN.out.mono ?_
                    rintro e u5 ⟨rfl, rfl⟩
                    go_wp2_with fail
                    refine ID.out.mono ?_
                    rintro e u5 ⟨rfl, rfl⟩
                    go_wp2_with fail
                    go_roundw
                    case rel => exact ⟨k + 1, by omega, by go_num, trivial⟩
                    case measure => simp [intOf]; omega
              · have hsz := size_sets HR.out.1 HR.out.2 KU.out.1 KN.out.1 KD.out.1 KU.out.2.1 KN.out.2.1 KD.out.2.1
                have bU := size_most KU.out.1
                have bN := size_most KN.out.1
                have bD := size_most KD.out.1
                have ZU := Lib.hid (fun u (h : Sees u su U) => SG.out u su U h KU.out.1 HBU.out)
                have ZN := Lib.hid (fun u (h : Sees u sm N) => SG.out u sm N h KN.out.1 HBN.out)
                have ZD := Lib.hid (fun u (h : Sees u sl D) => SG.out u sl D h KD.out.1 HBD.out)
                have ST := ST4
                clear ST4 hp4
                generalize sizeL A = zA at SA hsz bA
                generalize sizeL B = zB at SB hsz bB
                generalize sizeL U = zU at ZU hsz bU
                generalize sizeL N = zN at ZN hsz bN
                generalize sizeL D = zD at ZD hsz bD
                obtain ⟨rfl, rfl⟩ := hsz
                go_wp2_with fail
                refine (ZU.out _ ST.out.ss).mono ?_
                rintro e u ⟨rfl, hB⟩
                have ST := Lib.hid (ST.out.call hB)
                clear hB
                go_wp2_with fail
                refine (SA.out _ ST.out.sa).mono ?_
                rintro e u ⟨rfl, hB⟩
                have ST := Lib.hid (ST.out.call hB)
                clear hB
                go_wp2_with fail
                refine (SB.out _ ST.out.sb).mono ?_
                rintro e u ⟨rfl, hB⟩
                have ST := Lib.hid (ST.out.call hB)
                clear hB
                go_wp2_with fail
                refine (ZN.out _ ST.out.sn).mono ?_
                rintro e u ⟨rfl, hB⟩
                have ST := Lib.hid (ST.out.call hB)
                clear hB
                go_wp2_with fail
                refine (ZD.out _ ST.out.sd).mono ?_
                rintro e u ⟨rfl, hB⟩
                have ST := Lib.hid (ST.out.call hB)
                clear hB
                go_wp2_with fail
                refine (SA.out _ ST.out.sa).mono ?_
                rintro e u ⟨rfl, hB⟩
                have ST := Lib.hid (ST.out.call hB)
                clear hB
                go_wp2_with fail
                refine (ZN.out _ ST.out.sn).mono ?_
                rintro e u ⟨rfl, hB⟩
                have ST := Lib.hid (ST.out.call hB)
                clear hB
                go_wp2_with fail
                go_ret
                exact ⟨rfl, ST.out.below⟩
end Go.Proofs.Ytehflpgnbbafpaa
