/-
  SpansTells answers true, at every list of spans, every two numbers and every list of numbers.
-/
import Derived.Test.YtehflpgnbbafpaaAwake
namespace Go.Proofs.Ytehflpgnbbafpaa
open Go.RowKit

/-- what a law answers: true; below the memory that it makes nothing has turned -/
def Yes (w : World) (e : Ending) (w' : World) : Prop := e = .returned (.bool true) ∧ Below w.heap.size w w'

structure Tst (w : World) (l v : Value) (L : List (Int × Int)) (xs : List Int) (u : World) : Prop where
  sees : Sees u l L
  reads : Reads u v xs
  below : Below w.heap.size w u
theorem Tst.call {w u u' : World} {l v : Value} {L : List (Int × Int)} {xs : List Int} (h : Tst w l v L xs u) (hB : Below u.heap.size u u') : Tst w l v L xs u' :=
  ⟨sees_below h.sees hB, reads_below h.reads hB, below_two h.below hB⟩

/-- both answers of Of, one behind the other -/
theorem of_both {xs : List Int} {b1 b2 : Nat} {e1 e2 : Ending} {w1 w2 : World} (h1 : OfPost b1 xs e1 w1) (h2 : OfPost b2 xs e2 w2) (hB : Below w1.heap.size w1 w2) :
    ∃ s t n A, e1 = .returned (.tuple #[s, .int .i64 n]) ∧ e2 = .returned (.tuple #[t, .int .i64 n]) ∧ Sees w2 s A ∧ Sees w2 t A ∧ A.length ≤ xs.length := by
  rcases h1 with ⟨o1, h1⟩ | ⟨o1, s, A, h1, r1, i1, ow1, l1⟩
  · rcases h2 with ⟨o2, h2⟩ | ⟨o2, _⟩
    · exact ⟨_, _, 1, [], h1, h2, ⟨none, 0, 0, 0, rfl, fun h => by simp at h, fun k hk => by simp at hk⟩, ⟨none, 0, 0, 0, rfl, fun h => by simp at h, fun k hk => by simp at hk⟩, Nat.zero_le _⟩
    · rw [o1] at o2
      cases o2
  · rcases h2 with ⟨o2, h2⟩ | ⟨o2, t, A', h2, r2, i2, ow2, l2⟩
    · rw [o1] at o2
      cases o2
    · have e : A' = A := one r2 r1 fun v => by rw [i2, i1]
      subst e
      exact ⟨s, t, 0, A', h1, h2, sees_below (sees_of_owns ow1) hB, sees_of_owns ow2, l1⟩
theorem of_returned {xs : List Int} {b : Nat} {e : Ending} {w : World} (h : OfPost b xs e w) : ∃ s n, e = .returned (.tuple #[s, .int .i64 n]) := by
  rcases h with ⟨_, h⟩ | ⟨_, s, A, h, _⟩
  · exact ⟨_, _, h⟩
  · exact ⟨_, _, h⟩

set_option maxRecDepth 100000 in
set_option maxHeartbeats 2000000 in
theorem tells_law (p q : Option Addr) (c d n m : Nat) (L : List (Int × Int)) (v k : Int) (xs : List Int) (w : World) (hk : k ≤ 9223372036854775807) (en : n = L.length) (em : m = xs.length)
    (hl : Sees w (.slice p n c) L) (hv : Reads w (.slice q m d) xs) :
    Calls Try.prog 3 #[.slice p n c, .int .i64 v, .int .i64 k, .slice q m d] w (Yes w) := by
  have A := Lib.hid (awake_any w)
  have ST : Hid (Tst w (.slice p n c) (.slice q m d) L xs w) := Lib.hid ⟨hl, hv, Below.refl _ w⟩
  by_cases h1 : 60 < n
  · clear ST hl hv en em
    have g1 : (60 : Int) < (n : Int) := by omega
    go_enter Try.func3, Try.ntmps3
    go_wp2_with fail
    refine A.out.mono ?_
    rintro e w1 ⟨rfl, hB⟩
    have HB := Lib.hid hB
    clear hB
    go_wp2_with fail
    go_ret
    exact ⟨rfl, HB.out⟩
  · by_cases h2 : 60 < m
    · clear ST hl hv en em
      have g1 : (n : Int) ≤ 60 := by omega
      have g2 : (60 : Int) < (m : Int) := by omega
      go_enter Try.func3, Try.ntmps3
      go_wp2_with fail
      refine A.out.mono ?_
      rintro e w1 ⟨rfl, hB⟩
      have HB := Lib.hid hB
      clear hB
      go_wp2_with fail
      go_ret
      exact ⟨rfl, HB.out⟩
    · have hmL : L.length ≤ 1000000 := by omega
      have hmX : xs.length ≤ 100000 := by omega
      have RR := Lib.hid (fun u (h : Sees u (.slice p n c) L) => rright_any h hmL)
      have AT := Lib.hid (fun u (h : Sees u (.slice p n c) L) => at_any k hk h hmL)
      have RT := Lib.hid (fun u (h : Sees u (.slice p n c) L) => right_any h hmL)
      have SZ := Lib.hid (fun u (h : Sees u (.slice p n c) L) => size_any h hmL)
      have RS := Lib.hid (fun u (h : Sees u (.slice p n c) L) => rsize_any h hmL)
      have HA := Lib.hid (fun u (h : Sees u (.slice p n c) L) => has_any v h hmL)
      have IN := Lib.hid (fun u (h : Sees u (.slice p n c) L) => in_any v h hmL)
      have PL := Lib.hid (fun u (h : Sees u (.slice p n c) L) => place_any v h hmL)
      have RP := Lib.hid (fun u (h : Sees u (.slice p n c) L) => rplace_any v h hmL)
      have RN := Lib.hid (fun u x (h : Sees u (.slice p n c) L) => rplace_any x h hmL)
      have OF := Lib.hid (fun u (h : Reads u (.slice q m d) xs) => of_any h hmX)
      have RO := Lib.hid (fun u (h : Reads u (.slice q m d) xs) => rof_any h hmX)
      have SM : Hid (∀ u s t L, Sees u s L → Sees u t L → L.length ≤ 1000000 → Calls Try.prog 18 #[s, t] u fun e w' => e = .returned (.bool true) ∧ Below u.heap.size u w') := Lib.hid (fun u s t L h1 h2 h3 => same_any h1 h2 h3)
      generalize hsz : (if rightL L = true then sizeL L else 0) = sz at SZ RS
      have HSZ := Lib.hid hsz
      generalize placeL L v = pl at PL RP
      have HMX := Lib.hid hmX
      clear hl hv hsz hmL hmX en em
      cases hR : rightL L
      · rw [hR] at RR RT HA
        simp only [Bool.false_and] at HA
        have hsz0 : sz = 0 := by have := HSZ.out; rw [hR] at this; simpa using this.symm
        subst hsz0
        have hat : atA L k = none := by unfold atA; rw [if_neg (by simp [hR])]
        rw [hat] at AT
        unfold told at AT
        clear hat hR IN
        by_cases hk0 : 0 ≤ k
        · clear h1 h2
          go_enter Try.func3, Try.ntmps3
          go_wp2_with fail
          refine A.out.mono ?_
          rintro e u ⟨rfl, hB⟩
          have ST := Lib.hid (ST.out.call hB)
          clear hB
          go_wp2_with fail
          · go_ret
            exact ⟨rfl, ST.out.below⟩
          · go_ret
            exact ⟨rfl, ST.out.below⟩
          refine (RR.out _ ST.out.sees).mono ?_
          rintro e u ⟨rfl, hB⟩
          have ST := Lib.hid (ST.out.call hB)
          clear hB
          go_wp2_with fail
          refine (AT.out _ ST.out.sees).mono ?_
          rintro e u ⟨rfl, hB⟩
          have ST := Lib.hid (ST.out.call hB)
          clear hB
          go_wp2_with fail
          refine (RT.out _ ST.out.sees).mono ?_
          rintro e u ⟨rfl, hB⟩
          have ST := Lib.hid (ST.out.call hB)
          clear hB
          go_wp2_with fail
          refine (SZ.out _ ST.out.sees).mono ?_
          rintro e u ⟨rfl, hB⟩
          have ST := Lib.hid (ST.out.call hB)
          clear hB
          go_wp2_with fail
          refine (RS.out _ ST.out.sees).mono ?_
          rintro e u ⟨rfl, hB⟩
          have ST := Lib.hid (ST.out.call hB)
          clear hB
          go_wp2_with fail
          refine (HA.out _ ST.out.sees).mono ?_
          rintro e u ⟨rfl, hB⟩
          have ST := Lib.hid (ST.out.call hB)
          clear hB
          go_wp2_with fail
          refine (PL.out _ ST.out.sees).mono ?_
          rintro e u ⟨rfl, hB⟩
          have ST := Lib.hid (ST.out.call hB)
          clear hB
          go_wp2_with fail
          refine (RP.out _ ST.out.sees).mono ?_
          rintro e u ⟨rfl, hB⟩
          have ST := Lib.hid (ST.out.call hB)
          clear hB
          go_wp2_with fail
          refine (RS.out _ ST.out.sees).mono ?_
          rintro e u ⟨rfl, hB⟩
          have ST := Lib.hid (ST.out.call hB)
          clear hB
          go_wp2_with fail
          refine (OF.out _ ST.out.reads).mono ?_
          rintro e u1 ⟨hp1, hB⟩
          have ST := Lib.hid (ST.out.call hB)
          obtain ⟨s1, n1, rfl⟩ := of_returned hp1
          have HP1 := Lib.hid hp1
          clear hB hp1
          go_wp2_with fail
          refine (RO.out _ ST.out.reads).mono ?_
          rintro e u2 ⟨hp2, hB⟩
          have ST := Lib.hid (ST.out.call hB)
          obtain ⟨s, t, n2, B, e1, e2, see1, see2, hlen⟩ := of_both HP1.out hp2 hB
          injection e1 with e1
          injection e1 with e1
          simp at e1
          obtain ⟨rfl, rfl⟩ := e1
          subst e2
          have HS1 := Lib.hid see1
          have HS2 := Lib.hid see2
          have HLN := Lib.hid hlen
          clear hB hp2 see1 see2 hlen HP1
          go_wp2_with fail
          refine (SM.out _ _ _ B HS1.out HS2.out (by have := HLN.out; have := HMX.out; omega)).mono ?_
          rintro e u3 ⟨rfl, hB⟩
          have ST := Lib.hid (ST.out.call hB)
          clear hB
          go_wp2_with fail
          go_ret
          exact ⟨by simp, ST.out.below⟩
        · have hk1 : k < 0 := by omega
          clear hk0
          clear h1 h2
          go_enter Try.func3, Try.ntmps3
          go_wp2_with fail
          refine A.out.mono ?_
          rintro e u ⟨rfl, hB⟩
          have ST := Lib.hid (ST.out.call hB)
          clear hB
          go_wp2_with fail
          · go_ret
            exact ⟨rfl, ST.out.below⟩
          · go_ret
            exact ⟨rfl, ST.out.below⟩
          refine (RR.out _ ST.out.sees).mono ?_
          rintro e u ⟨rfl, hB⟩
          have ST := Lib.hid (ST.out.call hB)
          clear hB
          go_wp2_with fail
          refine (AT.out _ ST.out.sees).mono ?_
          rintro e u ⟨rfl, hB⟩
          have ST := Lib.hid (ST.out.call hB)
          clear hB
          go_wp2_with fail
          refine (RT.out _ ST.out.sees).mono ?_
          rintro e u ⟨rfl, hB⟩
          have ST := Lib.hid (ST.out.call hB)
          clear hB
          go_wp2_with fail
          refine (SZ.out _ ST.out.sees).mono ?_
          rintro e u ⟨rfl, hB⟩
          have ST := Lib.hid (ST.out.call hB)
          clear hB
          go_wp2_with fail
          refine (RS.out _ ST.out.sees).mono ?_
          rintro e u ⟨rfl, hB⟩
          have ST := Lib.hid (ST.out.call hB)
          clear hB
          go_wp2_with fail
          refine (HA.out _ ST.out.sees).mono ?_
          rintro e u ⟨rfl, hB⟩
          have ST := Lib.hid (ST.out.call hB)
          clear hB
          go_wp2_with fail
          refine (PL.out _ ST.out.sees).mono ?_
          rintro e u ⟨rfl, hB⟩
          have ST := Lib.hid (ST.out.call hB)
          clear hB
          go_wp2_with fail
          refine (RP.out _ ST.out.sees).mono ?_
          rintro e u ⟨rfl, hB⟩
          have ST := Lib.hid (ST.out.call hB)
          clear hB
          go_wp2_with fail
          · exfalso; omega
          refine (OF.out _ ST.out.reads).mono ?_
          rintro e u1 ⟨hp1, hB⟩
          have ST := Lib.hid (ST.out.call hB)
          obtain ⟨s1, n1, rfl⟩ := of_returned hp1
          have HP1 := Lib.hid hp1
          clear hB hp1
          go_wp2_with fail
          refine (RO.out _ ST.out.reads).mono ?_
          rintro e u2 ⟨hp2, hB⟩
          have ST := Lib.hid (ST.out.call hB)
          obtain ⟨s, t, n2, B, e1, e2, see1, see2, hlen⟩ := of_both HP1.out hp2 hB
          injection e1 with e1
          injection e1 with e1
          simp at e1
          obtain ⟨rfl, rfl⟩ := e1
          subst e2
          have HS1 := Lib.hid see1
          have HS2 := Lib.hid see2
          have HLN := Lib.hid hlen
          clear hB hp2 see1 see2 hlen HP1
          go_wp2_with fail
          refine (SM.out _ _ _ B HS1.out HS2.out (by have := HLN.out; have := HMX.out; omega)).mono ?_
          rintro e u3 ⟨rfl, hB⟩
          have ST := Lib.hid (ST.out.call hB)
          clear hB
          go_wp2_with fail
          go_ret
          exact ⟨by simp, ST.out.below⟩
      · rw [hR] at RR RT HA
        simp only [Bool.true_and] at HA
        have hszr : sz = sizeL L := by have := HSZ.out; rw [hR] at this; simpa using this.symm
        generalize inL L v = iv at HA IN
        by_cases hk0 : 0 ≤ k
        · have hat : atA L k = atL L k := by unfold atA; rw [if_pos ⟨hR, hk0⟩]
          rw [hat] at AT
          have his := at_some hR hk0
          rw [← hszr] at his
          cases hx : atL L k with
          | none =>
            rw [hx] at AT his
            unfold told at AT
            have hkz : sz ≤ k := by simpa using his
            clear hat hx his hR hszr HSZ
            clear h1 h2
            go_enter Try.func3, Try.ntmps3
            go_wp2_with fail
            refine A.out.mono ?_
            rintro e u ⟨rfl, hB⟩
            have ST := Lib.hid (ST.out.call hB)
            clear hB
            go_wp2_with fail
            · go_ret
              exact ⟨rfl, ST.out.below⟩
            · go_ret
              exact ⟨rfl, ST.out.below⟩
            refine (RR.out _ ST.out.sees).mono ?_
            rintro e u ⟨rfl, hB⟩
            have ST := Lib.hid (ST.out.call hB)
            clear hB
            go_wp2_with fail
            refine (AT.out _ ST.out.sees).mono ?_
            rintro e u ⟨rfl, hB⟩
            have ST := Lib.hid (ST.out.call hB)
            clear hB
            go_wp2_with fail
            refine (RT.out _ ST.out.sees).mono ?_
            rintro e u ⟨rfl, hB⟩
            have ST := Lib.hid (ST.out.call hB)
            clear hB
            go_wp2_with fail
            refine (SZ.out _ ST.out.sees).mono ?_
            rintro e u ⟨rfl, hB⟩
            have ST := Lib.hid (ST.out.call hB)
            clear hB
            go_wp2_with fail
            refine (RS.out _ ST.out.sees).mono ?_
            rintro e u ⟨rfl, hB⟩
            have ST := Lib.hid (ST.out.call hB)
            clear hB
            go_wp2_with fail
            refine (HA.out _ ST.out.sees).mono ?_
            rintro e u ⟨rfl, hB⟩
            have ST := Lib.hid (ST.out.call hB)
            clear hB
            go_wp2_with fail
            refine (IN.out _ ST.out.sees).mono ?_
            rintro e u ⟨rfl, rfl⟩
            go_wp2_with fail
            refine (PL.out _ ST.out.sees).mono ?_
            rintro e u ⟨rfl, hB⟩
            have ST := Lib.hid (ST.out.call hB)
            clear hB
            go_wp2_with fail
            refine (RP.out _ ST.out.sees).mono ?_
            rintro e u ⟨rfl, hB⟩
            have ST := Lib.hid (ST.out.call hB)
            clear hB
            go_wp2_with fail
            refine (RS.out _ ST.out.sees).mono ?_
            rintro e u ⟨rfl, hB⟩
            have ST := Lib.hid (ST.out.call hB)
            clear hB
            go_wp2_with fail
            · exfalso; omega
            refine (OF.out _ ST.out.reads).mono ?_
            rintro e u1 ⟨hp1, hB⟩
            have ST := Lib.hid (ST.out.call hB)
            obtain ⟨s1, n1, rfl⟩ := of_returned hp1
            have HP1 := Lib.hid hp1
            clear hB hp1
            go_wp2_with fail
            refine (RO.out _ ST.out.reads).mono ?_
            rintro e u2 ⟨hp2, hB⟩
            have ST := Lib.hid (ST.out.call hB)
            obtain ⟨s, t, n2, B, e1, e2, see1, see2, hlen⟩ := of_both HP1.out hp2 hB
            injection e1 with e1
            injection e1 with e1
            simp at e1
            obtain ⟨rfl, rfl⟩ := e1
            subst e2
            have HS1 := Lib.hid see1
            have HS2 := Lib.hid see2
            have HLN := Lib.hid hlen
            clear hB hp2 see1 see2 hlen HP1
            go_wp2_with fail
            refine (SM.out _ _ _ B HS1.out HS2.out (by have := HLN.out; have := HMX.out; omega)).mono ?_
            rintro e u3 ⟨rfl, hB⟩
            have ST := Lib.hid (ST.out.call hB)
            clear hB
            go_wp2_with fail
            go_ret
            exact ⟨by simp, ST.out.below⟩
          | some x =>
            have hpl := (at_place (a := 0) hR hk0 hx).2
            have RN : Hid (∀ u x0, x0 = x → Sees u (.slice p n c) L → Calls Try.prog 15 #[.slice p n c, .int .i64 x0] u fun e w' => e = .returned (.int .i64 k) ∧ Below u.heap.size u w') := Lib.hid (fun u x0 e h => by
              subst e
              have := RN.out u x0 h
              rw [show placeL L x0 = k by unfold placeL; rw [if_pos hR, hpl]; omega] at this
              exact this)
            rw [hx] at AT his
            unfold told at AT
            have hkz : k < sz := by simpa using his
            clear hat hx his hR hszr HSZ hpl
            clear h1 h2
            go_enter Try.func3, Try.ntmps3
            go_wp2_with fail
            refine A.out.mono ?_
            rintro e u ⟨rfl, hB⟩
            have ST := Lib.hid (ST.out.call hB)
            clear hB
            go_wp2_with fail
            · go_ret
              exact ⟨rfl, ST.out.below⟩
            · go_ret
              exact ⟨rfl, ST.out.below⟩
            refine (RR.out _ ST.out.sees).mono ?_
            rintro e u ⟨rfl, hB⟩
            have ST := Lib.hid (ST.out.call hB)
            clear hB
            go_wp2_with fail
            refine (AT.out _ ST.out.sees).mono ?_
            rintro e u ⟨rfl, hB⟩
            have ST := Lib.hid (ST.out.call hB)
            clear hB
            go_wp2_with fail
            refine (RT.out _ ST.out.sees).mono ?_
            rintro e u ⟨rfl, hB⟩
            have ST := Lib.hid (ST.out.call hB)
            clear hB
            go_wp2_with fail
            refine (SZ.out _ ST.out.sees).mono ?_
            rintro e u ⟨rfl, hB⟩
            have ST := Lib.hid (ST.out.call hB)
            clear hB
            go_wp2_with fail
            refine (RS.out _ ST.out.sees).mono ?_
            rintro e u ⟨rfl, hB⟩
            have ST := Lib.hid (ST.out.call hB)
            clear hB
            go_wp2_with fail
            refine (HA.out _ ST.out.sees).mono ?_
            rintro e u ⟨rfl, hB⟩
            have ST := Lib.hid (ST.out.call hB)
            clear hB
            go_wp2_with fail
            refine (IN.out _ ST.out.sees).mono ?_
            rintro e u ⟨rfl, rfl⟩
            go_wp2_with fail
            refine (PL.out _ ST.out.sees).mono ?_
            rintro e u ⟨rfl, hB⟩
            have ST := Lib.hid (ST.out.call hB)
            clear hB
            go_wp2_with fail
            refine (RP.out _ ST.out.sees).mono ?_
            rintro e u ⟨rfl, hB⟩
            have ST := Lib.hid (ST.out.call hB)
            clear hB
            go_wp2_with fail
            refine (RS.out _ ST.out.sees).mono ?_
            rintro e u ⟨rfl, hB⟩
            have ST := Lib.hid (ST.out.call hB)
            clear hB
            go_wp2_with fail
            refine (RN.out _ x rfl ST.out.sees).mono ?_
            rintro e u ⟨rfl, hB⟩
            have ST := Lib.hid (ST.out.call hB)
            clear hB
            go_wp2_with fail
            refine (OF.out _ ST.out.reads).mono ?_
            rintro e u1 ⟨hp1, hB⟩
            have ST := Lib.hid (ST.out.call hB)
            obtain ⟨s1, n1, rfl⟩ := of_returned hp1
            have HP1 := Lib.hid hp1
            clear hB hp1
            go_wp2_with fail
            refine (RO.out _ ST.out.reads).mono ?_
            rintro e u2 ⟨hp2, hB⟩
            have ST := Lib.hid (ST.out.call hB)
            obtain ⟨s, t, n2, B, e1, e2, see1, see2, hlen⟩ := of_both HP1.out hp2 hB
            injection e1 with e1
            injection e1 with e1
            simp at e1
            obtain ⟨rfl, rfl⟩ := e1
            subst e2
            have HS1 := Lib.hid see1
            have HS2 := Lib.hid see2
            have HLN := Lib.hid hlen
            clear hB hp2 see1 see2 hlen HP1
            go_wp2_with fail
            refine (SM.out _ _ _ B HS1.out HS2.out (by have := HLN.out; have := HMX.out; omega)).mono ?_
            rintro e u3 ⟨rfl, hB⟩
            have ST := Lib.hid (ST.out.call hB)
            clear hB
            go_wp2_with fail
            go_ret
            exact ⟨by simp, ST.out.below⟩
        · have hk1 : k < 0 := by omega
          have hat : atA L k = none := by unfold atA; rw [if_neg (by omega)]
          rw [hat] at AT
          unfold told at AT
          clear hat hR hszr HSZ hk0
          clear h1 h2
          go_enter Try.func3, Try.ntmps3
          go_wp2_with fail
          refine A.out.mono ?_
          rintro e u ⟨rfl, hB⟩
          have ST := Lib.hid (ST.out.call hB)
          clear hB
          go_wp2_with fail
          · go_ret
            exact ⟨rfl, ST.out.below⟩
          · go_ret
            exact ⟨rfl, ST.out.below⟩
          refine (RR.out _ ST.out.sees).mono ?_
          rintro e u ⟨rfl, hB⟩
          have ST := Lib.hid (ST.out.call hB)
          clear hB
          go_wp2_with fail
          refine (AT.out _ ST.out.sees).mono ?_
          rintro e u ⟨rfl, hB⟩
          have ST := Lib.hid (ST.out.call hB)
          clear hB
          go_wp2_with fail
          refine (RT.out _ ST.out.sees).mono ?_
          rintro e u ⟨rfl, hB⟩
          have ST := Lib.hid (ST.out.call hB)
          clear hB
          go_wp2_with fail
          refine (SZ.out _ ST.out.sees).mono ?_
          rintro e u ⟨rfl, hB⟩
          have ST := Lib.hid (ST.out.call hB)
          clear hB
          go_wp2_with fail
          refine (RS.out _ ST.out.sees).mono ?_
          rintro e u ⟨rfl, hB⟩
          have ST := Lib.hid (ST.out.call hB)
          clear hB
          go_wp2_with fail
          refine (HA.out _ ST.out.sees).mono ?_
          rintro e u ⟨rfl, hB⟩
          have ST := Lib.hid (ST.out.call hB)
          clear hB
          go_wp2_with fail
          refine (IN.out _ ST.out.sees).mono ?_
          rintro e u ⟨rfl, rfl⟩
          go_wp2_with fail
          refine (PL.out _ ST.out.sees).mono ?_
          rintro e u ⟨rfl, hB⟩
          have ST := Lib.hid (ST.out.call hB)
          clear hB
          go_wp2_with fail
          refine (RP.out _ ST.out.sees).mono ?_
          rintro e u ⟨rfl, hB⟩
          have ST := Lib.hid (ST.out.call hB)
          clear hB
          go_wp2_with fail
          · exfalso; omega
          refine (OF.out _ ST.out.reads).mono ?_
          rintro e u1 ⟨hp1, hB⟩
          have ST := Lib.hid (ST.out.call hB)
          obtain ⟨s1, n1, rfl⟩ := of_returned hp1
          have HP1 := Lib.hid hp1
          clear hB hp1
          go_wp2_with fail
          refine (RO.out _ ST.out.reads).mono ?_
          rintro e u2 ⟨hp2, hB⟩
          have ST := Lib.hid (ST.out.call hB)
          obtain ⟨s, t, n2, B, e1, e2, see1, see2, hlen⟩ := of_both HP1.out hp2 hB
          injection e1 with e1
          injection e1 with e1
          simp at e1
          obtain ⟨rfl, rfl⟩ := e1
          subst e2
          have HS1 := Lib.hid see1
          have HS2 := Lib.hid see2
          have HLN := Lib.hid hlen
          clear hB hp2 see1 see2 hlen HP1
          go_wp2_with fail
          refine (SM.out _ _ _ B HS1.out HS2.out (by have := HLN.out; have := HMX.out; omega)).mono ?_
          rintro e u3 ⟨rfl, hB⟩
          have ST := Lib.hid (ST.out.call hB)
          clear hB
          go_wp2_with fail
          go_ret
          exact ⟨by simp, ST.out.below⟩
end Go.Proofs.Ytehflpgnbbafpaa
