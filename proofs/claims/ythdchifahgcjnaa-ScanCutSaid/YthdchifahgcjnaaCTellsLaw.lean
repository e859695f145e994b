/-
  The law ScanTells, at every text.
-/
import Derived.Test.YthdchifahgcjnaaCAwake
namespace Go.Proofs.Ythdchifahgcjnaa
open Go.RowKit

theorem scan_few (a : Nat) (x : List UInt8) : ∀ L, scanL a x = .ok L → L.length ≤ x.length := by
  refine scan_ind (Q := fun a x => ∀ L, scanL a x = .ok L → L.length ≤ x.length)
    (fun a L h => by cases h; exact Nat.le_refl _) (fun a c r h ih L hL => ?_) (fun a c r e h L hL => ?_) (fun a c r k m v h ih L hL => ?_) x.length a x (Nat.le_refl _)
  · rw [scan_skip a h] at hL
    have := ih L hL
    rw [List.length_cons]; omega
  · rw [scan_bad a h] at hL
    cases hL
  · have hm := step_size h
    rw [scan_tok a h] at hL
    cases hq : scanL (a + m) ((c :: r).drop m) with
    | bad p e => rw [hq] at hL; cases hL
    | ok M =>
      rw [hq] at hL
      cases hL
      have := ih M hq
      rw [List.length_drop] at this
      have e : (⟨k, (c :: r).take m, v, a⟩ :: M).length = M.length + 1 := rfl
      omega
theorem sees_nil (w : World) : Sees w (.slice none 0 0) [] := ⟨none, 0, 0, 0, rfl, fun h => absurd h (by simp), fun k hk => absurd hk (by simp)⟩

/-- what both hand back, to be compared -/
structure Told (w : World) (l m : Value) (p x : Nat) : Prop where
  own : Calls Try.prog 9 #[l] w fun e w' => ∃ v', e = .returned v' ∧ Below w.heap.size w w' ∧ Calls Try.prog 8 #[v', m] w' fun e w'' => e = .returned (.bool true) ∧ ∃ n, w'' = w'.drewN n
theorem told_any {w : World} {l m : Value} {L : List Tok} {p x : Nat} (hl : Sees w l L) (hm : Sees w m L) (hL : L.length ≤ 50000) : Told w l m p x := by
  refine ⟨(own_any hl hL).mono ?_⟩
  rintro e w' ⟨v', rfl, ho, hB⟩
  exact ⟨v', rfl, hB, same_any (sees_of_owns ho) (sees_below hm hB) hL⟩

theorem both_any (s : ByteArray) (w : World) (hm : s.size ≤ 5000) :
    Calls Try.prog 6 #[.string s] w fun e w' => ∃ (l : Value) (p x : Nat), e = .returned (.tuple #[l, .int .i64 p, .int .i64 x]) ∧ Below w.heap.size w w' ∧
      Calls Try.prog 7 #[.string s] w' fun e w'' => ∃ m : Value, e = .returned (.tuple #[m, .int .i64 p, .int .i64 x]) ∧ Below w'.heap.size w' w'' ∧ Told w'' l m p x := by
  by_cases h4 : s.size ≤ 4000
  · refine (scan_any s w h4).mono ?_
    rintro e w' ⟨h, hB⟩
    cases hr : scanL 0 (txt s) with
    | ok L =>
      rw [hr] at h
      obtain ⟨v, rfl, ho⟩ := h
      refine ⟨v, 0, 0, rfl, hB, (rscan_any s w' h4).mono ?_⟩
      rintro e w'' ⟨h2, hB2⟩
      rw [hr] at h2
      obtain ⟨u, rfl, hu⟩ := h2
      have hL : L.length ≤ 50000 := by
        have := scan_few _ _ _ hr
        rw [← txt_size] at this
        omega
      exact ⟨u, rfl, hB2, told_any (sees_below (sees_of_owns ho) hB2) (sees_of_owns hu) hL⟩
    | bad p x =>
      rw [hr] at h
      obtain rfl : e = _ := h
      refine ⟨_, p, x, rfl, hB, (rscan_any s w' h4).mono ?_⟩
      rintro e w'' ⟨h2, hB2⟩
      rw [hr] at h2
      obtain rfl : e = _ := h2
      exact ⟨_, rfl, hB2, told_any (sees_nil _) (sees_nil _) (by simp)⟩
  · refine (scan_long s w (by omega)).mono ?_
    rintro e w' ⟨rfl, rfl⟩
    refine ⟨_, 0, 5, rfl, Below.refl _ _, (rscan_long s w' (by omega)).mono ?_⟩
    rintro e w'' ⟨rfl, rfl⟩
    exact ⟨_, rfl, Below.refl _ _, told_any (sees_nil _) (sees_nil _) (by simp)⟩

theorem below_five {w w1 w2 w3 w4 : World} {q : Nat} (h1 : Below w.heap.size w w1) (h2 : Below w1.heap.size w1 w2) (h3 : Below w2.heap.size w2 w3) (h4 : Below w3.heap.size w3 w4) : Below w.heap.size w (w4.drewN q) :=
  below_drewN (below_two (below_two (below_two h1 h2) h3) h4)

set_option maxRecDepth 100000 in
set_option maxHeartbeats 1000000 in
theorem tells_law (s : ByteArray) (w : World) : Calls Try.prog 3 #[.string s] w fun e w' => e = .returned (.bool true) ∧ Below w.heap.size w w' := by
  have AW := Lib.hid (awake_any w)
  obtain ⟨n, hn⟩ : ∃ n, n = s.size := ⟨_, rfl⟩
  have hsz : ((s.size : Nat) : Int) = (n : Int) := by rw [hn]
  by_cases h5 : 5000 < n
  · have d1 : (1000 : Int) < (n : Int) := by omega
    have d2 : ¬ (n : Int) ≤ 4000 := by omega
    have d3 : (5000 : Int) < (n : Int) := by omega
    clear hn h5
    go_enter Try.func3, Try.ntmps3
    go_wp2_with (go_at_call 5; refine AW.out.mono ?_; rintro e w1 ⟨rfl, hB1⟩)
    go_ret
    exact ⟨rfl, hB1⟩
  · by_cases h4 : 1000 < n ∧ n ≤ 4000
    · have d1 : (1000 : Int) < (n : Int) := by omega
      have d2 : (n : Int) ≤ 4000 := by omega
      clear hn h5 h4
      go_enter Try.func3, Try.ntmps3
      go_wp2_with (go_at_call 5; refine AW.out.mono ?_; rintro e w1 ⟨rfl, hB1⟩)
      go_ret
      exact ⟨rfl, hB1⟩
    · have BO := Lib.hid (fun W => both_any s W (by omega))
      have d3 : ¬ (5000 : Int) < (n : Int) := by omega
      by_cases h1 : 1000 < n
      · have d1 : (1000 : Int) < (n : Int) := by omega
        have d2 : ¬ (n : Int) ≤ 4000 := by omega
        clear hn h5 h4 h1
        go_enter Try.func3, Try.ntmps3
        go_wp2_with (first
          | (go_at_call 5; refine AW.out.mono ?_; rintro e w1 ⟨rfl, hB1⟩; have HB1 := Lib.hid hB1; clear hB1)
          | (go_at_call 6; refine (BO.out _).mono ?_; rintro e w2 ⟨l, p, x, rfl, hB2, hc⟩; have HB2 := Lib.hid hB2; have HC := Lib.hid hc; clear hB2 hc)
          | (go_at_call 7; refine HC.out.mono ?_; rintro e w3 ⟨m, rfl, hB3, ht⟩; have HB3 := Lib.hid hB3; have HT := Lib.hid ht; clear hB3 ht)
          | (go_at_call 9; refine HT.out.own.mono ?_; rintro e w4 ⟨v', rfl, hB4, hs⟩; have HB4 := Lib.hid hB4; have HS := Lib.hid hs; clear hB4 hs)
          | (go_at_call 8; refine HS.out.mono ?_; rintro e w5 ⟨rfl, nq, rfl⟩))
        all_goals go_ret
        all_goals first
          | exact ⟨rfl, below_five HB1.out HB2.out HB3.out HB4.out⟩
          | exact ⟨rfl, HB1.out⟩
      · have d1 : ¬ (1000 : Int) < (n : Int) := by omega
        clear hn h5 h4 h1
        go_enter Try.func3, Try.ntmps3
        go_wp2_with (first
          | (go_at_call 5; refine AW.out.mono ?_; rintro e w1 ⟨rfl, hB1⟩; have HB1 := Lib.hid hB1; clear hB1)
          | (go_at_call 6; refine (BO.out _).mono ?_; rintro e w2 ⟨l, p, x, rfl, hB2, hc⟩; have HB2 := Lib.hid hB2; have HC := Lib.hid hc; clear hB2 hc)
          | (go_at_call 7; refine HC.out.mono ?_; rintro e w3 ⟨m, rfl, hB3, ht⟩; have HB3 := Lib.hid hB3; have HT := Lib.hid ht; clear hB3 ht)
          | (go_at_call 9; refine HT.out.own.mono ?_; rintro e w4 ⟨v', rfl, hB4, hs⟩; have HB4 := Lib.hid hB4; have HS := Lib.hid hs; clear hB4 hs)
          | (go_at_call 8; refine HS.out.mono ?_; rintro e w5 ⟨rfl, nq, rfl⟩))
        all_goals go_ret
        all_goals first
          | exact ⟨rfl, below_five HB1.out HB2.out HB3.out HB4.out⟩
          | exact ⟨rfl, HB1.out⟩
end Go.Proofs.Ythdchifahgcjnaa
