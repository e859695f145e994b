/-
  What word, number and mark of the program answer, and its copy of a text, at every text that is no longer than may be.
-/
import Derived.Test.YtfkakdpppejehaaCLeaf
import Derived.Lib.Strings
namespace Go.Proofs.Ytfkakdpppejehaa.Sc
open Go.RowKit

/-- the bytes of a text -/
abbrev txt (s : ByteArray) : List UInt8 := s.data.toList
theorem txt_size (s : ByteArray) : s.size = (txt s).length := Lib.size_eq s
theorem idx {s : ByteArray} {k : Nat} {c : UInt8} (h : (txt s)[k]? = some c) : ∀ W, (Instr.index 9 (.string s) (.int .i64 (k : Int))).run Try.prog W = .ok (.int .u8 (c.toNat : Int)) W := by
  intro W
  obtain ⟨hk, e⟩ := List.getElem?_eq_some_iff.1 h
  have hk2 : k < s.size := by rw [txt_size]; exact hk
  rw [run_index_string W 9 s .i64 (k : Int) Try.underlying9, dif_pos ⟨by omega, by omega⟩]
  have e2 : s[(k : Int).toNat]'(by omega) = c := by
    rw [← e]
    rfl
  rw [e2]
theorem drop_at {l : List UInt8} {k : Nat} (h : k < l.length) : ∃ c, l[k]? = some c ∧ l.drop k = c :: l.drop (k + 1) := ⟨l[k], List.getElem?_eq_getElem h, List.drop_eq_getElem_cons h⟩

theorem takeWhile_in {p : UInt8 → Bool} {c : UInt8} (r : List UInt8) (h : p c = true) : ((c :: r).takeWhile p).length = (r.takeWhile p).length + 1 := by
  rw [List.takeWhile_cons_of_pos h]; rfl
theorem takeWhile_out {p : UInt8 → Bool} {c : UInt8} (r : List UInt8) (h : p c = false) : ((c :: r).takeWhile p).length = 0 := by
  rw [List.takeWhile_cons_of_neg (by simp [h])]; rfl

set_option maxHeartbeats 1000000 in
theorem word_any (s : ByteArray) (w : World) (hm : s.size ≤ 100000) :
    Calls Try.prog 33 #[.string s] w fun e w' => e = .returned (.int .i64 ((txt s).takeWhile inWord).length) ∧ w' = w := by
  obtain ⟨R, hR⟩ : ∃ R, R = ((txt s).takeWhile inWord).length := ⟨_, rfl⟩
  rw [← hR]
  obtain ⟨n, hn⟩ : ∃ n, n = s.size := ⟨_, rfl⟩
  rw [← hn] at hm
  have HN := Lib.hid hn
  have HS := Lib.hid (show 0 ≤ n ∧ R = 0 + (((txt s).drop 0).takeWhile inWord).length from ⟨by omega, by simp [hR]⟩)
  have hsz : ((s.size : Nat) : Int) = (n : Int) := by rw [hn]
  clear hR hn
  go_enter Try.func33, Try.ntmps33
  go_wp2
  go_loopw [3] (fun i wr => (∃ k : Nat, i = .int .i64 k ∧ k ≤ n ∧ R = k + (((txt s).drop k).takeWhile inWord).length) ∧ wr = w) (fun i _ => n - (intOf i).toNat)
  case atStart => exact ⟨⟨0, rfl, HS.out⟩, rfl⟩
  case round =>
    obtain ⟨⟨k, rfl, hk, hrel⟩, rfl⟩ := hrel
    by_cases hlt : k < n
    · obtain ⟨c, ec, ed⟩ := drop_at (l := txt s) (k := k) (by rw [← txt_size, ← HN.out]; exact hlt)
      have hx := idx ec
      have hl := letter_any c
      have hd := digit_any c
      rw [ed] at hrel
      have e95 : ((c.toNat : Int) == 95) = decide (c.toNat = 95) := by rw [beq_eq_decide, Bool.eq_iff_iff]; simp; omega
      by_cases hw : inWord c = true
      · have hnx : R = k + 1 + (((txt s).drop (k + 1)).takeWhile inWord).length := by rw [hrel, takeWhile_in _ hw]; omega
        have HX := Lib.hid hnx
        clear hrel ed ec hnx
        cases el : letter c
        · cases eg : digit c
          · rw [el] at hl
            rw [eg] at hd
            have e5 : ((c.toNat : Int) == 95) = true := by rw [e95]; simpa [inWord, el, eg] using hw
            have L := Lib.hid hl
            have D := Lib.hid hd
            clear hl hd e95 hw el eg
            go_wp2_with (first | (go_at_call 32; refine (L.out _).mono ?_; rintro e w' ⟨rfl, rfl⟩) | (go_at_call 34; refine (D.out _).mono ?_; rintro e w' ⟨rfl, rfl⟩))
            go_roundw
            case rel => exact ⟨⟨k + 1, by go_num, by omega, HX.out⟩, trivial⟩
            case measure => simp [intOf]; omega
          · rw [el] at hl
            rw [eg] at hd
            have L := Lib.hid hl
            have D := Lib.hid hd
            clear hl hd e95 hw el eg
            go_wp2_with (first | (go_at_call 32; refine (L.out _).mono ?_; rintro e w' ⟨rfl, rfl⟩) | (go_at_call 34; refine (D.out _).mono ?_; rintro e w' ⟨rfl, rfl⟩))
            go_roundw
            case rel => exact ⟨⟨k + 1, by go_num, by omega, HX.out⟩, trivial⟩
            case measure => simp [intOf]; omega
        · rw [el] at hl
          have L := Lib.hid hl
          clear hl hd e95 hw el
          go_wp2_with (first | (go_at_call 32; refine (L.out _).mono ?_; rintro e w' ⟨rfl, rfl⟩))
          go_roundw
          case rel => exact ⟨⟨k + 1, by go_num, by omega, HX.out⟩, trivial⟩
          case measure => simp [intOf]; omega
      · have hw2 : inWord c = false := by simpa using hw
        have hnx : R = k := by rw [hrel, takeWhile_out _ hw2]; omega
        have HX := Lib.hid hnx
        have el : letter c = false := by cases e : letter c <;> simp [inWord, e] at hw2 ⊢
        have eg : digit c = false := by cases e : digit c <;> simp [inWord, e] at hw2 ⊢
        rw [el] at hl
        rw [eg] at hd
        have e5 : ((c.toNat : Int) == 95) = false := by rw [e95]; simpa [inWord, el, eg] using hw2
        have L := Lib.hid hl
        have D := Lib.hid hd
        clear hl hd e95 hw hw2 el eg hrel ed ec hnx
        go_wp2_with (first | (go_at_call 32; refine (L.out _).mono ?_; rintro e w' ⟨rfl, rfl⟩) | (go_at_call 34; refine (D.out _).mono ?_; rintro e w' ⟨rfl, rfl⟩))
        go_ret
        exact ⟨ret_int (by rw [HX.out]), rfl⟩
    · obtain rfl : k = n := by omega
      have hnx : R = k := by rw [hrel, List.drop_of_length_le (by rw [← txt_size, ← HN.out]; exact Nat.le_refl _)]; simp
      have HX := Lib.hid hnx
      clear hrel hnx
      go_wp2
      go_ret
      exact ⟨ret_int (by rw [HX.out]), rfl⟩

theorem numF_cons (v : Nat) (c : UInt8) (r : List UInt8) : numF v (c :: r) = numF (10 * v + (c.toNat - 48)) r := by unfold numF; rw [List.foldl_cons]
theorem num_le : ∀ (l : List UInt8) (v : Nat), v ≤ numF v l
  | [], v => Nat.le_refl v
  | c :: r, v => by
    have := num_le r (10 * v + (c.toNat - 48))
    rw [numF_cons]
    omega
theorem takeWhile_cons_in {p : UInt8 → Bool} {c : UInt8} (r : List UInt8) (h : p c = true) : (c :: r).takeWhile p = c :: r.takeWhile p := List.takeWhile_cons_of_pos h
theorem takeWhile_cons_out {p : UInt8 → Bool} {c : UInt8} (r : List UInt8) (h : p c = false) : (c :: r).takeWhile p = [] := List.takeWhile_cons_of_neg (by simp [h])

/-- what number answers: the number and how many digits it has, or one that is too big -/
def numGo : Nat → Nat → List UInt8 → Nat × Nat
  | v, k, [] => (v, k)
  | v, k, c :: r => if digit c = true ∧ v ≤ mostV then numGo (10 * v + (c.toNat - 48)) (k + 1) r else (v, k)
theorem num_post : ∀ (l : List UInt8) (v k : Nat), (mostV < v → 0 < k) → v ≤ 10 * mostV + 9 →
    (numF v (l.takeWhile digit) ≤ mostV → numGo v k l = (numF v (l.takeWhile digit), k + (l.takeWhile digit).length)) ∧ (mostV < numF v (l.takeWhile digit) → mostV < (numGo v k l).1 ∧ 0 < (numGo v k l).2) ∧ (numGo v k l).2 ≤ k + l.length ∧ (numGo v k l).1 ≤ 10 * mostV + 9
  | [], v, k, h, h' => by
    rw [numGo]
    exact ⟨fun _ => rfl, fun hv => ⟨hv, h hv⟩, Nat.le_refl _, h'⟩
  | c :: r, v, k, h, h' => by
    rw [numGo]
    by_cases hc : digit c = true
    · have hd : c.toNat ≤ 57 := by simp [digit] at hc; omega
      rw [takeWhile_cons_in _ hc, numF_cons]
      by_cases hv : v ≤ mostV
      · rw [if_pos ⟨hc, hv⟩]
        obtain ⟨h1, h2, h3, h4⟩ := num_post r (10 * v + (c.toNat - 48)) (k + 1) (fun _ => by omega) (by omega)
        refine ⟨fun q => by rw [h1 q, List.length_cons]; congr 1; omega, h2, by rw [List.length_cons]; omega, h4⟩
      · rw [if_neg (fun q => hv q.2)]
        have := num_le (r.takeWhile digit) (10 * v + (c.toNat - 48))
        exact ⟨fun q => by omega, fun _ => ⟨by omega, h (by omega)⟩, by omega, h'⟩
    · have hc2 : digit c = false := by simpa using hc
      rw [takeWhile_cons_out _ hc2, if_neg (fun q => hc q.1)]
      exact ⟨fun _ => rfl, fun hv => ⟨hv, h hv⟩, by omega, h'⟩

theorem ret_two {R : Nat × Nat} {v k : Nat} (h : R = (v, k)) : Ending.returned (.tuple #[.int .i64 (v : Int), .int .i64 (k : Int)]) = .returned (.tuple #[.int .i64 (R.1 : Nat), .int .i64 (R.2 : Nat)]) := by rw [h]
/-- how far number has come -/
def NumRel (l : List UInt8) (v k : Nat) : Prop := numGo 0 0 l = numGo v k (l.drop k) ∧ v ≤ 10 * mostV + 9
theorem num_start (l : List UInt8) : NumRel l 0 0 := ⟨by simp, by omega⟩
theorem num_next {l r : List UInt8} {v k : Nat} {c : UInt8} (h : NumRel l v k) (e : l.drop k = c :: r) (er : l.drop (k + 1) = r) (hc : digit c = true) (hv : v ≤ mostV) : NumRel l (10 * v + (c.toNat - 48)) (k + 1) := by
  obtain ⟨h1, h4⟩ := h
  have hd : c.toNat ≤ 57 := by simp [digit] at hc; omega
  rw [e, numGo, if_pos ⟨hc, hv⟩] at h1
  exact ⟨by rw [h1, er], by omega⟩
theorem num_out {l r : List UInt8} {v k : Nat} {c : UInt8} (h : NumRel l v k) (e : l.drop k = c :: r) (hc : ¬ (digit c = true ∧ v ≤ mostV)) : numGo 0 0 l = (v, k) := by
  rw [h.1, e, numGo, if_neg hc]
theorem num_end {l : List UInt8} {v k : Nat} (h : NumRel l v k) (hk : l.length ≤ k) : numGo 0 0 l = (v, k) := by
  rw [h.1, List.drop_of_length_le hk, numGo]

set_option maxHeartbeats 1000000 in
theorem number_any (s : ByteArray) (w : World) (hm : s.size ≤ 100000) :
    Calls Try.prog 35 #[.string s] w fun e w' => e = .returned (.tuple #[.int .i64 ((numGo 0 0 (txt s)).1 : Nat), .int .i64 ((numGo 0 0 (txt s)).2 : Nat)]) ∧ w' = w := by
  obtain ⟨n, hn⟩ : ∃ n, n = s.size := ⟨_, rfl⟩
  rw [← hn] at hm
  have HN := Lib.hid hn
  have HS := Lib.hid (num_start (txt s))
  have hsz : ((s.size : Nat) : Int) = (n : Int) := by rw [hn]
  obtain ⟨R, hR⟩ : ∃ R, R = numGo 0 0 (txt s) := ⟨_, rfl⟩
  rw [← hR]
  have HQ := Lib.hid hR
  clear hn hR
  go_enter Try.func35, Try.ntmps35
  go_wp2
  go_step3
  go_wp2
  go_step3
  go_wp2
  go_loopw [2, 3] (fun a i wr => (∃ v k : Nat, a = .int .i64 v ∧ i = .int .i64 k ∧ k ≤ n ∧ NumRel (txt s) v k) ∧ wr = w) (fun _ i _ => n - (intOf i).toNat)
  case atStart => exact ⟨⟨0, 0, rfl, rfl, by omega, HS.out⟩, rfl⟩
  case round =>
    obtain ⟨⟨v, k, rfl, rfl, hk, hrel⟩, rfl⟩ := hrel
    have hv4 : v ≤ 10 * mostV + 9 := hrel.2
    unfold mostV at hv4
    have HR := Lib.hid hrel
    clear hrel
    by_cases hlt : k < n
    · obtain ⟨c, ec, ed⟩ := drop_at (l := txt s) (k := k) (by rw [← txt_size, ← HN.out]; exact hlt)
      have hx := idx ec
      have hd := digit_any c
      cases eg : digit c
      · rw [eg] at hd
        have HX := Lib.hid (num_out HR.out ed (by rw [eg]; simp))
        have D := Lib.hid hd
        clear hd eg ed ec
        go_wp2_with (first | (go_at_call 34; refine (D.out _).mono ?_; rintro e w' ⟨rfl, rfl⟩))
        rw [Exit.noGoto_ret]
        go_ret2
        exact ⟨ret_two (HQ.out.trans HX.out), rfl⟩
      · rw [eg] at hd
        have D := Lib.hid hd
        have hb : 48 ≤ c.toNat ∧ c.toNat ≤ 57 := by simpa [digit] using eg
        by_cases hv : v ≤ 1099511627776
        · have HX := Lib.hid (num_next HR.out ed rfl eg hv)
          clear hd eg ed ec
          go_wp2_with (first | (go_at_call 34; refine (D.out _).mono ?_; rintro e w' ⟨rfl, rfl⟩))
          go_roundw
          case rel => exact ⟨⟨10 * v + (c.toNat - 48), k + 1, by go_num, by go_num, by omega, HX.out⟩, trivial⟩
          case measure => simp [intOf]; omega
        · have HX := Lib.hid (num_out HR.out ed (fun q => hv q.2))
          clear hd eg ed ec
          go_wp2_with (first | (go_at_call 34; refine (D.out _).mono ?_; rintro e w' ⟨rfl, rfl⟩))
          rw [Exit.noGoto_ret]
          go_ret2
          exact ⟨ret_two (HQ.out.trans HX.out), rfl⟩
    · have HX := Lib.hid (num_end HR.out (by rw [← txt_size, ← HN.out]; omega))
      go_wp2
      rw [Exit.noGoto_ret]
      go_ret2
      exact ⟨ret_two (HQ.out.trans HX.out), rfl⟩
end Go.Proofs.Ytfkakdpppejehaa.Sc
