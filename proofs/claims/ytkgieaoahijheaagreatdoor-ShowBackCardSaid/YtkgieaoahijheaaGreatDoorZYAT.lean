/-
  What word, number and mark of the program answer, and its copy of a text, at every text that is no longer than may be.
  What mark of the program answers, and its copy of a text.
  What first of the program answers: the token with which a text begins, or what is wrong.
  Tokens in memory: lists that a call makes.
-/
import Derived.Test.YtkgieaoahijheaaGreatDoorZYAC
import Derived.Lib.Strings
import Derived.Laws.ResultCell
import Derived.Laws.AppendOwnNone
namespace Go.Proofs.YtkgieaoahijheaaGreatDoor.Sc
open Go.RowKit

/-- the bytes of a text -/
abbrev txt (s : ByteArray) : List UInt8 := s.data.toList
theorem txt_size (s : ByteArray) : s.size = (txt s).length := Lib.size_eq s
theorem idx {s : ByteArray} {k : Nat} {c : UInt8} (h : (txt s)[k]? = some c) : ∀ W, (Instr.index 9 (.string s) (.int .i64 (k : Int))).run Tryz.prog W = .ok (.int .u8 (c.toNat : Int)) W := by
  intro W
  obtain ⟨hk, e⟩ := List.getElem?_eq_some_iff.1 h
  have hk2 : k < s.size := by rw [txt_size]; exact hk
  rw [run_index_string W 9 s .i64 (k : Int) Tryz.underlying9, dif_pos ⟨by omega, by omega⟩]
  have e2 : s[(k : Int).toNat]'(by omega) = c := by
    rw [← e]
    rfl
  rw [e2]
theorem drop_at {l : List UInt8} {k : Nat} (h : k < l.length) : ∃ c, l[k]? = some c ∧ l.drop k = c :: l.drop (k + 1) := ⟨l[k], List.getElem?_eq_getElem h, List.drop_eq_getElem_cons h⟩

theorem takeWhile_in {p : UInt8 → Bool} {c : UInt8} (r : List UInt8) (h : p c = true) : ((c :: r).takeWhile p).length = (r.takeWhile p).length + 1 := by
  rw [List.takeWhile_cons_of_pos h]; rfl
theorem takeWhile_out {p : UInt8 → Bool} {c : UInt8} (r : List UInt8) (h : p c = false) : ((c :: r).takeWhile p).length = 0 := by
  rw [List.takeWhile_cons_of_neg (by simp [h])]; rfl

set_option maxHeartbeats 1000000 in
theorem word_any (s : ByteArray) (w : World) (hm : s.size ≤ 100000) :
    Calls Tryz.prog 55 #[.string s] w fun e w' => e = .returned (.int .i64 ((txt s).takeWhile inWord).length) ∧ w' = w := by
  obtain ⟨R, hR⟩ : ∃ R, R = ((txt s).takeWhile inWord).length := ⟨_, rfl⟩
  rw [← hR]
  obtain ⟨n, hn⟩ : ∃ n, n = s.size := ⟨_, rfl⟩
  rw [← hn] at hm
  have HN := Lib.hid hn
  have HS := Lib.hid (show 0 ≤ n ∧ R = 0 + (((txt s).drop 0).takeWhile inWord).length from ⟨by omega, by simp [hR]⟩)
  have hsz : ((s.size : Nat) : Int) = (n : Int) := by rw [hn]
  clear hR hn
  go_enter Tryz.func55, Tryz.ntmps55
  go_wp2
  go_loopw [3] (fun i wr => (∃ k : Nat, i = .int .i64 k ∧ k ≤ n ∧ R = k + (((txt s).drop k).takeWhile inWord).length) ∧ wr = w) (fun i _ => n - (intOf i).toNat)
  case atStart => exact ⟨⟨0, rfl, HS.out⟩, rfl⟩
  case round =>
    obtain ⟨⟨k, rfl, hk, hrel⟩, rfl⟩ := hrel
    by_cases hlt : k < n
    · obtain ⟨c, ec, ed⟩ := drop_at (l := txt s) (k := k) (by rw [← txt_size, ← HN.out]; exact hlt)
      have hx := idx ec
      have hl := letter_any c
      have hd := digit_any c
      rw [ed] at hrel
      have e95 : ((c.toNat : Int) == 95) = decide (c.toNat = 95) := by rw [beq_eq_decide, Bool.eq_iff_iff]; simp; omega
      by_cases hw : inWord c = true
      · have hnx : R = k + 1 + (((txt s).drop (k + 1)).takeWhile inWord).length := by rw [hrel, takeWhile_in _ hw]; omega
        have HX := Lib.hid hnx
        clear hrel ed ec hnx
        cases el : letter c
        · cases eg : digit c
          · rw [el] at hl
            rw [eg] at hd
            have e5 : ((c.toNat : Int) == 95) = true := by rw [e95]; simpa [inWord, el, eg] using hw
            have L := Lib.hid hl
            have D := Lib.hid hd
            clear hl hd e95 hw el eg
            go_wp2_with (first | (go_at_call 54; refine (L.out _).mono ?_; rintro e w' ⟨rfl, rfl⟩) | (go_at_call 56; refine (D.out _).mono ?_; rintro e w' ⟨rfl, rfl⟩))
            go_roundw
            case rel => exact ⟨⟨k + 1, by go_num, by omega, HX.out⟩, trivial⟩
            case measure => simp [intOf]; omega
          · rw [el] at hl
            rw [eg] at hd
            have L := Lib.hid hl
            have D := Lib.hid hd
            clear hl hd e95 hw el eg
            go_wp2_with (first | (go_at_call 54; refine (L.out _).mono ?_; rintro e w' ⟨rfl, rfl⟩) | (go_at_call 56; refine (D.out _).mono ?_; rintro e w' ⟨rfl, rfl⟩))
            go_roundw
            case rel => exact ⟨⟨k + 1, by go_num, by omega, HX.out⟩, trivial⟩
            case measure => simp [intOf]; omega
        · rw [el] at hl
          have L := Lib.hid hl
          clear hl hd e95 hw el
          go_wp2_with (first | (go_at_call 54; refine (L.out _).mono ?_; rintro e w' ⟨rfl, rfl⟩))
          go_roundw
          case rel => exact ⟨⟨k + 1, by go_num, by omega, HX.out⟩, trivial⟩
          case measure => simp [intOf]; omega
      · have hw2 : inWord c = false := by simpa using hw
        have hnx : R = k := by rw [hrel, takeWhile_out _ hw2]; omega
        have HX := Lib.hid hnx
        have el : letter c = false := by cases e : letter c <;> simp [inWord, e] at hw2 ⊢
        have eg : digit c = false := by cases e : digit c <;> simp [inWord, e] at hw2 ⊢
        rw [el] at hl
        rw [eg] at hd
        have e5 : ((c.toNat : Int) == 95) = false := by rw [e95]; simpa [inWord, el, eg] using hw2
        have L := Lib.hid hl
        have D := Lib.hid hd
        clear hl hd e95 hw hw2 el eg hrel ed ec hnx
        go_wp2_with (first | (go_at_call 54; refine (L.out _).mono ?_; rintro e w' ⟨rfl, rfl⟩) | (go_at_call 56; refine (D.out _).mono ?_; rintro e w' ⟨rfl, rfl⟩))
        go_ret
        exact ⟨ret_int (by rw [HX.out]), rfl⟩
    · obtain rfl : k = n := by omega
      have hnx : R = k := by rw [hrel, List.drop_of_length_le (by rw [← txt_size, ← HN.out]; exact Nat.le_refl _)]; simp
      have HX := Lib.hid hnx
      clear hrel hnx
      go_wp2
      go_ret
      exact ⟨ret_int (by rw [HX.out]), rfl⟩

theorem numF_cons (v : Nat) (c : UInt8) (r : List UInt8) : numF v (c :: r) = numF (10 * v + (c.toNat - 48)) r := by unfold numF; rw [List.foldl_cons]
theorem num_le : ∀ (l : List UInt8) (v : Nat), v ≤ numF v l
  | [], v => Nat.le_refl v
  | c :: r, v => by
    have := num_le r (10 * v + (c.toNat - 48))
    rw [numF_cons]
    omega
theorem takeWhile_cons_in {p : UInt8 → Bool} {c : UInt8} (r : List UInt8) (h : p c = true) : (c :: r).takeWhile p = c :: r.takeWhile p := List.takeWhile_cons_of_pos h
theorem takeWhile_cons_out {p : UInt8 → Bool} {c : UInt8} (r : List UInt8) (h : p c = false) : (c :: r).takeWhile p = [] := List.takeWhile_cons_of_neg (by simp [h])

/-- what number answers: the number and how many digits it has, or one that is too big -/
def numGo : Nat → Nat → List UInt8 → Nat × Nat
  | v, k, [] => (v, k)
  | v, k, c :: r => if digit c = true ∧ v ≤ mostV then numGo (10 * v + (c.toNat - 48)) (k + 1) r else (v, k)
theorem num_post : ∀ (l : List UInt8) (v k : Nat), (mostV < v → 0 < k) → v ≤ 10 * mostV + 9 →
    (numF v (l.takeWhile digit) ≤ mostV → numGo v k l = (numF v (l.takeWhile digit), k + (l.takeWhile digit).length)) ∧ (mostV < numF v (l.takeWhile digit) → mostV < (numGo v k l).1 ∧ 0 < (numGo v k l).2) ∧ (numGo v k l).2 ≤ k + l.length ∧ (numGo v k l).1 ≤ 10 * mostV + 9
  | [], v, k, h, h' => by
    rw [numGo]
    exact ⟨fun _ => rfl, fun hv => ⟨hv, h hv⟩, Nat.le_refl _, h'⟩
  | c :: r, v, k, h, h' => by
    rw [numGo]
    by_cases hc : digit c = true
    · have hd : c.toNat ≤ 57 := by simp [digit] at hc; omega
      rw [takeWhile_cons_in _ hc, numF_cons]
      by_cases hv : v ≤ mostV
      · rw [if_pos ⟨hc, hv⟩]
        obtain ⟨h1, h2, h3, h4⟩ := num_post r (10 * v + (c.toNat - 48)) (k + 1) (fun _ => by omega) (by omega)
        refine ⟨fun q => by rw [h1 q, List.length_cons]; congr 1; omega, h2, by rw [List.length_cons]; omega, h4⟩
      · rw [if_neg (fun q => hv q.2)]
        have := num_le (r.takeWhile digit) (10 * v + (c.toNat - 48))
        exact ⟨fun q => by omega, fun _ => ⟨by omega, h (by omega)⟩, by omega, h'⟩
    · have hc2 : digit c = false := by simpa using hc
      rw [takeWhile_cons_out _ hc2, if_neg (fun q => hc q.1)]
      exact ⟨fun _ => rfl, fun hv => ⟨hv, h hv⟩, by omega, h'⟩

theorem ret_two {R : Nat × Nat} {v k : Nat} (h : R = (v, k)) : Ending.returned (.tuple #[.int .i64 (v : Int), .int .i64 (k : Int)]) = .returned (.tuple #[.int .i64 (R.1 : Nat), .int .i64 (R.2 : Nat)]) := by rw [h]
/-- how far number has come -/
def NumRel (l : List UInt8) (v k : Nat) : Prop := numGo 0 0 l = numGo v k (l.drop k) ∧ v ≤ 10 * mostV + 9
theorem num_start (l : List UInt8) : NumRel l 0 0 := ⟨by simp, by omega⟩
theorem num_next {l r : List UInt8} {v k : Nat} {c : UInt8} (h : NumRel l v k) (e : l.drop k = c :: r) (er : l.drop (k + 1) = r) (hc : digit c = true) (hv : v ≤ mostV) : NumRel l (10 * v + (c.toNat - 48)) (k + 1) := by
  obtain ⟨h1, h4⟩ := h
  have hd : c.toNat ≤ 57 := by simp [digit] at hc; omega
  rw [e, numGo, if_pos ⟨hc, hv⟩] at h1
  exact ⟨by rw [h1, er], by omega⟩
theorem num_out {l r : List UInt8} {v k : Nat} {c : UInt8} (h : NumRel l v k) (e : l.drop k = c :: r) (hc : ¬ (digit c = true ∧ v ≤ mostV)) : numGo 0 0 l = (v, k) := by
  rw [h.1, e, numGo, if_neg hc]
theorem num_end {l : List UInt8} {v k : Nat} (h : NumRel l v k) (hk : l.length ≤ k) : numGo 0 0 l = (v, k) := by
  rw [h.1, List.drop_of_length_le hk, numGo]

set_option maxHeartbeats 1000000 in
theorem number_any (s : ByteArray) (w : World) (hm : s.size ≤ 100000) :
    Calls Tryz.prog 57 #[.string s] w fun e w' => e = .returned (.tuple #[.int .i64 ((numGo 0 0 (txt s)).1 : Nat), .int .i64 ((numGo 0 0 (txt s)).2 : Nat)]) ∧ w' = w := by
  obtain ⟨n, hn⟩ : ∃ n, n = s.size := ⟨_, rfl⟩
  rw [← hn] at hm
  have HN := Lib.hid hn
  have HS := Lib.hid (num_start (txt s))
  have hsz : ((s.size : Nat) : Int) = (n : Int) := by rw [hn]
  obtain ⟨R, hR⟩ : ∃ R, R = numGo 0 0 (txt s) := ⟨_, rfl⟩
  rw [← hR]
  have HQ := Lib.hid hR
  clear hn hR
  go_enter Tryz.func57, Tryz.ntmps57
  go_wp2
  go_step3
  go_wp2
  go_step3
  go_wp2
  go_loopw [2, 3] (fun a i wr => (∃ v k : Nat, a = .int .i64 v ∧ i = .int .i64 k ∧ k ≤ n ∧ NumRel (txt s) v k) ∧ wr = w) (fun _ i _ => n - (intOf i).toNat)
  case atStart => exact ⟨⟨0, 0, rfl, rfl, by omega, HS.out⟩, rfl⟩
  case round =>
    obtain ⟨⟨v, k, rfl, rfl, hk, hrel⟩, rfl⟩ := hrel
    have hv4 : v ≤ 10 * mostV + 9 := hrel.2
    unfold mostV at hv4
    have HR := Lib.hid hrel
    clear hrel
    by_cases hlt : k < n
    · obtain ⟨c, ec, ed⟩ := drop_at (l := txt s) (k := k) (by rw [← txt_size, ← HN.out]; exact hlt)
      have hx := idx ec
      have hd := digit_any c
      cases eg : digit c
      · rw [eg] at hd
        have HX := Lib.hid (num_out HR.out ed (by rw [eg]; simp))
        have D := Lib.hid hd
        clear hd eg ed ec
        go_wp2_with (first | (go_at_call 56; refine (D.out _).mono ?_; rintro e w' ⟨rfl, rfl⟩))
        rw [Exit.noGoto_ret]
        go_ret2
        exact ⟨ret_two (HQ.out.trans HX.out), rfl⟩
      · rw [eg] at hd
        have D := Lib.hid hd
        have hb : 48 ≤ c.toNat ∧ c.toNat ≤ 57 := by simpa [digit] using eg
        by_cases hv : v ≤ 1099511627776
        · have HX := Lib.hid (num_next HR.out ed rfl eg hv)
          clear hd eg ed ec
          go_wp2_with (first | (go_at_call 56; refine (D.out _).mono ?_; rintro e w' ⟨rfl, rfl⟩))
          go_roundw
          case rel => exact ⟨⟨10 * v + (c.toNat - 48), k + 1, by go_num, by go_num, by omega, HX.out⟩, trivial⟩
          case measure => simp [intOf]; omega
        · have HX := Lib.hid (num_out HR.out ed (fun q => hv q.2))
          clear hd eg ed ec
          go_wp2_with (first | (go_at_call 56; refine (D.out _).mono ?_; rintro e w' ⟨rfl, rfl⟩))
          rw [Exit.noGoto_ret]
          go_ret2
          exact ⟨ret_two (HQ.out.trans HX.out), rfl⟩
    · have HX := Lib.hid (num_end HR.out (by rw [← txt_size, ← HN.out]; omega))
      go_wp2
      rw [Exit.noGoto_ret]
      go_ret2
      exact ⟨ret_two (HQ.out.trans HX.out), rfl⟩
end Go.Proofs.YtkgieaoahijheaaGreatDoor.Sc
namespace Go.Proofs.YtkgieaoahijheaaGreatDoor.Sc
open Go.RowKit

theorem clone_any (s : ByteArray) (w : World) (hm : s.size ≤ 100000) :
    Calls Tryz.prog 26 #[.string s] w fun e w' => e = .returned (.string s) ∧ Below w.heap.size w w' := by
  go_enter Tryz.func26, Tryz.ntmps26
  go_wp2_with (go_at_call 51; refine (Tryz.stringslite_Clone _ _ (by omega)).mono ?_; rintro e w' ⟨rfl, hB⟩)
  go_ret
  exact ⟨rfl, hB⟩

def singles : ByteArray := ⟨#[44, 59, 58, 91, 93, 61, 60, 62, 43, 45, 42]⟩
theorem u8_eq {a b : UInt8} : (a == b) = decide (a.toNat = b.toNat) := by
  rw [Bool.eq_iff_iff, beq_iff_eq, decide_eq_true_eq]
  exact ⟨fun h => by rw [h], fun h => UInt8.toNat_inj.1 h⟩
theorem singles_has (a : UInt8) : decide (0 ≤ Lib.indexByte singles.data.toList ((a.toNat : Int).toNat.toUInt8)) = isOne a := by
  rw [index_ge]
  have e : (a.toNat : Int).toNat.toUInt8 = a := by simp
  rw [e]
  unfold isOne singles
  simp only [List.contains_cons, u8_eq]
  simp [Bool.beq_eq_decide_eq]
theorem two_bytes {s : ByteArray} {a b : UInt8} {r : List UInt8} (h : txt s = a :: b :: r) : (s.extract 0 2).toList = [a, b] := by
  rw [Lib.extract_toList]
  simp [h]

theorem pair_eq (t : ByteArray) (a b : UInt8) (x y : UInt8) (h : t.toList = [a, b]) : (t.toList == (⟨#[x, y]⟩ : ByteArray).toList) = (decide (a.toNat = x.toNat) && decide (b.toNat = y.toNat)) := by
  have e : (⟨#[x, y]⟩ : ByteArray).toList = [x, y] := ByteArray.toList_mk [x, y]
  rw [h, e]
  show (a == x && (b == y && true)) = _
  rw [u8_eq, u8_eq, Bool.and_true]
theorem pair_bools (a b : UInt8) : isPair a b = ((decide (a.toNat = 46) && decide (b.toNat = 46)) || (decide (a.toNat = 33) && decide (b.toNat = 61)) || (decide (a.toNat = 60) && decide (b.toNat = 61)) || (decide (a.toNat = 62) && decide (b.toNat = 61))) := by
  unfold isPair
  cases decide (b.toNat = 61) <;> cases decide (a.toNat = 46) <;> cases decide (a.toNat = 33) <;> cases decide (a.toNat = 60) <;> cases decide (a.toNat = 62) <;> cases decide (b.toNat = 46) <;> rfl
theorem cut_to (s : ByteArray) (k : Nat) (h : k ≤ s.size) (W : World) : (Instr.slice 9 (.string s) none (some (.int .i64 (k : Int))) none).run Tryz.prog W = .ok (.string (s.extract 0 k)) W := by
  rw [run_slice_string_to_if W 9 s .i64 (k : Int) Tryz.underlying9, if_pos ⟨by omega, by omega⟩]
  rfl

set_option maxHeartbeats 1000000 in
theorem mark_any (s : ByteArray) (w : World) (hm : s.size ≤ 100000) (h0 : 0 < s.size) :
    Calls Tryz.prog 58 #[.string s] w fun e w' => e = .returned (.int .i64 (mark (txt s) : Nat)) ∧ w' = w := by
  obtain ⟨n, hn⟩ : ∃ n, n = s.size := ⟨_, rfl⟩
  have hsz : ((s.size : Nat) : Int) = (n : Int) := by rw [hn]
  rw [← hn] at hm h0
  cases ht : txt s with
  | nil => rw [hn, txt_size, ht] at h0; simp at h0
  | cons a r =>
    have hx : ∀ W, (Instr.index 9 (.string s) (.int .i64 0)).run Tryz.prog W = .ok (.int .u8 (a.toNat : Int)) W := idx (s := s) (k := 0) (c := a) (by rw [ht]; rfl)
    have hz := singles_has a
    obtain ⟨z, ez⟩ : ∃ z, z = Lib.indexByte singles.data.toList ((a.toNat : Int).toNat.toUInt8) := ⟨_, rfl⟩
    have hI : ∀ W, Calls Tryz.prog 79 #[.string ⟨#[44, 59, 58, 91, 93, 61, 60, 62, 43, 45, 42]⟩, .int .u8 (a.toNat : Int)] W fun e w' => e = .returned (.int .i64 z) ∧ w' = W := fun W => by
      rw [ez]; exact Tryz.strings_IndexByte singles (a.toNat : Int) W
    rw [← ez] at hz
    clear ez
    have I := Lib.hid hI
    clear hI
    cases r with
    | nil =>
      obtain rfl : n = 1 := by rw [hn, txt_size, ht]; rfl
      rw [mark_one]
      clear hn ht
      cases e1 : isOne a
      · have hz1 : ¬ 0 ≤ z := by rw [e1] at hz; simpa using hz
        clear hz e1
        go_enter Tryz.func58, Tryz.ntmps58
        go_wp2_with (go_at_call 79; go_loud (refine (I.out _).mono ?_); rintro e w' ⟨rfl, rfl⟩)
        go_ret
        exact ⟨rfl, rfl⟩
      · have hz1 : 0 ≤ z := by rw [e1] at hz; simpa using hz
        clear hz e1
        go_enter Tryz.func58, Tryz.ntmps58
        go_wp2_with (go_at_call 79; go_loud (refine (I.out _).mono ?_); rintro e w' ⟨rfl, rfl⟩)
        go_ret
        exact ⟨rfl, rfl⟩
    | cons b r =>
      rw [mark_two]
      have h2 : 2 ≤ n := by rw [hn, txt_size, ht]; simp
      have hx2 := two_bytes ht
      have hc : ∀ W, (Instr.slice 9 (.string s) none (some (.int .i64 2)) none).run Tryz.prog W = .ok (.string (s.extract 0 2)) W := cut_to s 2 (by omega)
      obtain ⟨t2, e2⟩ : ∃ t2, t2 = s.extract 0 2 := ⟨_, rfl⟩
      rw [← e2] at hc hx2
      have q1 := pair_eq t2 a b 46 46 hx2
      have q2 := pair_eq t2 a b 33 61 hx2
      have q3 := pair_eq t2 a b 60 61 hx2
      have q4 := pair_eq t2 a b 62 61 hx2
      rw [pair_bools]
      change _ = (decide (a.toNat = 46) && decide (b.toNat = 46)) at q1
      change _ = (decide (a.toNat = 33) && decide (b.toNat = 61)) at q2
      change _ = (decide (a.toNat = 60) && decide (b.toNat = 61)) at q3
      change _ = (decide (a.toNat = 62) && decide (b.toNat = 61)) at q4
      generalize (decide (a.toNat = 46) && decide (b.toNat = 46)) = b1 at q1 ⊢
      generalize (decide (a.toNat = 33) && decide (b.toNat = 61)) = b2 at q2 ⊢
      generalize (decide (a.toNat = 60) && decide (b.toNat = 61)) = b3 at q3 ⊢
      generalize (decide (a.toNat = 62) && decide (b.toNat = 61)) = b4 at q4 ⊢
      have f1 : binOp .eql 9 (.string t2) (.string ⟨#[46, 46]⟩) = pure (.bool b1) := by rw [binOp_string_eql, q1]
      have f2 : binOp .eql 9 (.string t2) (.string ⟨#[33, 61]⟩) = pure (.bool b2) := by rw [binOp_string_eql, q2]
      have f3 : binOp .eql 9 (.string t2) (.string ⟨#[60, 61]⟩) = pure (.bool b3) := by rw [binOp_string_eql, q3]
      have f4 : binOp .eql 9 (.string t2) (.string ⟨#[62, 61]⟩) = pure (.bool b4) := by rw [binOp_string_eql, q4]
      obtain ⟨R, hR⟩ : ∃ R, R = (if (b1 || b2 || b3 || b4) = true then 2 else if isOne a = true then 1 else 0) := ⟨_, rfl⟩
      rw [← hR]
      have HR := Lib.hid hR
      clear hn ht e2 q1 q2 q3 q4 hx2 hR
      have hsz2 : (1 : Int) < (n : Int) := by omega
      cases b1 with
      | true =>
        have key : R = 2 := by rw [HR.out]; rfl
        subst key
        clear f2 f3 f4 hz
        go_enter Tryz.func58, Tryz.ntmps58
        go_wp2_with fail
        go_ret
        exact ⟨rfl, rfl⟩
      | false =>
        cases b2 with
        | true =>
          have key : R = 2 := by rw [HR.out]; rfl
          subst key
          clear f3 f4 hz
          go_enter Tryz.func58, Tryz.ntmps58
          go_wp2_with fail
          go_ret
          exact ⟨rfl, rfl⟩
        | false =>
          cases b3 with
          | true =>
            have key : R = 2 := by rw [HR.out]; rfl
            subst key
            clear f4 hz
            go_enter Tryz.func58, Tryz.ntmps58
            go_wp2_with fail
            go_ret
            exact ⟨rfl, rfl⟩
          | false =>
            cases b4 with
            | true =>
              have key : R = 2 := by rw [HR.out]; rfl
              subst key
              clear hz
              go_enter Tryz.func58, Tryz.ntmps58
              go_wp2_with fail
              go_ret
              exact ⟨rfl, rfl⟩
            | false =>
              cases e1 : isOne a
              · have key : R = 0 := by rw [HR.out, e1]; rfl
                have hz1 : ¬ 0 ≤ z := by rw [e1] at hz; simpa using hz
                subst key
                clear hz e1
                go_enter Tryz.func58, Tryz.ntmps58
                go_wp2_with (go_at_call 79; refine (I.out _).mono ?_; rintro e w' ⟨rfl, rfl⟩)
                go_ret
                exact ⟨rfl, rfl⟩
              · have key : R = 1 := by rw [HR.out, e1]; rfl
                have hz1 : 0 ≤ z := by rw [e1] at hz; simpa using hz
                subst key
                clear hz e1
                go_enter Tryz.func58, Tryz.ntmps58
                go_wp2_with (go_at_call 79; refine (I.out _).mono ?_; rintro e w' ⟨rfl, rfl⟩)
                go_ret
                exact ⟨rfl, rfl⟩
end Go.Proofs.YtkgieaoahijheaaGreatDoor.Sc
namespace Go.Proofs.YtkgieaoahijheaaGreatDoor.Sc
open Go.RowKit

theorem cell_below {w wr : World} {p : Addr} {v : Value} (hB : Below w.heap.size w wr) (h : w.cell? p = some v) : wr.cell? p = some v := by
  have hlt : p.block < w.heap.size := by
    unfold World.cell? at h
    cases hh : w.heap[p.block]? with
    | none => simp [hh] at h
    | some q => exact (Array.getElem?_eq_some_iff.1 hh).1
  exact (hB.cell hlt).trans h
theorem frozen_below {w wr : World} {p : Addr} {v : Value} {b : Bool} (hB : Below w.heap.size w wr) (hc : w.cell? p = some v) (h : w.frozen? p = b) : wr.frozen? p = b := by
  have hlt : p.block < w.heap.size := by
    unfold World.cell? at hc
    cases hh : w.heap[p.block]? with
    | none => simp [hh] at hc
    | some q => exact (Array.getElem?_eq_some_iff.1 hh).1
  exact (hB.frozen hlt).trans h
theorem below_two {w w1 w2 : World} (h1 : Below w.heap.size w w1) (h2 : Below w1.heap.size w1 w2) : Below w.heap.size w w2 := h1.trans (h2.mono h1.size)

/-- what a call hands back out of a variable of four cells, and a number -/
theorem results_tok2 {fn : Func} {p q : Tmp} (h : fn.results = #[.cell p 63, .tmp q]) (tmps : Array Value) (w : World) (b : Nat) (v0 v1 v2 v3 r : Value) (hp : tmps.getD p undef = .pointer (some ⟨b, 0, none⟩)) (hq : tmps.getD q undef = r)
    (c0 : w.cell? ⟨b, 0, none⟩ = some v0) (c1 : w.cell? ⟨b, 1, none⟩ = some v1) (c2 : w.cell? ⟨b, 2, none⟩ = some v2) (c3 : w.cell? ⟨b, 3, none⟩ = some v3) :
    (results fn tmps).run Tryz.prog w = .ok (.tuple #[.agg #[v0, v1, v2, v3], r]) w := by
  rw [results_cell_tmp h, hp, hq]
  simp [asAddr]
  go_simp

/-- the four cells of a token at the head of a block -/
structure At4 (w : World) (b : Nat) (v0 v1 v2 v3 : Value) : Prop where
  c0 : w.cell? ⟨b, 0, none⟩ = some v0
  c1 : w.cell? ⟨b, 1, none⟩ = some v1
  c2 : w.cell? ⟨b, 2, none⟩ = some v2
  c3 : w.cell? ⟨b, 3, none⟩ = some v3
  f0 : w.frozen? ⟨b, 0, none⟩ = false
  f1 : w.frozen? ⟨b, 1, none⟩ = false
  f2 : w.frozen? ⟨b, 2, none⟩ = false
  f3 : w.frozen? ⟨b, 3, none⟩ = false
theorem At4.below {w wr : World} {b : Nat} {v0 v1 v2 v3 : Value} (h : At4 w b v0 v1 v2 v3) (hB : Below w.heap.size w wr) : At4 wr b v0 v1 v2 v3 :=
  ⟨cell_below hB h.c0, cell_below hB h.c1, cell_below hB h.c2, cell_below hB h.c3, frozen_below hB h.c0 h.f0, frozen_below hB h.c1 h.f1, frozen_below hB h.c2 h.f2, frozen_below hB h.c3 h.f3⟩

/-- what first hands back -/
def ans (s : ByteArray) : Step → Value
  | .skip => .int .i64 0
  | .bad x => .tuple #[.agg #[.int .i64 0, .string ⟨#[]⟩, .int .i64 0, .int .i64 0], .int .i64 (x : Nat)]
  | .tok k m v => .tuple #[.agg #[.int .i64 (k : Nat), .string (s.extract 0 m), .int .i64 (v : Nat), .int .i64 0], .int .i64 0]

theorem after_clone {w w1 : World} (k v : Int)
    (hB : Below ((w.alloc (.cells #[.int .i64 0, .string ⟨#[]⟩, .int .i64 0, .int .i64 0] 63)).alloc (.cells #[.int .i64 k, .string ⟨#[]⟩, .int .i64 v, .int .i64 0] 63)).heap.size
      ((w.alloc (.cells #[.int .i64 0, .string ⟨#[]⟩, .int .i64 0, .int .i64 0] 63)).alloc (.cells #[.int .i64 k, .string ⟨#[]⟩, .int .i64 v, .int .i64 0] 63)) w1) :
    At4 w1 w.heap.size (.int .i64 0) (.string ⟨#[]⟩) (.int .i64 0) (.int .i64 0) ∧ At4 w1 (w.heap.size + 1) (.int .i64 k) (.string ⟨#[]⟩) (.int .i64 v) (.int .i64 0) ∧ Below w.heap.size w w1 := by
  refine ⟨At4.below ⟨by go_simp, by go_simp, by go_simp, by go_simp, by go_simp, by go_simp, by go_simp, by go_simp⟩ hB,
    At4.below ⟨by go_simp, by go_simp, by go_simp, by go_simp, by go_simp, by go_simp, by go_simp, by go_simp⟩ hB, ?_⟩
  exact ((((Below.refl _ w).alloc (Nat.le_refl _) _).alloc (by simp) _)).trans (hB.mono (by simp; omega))

set_option maxRecDepth 100000 in
set_option maxHeartbeats 2000000 in
theorem first_word (s : ByteArray) (c : UInt8) (w : World) (n m : Nat) (t : ByteArray) (hms : 0 < m ∧ m ≤ n)
    (hx : ∀ W, (Instr.index 9 (.string s) (.int .i64 0)).run Tryz.prog W = .ok (.int .u8 (c.toNat : Int)) W)
    (L : Hid (∀ W, Calls Tryz.prog 54 #[.int .u8 (c.toNat : Int)] W fun e w' => e = .returned (.bool true) ∧ w' = W))
    (W : Hid (∀ W, Calls Tryz.prog 55 #[.string s] W fun e w' => e = .returned (.int .i64 (m : Nat)) ∧ w' = W))
    (hc : ∀ W, (Instr.slice 9 (.string s) none (some (.int .i64 (m : Int))) none).run Tryz.prog W = .ok (.string t) W)
    (K : Hid (∀ W, Calls Tryz.prog 26 #[.string t] W fun e w' => e = .returned (.string t) ∧ Below W.heap.size W w')) :
    Calls Tryz.prog 33 #[.string s] w fun e w' => e = .returned (.tuple #[.agg #[.int .i64 1, .string t, .int .i64 0, .int .i64 0], .int .i64 0]) ∧ Below w.heap.size w w' := by
  have hm0 : ((m : Int) == 0) = false := beq_eq_false_iff_ne.2 (by omega)
  go_enter Tryz.func33, Tryz.ntmps33
  go_wp2_with (first | (go_at_call 54; refine (L.out _).mono ?_; rintro e w' ⟨rfl, rfl⟩) | (go_at_call 55; refine (W.out _).mono ?_; rintro e w' ⟨rfl, rfl⟩))
  refine (K.out _).mono ?_
  rintro e w1 ⟨rfl, hB⟩
  obtain ⟨⟨a0, a1, a2, a3, g0, g1, g2, g3⟩, ⟨b0, b1, b2, b3, l0, l1, l2, l3⟩, hB1⟩ := after_clone 1 0 hB
  have HB := Lib.hid hB1
  clear hB hB1
  go_wp2_with fail
  (try simp only [Exit.inBlock, Exit.then])
  refine bodyPost_ret (results_tok2 rfl _ _ w.heap.size (.int .i64 1) (.string t) (.int .i64 0) (.int .i64 0) (.int .i64 0) rfl rfl ?c0a ?c1a ?c2a ?c3a) rfl ?resta
  case c0a => go_simp
  case c1a => go_simp
  case c2a => go_simp
  case c3a => go_simp
  exact ⟨rfl, ((((HB.out.setCell (by simp) _).setCell (by simp) _).setCell (by simp) _).setCell (by simp) _).setCell (by simp) _⟩

set_option maxRecDepth 100000 in
set_option maxHeartbeats 2000000 in
theorem first_number (s : ByteArray) (c : UInt8) (w : World) (n m : Nat) (v : Nat) (hv : v ≤ 1099511627776) (t : ByteArray) (hms : 0 < m ∧ m ≤ n)
    (hx : ∀ W, (Instr.index 9 (.string s) (.int .i64 0)).run Tryz.prog W = .ok (.int .u8 (c.toNat : Int)) W)
    (L : Hid (∀ W, Calls Tryz.prog 54 #[.int .u8 (c.toNat : Int)] W fun e w' => e = .returned (.bool false) ∧ w' = W))
    (D : Hid (∀ W, Calls Tryz.prog 56 #[.int .u8 (c.toNat : Int)] W fun e w' => e = .returned (.bool true) ∧ w' = W))
    (N : Hid (∀ W, Calls Tryz.prog 57 #[.string s] W fun e w' => e = .returned (.tuple #[.int .i64 (v : Nat), .int .i64 (m : Nat)]) ∧ w' = W))
    (hc : ∀ W, (Instr.slice 9 (.string s) none (some (.int .i64 (m : Int))) none).run Tryz.prog W = .ok (.string t) W)
    (K : Hid (∀ W, Calls Tryz.prog 26 #[.string t] W fun e w' => e = .returned (.string t) ∧ Below W.heap.size W w')) :
    Calls Tryz.prog 33 #[.string s] w fun e w' => e = .returned (.tuple #[.agg #[.int .i64 2, .string t, .int .i64 (v : Nat), .int .i64 0], .int .i64 0]) ∧ Below w.heap.size w w' := by
  have hm0 : ((m : Int) == 0) = false := beq_eq_false_iff_ne.2 (by omega)
  go_enter Tryz.func33, Tryz.ntmps33
  go_wp2_with (first | (go_at_call 54; refine (L.out _).mono ?_; rintro e w' ⟨rfl, rfl⟩) | (go_at_call 56; refine (D.out _).mono ?_; rintro e w' ⟨rfl, rfl⟩) | (go_at_call 57; refine (N.out _).mono ?_; rintro e w' ⟨rfl, rfl⟩))
  refine (K.out _).mono ?_
  rintro e w1 ⟨rfl, hB⟩
  obtain ⟨⟨a0, a1, a2, a3, g0, g1, g2, g3⟩, ⟨b0, b1, b2, b3, l0, l1, l2, l3⟩, hB1⟩ := after_clone 2 (v : Nat) hB
  have HB := Lib.hid hB1
  clear hB hB1
  go_wp2_with fail
  (try simp only [Exit.inBlock, Exit.then])
  refine bodyPost_ret (results_tok2 rfl _ _ w.heap.size (.int .i64 2) (.string t) (.int .i64 (v : Nat)) (.int .i64 0) (.int .i64 0) rfl rfl ?c0a ?c1a ?c2a ?c3a) rfl ?resta
  case c0a => go_simp
  case c1a => go_simp
  case c2a => go_simp
  case c3a => go_simp
  exact ⟨rfl, ((((HB.out.setCell (by simp) _).setCell (by simp) _).setCell (by simp) _).setCell (by simp) _).setCell (by simp) _⟩

set_option maxRecDepth 100000 in
set_option maxHeartbeats 2000000 in
theorem first_mark (s : ByteArray) (c : UInt8) (w : World) (n m : Nat) (t : ByteArray) (hms : 0 < m ∧ m ≤ n)
    (hx : ∀ W, (Instr.index 9 (.string s) (.int .i64 0)).run Tryz.prog W = .ok (.int .u8 (c.toNat : Int)) W)
    (L : Hid (∀ W, Calls Tryz.prog 54 #[.int .u8 (c.toNat : Int)] W fun e w' => e = .returned (.bool false) ∧ w' = W))
    (D : Hid (∀ W, Calls Tryz.prog 56 #[.int .u8 (c.toNat : Int)] W fun e w' => e = .returned (.bool false) ∧ w' = W))
    (M : Hid (∀ W, Calls Tryz.prog 58 #[.string s] W fun e w' => e = .returned (.int .i64 (m : Nat)) ∧ w' = W))
    (hc : ∀ W, (Instr.slice 9 (.string s) none (some (.int .i64 (m : Int))) none).run Tryz.prog W = .ok (.string t) W)
    (K : Hid (∀ W, Calls Tryz.prog 26 #[.string t] W fun e w' => e = .returned (.string t) ∧ Below W.heap.size W w')) :
    Calls Tryz.prog 33 #[.string s] w fun e w' => e = .returned (.tuple #[.agg #[.int .i64 3, .string t, .int .i64 0, .int .i64 0], .int .i64 0]) ∧ Below w.heap.size w w' := by
  have hm0 : ((m : Int) == 0) = false := beq_eq_false_iff_ne.2 (by omega)
  go_enter Tryz.func33, Tryz.ntmps33
  go_wp2_with (first | (go_at_call 54; refine (L.out _).mono ?_; rintro e w' ⟨rfl, rfl⟩) | (go_at_call 56; refine (D.out _).mono ?_; rintro e w' ⟨rfl, rfl⟩) | (go_at_call 58; refine (M.out _).mono ?_; rintro e w' ⟨rfl, rfl⟩))
  refine (K.out _).mono ?_
  rintro e w1 ⟨rfl, hB⟩
  obtain ⟨⟨a0, a1, a2, a3, g0, g1, g2, g3⟩, ⟨b0, b1, b2, b3, l0, l1, l2, l3⟩, hB1⟩ := after_clone 3 0 hB
  have HB := Lib.hid hB1
  clear hB hB1
  go_wp2_with fail
  (try simp only [Exit.inBlock, Exit.then])
  refine bodyPost_ret (results_tok2 rfl _ _ w.heap.size (.int .i64 3) (.string t) (.int .i64 0) (.int .i64 0) (.int .i64 0) rfl rfl ?c0a ?c1a ?c2a ?c3a) rfl ?resta
  case c0a => go_simp
  case c1a => go_simp
  case c2a => go_simp
  case c3a => go_simp
  exact ⟨rfl, ((((HB.out.setCell (by simp) _).setCell (by simp) _).setCell (by simp) _).setCell (by simp) _).setCell (by simp) _⟩

set_option maxRecDepth 100000 in
set_option maxHeartbeats 2000000 in
theorem first_big (s : ByteArray) (c : UInt8) (w : World) (v m : Nat) (hm : 0 < m) (hv : 1099511627776 < v) 
    (hx : ∀ W, (Instr.index 9 (.string s) (.int .i64 0)).run Tryz.prog W = .ok (.int .u8 (c.toNat : Int)) W)
    (L : Hid (∀ W, Calls Tryz.prog 54 #[.int .u8 (c.toNat : Int)] W fun e w' => e = .returned (.bool false) ∧ w' = W))
    (D : Hid (∀ W, Calls Tryz.prog 56 #[.int .u8 (c.toNat : Int)] W fun e w' => e = .returned (.bool true) ∧ w' = W))
    (N : Hid (∀ W, Calls Tryz.prog 57 #[.string s] W fun e w' => e = .returned (.tuple #[.int .i64 (v : Nat), .int .i64 (m : Nat)]) ∧ w' = W)) :
    Calls Tryz.prog 33 #[.string s] w fun e w' => e = .returned (.tuple #[.agg #[.int .i64 0, .string ⟨#[]⟩, .int .i64 0, .int .i64 0], .int .i64 5]) ∧ Below w.heap.size w w' := by
  have hm0 : ((m : Int) == 0) = false := beq_eq_false_iff_ne.2 (by omega)
  go_enter Tryz.func33, Tryz.ntmps33
  go_wp2_with (first | (go_at_call 54; refine (L.out _).mono ?_; rintro e w' ⟨rfl, rfl⟩) | (go_at_call 56; refine (D.out _).mono ?_; rintro e w' ⟨rfl, rfl⟩) | (go_at_call 57; refine (N.out _).mono ?_; rintro e w' ⟨rfl, rfl⟩))
  (try simp only [Exit.inBlock, Exit.then])
  refine bodyPost_ret (results_tok2 rfl _ _ w.heap.size (.int .i64 0) (.string ⟨#[]⟩) (.int .i64 0) (.int .i64 0) (.int .i64 5) rfl rfl ?c0a ?c1a ?c2a ?c3a) rfl ?resta
  case c0a => go_simp
  case c1a => go_simp
  case c2a => go_simp
  case c3a => go_simp
  refine ⟨rfl, ?_⟩
  first
    | exact ((Below.refl _ w).alloc (Nat.le_refl _) _).alloc (by simp) _
    | exact (((((Below.refl _ w).alloc (Nat.le_refl _) _).alloc (by simp) _).setCell (by simp) _))

set_option maxRecDepth 100000 in
set_option maxHeartbeats 2000000 in
theorem first_none (s : ByteArray) (c : UInt8) (w : World) 
    (hx : ∀ W, (Instr.index 9 (.string s) (.int .i64 0)).run Tryz.prog W = .ok (.int .u8 (c.toNat : Int)) W)
    (L : Hid (∀ W, Calls Tryz.prog 54 #[.int .u8 (c.toNat : Int)] W fun e w' => e = .returned (.bool false) ∧ w' = W))
    (D : Hid (∀ W, Calls Tryz.prog 56 #[.int .u8 (c.toNat : Int)] W fun e w' => e = .returned (.bool false) ∧ w' = W))
    (M : Hid (∀ W, Calls Tryz.prog 58 #[.string s] W fun e w' => e = .returned (.int .i64 (0)) ∧ w' = W)) :
    Calls Tryz.prog 33 #[.string s] w fun e w' => e = .returned (.tuple #[.agg #[.int .i64 0, .string ⟨#[]⟩, .int .i64 0, .int .i64 0], .int .i64 2]) ∧ Below w.heap.size w w' := by
  go_enter Tryz.func33, Tryz.ntmps33
  go_wp2_with (first | (go_at_call 54; refine (L.out _).mono ?_; rintro e w' ⟨rfl, rfl⟩) | (go_at_call 56; refine (D.out _).mono ?_; rintro e w' ⟨rfl, rfl⟩) | (go_at_call 58; refine (M.out _).mono ?_; rintro e w' ⟨rfl, rfl⟩))
  (try simp only [Exit.inBlock, Exit.then])
  refine bodyPost_ret (results_tok2 rfl _ _ w.heap.size (.int .i64 0) (.string ⟨#[]⟩) (.int .i64 0) (.int .i64 0) (.int .i64 2) rfl rfl ?c0a ?c1a ?c2a ?c3a) rfl ?resta
  case c0a => go_simp
  case c1a => go_simp
  case c2a => go_simp
  case c3a => go_simp
  refine ⟨rfl, ?_⟩
  first
    | exact ((Below.refl _ w).alloc (Nat.le_refl _) _).alloc (by simp) _
    | exact (((((Below.refl _ w).alloc (Nat.le_refl _) _).alloc (by simp) _).setCell (by simp) _))

theorem first_any (s : ByteArray) (c : UInt8) (r : List UInt8) (w : World) (hm : s.size ≤ 100000) (ht : txt s = c :: r) :
    Calls Tryz.prog 33 #[.string s] w fun e w' => e = .returned (ans s (first c r)) ∧ Below w.heap.size w w' := by
  have hx : ∀ W, (Instr.index 9 (.string s) (.int .i64 0)).run Tryz.prog W = .ok (.int .u8 (c.toNat : Int)) W := idx (s := s) (k := 0) (c := c) (by rw [ht]; rfl)
  have hl := letter_any c
  have hd := digit_any c
  have hs : s.size = (c :: r).length := by rw [txt_size, ht]
  have hK : ∀ m, m ≤ s.size → ∀ W, Calls Tryz.prog 26 #[.string (s.extract 0 m)] W fun e w' => e = .returned (.string (s.extract 0 m)) ∧ Below W.heap.size W w' := fun m h W =>
    clone_any _ W (by rw [Lib.size_eq, Lib.extract_data, List.length_take, List.length_drop]; omega)
  unfold first
  cases el : letter c
  · rw [el] at hl
    rw [if_neg (by simp)]
    cases eg : digit c
    · rw [eg] at hd
      rw [if_neg (by simp)]
      have hM := fun W => mark_any s W hm (by rw [hs]; simp)
      rw [ht] at hM
      by_cases h0 : mark (c :: r) = 0
      · rw [h0] at hM
        rw [if_pos h0]
        exact first_none s c w hx (Lib.hid hl) (Lib.hid hd) (Lib.hid hM)
      · rw [if_neg h0]
        have hle := mark_pos_le c r
        exact first_mark s c w s.size (mark (c :: r)) (s.extract 0 (mark (c :: r))) ⟨by omega, by omega⟩ hx (Lib.hid hl) (Lib.hid hd) (Lib.hid hM) (cut_to s _ (by omega)) (Lib.hid (hK _ (by omega)))
    · rw [eg] at hd
      rw [if_pos rfl]
      obtain ⟨h1, h2, h3, h4⟩ := num_post (c :: r) 0 0 (fun h => by omega) (by omega)
      have hN := fun W => number_any s W hm
      rw [ht] at hN
      have hp := takeWhile_pos (r := r) eg
      have hq := takeWhile_le digit (c :: r)
      by_cases hb : numF 0 ((c :: r).takeWhile digit) ≤ mostV
      · rw [if_pos hb]
        have e := h1 hb
        rw [Nat.zero_add] at e
        rw [e] at hN
        exact first_number s c w s.size _ _ hb (s.extract 0 ((c :: r).takeWhile digit).length) ⟨hp, by omega⟩ hx (Lib.hid hl) (Lib.hid hd) (Lib.hid hN) (cut_to s _ (by omega)) (Lib.hid (hK _ (by omega)))
      · rw [if_neg hb]
        have e := h2 (by omega)
        exact first_big s c w _ _ e.2 e.1 hx (Lib.hid hl) (Lib.hid hd) (Lib.hid hN)
  · rw [el] at hl
    rw [if_pos rfl]
    have hW := fun W => word_any s W hm
    rw [ht] at hW
    have h1 := takeWhile_pos (r := r) (letter_inWord el)
    have h2 := takeWhile_le inWord (c :: r)
    exact first_word s c w s.size _ (s.extract 0 ((c :: r).takeWhile inWord).length) ⟨h1, by omega⟩ hx (Lib.hid hl) (Lib.hid hW) (cut_to s _ (by omega)) (Lib.hid (hK _ (by omega)))
end Go.Proofs.YtkgieaoahijheaaGreatDoor.Sc
namespace Go.Proofs.YtkgieaoahijheaaGreatDoor.Sc
open Go.RowKit

def str (l : List UInt8) : Value := .string ⟨l.toArray⟩
theorem str_txt (s : ByteArray) : Value.string s = str (txt s) := by unfold str; rw [Lib.mk_data]
theorem str_cut (s : ByteArray) (a b : Nat) : Value.string (s.extract a b) = str (((txt s).drop a).take (b - a)) := by unfold str; rw [Lib.extract_eq]
def cells4 (t : Tok) : List Value := [.int .i64 t.kind, str t.text, .int .i64 t.value, .int .i64 t.at_]
def cellsOf : List Tok → List Value
  | [] => []
  | t :: r => cells4 t ++ cellsOf r
def noTok : Tok := ⟨0, [], 0, 0⟩
/-- v is a slice of tokens (their type's number is e) in memory from base on -/
def OwnsT (e : TypeId) (w : World) (base : Nat) (v : Value) (L : List Tok) : Prop := w.ownsRow base e 4 v L.length (cellsOf L)
/-- from an address on lie the tokens L -/
def Cells (w : World) (b off : Nat) (L : List Tok) : Prop :=
  ∀ k, k < L.length → w.cell? ⟨b, off + k * 4, none⟩ = some (.int .i64 (L.getD k noTok).kind) ∧ w.cell? ⟨b, off + k * 4 + 1, none⟩ = some (str (L.getD k noTok).text) ∧
    w.cell? ⟨b, off + k * 4 + 2, none⟩ = some (.int .i64 (L.getD k noTok).value) ∧ w.cell? ⟨b, off + k * 4 + 3, none⟩ = some (.int .i64 (L.getD k noTok).at_)
/-- the slice value v reads as the tokens L -/
def Sees (w : World) (v : Value) (L : List Tok) : Prop :=
  ∃ (p : Option Addr) (b off c : Nat), v = .slice p L.length c ∧ (0 < L.length → p = some ⟨b, off, none⟩) ∧ Cells w b off L

theorem cellsOf_snoc : ∀ (A : List Tok) (t : Tok), cellsOf (A ++ [t]) = cellsOf A ++ cells4 t
  | [], t => by simp [cellsOf]
  | u :: r, t => by rw [List.cons_append, cellsOf, cellsOf_snoc r t, cellsOf, List.append_assoc]
theorem cellsOf_length : ∀ (A : List Tok), (cellsOf A).length = A.length * 4
  | [] => rfl
  | u :: r => by rw [cellsOf, List.length_append, cellsOf_length r, List.length_cons]; simp [cells4]; omega
theorem cellsOf_get : ∀ (A : List Tok) (k j : Nat), k < A.length → j < 4 → (cellsOf A)[k * 4 + j]? = (cells4 (A.getD k noTok))[j]?
  | [], k, j, h, _ => by simp at h
  | t :: r, 0, j, h, hj => by
    rw [cellsOf, List.getElem?_append_left (by simp [cells4]; omega)]
    simp
  | t :: r, k + 1, j, h, hj => by
    rw [cellsOf, List.getElem?_append_right (by simp [cells4]; omega)]
    have e : (k + 1) * 4 + j - (cells4 t).length = k * 4 + j := by simp [cells4]; omega
    rw [e, cellsOf_get r k j (by simpa using h) hj]
    simp
theorem cells_below {w wr : World} {b off : Nat} {L : List Tok} (h : Cells w b off L) (hB : Below w.heap.size w wr) : Cells wr b off L :=
  fun k hk => ⟨cell_below hB (h k hk).1, cell_below hB (h k hk).2.1, cell_below hB (h k hk).2.2.1, cell_below hB (h k hk).2.2.2⟩
theorem sees_below {w wr : World} {v : Value} {L : List Tok} (h : Sees w v L) (hB : Below w.heap.size w wr) : Sees wr v L := by
  obtain ⟨p, b, off, c, h1, h2, h3⟩ := h
  exact ⟨p, b, off, c, h1, h2, cells_below h3 hB⟩
theorem sees_of_owns {e : TypeId} {w : World} {base : Nat} {v : Value} {L : List Tok} (h : OwnsT e w base v L) : Sees w v L := by
  have h0 := h
  rcases h.2 with ⟨rfl, h1⟩ | ⟨g, cap, cur, rfl, hb, hg, hn, hc, hs, ht⟩
  · exact ⟨none, 0, 0, 0, by rw [h1], fun h => by omega, fun k hk => by omega⟩
  · refine ⟨_, g, 0, cap, rfl, fun _ => rfl, fun k hk => ?_⟩
    have hc : ∀ j, j < 4 → w.cell? ⟨g, 0 + k * 4 + j, none⟩ = (cells4 (L.getD k noTok))[j]? := fun j hj => by
      rw [Nat.zero_add, h0.cellAt (k * 4 + j) (by omega), cellsOf_get L k j hk hj]
    exact ⟨hc 0 (by omega), hc 1 (by omega), hc 2 (by omega), hc 3 (by omega)⟩
theorem owns_low {w : World} {base low : Nat} {e : TypeId} {size n : Nat} {v : Value} {xs : List Value} (h : w.ownsRow base e size v n xs) (hl : low ≤ base) : w.ownsRow low e size v n xs := by
  refine ⟨h.1, ?_⟩
  rcases h.2 with h1 | ⟨g, cap, cur, h1, h2, h3⟩
  · exact .inl h1
  · exact .inr ⟨g, cap, cur, h1, by omega, h3⟩
theorem owns_below {w wr : World} {base : Nat} {e : TypeId} {size n : Nat} {v : Value} {xs : List Value} (h : w.ownsRow base e size v n xs) (hb : Below w.heap.size w wr) : wr.ownsRow base e size v n xs := by
  refine ⟨h.1, ?_⟩
  rcases h.2 with h1 | ⟨g, cap, cur, h1, h2, h3, h4⟩
  · exact .inl h1
  · exact .inr ⟨g, cap, cur, h1, h2, (hb.block g (Array.getElem?_eq_some_iff.1 h3).1).trans h3, h4⟩
theorem shape {e : TypeId} {w : World} {base : Nat} {v : Value} {A : List Tok} (h : OwnsT e w base v A) : ∃ (p : Option Addr) (cap : Nat), v = .slice p A.length cap := by
  rcases h.2 with ⟨rfl, h1⟩ | ⟨g, cap, cur, rfl, hb, hg, hn, hc, hs, ht⟩
  · exact ⟨none, 0, by rw [h1]⟩
  · exact ⟨_, cap, rfl⟩
theorem info34 : (Tryz.prog.info? 63).map (fun i => (i.zero, i.size, i.bytes)) = some (some (.agg #[.int .i64 0, .string ⟨#[]⟩, .int .i64 0, .int .i64 0]), 4, 40) := by kernel_rfl
theorem cells_four (w : World) (u v x y : Value) (t : TypeId) : ∀ j z, [u, v, x, y][j]? = some z → (w.alloc (.cells #[u, v, x, y] t)).cell? ((⟨w.heap.size, 0, none⟩ : Addr).add j) = some z := by
  intro j x hj
  match j, hj with
  | 0, hj => simp at hj; subst hj; simp [Addr.add]
  | 1, hj => simp at hj; subst hj; simp [Addr.add]
  | 2, hj => simp at hj; subst hj; simp [Addr.add]
  | 3, hj => simp at hj; subst hj; simp [Addr.add]
theorem cell_grown {w w' : World} {r : Option Nat} {p : Addr} {v : Value} (hg : w.grownBy w' r) (hr : r ≠ some p.block) (h : w.cell? p = some v) : w'.cell? p = some v := by
  have hlt : p.block < w.heap.size := by
    unfold World.cell? at h
    cases hh : w.heap[p.block]? with
    | none => simp [hh] at h
    | some q => exact (Array.getElem?_eq_some_iff.1 hh).1
  exact (World.cell?_of_block (hg.block p.block hlt (fun e => hr e.symm))).trans h

/-- a token behind others, of the program's type -/
theorem append_tok {w : World} {ops : Array Oper} {rest : List Oper} {o : Oper} {a : Act} {Q : Exit → Act → World → Prop} (hgd : o.guard = none) (s x : Operand) (ts e : TypeId) (i0 : TypeInfo)
    (hts : Tryz.prog.underlying ts = some (.slice e)) (hi : Tryz.prog.info? e = some i0) (hz0 : i0.zero = some (.agg #[.int .i64 0, .string ⟨#[]⟩, .int .i64 0, .int .i64 0])) (hz1 : i0.size = 4) (hz2 : i0.bytes = 40)
    (ho : o.op = .call { callee := .builtin .append, args := #[s, x], argTypes := #[ts, ts] }) (base : Nat) (v : Value) (g : Nat) (A : List Tok) (t : Tok) (hs : a.eval s = v) (hx : a.eval x = .slice (some ⟨g, 0, none⟩) 1 1)
    (hown : OwnsT e w base v A) (hc : ∀ j z, (cells4 t)[j]? = some z → w.cell? ((⟨g, 0, none⟩ : Addr).add j) = some z) (hlen : A.length ≤ 100000) (hbase : base ≤ w.heap.size)
    (h : ∀ v' w', OwnsT e w' base v' (A ++ [t]) → w.grownBy w' v.ownBlock → wpList Tryz.prog ops Q rest (a.put o.dst v') w') : wpList Tryz.prog ops Q (o :: rest) a w := by
  refine wpList_append_own w hgd s x ts ho base e i0 _ 4 40 hts hi hz0 hz1 hz2 rfl (by decide) v A.length _ hs hown ⟨g, 0, none⟩ 1 1 (cells4 t) hx rfl hc (by simp [cells4, Value.oneCell', str]) ?_ (by omega) hbase ?_
  · unfold maxLen
    omega
  · intro v' w' h1 h2 _
    refine h v' w' ?_ h2
    unfold OwnsT
    rw [cellsOf_snoc, List.length_append, List.length_singleton]
    exact h1
end Go.Proofs.YtkgieaoahijheaaGreatDoor.Sc
