/-
  What mark of the program answers, and its copy of a text.
-/
import Derived.Test.YtfkakdpppejehaaCWord
namespace Go.Proofs.Ytfkakdpppejehaa.Sc
open Go.RowKit

theorem clone_any (s : ByteArray) (w : World) (hm : s.size ≤ 100000) :
    Calls Try.prog 37 #[.string s] w fun e w' => e = .returned (.string s) ∧ Below w.heap.size w w' := by
  go_enter Try.func37, Try.ntmps37
  go_wp2_with (go_at_call 53; refine (Try.stringslite_Clone _ _ (by omega)).mono ?_; rintro e w' ⟨rfl, hB⟩)
  go_ret
  exact ⟨rfl, hB⟩

def singles : ByteArray := ⟨#[44, 59, 58, 91, 93, 61, 60, 62, 43, 45, 42]⟩
theorem u8_eq {a b : UInt8} : (a == b) = decide (a.toNat = b.toNat) := by
  rw [Bool.eq_iff_iff, beq_iff_eq, decide_eq_true_eq]
  exact ⟨fun h => by rw [h], fun h => UInt8.toNat_inj.1 h⟩
theorem singles_has (a : UInt8) : decide (0 ≤ Lib.indexByte singles.data.toList ((a.toNat : Int).toNat.toUInt8)) = isOne a := by
  rw [index_ge]
  have e : (a.toNat : Int).toNat.toUInt8 = a := by simp
  rw [e]
  unfold isOne singles
  simp only [List.contains_cons, u8_eq]
  simp [Bool.beq_eq_decide_eq]
theorem two_bytes {s : ByteArray} {a b : UInt8} {r : List UInt8} (h : txt s = a :: b :: r) : (s.extract 0 2).toList = [a, b] := by
  rw [Lib.extract_toList]
  simp [h]

theorem pair_eq (t : ByteArray) (a b : UInt8) (x y : UInt8) (h : t.toList = [a, b]) : (t.toList == (⟨#[x, y]⟩ : ByteArray).toList) = (decide (a.toNat = x.toNat) && decide (b.toNat = y.toNat)) := by
  have e : (⟨#[x, y]⟩ : ByteArray).toList = [x, y] := ByteArray.toList_mk [x, y]
  rw [h, e]
  show (a == x && (b == y && true)) = _
  rw [u8_eq, u8_eq, Bool.and_true]
theorem pair_bools (a b : UInt8) : isPair a b = ((decide (a.toNat = 46) && decide (b.toNat = 46)) || (decide (a.toNat = 33) && decide (b.toNat = 61)) || (decide (a.toNat = 60) && decide (b.toNat = 61)) || (decide (a.toNat = 62) && decide (b.toNat = 61))) := by
  unfold isPair
  cases decide (b.toNat = 61) <;> cases decide (a.toNat = 46) <;> cases decide (a.toNat = 33) <;> cases decide (a.toNat = 60) <;> cases decide (a.toNat = 62) <;> cases decide (b.toNat = 46) <;> rfl
theorem cut_to (s : ByteArray) (k : Nat) (h : k ≤ s.size) (W : World) : (Instr.slice 9 (.string s) none (some (.int .i64 (k : Int))) none).run Try.prog W = .ok (.string (s.extract 0 k)) W := by
  rw [run_slice_string_to_if W 9 s .i64 (k : Int) Try.underlying9, if_pos ⟨by omega, by omega⟩]
  rfl

set_option maxHeartbeats 1000000 in
theorem mark_any (s : ByteArray) (w : World) (hm : s.size ≤ 100000) (h0 : 0 < s.size) :
    Calls Try.prog 36 #[.string s] w fun e w' => e = .returned (.int .i64 (mark (txt s) : Nat)) ∧ w' = w := by
  obtain ⟨n, hn⟩ : ∃ n, n = s.size := ⟨_, rfl⟩
  have hsz : ((s.size : Nat) : Int) = (n : Int) := by rw [hn]
  rw [← hn] at hm h0
  cases ht : txt s with
  | nil => rw [hn, txt_size, ht] at h0; simp at h0
  | cons a r =>
    have hx : ∀ W, (Instr.index 9 (.string s) (.int .i64 0)).run Try.prog W = .ok (.int .u8 (a.toNat : Int)) W := idx (s := s) (k := 0) (c := a) (by rw [ht]; rfl)
    have hz := singles_has a
    obtain ⟨z, ez⟩ : ∃ z, z = Lib.indexByte singles.data.toList ((a.toNat : Int).toNat.toUInt8) := ⟨_, rfl⟩
    have hI : ∀ W, Calls Try.prog 52 #[.string ⟨#[44, 59, 58, 91, 93, 61, 60, 62, 43, 45, 42]⟩, .int .u8 (a.toNat : Int)] W fun e w' => e = .returned (.int .i64 z) ∧ w' = W := fun W => by
      rw [ez]; exact Try.strings_IndexByte singles (a.toNat : Int) W
    rw [← ez] at hz
    clear ez
    have I := Lib.hid hI
    clear hI
    cases r with
    | nil =>
      obtain rfl : n = 1 := by rw [hn, txt_size, ht]; rfl
      rw [mark_one]
      clear hn ht
      cases e1 : isOne a
      · have hz1 : ¬ 0 ≤ z := by rw [e1] at hz; simpa using hz
        clear hz e1
        go_enter Try.func36, Try.ntmps36
        go_wp2_with (go_at_call 52; go_loud (refine (I.out _).mono ?_); rintro e w' ⟨rfl, rfl⟩)
        go_ret
        exact ⟨rfl, rfl⟩
      · have hz1 : 0 ≤ z := by rw [e1] at hz; simpa using hz
        clear hz e1
        go_enter Try.func36, Try.ntmps36
        go_wp2_with (go_at_call 52; go_loud (refine (I.out _).mono ?_); rintro e w' ⟨rfl, rfl⟩)
        go_ret
        exact ⟨rfl, rfl⟩
    | cons b r =>
      rw [mark_two]
      have h2 : 2 ≤ n := by rw [hn, txt_size, ht]; simp
      have hx2 := two_bytes ht
      have hc : ∀ W, (Instr.slice 9 (.string s) none (some (.int .i64 2)) none).run Try.prog W = .ok (.string (s.extract 0 2)) W := cut_to s 2 (by omega)
      obtain ⟨t2, e2⟩ : ∃ t2, t2 = s.extract 0 2 := ⟨_, rfl⟩
      rw [← e2] at hc hx2
      have q1 := pair_eq t2 a b 46 46 hx2
      have q2 := pair_eq t2 a b 33 61 hx2
      have q3 := pair_eq t2 a b 60 61 hx2
      have q4 := pair_eq t2 a b 62 61 hx2
      rw [pair_bools]
      change _ = (decide (a.toNat = 46) && decide (b.toNat = 46)) at q1
      change _ = (decide (a.toNat = 33) && decide (b.toNat = 61)) at q2
      change _ = (decide (a.toNat = 60) && decide (b.toNat = 61)) at q3
      change _ = (decide (a.toNat = 62) && decide (b.toNat = 61)) at q4
      generalize (decide (a.toNat = 46) && decide (b.toNat = 46)) = b1 at q1 ⊢
      generalize (decide (a.toNat = 33) && decide (b.toNat = 61)) = b2 at q2 ⊢
      generalize (decide (a.toNat = 60) && decide (b.toNat = 61)) = b3 at q3 ⊢
      generalize (decide (a.toNat = 62) && decide (b.toNat = 61)) = b4 at q4 ⊢
      have f1 : binOp .eql 9 (.string t2) (.string ⟨#[46, 46]⟩) = pure (.bool b1) := by rw [binOp_string_eql, q1]
      have f2 : binOp .eql 9 (.string t2) (.string ⟨#[33, 61]⟩) = pure (.bool b2) := by rw [binOp_string_eql, q2]
      have f3 : binOp .eql 9 (.string t2) (.string ⟨#[60, 61]⟩) = pure (.bool b3) := by rw [binOp_string_eql, q3]
      have f4 : binOp .eql 9 (.string t2) (.string ⟨#[62, 61]⟩) = pure (.bool b4) := by rw [binOp_string_eql, q4]
      obtain ⟨R, hR⟩ : ∃ R, R = (if (b1 || b2 || b3 || b4) = true then 2 else if isOne a = true then 1 else 0) := ⟨_, rfl⟩
      rw [← hR]
      have HR := Lib.hid hR
      clear hn ht e2 q1 q2 q3 q4 hx2 hR
      have hsz2 : (1 : Int) < (n : Int) := by omega
      cases b1 with
      | true =>
        have key : R = 2 := by rw [HR.out]; rfl
        subst key
        clear f2 f3 f4 hz
        go_enter Try.func36, Try.ntmps36
        go_wp2_with fail
        go_ret
        exact ⟨rfl, rfl⟩
      | false =>
        cases b2 with
        | true =>
          have key : R = 2 := by rw [HR.out]; rfl
          subst key
          clear f3 f4 hz
          go_enter Try.func36, Try.ntmps36
          go_wp2_with fail
          go_ret
          exact ⟨rfl, rfl⟩
        | false =>
          cases b3 with
          | true =>
            have key : R = 2 := by rw [HR.out]; rfl
            subst key
            clear f4 hz
            go_enter Try.func36, Try.ntmps36
            go_wp2_with fail
            go_ret
            exact ⟨rfl, rfl⟩
          | false =>
            cases b4 with
            | true =>
              have key : R = 2 := by rw [HR.out]; rfl
              subst key
              clear hz
              go_enter Try.func36, Try.ntmps36
              go_wp2_with fail
              go_ret
              exact ⟨rfl, rfl⟩
            | false =>
              cases e1 : isOne a
              · have key : R = 0 := by rw [HR.out, e1]; rfl
                have hz1 : ¬ 0 ≤ z := by rw [e1] at hz; simpa using hz
                subst key
                clear hz e1
                go_enter Try.func36, Try.ntmps36
                go_wp2_with (go_at_call 52; refine (I.out _).mono ?_; rintro e w' ⟨rfl, rfl⟩)
                go_ret
                exact ⟨rfl, rfl⟩
              · have key : R = 1 := by rw [HR.out, e1]; rfl
                have hz1 : 0 ≤ z := by rw [e1] at hz; simpa using hz
                subst key
                clear hz e1
                go_enter Try.func36, Try.ntmps36
                go_wp2_with (go_at_call 52; refine (I.out _).mono ?_; rintro e w' ⟨rfl, rfl⟩)
                go_ret
                exact ⟨rfl, rfl⟩
end Go.Proofs.Ytfkakdpppejehaa.Sc
