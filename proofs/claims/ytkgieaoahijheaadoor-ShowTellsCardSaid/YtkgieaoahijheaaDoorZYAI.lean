/-
  What letter, reserved and Name of package model answer, at every text.
  What within, noSum, nums, sum and row of package model answer, and slices.Contains of numbers, at every constraint that can be read.
-/
import Derived.Test.YtkgieaoahijheaaDoorZPFun
namespace Go.Proofs.YtkgieaoahijheaaDoor
open Go.RowKit
set_option maxRecDepth 100000

def lowB (c : UInt8) : Bool := decide (97 ≤ c.toNat) && decide (c.toNat ≤ 122)
def okP (c : UInt8) : Bool := lowB c || (decide (c.toNat = 95) || (decide (48 ≤ c.toNat) && decide (c.toNat ≤ 57)))
theorem okAt_pos {i : Nat} (h : 0 < i) (c : UInt8) : okAt i c = okP c := by
  unfold okAt okP lowB
  rw [decide_eq_false (show ¬ i = 0 by omega)]
  simp
theorem okFrom_pos : ∀ (r : List UInt8) (i : Nat), 0 < i → okFrom i r = r.all okP
  | [], _, _ => rfl
  | c :: r, i, h => by rw [okFrom, okAt_pos h, okFrom_pos r (i + 1) (by omega), List.all_cons]
theorem okFrom_zero {s : List UInt8} {c : UInt8} (h : s[0]? = some c) : okFrom 0 s = (lowB c && s.all okP) := by
  cases s with
  | nil => simp at h
  | cons d r =>
    simp at h
    subst h
    rw [okFrom, okFrom_pos r 1 (by omega), List.all_cons]
    have e : okAt 0 d = lowB d := by unfold okAt lowB; simp
    rw [e]
    unfold okP
    cases lowB d <;> simp
theorem all_at {α : Type} (f : α → Bool) {L : List α} {k : Nat} {a : α} (h : L[k]? = some a) : (L.drop k).all f = (f a && (L.drop (k + 1)).all f) := by
  obtain ⟨h1, e1⟩ := List.getElem?_eq_some_iff.1 h
  rw [List.drop_eq_getElem_cons h1, List.all_cons, e1]
theorem all_done {α : Type} (f : α → Bool) {L : List α} {k : Nat} (h : L.length ≤ k) : (L.drop k).all f = true := by
  rw [List.drop_of_length_le h]
  rfl
theorem name_short {s : List UInt8} (h : s.length = 0) : nameL s = false := by
  unfold nameL
  rw [decide_eq_false (show ¬ 1 ≤ s.length by omega)]
  simp
theorem name_long {s : List UInt8} (h : 12 < s.length) : nameL s = false := by
  unfold nameL
  rw [decide_eq_false (show ¬ s.length ≤ 12 by omega)]
  simp
theorem name_is {s : List UInt8} {c : UInt8} (h : s[0]? = some c) (hl : s.length ≤ 12) : nameL s = (lowB c && (s.all okP && !wordsL.contains s)) := by
  have hp : 1 ≤ s.length := by
    cases s with
    | nil => simp at h
    | cons d r => simp
  unfold nameL
  rw [okFrom_zero h, decide_eq_true hl, decide_eq_true hp]
  cases lowB c <;> cases s.all okP <;> simp

set_option maxHeartbeats 400000 in
theorem letter_any (c : UInt8) (w : World) : Calls Tryd.prog 75 #[.int .u8 (c.toNat : Int)] w fun e w' => e = .returned (.bool (lowB c)) ∧ w' = w := by
  have hc : lowB c = (decide (97 ≤ c.toNat) && decide (c.toNat ≤ 122)) := rfl
  rw [hc]
  clear hc
  generalize c.toNat = k
  by_cases a2 : 97 ≤ k
  · have d97 : decide ((97 : Int) ≤ (k : Int)) = true := decide_eq_true (by omega)
    by_cases a3 : k ≤ 122
    · have d122 : decide ((k : Int) ≤ 122) = true := decide_eq_true (by omega)
      rw [decide_eq_true a2, decide_eq_true a3]
      go_enter Tryd.func75, Tryd.ntmps75
      go_wp2_with fail
      go_ret
      exact ⟨rfl, rfl⟩
    · have d122 : decide ((k : Int) ≤ 122) = false := decide_eq_false (by omega)
      rw [decide_eq_true a2, decide_eq_false a3]
      go_enter Tryd.func75, Tryd.ntmps75
      go_wp2_with fail
      go_ret
      exact ⟨rfl, rfl⟩
  · have d97 : decide ((97 : Int) ≤ (k : Int)) = false := decide_eq_false (by omega)
    rw [decide_eq_false a2, Bool.false_and]
    go_enter Tryd.func75, Tryd.ntmps75
    go_wp2_with fail
    go_ret
    exact ⟨rfl, rfl⟩

theorem words_or (s : List UInt8) : wordsL.contains s = (decide (s = [101, 120, 105, 115, 116, 115]) || (decide (s = [102, 111, 114, 97, 108, 108]) || (decide (s = [105, 110]) || (decide (s = [119, 104, 101, 114, 101]) || (decide (s = [97, 110, 100]) || (decide (s = [103, 111, 97, 108]) || (decide (s = [116, 114, 117, 101]) || (decide (s = [112, 114, 111, 100, 117, 99, 116]) || (decide (s = [105, 102, 102]) || (decide (s = [101, 108, 101, 109, 101, 110, 116]) || (decide (s = [100, 105, 102, 102, 101, 114, 101, 110, 116]) || (decide (s = [116, 97, 98, 108, 101]))))))))))))) := by
  unfold wordsL
  rw [Bool.eq_iff_iff]
  simp

set_option maxHeartbeats 1000000 in
theorem reserved_any (s : ByteArray) (w : World) : Calls Tryd.prog 76 #[.string s] w fun e w' => e = .returned (.bool (wordsL.contains (txt s))) ∧ w' = w := by
  rw [words_or]
  have q0 : binOp .eql 9 (.string s) (.string ⟨#[101, 120, 105, 115, 116, 115]⟩) = pure (.bool (decide (txt s = [101, 120, 105, 115, 116, 115]))) := eql_txt s ⟨#[101, 120, 105, 115, 116, 115]⟩
  have q1 : binOp .eql 9 (.string s) (.string ⟨#[102, 111, 114, 97, 108, 108]⟩) = pure (.bool (decide (txt s = [102, 111, 114, 97, 108, 108]))) := eql_txt s ⟨#[102, 111, 114, 97, 108, 108]⟩
  have q2 : binOp .eql 9 (.string s) (.string ⟨#[105, 110]⟩) = pure (.bool (decide (txt s = [105, 110]))) := eql_txt s ⟨#[105, 110]⟩
  have q3 : binOp .eql 9 (.string s) (.string ⟨#[119, 104, 101, 114, 101]⟩) = pure (.bool (decide (txt s = [119, 104, 101, 114, 101]))) := eql_txt s ⟨#[119, 104, 101, 114, 101]⟩
  have q4 : binOp .eql 9 (.string s) (.string ⟨#[97, 110, 100]⟩) = pure (.bool (decide (txt s = [97, 110, 100]))) := eql_txt s ⟨#[97, 110, 100]⟩
  have q5 : binOp .eql 9 (.string s) (.string ⟨#[103, 111, 97, 108]⟩) = pure (.bool (decide (txt s = [103, 111, 97, 108]))) := eql_txt s ⟨#[103, 111, 97, 108]⟩
  have q6 : binOp .eql 9 (.string s) (.string ⟨#[116, 114, 117, 101]⟩) = pure (.bool (decide (txt s = [116, 114, 117, 101]))) := eql_txt s ⟨#[116, 114, 117, 101]⟩
  have q7 : binOp .eql 9 (.string s) (.string ⟨#[112, 114, 111, 100, 117, 99, 116]⟩) = pure (.bool (decide (txt s = [112, 114, 111, 100, 117, 99, 116]))) := eql_txt s ⟨#[112, 114, 111, 100, 117, 99, 116]⟩
  have q8 : binOp .eql 9 (.string s) (.string ⟨#[105, 102, 102]⟩) = pure (.bool (decide (txt s = [105, 102, 102]))) := eql_txt s ⟨#[105, 102, 102]⟩
  have q9 : binOp .eql 9 (.string s) (.string ⟨#[101, 108, 101, 109, 101, 110, 116]⟩) = pure (.bool (decide (txt s = [101, 108, 101, 109, 101, 110, 116]))) := eql_txt s ⟨#[101, 108, 101, 109, 101, 110, 116]⟩
  have q10 : binOp .eql 9 (.string s) (.string ⟨#[100, 105, 102, 102, 101, 114, 101, 110, 116]⟩) = pure (.bool (decide (txt s = [100, 105, 102, 102, 101, 114, 101, 110, 116]))) := eql_txt s ⟨#[100, 105, 102, 102, 101, 114, 101, 110, 116]⟩
  have q11 : binOp .eql 9 (.string s) (.string ⟨#[116, 97, 98, 108, 101]⟩) = pure (.bool (decide (txt s = [116, 97, 98, 108, 101]))) := eql_txt s ⟨#[116, 97, 98, 108, 101]⟩
  generalize decide (txt s = [101, 120, 105, 115, 116, 115]) = b0 at q0 ⊢
  generalize decide (txt s = [102, 111, 114, 97, 108, 108]) = b1 at q1 ⊢
  generalize decide (txt s = [105, 110]) = b2 at q2 ⊢
  generalize decide (txt s = [119, 104, 101, 114, 101]) = b3 at q3 ⊢
  generalize decide (txt s = [97, 110, 100]) = b4 at q4 ⊢
  generalize decide (txt s = [103, 111, 97, 108]) = b5 at q5 ⊢
  generalize decide (txt s = [116, 114, 117, 101]) = b6 at q6 ⊢
  generalize decide (txt s = [112, 114, 111, 100, 117, 99, 116]) = b7 at q7 ⊢
  generalize decide (txt s = [105, 102, 102]) = b8 at q8 ⊢
  generalize decide (txt s = [101, 108, 101, 109, 101, 110, 116]) = b9 at q9 ⊢
  generalize decide (txt s = [100, 105, 102, 102, 101, 114, 101, 110, 116]) = b10 at q10 ⊢
  generalize decide (txt s = [116, 97, 98, 108, 101]) = b11 at q11 ⊢
  cases b0
  · skip
    cases b1
    · skip
      cases b2
      · skip
        cases b3
        · skip
          cases b4
          · skip
            cases b5
            · skip
              cases b6
              · skip
                cases b7
                · skip
                  cases b8
                  · skip
                    cases b9
                    · skip
                      cases b10
                      · skip
                        cases b11
                        · skip
                          go_enter Tryd.func76, Tryd.ntmps76
                          go_wp2_with fail
                          go_ret
                          exact ⟨rfl, rfl⟩
                        · skip
                          go_enter Tryd.func76, Tryd.ntmps76
                          go_wp2_with fail
                          go_ret
                          exact ⟨rfl, rfl⟩
                      · skip
                        go_enter Tryd.func76, Tryd.ntmps76
                        go_wp2_with fail
                        go_ret
                        exact ⟨rfl, rfl⟩
                    · skip
                      go_enter Tryd.func76, Tryd.ntmps76
                      go_wp2_with fail
                      go_ret
                      exact ⟨rfl, rfl⟩
                  · skip
                    go_enter Tryd.func76, Tryd.ntmps76
                    go_wp2_with fail
                    go_ret
                    exact ⟨rfl, rfl⟩
                · skip
                  go_enter Tryd.func76, Tryd.ntmps76
                  go_wp2_with fail
                  go_ret
                  exact ⟨rfl, rfl⟩
              · skip
                go_enter Tryd.func76, Tryd.ntmps76
                go_wp2_with fail
                go_ret
                exact ⟨rfl, rfl⟩
            · skip
              go_enter Tryd.func76, Tryd.ntmps76
              go_wp2_with fail
              go_ret
              exact ⟨rfl, rfl⟩
          · skip
            go_enter Tryd.func76, Tryd.ntmps76
            go_wp2_with fail
            go_ret
            exact ⟨rfl, rfl⟩
        · skip
          go_enter Tryd.func76, Tryd.ntmps76
          go_wp2_with fail
          go_ret
          exact ⟨rfl, rfl⟩
      · skip
        go_enter Tryd.func76, Tryd.ntmps76
        go_wp2_with fail
        go_ret
        exact ⟨rfl, rfl⟩
    · skip
      go_enter Tryd.func76, Tryd.ntmps76
      go_wp2_with fail
      go_ret
      exact ⟨rfl, rfl⟩
  · skip
    go_enter Tryd.func76, Tryd.ntmps76
    go_wp2_with fail
    go_ret
    exact ⟨rfl, rfl⟩

set_option maxRecDepth 100000 in
set_option maxHeartbeats 2000000 in
theorem pname_any (s : ByteArray) (w : World) (hm : s.size ≤ 1000000) : Calls Tryd.prog 66 #[.string s] w fun e w' => e = .returned (.bool (nameL (txt s))) ∧ w' = w := by
  obtain ⟨R, hR⟩ : ∃ R, R = nameL (txt s) := ⟨_, rfl⟩
  rw [← hR]
  have HR := Lib.hid hR
  obtain ⟨n, hn⟩ : ∃ n, n = s.size := ⟨_, rfl⟩
  have hsz : ((s.size : Nat) : Int) = (n : Int) := by rw [hn]
  rw [← hn] at hm
  have hnl : n = (txt s).length := by rw [hn, txt_size]
  have HL := Lib.hid hnl
  clear hR hn
  by_cases h0 : n = 0
  · have key : R = false := by rw [HR.out]; exact name_short (by omega)
    subst key
    have e0 : ((n : Int) == 0) = true := beq_iff_eq.2 (by omega)
    clear h0 hnl
    go_enter Tryd.func66, Tryd.ntmps66
    go_wp2_with fail
    go_ret
    exact ⟨rfl, rfl⟩
  · have e0 : ((n : Int) == 0) = false := beq_eq_false_iff_ne.2 (by omega)
    by_cases h12 : 12 < n
    · have key : R = false := by rw [HR.out]; exact name_long (by omega)
      subst key
      have e12 : decide ((12 : Int) < (n : Int)) = true := decide_eq_true (by omega)
      clear hnl
      go_enter Tryd.func66, Tryd.ntmps66
      go_wp2_with fail
      go_ret
      exact ⟨rfl, rfl⟩
    · have e12 : decide ((12 : Int) < (n : Int)) = false := decide_eq_false (by omega)
      have hp : 0 < (txt s).length := by omega
      have hc0 : (txt s)[0]? = some (txt s)[0] := List.getElem?_eq_getElem hp
      generalize (txt s)[0] = c0 at hc0
      have hx0 : ∀ W, (Instr.index 9 (.string s) (.int .i64 0)).run Tryd.prog W = .ok (.int .u8 (c0.toNat : Int)) W := idx hc0
      have hnm := HR.out.trans (name_is hc0 (by omega))
      have LT := Lib.hid (letter_any c0 w)
      have NM := Lib.hid hnm
      have HS := Lib.hid (show (txt s).all okP = ((txt s).drop 0).all okP by simp)
      have RS := Lib.hid (reserved_any s w)
      clear hnl hp hc0 hnm
      cases hl0 : lowB c0
      · rw [hl0] at LT
        have key : R = false := by rw [NM.out, hl0]; rfl
        subst key
        clear hl0
        go_enter Tryd.func66, Tryd.ntmps66
        go_wp2_with fail
        refine LT.out.mono ?_
        rintro e w1 ⟨rfl, rfl⟩
        go_wp2_with fail
        go_ret
        exact ⟨rfl, rfl⟩
      · rw [hl0] at LT
        have NM2 := Lib.hid (show R = ((txt s).all okP && !wordsL.contains (txt s)) by rw [NM.out, hl0]; rfl)
        clear hl0 NM
        go_enter Tryd.func66, Tryd.ntmps66
        go_wp2_with fail
        refine LT.out.mono ?_
        rintro e w1 ⟨rfl, rfl⟩
        go_wp2_with fail
        go_loopw [21] (fun i wr => (∃ k : Nat, k ≤ n ∧ i = .int .i64 k ∧ (txt s).all okP = ((txt s).drop k).all okP) ∧ wr = w1) (fun i _ => n - (intOf i).toNat)
        case atStart => exact ⟨⟨0, by omega, rfl, HS.out⟩, rfl⟩
        case round =>
          obtain ⟨⟨k, hk2, rfl, hrel⟩, rfl⟩ := hrel
          by_cases hlt2 : k < n
          · have hkl : k < (txt s).length := by rw [← HL.out]; exact hlt2
            have ec : (txt s)[k]? = some (txt s)[k] := List.getElem?_eq_getElem hkl
            generalize (txt s)[k] = c at ec
            have hx := idx ec
            have hstep := hrel.trans (all_at okP ec)
            have HST := Lib.hid hstep
            have CL := Lib.hid (letter_any c wr)
            have bad : okP c = false → R = false := fun h => by rw [NM2.out, HST.out, h]; rfl
            have good : okP c = true → (txt s).all okP = ((txt s).drop (k + 1)).all okP := fun h => by rw [HST.out, h, Bool.true_and]
            have HG := Lib.hid good
            have HBD := Lib.hid bad
            have eok : okP c = (lowB c || (decide (c.toNat = 95) || (decide (48 ≤ c.toNat) && decide (c.toNat ≤ 57)))) := rfl
            clear hrel ec hkl hstep bad good
            cases hl1 : lowB c
            · rw [hl1] at CL eok
              rw [Bool.false_or] at eok
              clear hl1
              by_cases a3 : c.toNat = 95 ∨ 48 ≤ c.toNat ∧ c.toNat ≤ 57
              · have NX := Lib.hid (HG.out (by
                  rw [eok]
                  simp
                  omega))
                clear eok
                rcases a3 with a4 | a4
                · have e95 : ((c.toNat : Int) == 95) = true := by rw [a4]; rfl
                  have d48 : decide ((c.toNat : Int) < 48) = false := decide_eq_false (by omega)
                  have d57 : decide ((57 : Int) < (c.toNat : Int)) = true := decide_eq_true (by omega)
                  clear a4
                  go_wp2_with fail
                  refine CL.out.mono ?_
                  rintro e w2 ⟨rfl, rfl⟩
                  go_wp2_with fail
                  all_goals try (exfalso; have e96 := beq_iff_eq.1 e95; omega)
                  go_roundw
                  case rel => exact ⟨⟨k + 1, by omega, by go_num, NX.out⟩, trivial⟩
                  case measure => simp [intOf]; omega
                · have n95 : ¬ (c.toNat : Int) = 95 := by omega
                  have e95 : ((c.toNat : Int) == 95) = false := beq_eq_false_iff_ne.2 n95
                  have d48 : decide ((c.toNat : Int) < 48) = false := decide_eq_false (by omega)
                  have d57 : decide ((57 : Int) < (c.toNat : Int)) = false := decide_eq_false (by omega)
                  go_wp2_with fail
                  refine CL.out.mono ?_
                  rintro e w2 ⟨rfl, rfl⟩
                  go_wp2_with fail
                  go_roundw
                  case rel => exact ⟨⟨k + 1, by omega, by go_num, NX.out⟩, trivial⟩
                  case measure => simp [intOf]; omega
              · have key : R = false := HBD.out (by
                  rw [eok]
                  simp
                  omega)
                subst key
                clear eok
                have n95 : ¬ (c.toNat : Int) = 95 := by omega
                have e95 : ((c.toNat : Int) == 95) = false := beq_eq_false_iff_ne.2 n95
                by_cases a6 : c.toNat < 48
                · have d48 : decide ((c.toNat : Int) < 48) = true := decide_eq_true (by omega)
                  go_wp2_with fail
                  refine CL.out.mono ?_
                  rintro e w2 ⟨rfl, rfl⟩
                  go_wp2_with fail
                  go_ret
                  exact ⟨rfl, rfl⟩
                · have d48 : decide ((c.toNat : Int) < 48) = false := decide_eq_false (by omega)
                  have d57 : decide ((57 : Int) < (c.toNat : Int)) = true := decide_eq_true (by omega)
                  go_wp2_with fail
                  refine CL.out.mono ?_
                  rintro e w2 ⟨rfl, rfl⟩
                  go_wp2_with fail
                  go_ret
                  exact ⟨rfl, rfl⟩
            · rw [hl1] at CL eok
              rw [Bool.true_or] at eok
              have NX := Lib.hid (HG.out eok)
              clear hl1 eok
              go_wp2_with fail
              refine CL.out.mono ?_
              rintro e w2 ⟨rfl, rfl⟩
              go_wp2_with fail
              go_roundw
              case rel => exact ⟨⟨k + 1, by omega, by go_num, NX.out⟩, trivial⟩
              case measure => simp [intOf]; omega
          · have hend : (txt s).all okP = true := by rw [hrel, all_done okP (by rw [← HL.out]; omega)]
            have key : R = !wordsL.contains (txt s) := by rw [NM2.out, hend]; rfl
            generalize wordsL.contains (txt s) = B at RS key
            subst key
            clear hrel hend
            go_wp2_with fail
            refine RS.out.mono ?_
            rintro e w2 ⟨rfl, rfl⟩
            cases B
            · skip
              go_wp2_with fail
              go_ret
              exact ⟨rfl, rfl⟩
            · skip
              go_wp2_with fail
              go_ret
              exact ⟨rfl, rfl⟩
end Go.Proofs.YtkgieaoahijheaaDoor
namespace Go.Proofs.YtkgieaoahijheaaDoor
open Go.RowKit
set_option maxRecDepth 100000

def inM (m n : Int) : Bool := decide (-m ≤ n) && decide (n ≤ m)
set_option maxHeartbeats 400000 in
theorem within_any (n m : Int) (w : World) (h0 : 0 ≤ m) (h1 : m ≤ 2000000000000) : Calls Tryd.prog 57 #[.int .i64 n, .int .i64 m] w fun e w' => e = .returned (.bool (inM m n)) ∧ w' = w := by
  unfold inM
  by_cases g1 : -m ≤ n
  · have d1 : decide (-m ≤ n) = true := decide_eq_true g1
    by_cases g2 : n ≤ m
    · have d2 : decide (n ≤ m) = true := decide_eq_true g2
      rw [d1, d2]
      go_enter Tryd.func57, Tryd.ntmps57
      go_wp2_with fail
      go_ret
      exact ⟨rfl, rfl⟩
    · have d2 : decide (n ≤ m) = false := decide_eq_false g2
      rw [d1, d2]
      go_enter Tryd.func57, Tryd.ntmps57
      go_wp2_with fail
      go_ret
      exact ⟨rfl, rfl⟩
  · have d1 : decide (-m ≤ n) = false := decide_eq_false g1
    rw [d1, Bool.false_and]
    go_enter Tryd.func57, Tryd.ntmps57
    go_wp2_with fail
    go_ret
    exact ⟨rfl, rfl⟩

def noSumB (rl ct : Int) (l2 : Nat) : Bool := decide (l2 = 0) && (decide (rl = 0) && decide (ct = 0))
set_option maxHeartbeats 400000 in
theorem nosum_any (kd rl ct : Int) (p1 p2 p3 : Option Addr) (l1 c1 l2 c2 l3 c3 : Nat) (w : World) :
    Calls Tryd.prog 41 #[.agg #[.int .i64 kd, .slice p1 l1 c1, .slice p2 l2 c2, .int .i64 rl, .int .i64 ct, .slice p3 l3 c3]] w fun e w' => e = .returned (.bool (noSumB rl ct l2)) ∧ Below w.heap.size w w' := by
  have HB := Lib.hid ((Below.refl _ w).alloc (Nat.le_refl _) (.cells #[.int .i64 kd, .slice p1 l1 c1, .slice p2 l2 c2, .int .i64 rl, .int .i64 ct, .slice p3 l3 c3] 28))
  unfold noSumB
  by_cases g1 : l2 = 0
  · have d1 : ((l2 : Int) == 0) = true := beq_iff_eq.2 (by omega)
    rw [decide_eq_true g1]
    clear g1
    by_cases g2 : rl = 0
    · have d2 : (rl == 0) = true := beq_iff_eq.2 g2
      rw [decide_eq_true g2]
      clear g2
      by_cases g3 : ct = 0
      · have d3 : (ct == 0) = true := beq_iff_eq.2 g3
        rw [decide_eq_true g3]
        clear g3
        go_enter Tryd.func41, Tryd.ntmps41
        go_wp2_with fail
        go_ret
        exact ⟨rfl, HB.out⟩
      · have d3 : (ct == 0) = false := beq_eq_false_iff_ne.2 g3
        rw [decide_eq_false g3]
        go_enter Tryd.func41, Tryd.ntmps41
        go_wp2_with fail
        go_ret
        exact ⟨rfl, HB.out⟩
    · have d2 : (rl == 0) = false := beq_eq_false_iff_ne.2 g2
      rw [decide_eq_false g2]
      go_enter Tryd.func41, Tryd.ntmps41
      go_wp2_with fail
      go_ret
      exact ⟨rfl, HB.out⟩
  · have d1 : ((l2 : Int) == 0) = false := beq_eq_false_iff_ne.2 (by omega)
    rw [decide_eq_false g1]
    go_enter Tryd.func41, Tryd.ntmps41
    go_wp2_with fail
    go_ret
    exact ⟨rfl, HB.out⟩

theorem all_bad {xs : List Int} {m x : Int} {k : Nat} (h : k < xs.length) (e : x = xs.getD k 0) (hx : inM m x = false) : allN xs m = false := by
  unfold inM at hx
  simp at hx
  exact all_not h e (by omega)
theorem in_of {m x : Int} (h : inM m x = true) : -m ≤ x ∧ x ≤ m := by
  unfold inM at h
  simpa using h

def numsB (xs : List Int) : Bool := decide (xs.length ≤ 96) && allN xs 1048576
set_option maxHeartbeats 1000000 in
theorem pnums_any (kd rl ct : Int) (p1 p2 p3 : Option Addr) (l1 c1 l2 c2 b3 o3 l3 c3 : Nat) (xs : List Int) (w : World) (hx : SliceOf rNum 1 w p3 b3 o3 l3 xs) :
    Calls Tryd.prog 42 #[.agg #[.int .i64 kd, .slice p1 l1 c1, .slice p2 l2 c2, .int .i64 rl, .int .i64 ct, .slice p3 l3 c3]] w fun e w' => e = .returned (.bool (numsB xs)) ∧ Below w.heap.size w w' := by
  obtain ⟨W0, hW0⟩ : ∃ W0, W0 = w.alloc (.cells #[.int .i64 kd, .slice p1 l1 c1, .slice p2 l2 c2, .int .i64 rl, .int .i64 ct, .slice p3 l3 c3] 28) := ⟨_, rfl⟩
  have hB0 : Below w.heap.size w W0 := by rw [hW0]; exact (Below.refl _ w).alloc (Nat.le_refl _) _
  have m5 : W0.cell? ⟨w.heap.size, 5, none⟩ = some (.slice p3 l3 c3) := by rw [hW0]; go_simp
  have HX := Lib.hid (nums_of (hx.below rNum_stays hB0))
  have HB := Lib.hid hB0
  have HW := Lib.hid hW0
  have hp := hx.at_
  have hl := hx.long
  obtain ⟨R, hR⟩ : ∃ R, R = numsB xs := ⟨_, rfl⟩
  rw [← hR]
  have hR2 : R = (decide (l3 ≤ 96) && allN xs 1048576) := by rw [hR, numsB, ← hl]
  have HN := Lib.hid hl
  clear hR hx hl hB0 hW0
  by_cases g1 : 96 < l3
  · rw [decide_eq_false (show ¬ l3 ≤ 96 by omega), Bool.false_and] at hR2
    subst hR2
    have d1 : decide ((96 : Int) < (l3 : Int)) = true := decide_eq_true (by omega)
    clear g1
    go_enter Tryd.func42, Tryd.ntmps42
    go_upto_region 1 with fail
    rw [← HW.out]
    go_wp2_with fail
    go_ret
    exact ⟨rfl, HB.out⟩
  · rw [decide_eq_true (show l3 ≤ 96 by omega), Bool.true_and] at hR2
    have HR := Lib.hid hR2
    have d1 : decide ((96 : Int) < (l3 : Int)) = false := decide_eq_false (by omega)
    have HZ := Lib.hid (show ∀ j, j < 0 → -1048576 ≤ xs.getD j 0 ∧ xs.getD j 0 ≤ 1048576 from fun j h => by omega)
    clear hR2
    go_enter Tryd.func42, Tryd.ntmps42
    go_upto_region 1 with fail
    rw [← HW.out]
    go_wp2_with fail
    go_loopw [12] (fun i wr => (∃ k : Nat, k ≤ l3 ∧ i = .int .i64 k ∧ ∀ j, j < k → -1048576 ≤ xs.getD j 0 ∧ xs.getD j 0 ≤ 1048576) ∧ wr = W0) (fun i _ => l3 - (intOf i).toNat)
    case atStart => exact ⟨⟨0, by omega, rfl, HZ.out⟩, rfl⟩
    case round =>
      obtain ⟨⟨k, hk, rfl, hrel⟩, rfl⟩ := hrel
      have HK := Lib.hid hrel
      by_cases hlt : k < l3
      · obtain rfl := hp (by omega)
        have c0 := HX.out.cell k hlt
        obtain ⟨x, ex⟩ : ∃ x, x = xs.getD k 0 := ⟨_, rfl⟩
        rw [← ex] at c0
        have HE := Lib.hid ex
        have C := Lib.hid (within_any x 1048576 wr (by omega) (by omega))
        clear hrel ex
        cases hi : inM 1048576 x
        · rw [hi] at C
          have key : R = false := by rw [HR.out]; exact all_bad (by rw [← HX.out.long]; exact hlt) HE.out hi
          subst key
          clear hi
          go_wp2_with fail
          refine C.out.mono ?_
          rintro e w2 ⟨rfl, rfl⟩
          go_wp2_with fail
          go_ret
          exact ⟨rfl, HB.out⟩
        · rw [hi] at C
          have NX := Lib.hid (show ∀ j, j < k + 1 → -1048576 ≤ xs.getD j 0 ∧ xs.getD j 0 ≤ 1048576 from fun j hj => by
            by_cases h : j < k
            · exact HK.out j h
            · obtain rfl : j = k := by omega
              rw [← HE.out]; exact in_of hi)
          clear hi
          go_wp2_with fail
          refine C.out.mono ?_
          rintro e w2 ⟨rfl, rfl⟩
          go_wp2_with fail
          go_roundw
          case rel => exact ⟨⟨k + 1, by omega, by go_num, NX.out⟩, trivial⟩
          case measure => simp [intOf]; omega
      · have key : R = true := by
          rw [HR.out]
          exact all_end fun j hj => HK.out j (by have := HX.out.long; omega)
        subst key
        clear hrel
        go_wp2_with fail
        go_ret
        exact ⟨rfl, HB.out⟩

open Classical in
/-- does x stand at one of the first n places? -/
noncomputable def hasB (xs : List Int) (n : Nat) (x : Int) : Bool := decide (∃ j, j < n ∧ xs.getD j 0 = x)
theorem has_yes {xs : List Int} {n k : Nat} {x : Int} (h : k < n) (e : xs.getD k 0 = x) : hasB xs n x = true := by
  unfold hasB
  exact decide_eq_true ⟨k, h, e⟩
theorem has_no {xs : List Int} {n : Nat} {x : Int} (h : ∀ j, j < n → xs.getD j 0 ≠ x) : hasB xs n x = false := by
  unfold hasB
  exact decide_eq_false fun ⟨j, h1, h2⟩ => h j h1 h2
theorem has_false {xs : List Int} {n : Nat} {x : Int} (h : hasB xs n x = false) : ∀ j, j < n → xs.getD j 0 ≠ x := by
  unfold hasB at h
  have := of_decide_eq_false h
  exact fun j h1 h2 => this ⟨j, h1, h2⟩
theorem has_true {xs : List Int} {n : Nat} {x : Int} (h : hasB xs n x = true) : ∃ j, j < n ∧ xs.getD j 0 = x := by
  unfold hasB at h
  exact of_decide_eq_true h

set_option maxHeartbeats 400000 in
theorem index_cells (p : Option Addr) (b off c len : Nat) (xs : List Int) (x : Int) (w : World) (hp : 0 < len → p = some ⟨b, off, none⟩) (hc : ∀ k, k < len → w.cell? ⟨b, off + k, none⟩ = some (.int .i64 (xs.getD k 0))) (hl : len ≤ 1000000) :
    Calls Tryd.prog 71 #[.slice p len c, .int .i64 x] w fun e w' => ∃ z : Int, e = .returned (.int .i64 z) ∧ decide (0 ≤ z) = hasB xs len x ∧ -1 ≤ z ∧ w' = w := by
  have HC := Lib.hid hc
  obtain ⟨R, hR⟩ : ∃ R, R = hasB xs len x := ⟨_, rfl⟩
  rw [← hR]
  have HR := Lib.hid hR
  have HZ := Lib.hid (show ∀ j, j < 0 → xs.getD j 0 ≠ x from fun j h => by omega)
  clear hc hR
  go_enter Tryd.func71, Tryd.ntmps71
  go_wp2
  go_loopw [8] (fun i wr => (∃ k : Nat, k ≤ len ∧ i = .int .i64 k ∧ ∀ j, j < k → xs.getD j 0 ≠ x) ∧ wr = w) (fun i _ => len - (intOf i).toNat)
  case atStart => exact ⟨⟨0, by omega, rfl, HZ.out⟩, rfl⟩
  case round =>
    obtain ⟨⟨k, hk, rfl, hrel⟩, rfl⟩ := hrel
    have HK := Lib.hid hrel
    clear hrel
    by_cases hlt : k < len
    · obtain rfl := hp (by omega)
      have c0 := HC.out k hlt
      obtain ⟨y, ey⟩ : ∃ y, y = xs.getD k 0 := ⟨_, rfl⟩
      rw [← ey] at c0
      by_cases hy : x = y
      · have key : R = true := by rw [HR.out]; exact has_yes hlt (by rw [← ey, hy])
        subst key
        have d1 : (x == y) = true := beq_iff_eq.2 hy
        clear hy ey
        go_wp2_with fail
        all_goals try (exfalso; have e96 := beq_iff_eq.1 d1; omega)
        go_ret
        exact ⟨_, rfl, by simp, by omega, rfl⟩
      · have d1 : (x == y) = false := beq_eq_false_iff_ne.2 hy
        have NX := Lib.hid (show ∀ j, j < k + 1 → xs.getD j 0 ≠ x from fun j hj => by
          by_cases h : j < k
          · exact HK.out j h
          · obtain rfl : j = k := by omega
            rw [← ey]; exact fun h => hy h.symm)
        clear ey
        go_wp2_with fail
        go_roundw
        case rel => exact ⟨⟨k + 1, by omega, by go_num, NX.out⟩, trivial⟩
        case measure => simp [intOf]; omega
    · have key : R = false := by rw [HR.out]; exact has_no fun j hj => HK.out j (by omega)
      subst key
      go_wp2_with fail
      go_ret
      exact ⟨_, rfl, by simp, by omega, rfl⟩
set_option maxHeartbeats 400000 in
theorem contains_cells (p : Option Addr) (b off c len : Nat) (xs : List Int) (x : Int) (w : World) (hp : 0 < len → p = some ⟨b, off, none⟩) (hc : ∀ k, k < len → w.cell? ⟨b, off + k, none⟩ = some (.int .i64 (xs.getD k 0))) (hl : len ≤ 1000000) :
    Calls Tryd.prog 56 #[.slice p len c, .int .i64 x] w fun e w' => e = .returned (.bool (hasB xs len x)) ∧ w' = w := by
  have C := Lib.hid (index_cells p b off c len xs x w hp hc hl)
  obtain ⟨R, hR⟩ : ∃ R, R = hasB xs len x := ⟨_, rfl⟩
  rw [← hR] at C ⊢
  clear hR hp hc hl
  go_enter Tryd.func56, Tryd.ntmps56
  go_wp2_with fail
  refine C.out.mono ?_
  rintro e w2 ⟨z, rfl, hz, hz1, rfl⟩
  have HZ := Lib.hid hz
  clear hz
  cases R
  · have d : decide (0 ≤ z) = false := HZ.out
    go_wp2_with fail
    go_ret
    exact ⟨rfl, rfl⟩
  · have d : decide (0 ≤ z) = true := HZ.out
    go_wp2_with fail
    go_ret
    exact ⟨rfl, rfl⟩
end Go.Proofs.YtkgieaoahijheaaDoor
