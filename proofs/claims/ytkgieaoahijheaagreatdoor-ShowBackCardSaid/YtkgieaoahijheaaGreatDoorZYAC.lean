/-
  Tokens of texts, as the document says it: what begins at a place, and all tokens; and what the laws ask of them. Nothing of the program.
  What the program's and the document's tests of bytes answer.
-/
import Derived.Test.YtkgieaoahijheaaGreatDoorRows
import Derived.Test.YtkgieaoahijheaaGreatDoorZYAA
import Derived.Below
import Derived.Deep.Draws
import Derived.WalkKit
import Derived.ProofKit
import Derived.OpenShut
import Derived.Outline
import Derived.WalkMore
import Derived.Lib.Hide
import Derived.BigGuardPart
import Derived.Deep.DeepCutAuto
import Derived.Deep.Light
import Derived.Deep.QuietTactic
import Derived.BigQuiet
import Derived.LoopTactic
import Derived.OwnWalk
import Derived.Maps.AppendAt
import Derived.Great.BuildSlice
import Derived.Laws.OwnMore
import Derived.Lib.OwnBridge
namespace Go.Proofs.YtkgieaoahijheaaGreatDoor.Sc

def letter (c : UInt8) : Bool := decide (97 ≤ c.toNat) && decide (c.toNat ≤ 122)
def digit (c : UInt8) : Bool := decide (48 ≤ c.toNat) && decide (c.toNat ≤ 57)
def between (c : UInt8) : Bool := decide (c.toNat = 32) || decide (c.toNat = 10)
def inWord (c : UInt8) : Bool := letter c || digit c || decide (c.toNat = 95)
def isOne (c : UInt8) : Bool := [44, 59, 58, 91, 93, 61, 60, 62, 43, 45, 42].contains c.toNat
def isPair (a b : UInt8) : Bool := decide (a.toNat = 46) && decide (b.toNat = 46) || (decide (a.toNat = 33) || decide (a.toNat = 60) || decide (a.toNat = 62)) && decide (b.toNat = 61)

/-- the greatest number of a text -/
def mostV : Nat := 1099511627776
/-- a number with which digits go on -/
def numF (v : Nat) (l : List UInt8) : Nat := l.foldl (fun v c => 10 * v + (c.toNat - 48)) v
/-- how many bytes the mark has with which bytes begin; 0: none -/
def mark : List UInt8 → Nat
  | [] => 0
  | [a] => if isOne a then 1 else 0
  | a :: b :: _ => if isPair a b then 2 else if isOne a then 1 else 0

structure Tok where
  kind : Nat
  text : List UInt8
  value : Nat
  at_ : Nat
/-- what stands at a place -/
inductive Step where
  | skip
  | tok (kind size value : Nat)
  | bad (e : Nat)
/-- what a text that isn't empty begins with: a token, or what is wrong -/
def first (c : UInt8) (r : List UInt8) : Step :=
  if letter c then .tok 1 ((c :: r).takeWhile inWord).length 0
  else if digit c then
    (if numF 0 ((c :: r).takeWhile digit) ≤ mostV then .tok 2 ((c :: r).takeWhile digit).length (numF 0 ((c :: r).takeWhile digit)) else .bad 5)
  else if mark (c :: r) = 0 then .bad 2 else .tok 3 (mark (c :: r)) 0
def step (c : UInt8) (r : List UInt8) : Step := if between c then .skip else first c r

/-- the tokens, or the place at which something is wrong, and what -/
inductive Res where
  | ok (l : List Tok)
  | bad (p e : Nat)
def Res.cons (t : Tok) : Res → Res
  | .ok l => .ok (t :: l)
  | .bad p e => .bad p e
def Res.app (l : List Tok) : Res → Res
  | .ok m => .ok (l ++ m)
  | .bad p e => .bad p e
theorem Res.app_nil (r : Res) : r.app [] = r := by cases r <;> rfl
theorem Res.app_cons (l : List Tok) (t : Tok) (r : Res) : (r.cons t).app l = r.app (l ++ [t]) := by cases r <;> simp [Res.cons, Res.app]

def goF : Nat → Nat → List UInt8 → Res
  | 0, _, _ => .ok []
  | _ + 1, _, [] => .ok []
  | n + 1, a, c :: r => match step c r with
    | .skip => goF n (a + 1) r
    | .bad e => .bad a e
    | .tok k m v => (goF n (a + m) ((c :: r).drop m)).cons ⟨k, (c :: r).take m, v, a⟩
/-- all tokens of bytes, the first of which stands at place a -/
def scanL (a : Nat) (l : List UInt8) : Res := goF l.length a l

theorem mark_one (a : UInt8) : mark [a] = if isOne a then 1 else 0 := rfl
theorem mark_two (a b : UInt8) (r : List UInt8) : mark (a :: b :: r) = if isPair a b then 2 else if isOne a then 1 else 0 := rfl
theorem mark_pos_le (c : UInt8) (r : List UInt8) : mark (c :: r) ≤ (c :: r).length := by
  cases r with
  | nil => rw [mark_one]; split <;> simp
  | cons b r =>
    rw [mark_two]
    split
    · simp
    · split <;> simp
theorem letter_inWord {c : UInt8} (h : letter c = true) : inWord c = true := by simp [inWord, h]
theorem takeWhile_pos {p : UInt8 → Bool} {c : UInt8} {r : List UInt8} (h : p c = true) : 0 < ((c :: r).takeWhile p).length := by
  rw [List.takeWhile_cons_of_pos h]; simp
theorem takeWhile_le (p : UInt8 → Bool) (l : List UInt8) : (l.takeWhile p).length ≤ l.length := (List.takeWhile_prefix p).length_le
/-- a token has a byte, and no more than there are -/
theorem first_size {c : UInt8} {r : List UInt8} {k m v : Nat} (h : first c r = .tok k m v) : 0 < m ∧ m ≤ (c :: r).length := by
  unfold first at h
  split at h
  · rename_i h1
    cases h
    exact ⟨takeWhile_pos (letter_inWord h1), takeWhile_le _ _⟩
  · split at h
    · rename_i h1
      split at h
      · cases h
        exact ⟨takeWhile_pos h1, takeWhile_le _ _⟩
      · cases h
    · split at h
      · cases h
      · rename_i h1
        cases h
        exact ⟨by omega, mark_pos_le c r⟩
theorem step_size {c : UInt8} {r : List UInt8} {k m v : Nat} (h : step c r = .tok k m v) : 0 < m ∧ m ≤ (c :: r).length := by
  unfold step at h
  split at h
  · cases h
  · exact first_size h

theorem goF_enough : ∀ (n m a : Nat) (l : List UInt8), l.length ≤ n → l.length ≤ m → goF n a l = goF m a l
  | 0, 0, _, _, _, _ => rfl
  | 0, m + 1, a, l, h, _ => by
    obtain rfl := List.eq_nil_of_length_eq_zero (Nat.le_zero.1 h)
    simp [goF]
  | n + 1, 0, a, l, _, h => by
    obtain rfl := List.eq_nil_of_length_eq_zero (Nat.le_zero.1 h)
    simp [goF]
  | n + 1, m + 1, a, [], _, _ => rfl
  | n + 1, m + 1, a, c :: r, h, h' => by
    simp only [goF]
    simp only [List.length_cons] at h h'
    cases hs : step c r with
    | skip => exact goF_enough n m (a + 1) r (by omega) (by omega)
    | bad e => rfl
    | tok k j v =>
      have := step_size hs
      simp only
      rw [goF_enough n m (a + j) ((c :: r).drop j) (by rw [List.length_drop, List.length_cons]; omega) (by rw [List.length_drop, List.length_cons]; omega)]
theorem scan_nil (a : Nat) : scanL a [] = .ok [] := rfl
theorem scan_skip {c : UInt8} {r : List UInt8} (a : Nat) (h : step c r = .skip) : scanL a (c :: r) = scanL (a + 1) r := by
  simp [scanL, goF, h]
theorem scan_bad {c : UInt8} {r : List UInt8} {e : Nat} (a : Nat) (h : step c r = .bad e) : scanL a (c :: r) = .bad a e := by
  simp [scanL, goF, h]
theorem scan_tok {c : UInt8} {r : List UInt8} {k m v : Nat} (a : Nat) (h : step c r = .tok k m v) :
    scanL a (c :: r) = (scanL (a + m) ((c :: r).drop m)).cons ⟨k, (c :: r).take m, v, a⟩ := by
  have := step_size h
  unfold scanL
  simp only [List.length_cons, goF, h]
  rw [goF_enough r.length ((c :: r).drop m).length _ _ (by rw [List.length_drop, List.length_cons]; omega) (Nat.le_refl _)]

/-- induction along a text, token by token -/
theorem scan_ind {Q : Nat → List UInt8 → Prop} (hn : ∀ a, Q a []) (hs : ∀ a c r, step c r = .skip → Q (a + 1) r → Q a (c :: r)) (hb : ∀ a c r e, step c r = .bad e → Q a (c :: r))
    (ht : ∀ a c r k m v, step c r = .tok k m v → Q (a + m) ((c :: r).drop m) → Q a (c :: r)) : ∀ (n a : Nat) (l : List UInt8), l.length ≤ n → Q a l
  | n, a, [], _ => hn a
  | 0, a, c :: r, h => by simp at h
  | n + 1, a, c :: r, h => by
    simp only [List.length_cons] at h
    cases e : step c r with
    | skip => exact hs a c r e (scan_ind hn hs hb ht n (a + 1) r (by omega))
    | bad x => exact hb a c r x e
    | tok k m v =>
      have := step_size e
      exact ht a c r k m v e (scan_ind hn hs hb ht n (a + m) _ (by rw [List.length_drop, List.length_cons]; omega))

/- two texts, parted by a line end -/
def nl : UInt8 := 10
theorem takeWhile_nl {p : UInt8 → Bool} (hp : p nl = false) : ∀ (x b : List UInt8), (x ++ nl :: b).takeWhile p = x.takeWhile p
  | [], b => by simp [hp]
  | c :: r, b => by
    rw [List.cons_append]
    by_cases h : p c = true
    · rw [List.takeWhile_cons_of_pos h, List.takeWhile_cons_of_pos h, takeWhile_nl hp r b]
    · rw [List.takeWhile_cons_of_neg h, List.takeWhile_cons_of_neg h]
theorem mark_nl (c : UInt8) (r b : List UInt8) : mark (c :: (r ++ nl :: b)) = mark (c :: r) := by
  cases r with
  | nil =>
    have e : isPair c nl = false := by simp [isPair, nl]
    simp [mark, e]
  | cons d r => rfl
theorem inWord_nl : inWord nl = false := by decide
theorem digit_nl : digit nl = false := by decide
theorem step_nl (c : UInt8) (r b : List UInt8) : step c (r ++ nl :: b) = step c r := by
  unfold step first
  rw [← List.cons_append, takeWhile_nl inWord_nl, takeWhile_nl digit_nl, List.cons_append, mark_nl]
def shift (d : Nat) (t : Tok) : Tok := { t with at_ := t.at_ + d }
def Res.shift (d : Nat) : Res → Res
  | .ok l => .ok (l.map (Sc.shift d))
  | .bad p e => .bad (p + d) e
theorem scan_shift (d : Nat) : ∀ (a : Nat) (l : List UInt8), scanL (a + d) l = (scanL a l).shift d := fun a l => by
  refine scan_ind (Q := fun a l => scanL (a + d) l = (scanL a l).shift d) (fun a => rfl) (fun a c r h ih => ?_) (fun a c r e h => ?_) (fun a c r k m v h ih => ?_) l.length a l (Nat.le_refl _)
  · rw [scan_skip _ h, scan_skip _ h, ← ih]
    congr 1
    omega
  · rw [scan_bad _ h, scan_bad _ h]
    rfl
  · rw [scan_tok _ h, scan_tok _ h]
    have e : a + d + m = a + m + d := by omega
    rw [e, ih]
    cases scanL (a + m) ((c :: r).drop m) <;> rfl
/-- what is told of two texts, parted by a line end -/
theorem scan_two (b : List UInt8) (a : Nat) (x : List UInt8) :
    scanL a (x ++ nl :: b) = match scanL a x with | .bad p e => .bad p e | .ok l => (scanL (a + x.length + 1) b).app l := by
  refine scan_ind (Q := fun a x => scanL a (x ++ nl :: b) = match scanL a x with | .bad p e => .bad p e | .ok l => (scanL (a + x.length + 1) b).app l)
    (fun a => ?_) (fun a c r h ih => ?_) (fun a c r e h => ?_) (fun a c r k m v h ih => ?_) x.length a x (Nat.le_refl _)
  · rw [List.nil_append, scan_skip a (by rfl), scan_nil]
    exact (Res.app_nil _).symm
  · rw [List.cons_append, scan_skip a (by rw [step_nl]; exact h), ih, scan_skip a h, List.length_cons]
    have e : a + 1 + r.length + 1 = a + (r.length + 1) + 1 := by omega
    rw [e]
  · rw [List.cons_append, scan_bad a (by rw [step_nl]; exact h), scan_bad a h]
  · have hm := (step_size h)
    rw [List.cons_append, scan_tok a (by rw [step_nl]; exact h), scan_tok a h]
    rw [← List.cons_append, List.drop_append_of_le_length hm.2, List.take_append_of_le_length hm.2, ih]
    have e : a + m + ((c :: r).drop m).length + 1 = a + (c :: r).length + 1 := by rw [List.length_drop]; omega
    rw [e]
    cases scanL (a + m) ((c :: r).drop m) with
    | bad p e => rfl
    | ok l => simp only [Res.cons]; cases scanL (a + (c :: r).length + 1) b <;> rfl

/- what stands ahead of a place that is wrong -/
theorem takeWhile_take {p : UInt8 → Bool} : ∀ (x : List UInt8) (j : Nat), (x.takeWhile p).length ≤ j → (x.take j).takeWhile p = x.takeWhile p
  | [], j, _ => by simp
  | c :: r, 0, h => by
    by_cases hc : p c = true
    · rw [List.takeWhile_cons_of_pos hc] at h; simp at h
    · simp [hc]
  | c :: r, j + 1, h => by
    rw [List.take_succ_cons]
    by_cases hc : p c = true
    · rw [List.takeWhile_cons_of_pos hc] at h ⊢
      rw [List.takeWhile_cons_of_pos hc, takeWhile_take r j (by simpa using h)]
    · simp [hc]
theorem mark_take {c : UInt8} {r : List UInt8} {j : Nat} (h0 : mark (c :: r) ≠ 0) (h : mark (c :: r) ≤ j + 1) : mark (c :: r.take j) = mark (c :: r) := by
  cases r with
  | nil => simp
  | cons d r =>
    cases j with
    | succ j => rfl
    | zero =>
      rw [mark_two] at h0 h ⊢
      rw [List.take_zero, mark_one]
      by_cases h1 : isPair c d = true
      · rw [if_pos h1] at h; omega
      · rw [if_neg h1]
theorem step_take {c : UInt8} {r : List UInt8} {k m v j : Nat} (h : step c r = .tok k m v) (hj : m ≤ j + 1) : step c (r.take j) = .tok k m v := by
  have hc : ∀ p : UInt8 → Bool, ((c :: r).takeWhile p).length ≤ j + 1 → (c :: r.take j).takeWhile p = (c :: r).takeWhile p := fun p hp => by
    rw [← List.take_succ_cons]
    exact takeWhile_take _ _ hp
  unfold step at h ⊢
  split at h
  · cases h
  · rename_i hb
    rw [if_neg hb]
    unfold first at h ⊢
    split at h
    · rename_i h1
      rw [if_pos h1]
      cases h
      rw [hc _ hj]
    · rename_i h1
      rw [if_neg h1]
      split at h
      · rename_i h2
        rw [if_pos h2]
        split at h
        · rename_i h3
          cases h
          rw [hc _ hj, if_pos h3]
        · cases h
      · rename_i h2
        rw [if_neg h2]
        split at h
        · cases h
        · rename_i h3
          cases h
          rw [mark_take h3 hj, if_neg h3]
theorem scan_ahead (a : Nat) (x : List UInt8) : ∀ p e, scanL a x = .bad p e → a ≤ p ∧ p - a ≤ x.length ∧ ∃ l, scanL a (x.take (p - a)) = .ok l := by
  refine scan_ind (Q := fun a x => ∀ p e, scanL a x = .bad p e → a ≤ p ∧ p - a ≤ x.length ∧ ∃ l, scanL a (x.take (p - a)) = .ok l)
    (fun a p e h => by cases h) (fun a c r h ih p e hp => ?_) (fun a c r e h p e' hp => ?_) (fun a c r k m v h ih p e hp => ?_) x.length a x (Nat.le_refl _)
  · rw [scan_skip a h] at hp
    obtain ⟨h1, h2, l, h3⟩ := ih p e hp
    refine ⟨by omega, by rw [List.length_cons]; omega, l, ?_⟩
    have e1 : p - a = p - (a + 1) + 1 := by omega
    rw [e1, List.take_succ_cons]
    have hs : step c (r.take (p - (a + 1))) = .skip := by
      unfold step at h ⊢
      split at h
      · rename_i hb; rw [if_pos hb]
      · exfalso
        unfold first at h
        split at h
        · cases h
        · split at h
          · split at h <;> cases h
          · split at h <;> cases h
    rw [scan_skip a hs, h3]
  · rw [scan_bad a h] at hp
    cases hp
    refine ⟨Nat.le_refl _, by omega, [], ?_⟩
    rw [Nat.sub_self, List.take_zero]
    rfl
  · have hm := step_size h
    rw [scan_tok a h] at hp
    cases hq : scanL (a + m) ((c :: r).drop m) with
    | ok l => rw [hq] at hp; cases hp
    | bad p' e' =>
      rw [hq] at hp
      cases hp
      obtain ⟨h1, h2, l, h3⟩ := ih p e hq
      rw [List.length_drop] at h2
      refine ⟨by omega, by omega, ⟨k, ((c :: r).take (p - a)).take m, v, a⟩ :: l, ?_⟩
      obtain ⟨j, hj⟩ : ∃ j, p - a = j + 1 := ⟨p - a - 1, by omega⟩
      have hs : step c (r.take j) = .tok k m v := step_take h (by omega)
      have e2 : ((c :: r).take (p - a)).drop m = ((c :: r).drop m).take (p - (a + m)) := by
        rw [List.drop_take]
        congr 1
        omega
      rw [hj, List.take_succ_cons] at e2 ⊢
      rw [scan_tok a hs, e2, h3]
      rfl
theorem scan_err {a : Nat} {x : List UInt8} : ∀ {p e}, scanL a x = .bad p e → e = 2 ∨ e = 5 := by
  intro p e
  refine scan_ind (Q := fun a x => scanL a x = .bad p e → e = 2 ∨ e = 5)
    (fun a h => by cases h) (fun a c r h ih hp => ?_) (fun a c r e' h hp => ?_) (fun a c r k m v h ih hp => ?_) x.length a x (Nat.le_refl _)
  · rw [scan_skip a h] at hp
    exact ih hp
  · rw [scan_bad a h] at hp
    cases hp
    unfold step at h
    split at h
    · cases h
    · unfold first at h
      split at h
      · cases h
      · split at h
        · split at h
          · cases h
          · cases h; exact .inr rfl
        · split at h
          · cases h; exact .inl rfl
          · cases h
  · rw [scan_tok a h] at hp
    cases hq : scanL (a + m) ((c :: r).drop m) with
    | ok l => rw [hq] at hp; cases hp
    | bad p' e' => rw [hq] at hp; cases hp; exact ih hq
end Go.Proofs.YtkgieaoahijheaaGreatDoor.Sc
namespace Go.Proofs.YtkgieaoahijheaaGreatDoor.Sc
open Go.RowKit

theorem ret_bool {a b : Bool} (h : a = b) : Ending.returned (.bool a) = .returned (.bool b) := by rw [h]
theorem beq_eq_decide (a b : Int) : (a == b) = decide (a = b) := by rw [Bool.eq_iff_iff]; simp
theorem ret_int {k : IntKind} {a b : Int} (h : a = b) : Ending.returned (.int k a) = .returned (.int k b) := by rw [h]

set_option maxHeartbeats 400000 in
theorem letter_core (z : Int) (w : World) : Calls Tryz.prog 54 #[.int .u8 z] w fun e w' => e = .returned (.bool (decide (97 ≤ z) && decide (z ≤ 122))) ∧ w' = w := by
  go_enter Tryz.func54, Tryz.ntmps54
  go_wp2_with fail
  all_goals go_ret
  all_goals exact ⟨ret_bool (by simp; omega), rfl⟩
set_option maxHeartbeats 400000 in
theorem digit_core (z : Int) (w : World) : Calls Tryz.prog 56 #[.int .u8 z] w fun e w' => e = .returned (.bool (decide (48 ≤ z) && decide (z ≤ 57))) ∧ w' = w := by
  go_enter Tryz.func56, Tryz.ntmps56
  go_wp2_with fail
  all_goals go_ret
  all_goals exact ⟨ret_bool (by simp; omega), rfl⟩
set_option maxHeartbeats 400000 in
theorem between_core (z : Int) (w : World) : Calls Tryz.prog 32 #[.int .u8 z] w fun e w' => e = .returned (.bool (decide (z = 32) || decide (z = 10))) ∧ w' = w := by
  go_enter Tryz.func32, Tryz.ntmps32
  go_wp2_with fail
  all_goals go_ret
  all_goals exact ⟨ret_bool (by simp_all [beq_eq_decide]), rfl⟩
theorem eqn {a b : Nat} : decide ((a : Int) = (b : Int)) = decide (a = b) := by
  rw [Bool.eq_iff_iff]; simp only [decide_eq_true_eq]; omega
theorem letter_any (c : UInt8) (w : World) : Calls Tryz.prog 54 #[.int .u8 (c.toNat : Int)] w fun e w' => e = .returned (.bool (letter c)) ∧ w' = w := by
  refine (letter_core (c.toNat : Int) w).mono ?_
  rintro e w' ⟨rfl, rfl⟩
  refine ⟨ret_bool ?_, rfl⟩
  unfold letter
  rw [Bool.eq_iff_iff]; simp; omega
theorem digit_any (c : UInt8) (w : World) : Calls Tryz.prog 56 #[.int .u8 (c.toNat : Int)] w fun e w' => e = .returned (.bool (digit c)) ∧ w' = w := by
  refine (digit_core (c.toNat : Int) w).mono ?_
  rintro e w' ⟨rfl, rfl⟩
  refine ⟨ret_bool ?_, rfl⟩
  unfold digit
  rw [Bool.eq_iff_iff]; simp; omega
theorem between_any (c : UInt8) (w : World) : Calls Tryz.prog 32 #[.int .u8 (c.toNat : Int)] w fun e w' => e = .returned (.bool (between c)) ∧ w' = w := by
  refine (between_core (c.toNat : Int) w).mono ?_
  rintro e w' ⟨rfl, rfl⟩
  refine ⟨ret_bool ?_, rfl⟩
  unfold between
  rw [Bool.eq_iff_iff]; simp; omega
/- is a byte a mark: the document's -/
def ones : List Nat := [44, 59, 58, 91, 93, 61, 60, 62, 43, 45, 42]
structure OnesAt (w wr : World) : Prop where
  below : Below w.heap.size w wr
  cell : ∀ k, k < 11 → wr.cell? ⟨w.heap.size, k, none⟩ = some (.int .u8 (ones.getD k 0 : Nat))
theorem ones_at (w : World) : OnesAt w (w.alloc (.cells #[.int .u8 44, .int .u8 59, .int .u8 58, .int .u8 91, .int .u8 93, .int .u8 61, .int .u8 60, .int .u8 62, .int .u8 43, .int .u8 45, .int .u8 42] 5)) :=
  ⟨(Below.refl _ w).alloc (Nat.le_refl _) _, fun k hk => by
    rw [World.cell?_alloc_mark]
    match k, hk with
    | 0, _ => rfl
    | 1, _ => rfl
    | 2, _ => rfl
    | 3, _ => rfl
    | 4, _ => rfl
    | 5, _ => rfl
    | 6, _ => rfl
    | 7, _ => rfl
    | 8, _ => rfl
    | 9, _ => rfl
    | 10, _ => rfl⟩
theorem ones_has {n : Nat} (h : ∀ j, j < 11 → ones.getD j 0 ≠ n) : ones.contains n = false := by
  cases e : ones.contains n
  · rfl
  · obtain ⟨j, hj, e⟩ := List.getElem_of_mem (List.contains_iff_mem.1 e)
    have hj2 : j < 11 := hj
    exact absurd (by simp [hj, e]) (h j hj2)
theorem u8_lt (c : UInt8) : c.toNat < 256 := UInt8.toNat_lt c
/- the program's: a byte's place in a text -/
theorem index_ge (c : UInt8) : ∀ l : List UInt8, decide (0 ≤ Lib.indexByte l c) = (l.contains c)
  | [] => rfl
  | b :: l => by
    have ih := index_ge c l
    have hg := Lib.indexByte_ge l c
    unfold Lib.indexByte
    rw [List.contains_cons]
    by_cases h : (b == c) = true
    · have h2 : (c == b) = true := by rw [beq_iff_eq] at h ⊢; exact h.symm
      simp [h, h2]
    · have h2 : (c == b) = false := by
        rw [beq_eq_false_iff_ne]
        intro e
        exact h (beq_iff_eq.2 e.symm)
      rw [if_neg h, h2, Bool.false_or, ← ih]
      split
      · rename_i e
        rw [beq_iff_eq] at e
        rw [e]
      · rename_i e
        rw [beq_iff_eq] at e
        rw [Bool.eq_iff_iff]; simp; omega
end Go.Proofs.YtkgieaoahijheaaGreatDoor.Sc
