/-
  Tokens of texts that are cut off ahead of a token, and of tokens that are parted anew. Nothing of the program.
  Texts of models: digits of numbers, tokens and what parts them; a text of tokens that are parted is those tokens. Nothing of the program.
  Numbers by ten, of the document's answers for texts of models.
  What Same of the document's answers for lists of spans, and Decls of its answers for models, answer, at any two lists that can be read.
  What Decls of the document's answers for models answers, at any two lists of variables that can be read.
  What Alike of the document's answers for models answers, at any two lists of constraints that can be read.
  Which models the laws do not look at: plain data; readings of slices. Nothing of the program.
-/
import Derived.Test.YtkgieaoahijheaaGreatDoorZGNum
import Derived.Test.YtkgieaoahijheaaGreatDoorZYAA
import Derived.Test.YtkgieaoahijheaaGreatDoorZYAC
import Derived.Laws.IdiomStrings
import Derived.Test.YtkgieaoahijheaaGreatDoorZYAB
namespace Go.Proofs.YtkgieaoahijheaaGreatDoor.Sc

theorem step_skip {c : UInt8} {r : List UInt8} (h : step c r = .skip) (q : List UInt8) : step c q = .skip := by
  unfold step at h ⊢
  split
  · rfl
  · rename_i h1
    rw [if_neg h1] at h
    exfalso
    unfold first at h
    split at h
    · cases h
    · split at h
      · split at h <;> cases h
      · split at h <;> cases h
theorem cons_ok {t : Tok} {R : Res} {T : List Tok} (h : R.cons t = .ok T) : ∃ T', R = .ok T' ∧ T = t :: T' := by
  cases R with
  | ok l =>
    simp only [Res.cons, Res.ok.injEq] at h
    exact ⟨l, rfl, h.symm⟩
  | bad p e => cases h
/-- a token's own text is that token -/
def Own (t : Tok) : Prop := ∃ c r, t.text = c :: r ∧ step c r = .tok t.kind t.text.length t.value
/-- what is known of the tokens of bytes, the first of which stands at a -/
def Known (a : Nat) (l : List UInt8) : Prop := ∀ T, scanL a l = .ok T → T.length ≤ l.length ∧ ∀ i t, T[i]? = some t → a ≤ t.at_ ∧ t.at_ < a + l.length ∧ t.text.length ≤ l.length ∧ Own t ∧ scanL a (l.take (t.at_ - a)) = .ok (T.take i)
theorem known (a : Nat) (l : List UInt8) : Known a l := by
  refine scan_ind (Q := Known) (fun a T h => ?_) (fun a c r hs ih T h => ?_) (fun a c r e hs T h => ?_) (fun a c r k m v hs ih T h => ?_) l.length a l (Nat.le_refl _)
  · rw [scan_nil] at h
    cases h
    exact ⟨by simp, fun i t ht => by simp at ht⟩
  · rw [scan_skip a hs] at h
    obtain ⟨h1, h2⟩ := ih T h
    refine ⟨by simp; omega, fun i t ht => ?_⟩
    obtain ⟨g1, g2, g3, g4, g5⟩ := h2 i t ht
    refine ⟨by omega, by simp; omega, by simp; omega, g4, ?_⟩
    obtain ⟨x, hx⟩ : ∃ x, t.at_ - a = x + 1 := ⟨t.at_ - a - 1, by omega⟩
    rw [hx, List.take_succ_cons, scan_skip a (step_skip hs _), ← g5]
    congr 2
    omega
  · rw [scan_bad a hs] at h
    cases h
  · rw [scan_tok a hs] at h
    obtain ⟨T', h1, rfl⟩ := cons_ok h
    have hm := step_size hs
    obtain ⟨k1, k2⟩ := ih T' h1
    rw [List.length_drop] at k1
    refine ⟨by simp at hm k1 ⊢; omega, fun i t ht => ?_⟩
    have htx : ((c :: r).take m) = c :: r.take (m - 1) := by
      obtain ⟨x, rfl⟩ : ∃ x, m = x + 1 := ⟨m - 1, by omega⟩
      rw [List.take_succ_cons]
      rfl
    cases i with
    | zero =>
      simp only [List.getElem?_cons_zero, Option.some.injEq] at ht
      subst ht
      refine ⟨Nat.le_refl _, by simp, ?_, ⟨c, r.take (m - 1), htx, ?_⟩, by simp [scan_nil]⟩
      · show ((c :: r).take m).length ≤ _
        rw [List.length_take]
        omega
      · show step c (r.take (m - 1)) = .tok k ((c :: r).take m).length v
        rw [List.length_take, Nat.min_eq_left hm.2]
        exact step_take hs (by omega)
    | succ i =>
      rw [List.getElem?_cons_succ] at ht
      obtain ⟨g1, g2, g3, g4, g5⟩ := k2 i t ht
      rw [List.length_drop] at g2 g3
      refine ⟨by omega, by omega, by omega, g4, ?_⟩
      obtain ⟨x, hx⟩ : ∃ x, t.at_ - a = x + 1 := ⟨t.at_ - a - 1, by omega⟩
      have hmx : m ≤ x + 1 := by omega
      rw [hx, List.take_succ_cons, scan_tok a (step_take hs hmx), ← List.take_succ_cons, List.drop_take, List.take_take, Nat.min_eq_left hmx]
      have e : x + 1 - m = t.at_ - (a + m) := by omega
      rw [e, g5]
      rfl
theorem places_rise {a : Nat} {l : List UInt8} {T : List Tok} (h : scanL a l = .ok T) {i j : Nat} {t u : Tok} (hi : T[i]? = some t) (hj : T[j]? = some u) (hij : i ≤ j) : t.at_ ≤ u.at_ := by
  rcases Nat.lt_or_eq_of_le hij with q | rfl
  · obtain ⟨_, h2⟩ := known a l T h
    obtain ⟨g1, g2, _, _, g5⟩ := h2 j u hj
    have hit : (T.take j)[i]? = some t := by rw [List.getElem?_take, if_pos q]; exact hi
    obtain ⟨_, k2⟩ := known a (l.take (u.at_ - a)) _ g5
    obtain ⟨n1, n2, _⟩ := k2 i t hit
    rw [List.length_take] at n2
    omega
  · rw [hi] at hj
    cases hj
    exact Nat.le_refl _
/-- tokens, parted by a line end and a space -/
def joined (T : List Tok) : List UInt8 := T.flatMap fun t => nl :: 32 :: t.text
theorem scan_joined : ∀ (T : List Tok), (∀ t ∈ T, Own t) → ∀ a, ∃ U, scanL a (joined T) = .ok U ∧ U.map Pa.key = T.map Pa.key
  | [], _, a => ⟨[], rfl, rfl⟩
  | t :: T, h, a => by
    obtain ⟨c, r, e1, e2⟩ := h t (by simp)
    have hs : step c (r ++ joined T) = .tok t.kind t.text.length t.value := by
      cases T with
      | nil => rw [show joined ([] : List Tok) = [] from rfl, List.append_nil]; exact e2
      | cons u T => rw [show joined (u :: T) = nl :: (32 :: u.text ++ joined T) from rfl, step_nl]; exact e2
    obtain ⟨U, u1, u2⟩ := scan_joined T (fun x hx => h x (by simp [hx])) (a + 1 + 1 + t.text.length)
    have ej : joined (t :: T) = nl :: 32 :: c :: (r ++ joined T) := by
      show nl :: 32 :: t.text ++ joined T = _
      rw [e1]
      rfl
    have ed : (c :: (r ++ joined T)).drop t.text.length = joined T := by
      rw [← List.cons_append, ← e1, List.drop_left]
    have et : (c :: (r ++ joined T)).take t.text.length = t.text := by
      rw [← List.cons_append, ← e1, List.take_left]
    refine ⟨⟨t.kind, t.text, t.value, a + 1 + 1⟩ :: U, ?_, by simp [Pa.key, u2]⟩
    rw [ej, scan_skip a (by rfl), scan_skip (a + 1) (by rfl), scan_tok (a + 1 + 1) hs, ed, et, u1]
    rfl
end Go.Proofs.YtkgieaoahijheaaGreatDoor.Sc
namespace Go.Proofs.YtkgieaoahijheaaGreatDoor.Wt
open Sc (Tok Own letter digit inWord isPair numF mostV scanL Res between)
open Pa

def chr (n : Nat) : UInt8 := UInt8.ofNat (48 + n)
theorem chr_nat {n : Nat} (h : n < 10) : (chr n).toNat = 48 + n := by
  unfold chr
  simp
  omega
theorem chr_digit {n : Nat} (h : n < 10) : digit (chr n) = true := by
  have := chr_nat h
  simp [digit, this]
  omega
/-- a number that is not below 0, by ten -/
def digs (n : Nat) : List UInt8 := if n < 10 then [chr n] else digs (n / 10) ++ [chr (n % 10)]
termination_by n
decreasing_by omega
theorem digs_small {n : Nat} (h : n < 10) : digs n = [chr n] := by rw [digs, if_pos h]
theorem digs_great {n : Nat} (h : ¬ n < 10) : digs n = digs (n / 10) ++ [chr (n % 10)] := by rw [digs, if_neg h]
theorem digs_all (n : Nat) : ∀ c ∈ digs n, digit c = true := by
  induction n using Nat.strongRecOn with
  | _ n ih =>
    intro c hc
    by_cases h : n < 10
    · rw [digs_small h, List.mem_singleton] at hc
      rw [hc]
      exact chr_digit h
    · rw [digs_great h] at hc
      rcases List.mem_append.1 hc with q | q
      · exact ih (n / 10) (by omega) c q
      · rw [List.mem_singleton.1 q]
        exact chr_digit (by omega)
theorem digs_ne (n : Nat) : digs n ≠ [] := by
  by_cases h : n < 10
  · rw [digs_small h]; simp
  · rw [digs_great h]; simp
theorem num_snoc (v : Nat) (l : List UInt8) (c : UInt8) : numF v (l ++ [c]) = 10 * numF v l + (c.toNat - 48) := by
  unfold numF
  rw [List.foldl_append]
  rfl
theorem digs_num (n : Nat) : numF 0 (digs n) = n := by
  induction n using Nat.strongRecOn with
  | _ n ih =>
    by_cases h : n < 10
    · rw [digs_small h]
      show 10 * 0 + ((chr n).toNat - 48) = n
      rw [chr_nat h]
      omega
    · rw [digs_great h, num_snoc, ih (n / 10) (by omega), chr_nat (by omega)]
      omega
theorem digs_long (n : Nat) : ∀ k, n < 10 ^ (k + 1) → (digs n).length ≤ k + 1 := by
  induction n using Nat.strongRecOn with
  | _ n ih =>
    intro k hk
    by_cases h : n < 10
    · rw [digs_small h]
      simp
    · rw [digs_great h, List.length_append]
      cases k with
      | zero => simp at hk; omega
      | succ k =>
        have := ih (n / 10) (by omega) k (by rw [Nat.div_lt_iff_lt_mul (by decide)]; rw [Nat.pow_succ] at hk; omega)
        simp
        omega

/-- tokens that stand nowhere yet -/
def tW (s : Txt) : Tok := ⟨1, s, 0, 0⟩
def tN (n : Nat) : Tok := ⟨2, digs n, n, 0⟩
def tM (s : Txt) : Tok := ⟨3, s, 0, 0⟩
theorem takeWhile_all {p : UInt8 → Bool} : ∀ l : List UInt8, (∀ c ∈ l, p c = true) → l.takeWhile p = l
  | [], _ => rfl
  | c :: r, h => by rw [List.takeWhile_cons_of_pos (h c (by simp)), takeWhile_all r fun x hx => h x (by simp [hx])]
theorem digit_no {c : UInt8} (h : digit c = true) : letter c = false ∧ between c = false := by
  unfold digit at h
  simp only [Bool.and_eq_true, decide_eq_true_eq] at h
  unfold letter between
  constructor
  · simp
    omega
  · simp
    omega
theorem letter_no {c : UInt8} (h : letter c = true) : between c = false := by
  unfold letter at h
  simp only [Bool.and_eq_true, decide_eq_true_eq] at h
  unfold between
  simp
  omega
theorem own_num {n : Nat} (h : n ≤ mostV) : Own (tN n) := by
  obtain ⟨c, r, e⟩ : ∃ c r, digs n = c :: r := List.exists_cons_of_ne_nil (digs_ne n)
  refine ⟨c, r, e, ?_⟩
  have hall := digs_all n
  rw [e] at hall
  have hc := digit_no (hall c (by simp))
  have ht : (c :: r).takeWhile digit = c :: r := takeWhile_all _ hall
  have hn : numF 0 (c :: r) = n := by rw [← e, digs_num]
  unfold Sc.step Sc.first
  rw [hc.2, hc.1, hall c (by simp), ht, hn]
  simp only [Bool.false_eq_true, if_false, if_true]
  rw [if_pos h, ← e]
  rfl
theorem own_word {c : UInt8} {r : List UInt8} (h : letter c = true) (hr : ∀ x ∈ r, inWord x = true) : Own (tW (c :: r)) := by
  refine ⟨c, r, rfl, ?_⟩
  have ht : (c :: r).takeWhile inWord = c :: r := takeWhile_all _ fun x hx => by
    rcases List.mem_cons.1 hx with q | q
    · rw [q]; exact Sc.letter_inWord h
    · exact hr x q
  unfold Sc.step Sc.first
  rw [letter_no h, h, ht]
  rfl
theorem ok_tail : ∀ (l : List UInt8) (i : Nat), 0 < i → okFrom i l = true → ∀ x ∈ l, inWord x = true
  | [], _, _, _, x, hx => by cases hx
  | c :: r, i, hi, h, x, hx => by
    unfold okFrom at h
    rw [Bool.and_eq_true] at h
    rcases List.mem_cons.1 hx with q | q
    · rw [q]
      have h1 := h.1
      unfold okAt at h1
      unfold inWord letter digit
      simp only [Bool.or_eq_true, Bool.and_eq_true, decide_eq_true_eq, Bool.not_eq_true', decide_eq_false_iff_not] at h1 ⊢
      omega
    · exact ok_tail r (i + 1) (by omega) h.2 x q
theorem own_name {s : Txt} (h : nameL s = true) : Own (tW s) := by
  unfold nameL at h
  simp only [Bool.and_eq_true, decide_eq_true_eq] at h
  obtain ⟨_, h2, h3, _⟩ := h
  cases s with
  | nil => simp at h3
  | cons c r =>
    unfold okFrom at h2
    rw [Bool.and_eq_true] at h2
    refine own_word ?_ (ok_tail r 1 (by decide) h2.2)
    have h1 := h2.1
    unfold okAt at h1
    unfold letter
    simp at h1 ⊢
    exact h1

/- what parts tokens -/
theorem takeWhile_sep {p : UInt8 → Bool} {s : UInt8} (hp : p s = false) : ∀ (x b : List UInt8), (x ++ s :: b).takeWhile p = x.takeWhile p
  | [], b => by simp [hp]
  | c :: r, b => by
    rw [List.cons_append]
    by_cases h : p c = true
    · rw [List.takeWhile_cons_of_pos h, List.takeWhile_cons_of_pos h, takeWhile_sep hp r b]
    · rw [List.takeWhile_cons_of_neg h, List.takeWhile_cons_of_neg h]
/-- a space, or a line end -/
def Sep (s : UInt8) : Prop := s = 32 ∨ s = 10
theorem step_sep {s : UInt8} (h : Sep s) (c : UInt8) (r b : List UInt8) : Sc.step c (r ++ s :: b) = Sc.step c r := by
  have h1 : inWord s = false := by rcases h with rfl | rfl <;> decide
  have h2 : digit s = false := by rcases h with rfl | rfl <;> decide
  have h3 : Sc.mark (c :: (r ++ s :: b)) = Sc.mark (c :: r) := by
    cases r with
    | nil =>
      have e : isPair c s = false := by rcases h with rfl | rfl <;> simp [isPair]
      simp [Sc.mark, e]
    | cons d r => rfl
  unfold Sc.step Sc.first
  rw [← List.cons_append, takeWhile_sep h1, takeWhile_sep h2, List.cons_append, h3]
theorem skip_sep {s : UInt8} (h : Sep s) (r : List UInt8) : Sc.step s r = .skip := by rcases h with rfl | rfl <;> rfl
/-- tokens, each with what parts it from the next one -/
def sepL (L : List (Tok × UInt8)) : List UInt8 := L.flatMap fun x => x.1.text ++ [x.2]
theorem scan_sep : ∀ (L : List (Tok × UInt8)), (∀ x ∈ L, Own x.1 ∧ Sep x.2) → ∀ a, ∃ U, scanL a (sepL L) = .ok U ∧ U.map Pa.key = L.map fun x => Pa.key x.1
  | [], _, a => ⟨[], rfl, rfl⟩
  | (t, s) :: L, h, a => by
    obtain ⟨⟨c, r, e1, e2⟩, hs⟩ := h (t, s) (by simp)
    simp only at e1 e2 hs
    obtain ⟨U, u1, u2⟩ := scan_sep L (fun x hx => h x (by simp [hx])) (a + t.text.length + 1)
    have e3 : sepL ((t, s) :: L) = c :: (r ++ s :: sepL L) := by
      show (t.text ++ [s]) ++ sepL L = _
      rw [e1]
      simp
    have hst : Sc.step c (r ++ s :: sepL L) = .tok t.kind t.text.length t.value := by rw [step_sep hs]; exact e2
    have ed : (c :: (r ++ s :: sepL L)).drop t.text.length = s :: sepL L := by
      rw [← List.cons_append, ← e1, List.drop_left]
    have et : (c :: (r ++ s :: sepL L)).take t.text.length = t.text := by
      rw [← List.cons_append, ← e1, List.take_left]
    refine ⟨⟨t.kind, t.text, t.value, a⟩ :: U, ?_, by simp [Pa.key, u2]⟩
    rw [e3, Sc.scan_tok a hst, ed, et, Sc.scan_skip (a + t.text.length) (skip_sep hs _), u1]
    rfl
end Go.Proofs.YtkgieaoahijheaaGreatDoor.Wt
namespace Go.Proofs.YtkgieaoahijheaaGreatDoor.Wt
open Go.RowKit
set_option maxRecDepth 100000

/-- a text that is put behind another one -/
theorem cat_str (a b : List UInt8) (h : a.length + b.length ≤ 1000000000000) : binOp .add 9 (.string ⟨a.toArray⟩) (.string ⟨b.toArray⟩) = pure (.string ⟨(a ++ b).toArray⟩) := by
  have e : (⟨a.toArray⟩ : ByteArray) ++ ⟨b.toArray⟩ = ⟨(a ++ b).toArray⟩ := by
    apply ByteArray.ext
    rw [ByteArray.data_append]
    simp
  have h1 : (⟨a.toArray⟩ : ByteArray).size = a.length := by simp [ByteArray.size]
  have h2 : (⟨b.toArray⟩ : ByteArray).size = b.length := by simp [ByteArray.size]
  rw [binOp_string_add]
  simp [Op.stringOp, e, h1, h2]
  omega
end Go.Proofs.YtkgieaoahijheaaGreatDoor.Wt
namespace Go.Proofs.YtkgieaoahijheaaGreatDoor
open Go.RowKit
set_option maxRecDepth 100000

theorem span_at {w : World} {p : Option Addr} {b off len : Nat} {L : List (Int × Int)} (h : SliceOf rSpan 2 w p b off len L) {k : Nat} (hk : k < len) :
    w.cell? ⟨b, off + k * 2, none⟩ = some (.int .i64 (L.getD k (0, 0)).1) ∧ w.cell? ⟨b, off + k * 2 + 1, none⟩ = some (.int .i64 (L.getD k (0, 0)).2) := by
  have hx : k < L.length := by rw [← h.long]; exact hk
  have e : L[k]? = some (L.getD k (0, 0)) := by simp [hx]
  obtain ⟨cs, h1, h2, h3, _⟩ := h.cell k _ e
  subst h3
  exact ⟨h2 0 (by omega), h2 1 (by omega)⟩
theorem SliceOf.drewN {α : Type} {R : Reader α} {n : Nat} {w : World} {p : Option Addr} {b off len : Nat} {L : List α} (hR : R.Stays) (h : SliceOf R n w p b off len L) (m : Nat) : SliceOf R n (w.drewN m) p b off len L :=
  h.below hR ⟨rfl, rfl, rfl, Nat.le_refl _, fun _ _ => rfl⟩
theorem pair_ext {a b c d : Int} (h : (a == c && b == d) = true) : (a, b) = (c, d) := by
  simp at h
  rw [h.1, h.2]
theorem neq52 (a b c d : Int) (W : World) : Sem.run Tryz.prog (binOp .neq 71 (.agg #[.int .i64 a, .int .i64 b]) (.agg #[.int .i64 c, .int .i64 d])) W = .ok (.bool (!decide ((a, b) = (c, d)))) W := by
  go_simp
  by_cases h1 : a = c <;> by_cases h2 : b = d <;> simp [h1, h2]

set_option maxHeartbeats 400000 in
theorem ssame_cells (p q : Option Addr) (b off c b' off' c' len len' : Nat) (xs ys : List (Int × Int)) (w : World) (hx : SliceOf rSpan 2 w p b off len xs) (hy : SliceOf rSpan 2 w q b' off' len' ys) (hm : len ≤ 1000000) (hm' : len' ≤ 1000000) :
    Calls Tryz.prog 36 #[.slice p len c, .slice q len' c'] w fun e w' => e = .returned (.bool (decide (xs = ys))) ∧ ∃ n, w' = w.drewN n := by
  have HX := Lib.hid hx
  have HY := Lib.hid hy
  have hp := hx.at_
  have hq := hy.at_
  by_cases he : len = len'
  · subst he
    obtain ⟨R, hR⟩ : ∃ R, R = decide (xs = ys) := ⟨_, rfl⟩
    rw [← hR]
    have HR := Lib.hid hR
    have HS := Lib.hid (show ∀ j, j < 0 → xs.getD j (0, 0) = ys.getD j (0, 0) from fun j h => by omega)
    clear hx hy hR
    go_enter Tryz.func36, Tryz.ntmps36
    go_wp2
    go_loopw [5] (fun i wr => (∃ k : Nat, k ≤ len ∧ i = .int .i64 k ∧ ∀ j, j < k → xs.getD j (0, 0) = ys.getD j (0, 0)) ∧ ∃ n, wr = w.drewN n) (fun i _ => len - (intOf i).toNat)
    case atStart => exact ⟨⟨0, by omega, rfl, HS.out⟩, 0, rfl⟩
    case round =>
      obtain ⟨⟨k, hk, rfl, hrel⟩, hw⟩ := hrel
      have HW := Lib.hid hw
      have HE := Lib.hid hrel
      clear hw hrel
      by_cases hlt : k < len
      · obtain rfl := hp (by omega)
        obtain rfl := hq (by omega)
        have cx : SliceOf rSpan 2 wr (some ⟨b, off, none⟩) b off len xs := by obtain ⟨n, rfl⟩ := HW.out; exact HX.out.drewN rSpan_stays n
        have cy : SliceOf rSpan 2 wr (some ⟨b', off', none⟩) b' off' len ys := by obtain ⟨n, rfl⟩ := HW.out; exact HY.out.drewN rSpan_stays n
        obtain ⟨a0, a1⟩ := span_at cx hlt
        obtain ⟨b0, b1⟩ := span_at cy hlt
        obtain ⟨⟨x0, x1⟩, ex⟩ : ∃ x, x = xs.getD k (0, 0) := ⟨_, rfl⟩
        obtain ⟨⟨y0, y1⟩, ey⟩ : ∃ y, y = ys.getD k (0, 0) := ⟨_, rfl⟩
        rw [← ex] at a0 a1
        rw [← ey] at b0 b1
        have hne := neq52 x0 x1 y0 y1
        by_cases hxy : (x0, x1) = (y0, y1)
        · have EK := Lib.hid (show ∀ j, j < k + 1 → xs.getD j (0, 0) = ys.getD j (0, 0) from fun j hj => by
            by_cases h : j < k
            · exact HE.out j h
            · obtain rfl : j = k := by omega
              rw [← ex, ← ey, hxy])
          rw [decide_eq_true hxy] at hne
          clear ex ey cx cy hxy
          go_wp2
          go_quiet (fail)
          go_wp2_with fail
          go_roundw
          case rel => exact ⟨⟨k + 1, by omega, by go_num, EK.out⟩, drewN_on HW.out⟩
          case measure => simp [intOf]; omega
        · have key : R = false := by
            rw [HR.out]
            refine decide_eq_false fun h => hxy ?_
            rw [ex, ey, h]
          subst key
          rw [decide_eq_false hxy] at hne
          clear ex ey cx cy hxy
          go_wp2
          go_quiet (fail)
          go_wp2_with fail
          go_ret
          exact ⟨rfl, drewN_on HW.out⟩
      · have key : R = true := by
          rw [HR.out]
          refine decide_eq_true (List.ext_getElem (by rw [← HX.out.long, ← HY.out.long]) fun j h1 h2 => ?_)
          have := HE.out j (by have := HX.out.long; omega)
          simpa [h1, h2] using this
        subst key
        go_wp2
        go_ret
        exact ⟨rfl, HW.out⟩
  · have key : decide (xs = ys) = false := decide_eq_false fun h => he (by rw [hx.long, hy.long, h])
    rw [key]
    have he2 : ((len : Int) == (len' : Int)) = false := beq_eq_false_iff_ne.2 (by omega)
    clear hx hy key hp hq
    go_enter Tryz.func36, Tryz.ntmps36
    go_wp2_with fail
    go_ret
    exact ⟨rfl, 0, rfl⟩
theorem ssame_any {w : World} {u v : Value} {xs ys : List (Int × Int)} (hx : Slc rSpan 2 w u xs) (hy : Slc rSpan 2 w v ys) (hm : xs.length ≤ 1000000) (hm' : ys.length ≤ 1000000) :
    Calls Tryz.prog 36 #[u, v] w fun e w' => e = .returned (.bool (decide (xs = ys))) ∧ ∃ n, w' = w.drewN n := by
  obtain ⟨p, b, off, c, len, rfl, _, hs⟩ := hx
  obtain ⟨q, b', off', c', len', rfl, _, ht⟩ := hy
  exact ssame_cells p q b off c b' off' c' len len' xs ys w hs ht (by rw [hs.long]; exact hm) (by rw [ht.long]; exact hm')
end Go.Proofs.YtkgieaoahijheaaGreatDoor
namespace Go.Proofs.YtkgieaoahijheaaGreatDoor
open Go.RowKit
set_option maxRecDepth 100000

/-- are two lists the same, element by element? -/
def listB {α : Type} (eq : α → α → Bool) : List α → List α → Bool
  | [], [] => true
  | a :: r, b :: s => eq a b && listB eq r s
  | _, _ => false
theorem listB_iff {α : Type} {eq : α → α → Bool} (h : ∀ a b, eq a b = true ↔ a = b) : ∀ xs ys : List α, listB eq xs ys = true ↔ xs = ys
  | [], [] => by simp [listB]
  | a :: r, b :: s => by rw [listB, Bool.and_eq_true, h, listB_iff h r s]; simp
  | [], b :: s => by simp [listB]
  | a :: r, [] => by simp [listB]
theorem listB_len {α : Type} (eq : α → α → Bool) : ∀ xs ys : List α, xs.length ≠ ys.length → listB eq xs ys = false
  | [], [], h => absurd rfl h
  | a :: r, b :: s, h => by rw [listB, listB_len eq r s (fun e => h (by rw [List.length_cons, List.length_cons, e])), Bool.and_false]
  | [], b :: s, _ => rfl
  | a :: r, [], _ => rfl
theorem listB_at {α : Type} (eq : α → α → Bool) {xs ys : List α} {k : Nat} {a b : α} (ha : xs[k]? = some a) (hb : ys[k]? = some b) : listB eq (xs.drop k) (ys.drop k) = (eq a b && listB eq (xs.drop (k + 1)) (ys.drop (k + 1))) := by
  obtain ⟨h1, e1⟩ := List.getElem?_eq_some_iff.1 ha
  obtain ⟨h2, e2⟩ := List.getElem?_eq_some_iff.1 hb
  rw [List.drop_eq_getElem_cons h1, List.drop_eq_getElem_cons h2, listB, e1, e2]
theorem listB_end {α : Type} (eq : α → α → Bool) {xs ys : List α} {k : Nat} (h1 : xs.length ≤ k) (h2 : ys.length ≤ k) : listB eq (xs.drop k) (ys.drop k) = true := by
  rw [List.drop_of_length_le h1, List.drop_of_length_le h2, listB]

def sameD (a b : PDecl) : Bool := decide (a.name = b.name) && decide (a.dom = b.dom)
theorem sameD_iff (a b : PDecl) : sameD a b = true ↔ a = b := by
  obtain ⟨n, d⟩ := a
  obtain ⟨n', d'⟩ := b
  simp [sameD]

theorem decl_at {w : World} {p : Option Addr} {b off len : Nat} {L : List PDecl} (h : SliceOf rDecl 2 w p b off len L) {k : Nat} (hk : k < len) :
    ∃ (d : PDecl) (s : ByteArray) (v : Value), L[k]? = some d ∧ w.cell? ⟨b, off + k * 2, none⟩ = some (.string s) ∧ w.cell? ⟨b, off + k * 2 + 1, none⟩ = some v ∧ txt s = d.name ∧ Slc rSpan 2 w v d.dom := by
  have hx : k < L.length := by rw [← h.long]; exact hk
  have e : L[k]? = some L[k] := List.getElem?_eq_getElem hx
  obtain ⟨cs, h1, h2, s, v, h3, h4, h5⟩ := h.cell k _ e
  subst h3
  exact ⟨_, s, v, e, h2 0 (by omega), h2 1 (by omega), h4, h5⟩
theorem neq_txt (s q : ByteArray) : binOp .neq 9 (.string s) (.string q) = pure (.bool (!decide (txt s = txt q))) := by
  rw [binOp_string_neq]
  congr 2
  rw [Lib.toList_data, Lib.toList_data, Bool.eq_iff_iff]
  simp

set_option maxRecDepth 100000 in
set_option maxHeartbeats 1000000 in
theorem decls_cells (p q : Option Addr) (b off c b' off' c' len len' : Nat) (xs ys : List PDecl) (w : World) (hx : SliceOf rDecl 2 w p b off len xs) (hy : SliceOf rDecl 2 w q b' off' len' ys) (hm : len ≤ 1000000) (hm' : len' ≤ 1000000)
    (sx : ∀ d ∈ xs, d.dom.length ≤ 1000000) (sy : ∀ d ∈ ys, d.dom.length ≤ 1000000) :
    Calls Tryz.prog 20 #[.slice p len c, .slice q len' c'] w fun e w' => e = .returned (.bool (listB sameD xs ys)) ∧ ∃ n, w' = w.drewN n := by
  have HX := Lib.hid hx
  have HY := Lib.hid hy
  have SX := Lib.hid sx
  have SY := Lib.hid sy
  have hp := hx.at_
  have hq := hy.at_
  by_cases he : len = len'
  · subst he
    obtain ⟨R, hR⟩ : ∃ R, R = listB sameD xs ys := ⟨_, rfl⟩
    rw [← hR]
    have HR := Lib.hid hR
    have HS := Lib.hid (show R = listB sameD (xs.drop 0) (ys.drop 0) by rw [hR]; simp)
    clear hx hy hR sx sy
    go_enter Tryz.func20, Tryz.ntmps20
    go_wp2
    go_loopw [5] (fun i wr => (∃ k : Nat, k ≤ len ∧ i = .int .i64 k ∧ R = listB sameD (xs.drop k) (ys.drop k)) ∧ ∃ n, wr = w.drewN n) (fun i _ => len - (intOf i).toNat)
    case atStart => exact ⟨⟨0, by omega, rfl, HS.out⟩, 0, rfl⟩
    case round =>
      obtain ⟨⟨k, hk, rfl, hrel⟩, hw⟩ := hrel
      have HW := Lib.hid hw
      clear hw
      by_cases hlt : k < len
      · obtain rfl := hp (by omega)
        obtain rfl := hq (by omega)
        have cx : SliceOf rDecl 2 wr (some ⟨b, off, none⟩) b off len xs := by obtain ⟨n, rfl⟩ := HW.out; exact HX.out.drewN rDecl_stays n
        have cy : SliceOf rDecl 2 wr (some ⟨b', off', none⟩) b' off' len ys := by obtain ⟨n, rfl⟩ := HW.out; exact HY.out.drewN rDecl_stays n
        obtain ⟨d, s, v, ex, a0, a1, hs, hv⟩ := decl_at cx hlt
        obtain ⟨d', s', v', ey, b0, b1, hs', hv'⟩ := decl_at cy hlt
        have hstep := hrel.trans (listB_at sameD ex ey)
        have hne := neq_txt s s'
        rw [hs, hs'] at hne
        have hsd : sameD d d' = (decide (d.name = d'.name) && decide (d.dom = d'.dom)) := rfl
        have SM := Lib.hid (fun m => ssame_any (Slc.below rSpan_stays hv (w' := wr.drewN m) ⟨rfl, rfl, rfl, Nat.le_refl _, fun _ _ => rfl⟩) (Slc.below rSpan_stays hv' (w' := wr.drewN m) ⟨rfl, rfl, rfl, Nat.le_refl _, fun _ _ => rfl⟩) (SX.out d (List.mem_of_getElem? ex)) (SY.out d' (List.mem_of_getElem? ey)))
        clear ex ey cx cy hrel hv hv' hs hs'
        by_cases hn : d.name = d'.name
        · rw [decide_eq_true hn] at hne hsd
          by_cases hd : d.dom = d'.dom
          · rw [decide_eq_true hd] at hsd SM
            rw [hsd] at hstep
            have NX := Lib.hid (hstep.trans (Bool.true_and _))
            clear hstep hsd hn hd
            go_wp2
            go_quiet ((go_at_call 36; exact Calls.quiet_of (SM.out _)))
            go_wp2_with fail
            go_roundw
            case rel => exact ⟨⟨k + 1, by omega, by go_num, NX.out⟩, drewN_on HW.out⟩
            case measure => simp [intOf]; omega
          · rw [decide_eq_false hd] at hsd SM
            rw [hsd] at hstep
            have key : R = false := hstep.trans (Bool.false_and _)
            subst key
            clear hstep hsd hn hd
            go_wp2
            go_quiet ((go_at_call 36; exact Calls.quiet_of (SM.out _)))
            go_wp2_with fail
            go_ret
            exact ⟨rfl, drewN_on HW.out⟩
        · rw [decide_eq_false hn] at hne hsd
          rw [hsd, Bool.false_and] at hstep
          have key : R = false := hstep.trans (Bool.false_and _)
          subst key
          clear hstep hsd hn
          go_wp2
          go_quiet (fail)
          go_wp2_with fail
          go_ret
          exact ⟨rfl, drewN_on HW.out⟩
      · have key : R = true := by
          rw [hrel]
          exact listB_end sameD (by rw [← HX.out.long]; omega) (by rw [← HY.out.long]; omega)
        subst key
        clear hrel
        go_wp2
        go_ret
        exact ⟨rfl, HW.out⟩
  · have key : listB sameD xs ys = false := listB_len _ _ _ (by rw [← hx.long, ← hy.long]; exact he)
    rw [key]
    have he2 : ((len : Int) == (len' : Int)) = false := beq_eq_false_iff_ne.2 (by omega)
    clear hx hy key hp hq sx sy
    go_enter Tryz.func20, Tryz.ntmps20
    go_wp2_with fail
    go_ret
    exact ⟨rfl, 0, rfl⟩
theorem decls_any {w : World} {u v : Value} {xs ys : List PDecl} (hx : Slc rDecl 2 w u xs) (hy : Slc rDecl 2 w v ys) (hm : xs.length ≤ 1000000) (hm' : ys.length ≤ 1000000)
    (sx : ∀ d ∈ xs, d.dom.length ≤ 1000000) (sy : ∀ d ∈ ys, d.dom.length ≤ 1000000) :
    Calls Tryz.prog 20 #[u, v] w fun e w' => e = .returned (.bool (listB sameD xs ys)) ∧ ∃ n, w' = w.drewN n := by
  obtain ⟨p, b, off, c, len, rfl, _, hs⟩ := hx
  obtain ⟨q, b', off', c', len', rfl, _, ht⟩ := hy
  exact decls_cells p q b off c b' off' c' len len' xs ys w hs ht (by rw [hs.long]; exact hm) (by rw [ht.long]; exact hm') sx sy
end Go.Proofs.YtkgieaoahijheaaGreatDoor
namespace Go.Proofs.YtkgieaoahijheaaGreatDoor
open Go.RowKit
set_option maxRecDepth 100000

def sameC (a b : PCon) : Bool := decide (a.kind = b.kind) && (decide (a.rel = b.rel) && (decide (a.const = b.const) && (decide (a.vars = b.vars) && (decide (a.coefs = b.coefs) && decide (a.nums = b.nums)))))
theorem sameC_iff (a b : PCon) : sameC a b = true ↔ a = b := by
  obtain ⟨k, v, c, r, x, n⟩ := a
  obtain ⟨k', v', c', r', x', n'⟩ := b
  simp only [sameC, Bool.and_eq_true, decide_eq_true_eq, PCon.mk.injEq]
  constructor
  · rintro ⟨h1, h2, h3, h4, h5, h6⟩
    exact ⟨h1, h4, h5, h2, h3, h6⟩
  · rintro ⟨h1, h4, h5, h2, h3, h6⟩
    exact ⟨h1, h2, h3, h4, h5, h6⟩

theorem con_at {w : World} {p : Option Addr} {b off len : Nat} {L : List PCon} (h : SliceOf rCon 6 w p b off len L) {k : Nat} (hk : k < len) :
    ∃ (d : PCon) (v1 v2 v3 : Value), L[k]? = some d ∧ (w.cell? ⟨b, off + k * 6, none⟩ = some (.int .i64 d.kind) ∧ w.cell? ⟨b, off + k * 6 + 1, none⟩ = some v1 ∧ w.cell? ⟨b, off + k * 6 + 2, none⟩ = some v2 ∧
      w.cell? ⟨b, off + k * 6 + 3, none⟩ = some (.int .i64 d.rel) ∧ w.cell? ⟨b, off + k * 6 + 4, none⟩ = some (.int .i64 d.const) ∧ w.cell? ⟨b, off + k * 6 + 5, none⟩ = some v3) ∧ (Slc rNum 1 w v1 d.vars ∧ Slc rNum 1 w v2 d.coefs ∧ Slc rNum 1 w v3 d.nums) := by
  have hx : k < L.length := by rw [← h.long]; exact hk
  have e : L[k]? = some L[k] := List.getElem?_eq_getElem hx
  obtain ⟨cs, h1, h2, v1, v2, v3, h3, _, h4⟩ := h.cell k _ e
  subst h3
  exact ⟨_, v1, v2, v3, e, ⟨h2 0 (by omega), h2 1 (by omega), h2 2 (by omega), h2 3 (by omega), h2 4 (by omega), h2 5 (by omega)⟩, h4⟩
theorem slc_shape {α : Type} {R : Reader α} {n : Nat} {w : World} {v : Value} {L : List α} (h : Slc R n w v L) : ∃ (p : Option Addr) (l c : Nat), v = .slice p l c := by
  obtain ⟨p, b, off, c, len, h, _⟩ := h
  exact ⟨p, len, c, h⟩
/-- six cells at the head of a block -/
structure At6 (w : World) (b : Nat) (v0 v1 v2 v3 v4 v5 : Value) : Prop where
  c0 : w.cell? ⟨b, 0, none⟩ = some v0
  c1 : w.cell? ⟨b, 1, none⟩ = some v1
  c2 : w.cell? ⟨b, 2, none⟩ = some v2
  c3 : w.cell? ⟨b, 3, none⟩ = some v3
  c4 : w.cell? ⟨b, 4, none⟩ = some v4
  c5 : w.cell? ⟨b, 5, none⟩ = some v5
theorem two_six (w : World) (a0 a1 a2 a3 a4 a5 b0 b1 b2 b3 b4 b5 : Value) (t : TypeId) : At6 ((w.alloc (.cells #[a0, a1, a2, a3, a4, a5] t)).alloc (.cells #[b0, b1, b2, b3, b4, b5] t)) w.heap.size a0 a1 a2 a3 a4 a5 ∧
    At6 ((w.alloc (.cells #[a0, a1, a2, a3, a4, a5] t)).alloc (.cells #[b0, b1, b2, b3, b4, b5] t)) (w.heap.size + 1) b0 b1 b2 b3 b4 b5 :=
  ⟨⟨by go_simp, by go_simp, by go_simp, by go_simp, by go_simp, by go_simp⟩, ⟨by go_simp, by go_simp, by go_simp, by go_simp, by go_simp, by go_simp⟩⟩
theorem below_drewN {B n : Nat} {a w : World} (h : Below B a w) : Below B a (w.drewN n) := ⟨h.os, h.tape, h.output, h.size, h.block⟩

/-- are the lists of a constraint short? -/
def Short (m : Nat) (c : PCon) : Prop := c.vars.length ≤ m ∧ c.coefs.length ≤ m ∧ c.nums.length ≤ m

set_option maxRecDepth 100000 in
set_option maxHeartbeats 2000000 in
theorem alike_cells (p q : Option Addr) (b off c b' off' c' len len' : Nat) (xs ys : List PCon) (w : World) (hx : SliceOf rCon 6 w p b off len xs) (hy : SliceOf rCon 6 w q b' off' len' ys) (hm : len ≤ 1000000) (hm' : len' ≤ 1000000)
    (sx : ∀ d ∈ xs, Short 1000000 d) (sy : ∀ d ∈ ys, Short 1000000 d) :
    Calls Tryz.prog 21 #[.slice p len c, .slice q len' c'] w fun e w' => e = .returned (.bool (listB sameC xs ys)) ∧ Below w.heap.size w w' := by
  have HX := Lib.hid hx
  have HY := Lib.hid hy
  have SX := Lib.hid sx
  have SY := Lib.hid sy
  have hp := hx.at_
  have hq := hy.at_
  by_cases he : len = len'
  · subst he
    obtain ⟨R, hR⟩ : ∃ R, R = listB sameC xs ys := ⟨_, rfl⟩
    rw [← hR]
    have HS := Lib.hid (show R = listB sameC (xs.drop 0) (ys.drop 0) by rw [hR]; simp)
    clear hx hy hR sx sy
    go_enter Tryz.func21, Tryz.ntmps21
    go_wp2
    go_loopw [5] (fun i wr => ∃ k : Nat, k ≤ len ∧ i = .int .i64 k ∧ R = listB sameC (xs.drop k) (ys.drop k) ∧ Below w.heap.size w wr) (fun i _ => len - (intOf i).toNat)
    case atStart => exact ⟨0, by omega, rfl, HS.out, Below.refl _ _⟩
    case round =>
      obtain ⟨k, hk, rfl, hrel, hB⟩ := hrel
      have HB := Lib.hid hB
      by_cases hlt : k < len
      · obtain rfl := hp (by omega)
        obtain rfl := hq (by omega)
        obtain ⟨d, v1, v2, v3, ex, ⟨a0, a1, a2, a3, a4, a5⟩, sv1, sv2, sv3⟩ := con_at (HX.out.below rCon_stays hB) hlt
        obtain ⟨d', u1, u2, u3, ey, ⟨b0, b1, b2, b3, b4, b5⟩, su1, su2, su3⟩ := con_at (HY.out.below rCon_stays hB) hlt
        have hb1 : b' < wr.heap.size := World.block_lt_of_cell? _ _ b0
        obtain ⟨px1, lx1, cx1, rfl⟩ := slc_shape sv1
        obtain ⟨px2, lx2, cx2, rfl⟩ := slc_shape sv2
        obtain ⟨px3, lx3, cx3, rfl⟩ := slc_shape sv3
        obtain ⟨py1, ly1, cy1, rfl⟩ := slc_shape su1
        obtain ⟨py2, ly2, cy2, rfl⟩ := slc_shape su2
        obtain ⟨py3, ly3, cy3, rfl⟩ := slc_shape su3
        have hstep := hrel.trans (listB_at sameC ex ey)
        obtain ⟨x1, x2, x3⟩ := SX.out d (List.mem_of_getElem? ex)
        obtain ⟨y1, y2, y3⟩ := SY.out d' (List.mem_of_getElem? ey)
        have hsc : sameC d d' = (decide (d.kind = d'.kind) && (decide (d.rel = d'.rel) && (decide (d.const = d'.const) && (decide (d.vars = d'.vars) && (decide (d.coefs = d'.coefs) && decide (d.nums = d'.nums)))))) := rfl
        generalize d.kind = k0 at a0 hsc
        generalize d.rel = r0 at a3 hsc
        generalize d.const = t0 at a4 hsc
        generalize d'.kind = k0' at b0 hsc
        generalize d'.rel = r0' at b3 hsc
        generalize d'.const = t0' at b4 hsc
        clear ex ey hrel hB
        go_upto_region 8 with fail
        obtain ⟨W1, hW1⟩ : ∃ W1, W1 = (wr.alloc (.cells #[.int .i64 k0, .slice px1 lx1 cx1, .slice px2 lx2 cx2, .int .i64 r0, .int .i64 t0, .slice px3 lx3 cx3] 38)).alloc (.cells #[.int .i64 k0', .slice py1 ly1 cy1, .slice py2 ly2 cy2, .int .i64 r0', .int .i64 t0', .slice py3 ly3 cy3] 38) := ⟨_, rfl⟩
        rw [← hW1]
        obtain ⟨⟨m0, m1, m2, m3, m4, m5⟩, ⟨n0, n1, n2, n3, n4, n5⟩⟩ := two_six wr (.int .i64 k0) (.slice px1 lx1 cx1) (.slice px2 lx2 cx2) (.int .i64 r0) (.int .i64 t0) (.slice px3 lx3 cx3) (.int .i64 k0') (.slice py1 ly1 cy1) (.slice py2 ly2 cy2) (.int .i64 r0') (.int .i64 t0') (.slice py3 ly3 cy3) 38
        rw [← hW1] at m0 m1 m2 m3 m4 m5 n0 n1 n2 n3 n4 n5
        have hB1 : Below wr.heap.size wr W1 := by rw [hW1]; exact ((Below.refl _ wr).alloc (Nat.le_refl _) _).alloc (by simp) _
        have HB1 := Lib.hid (HB.out.trans (hB1.mono HB.out.size))
        have NV := Lib.hid (fun m => nsame_any (sv1.below rNum_stays (below_drewN (n := m) hB1)) (su1.below rNum_stays (below_drewN (n := m) hB1)) x1 y1)
        have NC := Lib.hid (fun m => nsame_any (sv2.below rNum_stays (below_drewN (n := m) hB1)) (su2.below rNum_stays (below_drewN (n := m) hB1)) x2 y2)
        have NN := Lib.hid (fun m => nsame_any (sv3.below rNum_stays (below_drewN (n := m) hB1)) (su3.below rNum_stays (below_drewN (n := m) hB1)) x3 y3)
        clear hW1 hB1 sv1 sv2 sv3 su1 su2 su3 a0 a1 a2 a3 a4 a5 b0 b1 b2 b3 b4 b5 hb1
        by_cases h1 : k0 = k0'
        · rw [decide_eq_true h1] at hsc
          subst h1
          by_cases h2 : r0 = r0'
          · rw [decide_eq_true h2] at hsc
            subst h2
            by_cases h3 : t0 = t0'
            · rw [decide_eq_true h3] at hsc
              subst h3
              by_cases h4 : d.vars = d'.vars
              · rw [decide_eq_true h4] at hsc NV
                by_cases h5 : d.coefs = d'.coefs
                · rw [decide_eq_true h5] at hsc NC
                  by_cases h6 : d.nums = d'.nums
                  · rw [decide_eq_true h6] at hsc NN
                    rw [hsc] at hstep
                    have NX := Lib.hid (hstep.trans (Bool.true_and _))
                    clear hstep hsc
                    go_wp2_with fail
                    refine (NV.out 0).mono ?_
                    rintro e w' ⟨rfl, nNV, rfl⟩
                    go_wp2_with fail
                    refine (NC.out _).mono ?_
                    rintro e w' ⟨rfl, nNC, rfl⟩
                    go_wp2_with fail
                    refine (NN.out _).mono ?_
                    rintro e w' ⟨rfl, nNN, rfl⟩
                    go_wp2_with fail
                    go_roundw
                    case rel => exact ⟨k + 1, by omega, by go_num, NX.out, below_drewN HB1.out⟩
                    case measure => simp [intOf]; omega
                  · rw [decide_eq_false h6] at hsc NN
                    have key : R = false := by rw [hstep, hsc]; simp
                    subst key
                    clear hstep hsc
                    go_wp2_with fail
                    refine (NV.out 0).mono ?_
                    rintro e w' ⟨rfl, nNV, rfl⟩
                    go_wp2_with fail
                    refine (NC.out _).mono ?_
                    rintro e w' ⟨rfl, nNC, rfl⟩
                    go_wp2_with fail
                    refine (NN.out _).mono ?_
                    rintro e w' ⟨rfl, nNN, rfl⟩
                    go_wp2_with fail
                    go_ret
                    exact ⟨rfl, below_drewN HB1.out⟩
                · rw [decide_eq_false h5] at hsc NC
                  have key : R = false := by rw [hstep, hsc]; simp
                  subst key
                  clear hstep hsc
                  go_wp2_with fail
                  refine (NV.out 0).mono ?_
                  rintro e w' ⟨rfl, nNV, rfl⟩
                  go_wp2_with fail
                  refine (NC.out _).mono ?_
                  rintro e w' ⟨rfl, nNC, rfl⟩
                  go_wp2_with fail
                  go_ret
                  exact ⟨rfl, below_drewN HB1.out⟩
              · rw [decide_eq_false h4] at hsc NV
                have key : R = false := by rw [hstep, hsc]; simp
                subst key
                clear hstep hsc
                go_wp2_with fail
                refine (NV.out 0).mono ?_
                rintro e w' ⟨rfl, nNV, rfl⟩
                go_wp2_with fail
                go_ret
                exact ⟨rfl, below_drewN HB1.out⟩
            · rw [decide_eq_false h3] at hsc
              have neh3 : (t0 == t0') = false := beq_eq_false_iff_ne.2 h3
              have key : R = false := by rw [hstep, hsc]; simp
              subst key
              clear hstep hsc
              go_wp2_with fail
              go_ret
              exact ⟨rfl, HB1.out⟩
          · rw [decide_eq_false h2] at hsc
            have neh2 : (r0 == r0') = false := beq_eq_false_iff_ne.2 h2
            have key : R = false := by rw [hstep, hsc]; simp
            subst key
            clear hstep hsc
            go_wp2_with fail
            go_ret
            exact ⟨rfl, HB1.out⟩
        · rw [decide_eq_false h1] at hsc
          have neh1 : (k0 == k0') = false := beq_eq_false_iff_ne.2 h1
          have key : R = false := by rw [hstep, hsc]; simp
          subst key
          clear hstep hsc
          go_wp2_with fail
          go_ret
          exact ⟨rfl, HB1.out⟩
      · have key : R = true := by
          rw [hrel]
          exact listB_end sameC (by rw [← HX.out.long]; omega) (by rw [← HY.out.long]; omega)
        subst key
        clear hrel hB
        go_wp2
        go_ret
        exact ⟨rfl, HB.out⟩
  · have key : listB sameC xs ys = false := listB_len _ _ _ (by rw [← hx.long, ← hy.long]; exact he)
    rw [key]
    have he2 : ((len : Int) == (len' : Int)) = false := beq_eq_false_iff_ne.2 (by omega)
    clear hx hy key hp hq sx sy
    go_enter Tryz.func21, Tryz.ntmps21
    go_wp2_with fail
    go_ret
    exact ⟨rfl, Below.refl _ _⟩
theorem alike_any {w : World} {u v : Value} {xs ys : List PCon} (hx : Slc rCon 6 w u xs) (hy : Slc rCon 6 w v ys) (hm : xs.length ≤ 1000000) (hm' : ys.length ≤ 1000000)
    (sx : ∀ d ∈ xs, Short 1000000 d) (sy : ∀ d ∈ ys, Short 1000000 d) :
    Calls Tryz.prog 21 #[u, v] w fun e w' => e = .returned (.bool (listB sameC xs ys)) ∧ Below w.heap.size w w' := by
  obtain ⟨p, b, off, c, len, rfl, _, hs⟩ := hx
  obtain ⟨q, b', off', c', len', rfl, _, ht⟩ := hy
  exact alike_cells p q b off c b' off' c' len len' xs ys w hs ht (by rw [hs.long]; exact hm) (by rw [ht.long]; exact hm') sx sy
end Go.Proofs.YtkgieaoahijheaaGreatDoor
namespace Go.Proofs.YtkgieaoahijheaaGreatDoor
open Go.RowKit
set_option maxRecDepth 100000

theorem slc_long {α : Type} {R : Reader α} {n : Nat} {w : World} {v : Value} {L : List α} (h : Slc R n w v L) : ∃ (p : Option Addr) (l c : Nat), v = .slice p l c ∧ l = L.length := by
  obtain ⟨p, b, off, c, len, h1, _, h2⟩ := h
  exact ⟨p, len, c, h1, h2.long⟩
def longC (c : PCon) : Bool := decide (150 < c.vars.length) || (decide (150 < c.coefs.length) || decide (150 < c.nums.length))
def consB (L : List PCon) : Bool := decide (30 < L.length) || L.any longC
theorem cons_short {L : List PCon} (h : consB L = false) : L.length ≤ 30 ∧ ∀ c ∈ L, Short 150 c := by
  simp only [consB, Bool.or_eq_false_iff, decide_eq_false_iff_not, List.any_eq_false] at h
  refine ⟨by omega, fun c hc => ?_⟩
  have := h.2 c hc
  simp [longC] at this
  unfold Short
  omega
theorem any_at {α : Type} (f : α → Bool) {L : List α} {k : Nat} {a : α} (h : L[k]? = some a) : (L.drop k).any f = (f a || (L.drop (k + 1)).any f) := by
  obtain ⟨h1, e1⟩ := List.getElem?_eq_some_iff.1 h
  rw [List.drop_eq_getElem_cons h1, List.any_cons, e1]
theorem any_end {α : Type} (f : α → Bool) {L : List α} {k : Nat} (h : L.length ≤ k) : (L.drop k).any f = false := by
  rw [List.drop_of_length_le h]
  rfl

def longD (d : PDecl) : Bool := decide (100 < d.name.length) || decide (150 < d.dom.length)
def longB (b : PBlock) : Bool := decide (30 < b.vars.length) || (consB b.cons || b.vars.any longD)
def largeB (m : PModel) : Bool := decide (30 < m.blocks.length) || (consB m.goal || m.blocks.any longB)
end Go.Proofs.YtkgieaoahijheaaGreatDoor
