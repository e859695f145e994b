/-
  Tokens of texts that are cut off ahead of a token, and of tokens that are parted anew. Nothing of the program.
  What comes of tokens that the program's parser reads. Nothing of the program.
-/
import Derived.Test.YtfkakdpppejehaaGNum
import Derived.Test.YtfkakdpppejehaaZHS
import Derived.Test.YtfkakdpppejehaaZG
namespace Go.Proofs.Ytfkakdpppejehaa.Sc

theorem step_skip {c : UInt8} {r : List UInt8} (h : step c r = .skip) (q : List UInt8) : step c q = .skip := by
  unfold step at h ⊢
  split
  · rfl
  · rename_i h1
    rw [if_neg h1] at h
    exfalso
    unfold first at h
    split at h
    · cases h
    · split at h
      · split at h <;> cases h
      · split at h <;> cases h
theorem cons_ok {t : Tok} {R : Res} {T : List Tok} (h : R.cons t = .ok T) : ∃ T', R = .ok T' ∧ T = t :: T' := by
  cases R with
  | ok l =>
    simp only [Res.cons, Res.ok.injEq] at h
    exact ⟨l, rfl, h.symm⟩
  | bad p e => cases h
/-- a token's own text is that token -/
def Own (t : Tok) : Prop := ∃ c r, t.text = c :: r ∧ step c r = .tok t.kind t.text.length t.value
/-- what is known of the tokens of bytes, the first of which stands at a -/
def Known (a : Nat) (l : List UInt8) : Prop := ∀ T, scanL a l = .ok T → T.length ≤ l.length ∧ ∀ i t, T[i]? = some t → a ≤ t.at_ ∧ t.at_ < a + l.length ∧ t.text.length ≤ l.length ∧ Own t ∧ scanL a (l.take (t.at_ - a)) = .ok (T.take i)
theorem known (a : Nat) (l : List UInt8) : Known a l := by
  refine scan_ind (Q := Known) (fun a T h => ?_) (fun a c r hs ih T h => ?_) (fun a c r e hs T h => ?_) (fun a c r k m v hs ih T h => ?_) l.length a l (Nat.le_refl _)
  · rw [scan_nil] at h
    cases h
    exact ⟨by simp, fun i t ht => by simp at ht⟩
  · rw [scan_skip a hs] at h
    obtain ⟨h1, h2⟩ := ih T h
    refine ⟨by simp; omega, fun i t ht => ?_⟩
    obtain ⟨g1, g2, g3, g4, g5⟩ := h2 i t ht
    refine ⟨by omega, by simp; omega, by simp; omega, g4, ?_⟩
    obtain ⟨x, hx⟩ : ∃ x, t.at_ - a = x + 1 := ⟨t.at_ - a - 1, by omega⟩
    rw [hx, List.take_succ_cons, scan_skip a (step_skip hs _), ← g5]
    congr 2
    omega
  · rw [scan_bad a hs] at h
    cases h
  · rw [scan_tok a hs] at h
    obtain ⟨T', h1, rfl⟩ := cons_ok h
    have hm := step_size hs
    obtain ⟨k1, k2⟩ := ih T' h1
    rw [List.length_drop] at k1
    refine ⟨by simp at hm k1 ⊢; omega, fun i t ht => ?_⟩
    have htx : ((c :: r).take m) = c :: r.take (m - 1) := by
      obtain ⟨x, rfl⟩ : ∃ x, m = x + 1 := ⟨m - 1, by omega⟩
      rw [List.take_succ_cons]
      rfl
    cases i with
    | zero =>
      simp only [List.getElem?_cons_zero, Option.some.injEq] at ht
      subst ht
      refine ⟨Nat.le_refl _, by simp, ?_, ⟨c, r.take (m - 1), htx, ?_⟩, by simp [scan_nil]⟩
      · show ((c :: r).take m).length ≤ _
        rw [List.length_take]
        omega
      · show step c (r.take (m - 1)) = .tok k ((c :: r).take m).length v
        rw [List.length_take, Nat.min_eq_left hm.2]
        exact step_take hs (by omega)
    | succ i =>
      rw [List.getElem?_cons_succ] at ht
      obtain ⟨g1, g2, g3, g4, g5⟩ := k2 i t ht
      rw [List.length_drop] at g2 g3
      refine ⟨by omega, by omega, by omega, g4, ?_⟩
      obtain ⟨x, hx⟩ : ∃ x, t.at_ - a = x + 1 := ⟨t.at_ - a - 1, by omega⟩
      have hmx : m ≤ x + 1 := by omega
      rw [hx, List.take_succ_cons, scan_tok a (step_take hs hmx), ← List.take_succ_cons, List.drop_take, List.take_take, Nat.min_eq_left hmx]
      have e : x + 1 - m = t.at_ - (a + m) := by omega
      rw [e, g5]
      rfl
theorem places_rise {a : Nat} {l : List UInt8} {T : List Tok} (h : scanL a l = .ok T) {i j : Nat} {t u : Tok} (hi : T[i]? = some t) (hj : T[j]? = some u) (hij : i ≤ j) : t.at_ ≤ u.at_ := by
  rcases Nat.lt_or_eq_of_le hij with q | rfl
  · obtain ⟨_, h2⟩ := known a l T h
    obtain ⟨g1, g2, _, _, g5⟩ := h2 j u hj
    have hit : (T.take j)[i]? = some t := by rw [List.getElem?_take, if_pos q]; exact hi
    obtain ⟨_, k2⟩ := known a (l.take (u.at_ - a)) _ g5
    obtain ⟨n1, n2, _⟩ := k2 i t hit
    rw [List.length_take] at n2
    omega
  · rw [hi] at hj
    cases hj
    exact Nat.le_refl _
/-- tokens, parted by a line end and a space -/
def joined (T : List Tok) : List UInt8 := T.flatMap fun t => nl :: 32 :: t.text
theorem scan_joined : ∀ (T : List Tok), (∀ t ∈ T, Own t) → ∀ a, ∃ U, scanL a (joined T) = .ok U ∧ U.map Pa.key = T.map Pa.key
  | [], _, a => ⟨[], rfl, rfl⟩
  | t :: T, h, a => by
    obtain ⟨c, r, e1, e2⟩ := h t (by simp)
    have hs : step c (r ++ joined T) = .tok t.kind t.text.length t.value := by
      cases T with
      | nil => rw [show joined ([] : List Tok) = [] from rfl, List.append_nil]; exact e2
      | cons u T => rw [show joined (u :: T) = nl :: (32 :: u.text ++ joined T) from rfl, step_nl]; exact e2
    obtain ⟨U, u1, u2⟩ := scan_joined T (fun x hx => h x (by simp [hx])) (a + 1 + 1 + t.text.length)
    have ej : joined (t :: T) = nl :: 32 :: c :: (r ++ joined T) := by
      show nl :: 32 :: t.text ++ joined T = _
      rw [e1]
      rfl
    have ed : (c :: (r ++ joined T)).drop t.text.length = joined T := by
      rw [← List.cons_append, ← e1, List.drop_left]
    have et : (c :: (r ++ joined T)).take t.text.length = t.text := by
      rw [← List.cons_append, ← e1, List.take_left]
    refine ⟨⟨t.kind, t.text, t.value, a + 1 + 1⟩ :: U, ?_, by simp [Pa.key, u2]⟩
    rw [ej, scan_skip a (by rfl), scan_skip (a + 1) (by rfl), scan_tok (a + 1 + 1) hs, ed, et, u1]
    rfl
end Go.Proofs.Ytfkakdpppejehaa.Sc
namespace Go.Proofs.Ytfkakdpppejehaa.Pp
open Sc (Tok noTok scanL mostV)
open Pa
set_option maxRecDepth 100000

theorem step_value {c : UInt8} {r : List UInt8} {k m v : Nat} (h : Sc.step c r = .tok k m v) : v ≤ mostV := by
  unfold Sc.step at h
  split at h
  · cases h
  · unfold Sc.first at h
    split at h
    · cases h; decide
    · split at h
      · split at h
        · rename_i hv
          cases h
          exact hv
        · cases h
      · split at h
        · cases h
        · cases h; decide
theorem small_tokens {a : Nat} {l : List UInt8} {T : List Tok} (h : scanL a l = .ok T) : T.length ≤ l.length ∧ ∀ t ∈ T, t.value ≤ 2000000000000 ∧ t.text.length ≤ l.length ∧ t.at_ < a + l.length := by
  obtain ⟨h1, h2⟩ := Sc.known a l T h
  refine ⟨h1, fun t ht => ?_⟩
  obtain ⟨i, hi⟩ := List.getElem?_of_mem ht
  obtain ⟨_, g2, g3, ⟨c, r, _, hs⟩, _⟩ := h2 i t hi
  have hm : mostV ≤ 2000000000000 := by decide
  exact ⟨Nat.le_trans (step_value hs) hm, g3, g2⟩
theorem place_tok {T : List Tok} {len n : Nat} (h : n ≤ T.length) : placeT T len n = (((T ++ [(⟨0, [], 0, len⟩ : Tok)]).getD n noTok)).at_ := by
  unfold placeT
  by_cases hn : n < T.length
  · rw [List.getElem?_eq_getElem hn]
    simp only [List.getD]
    rw [List.getElem?_append_left hn, List.getElem?_eq_getElem hn]
    rfl
  · obtain rfl : n = T.length := by omega
    rw [List.getElem?_eq_none_iff.2 (Nat.le_refl _)]
    simp only [List.getD]
    rw [List.getElem?_append_right (Nat.le_refl _)]
    simp
/-- what is told of tokens -/
theorem parse_gone {K : Nat} {T : List Tok} {len : Nat} (hK : T.length < K) (h : (modelQ K T Pa.start).2.wrong = true) : parseT K T len = .err (((T ++ [(⟨0, [], 0, len⟩ : Tok)]).getD (modelQ K T Pa.start).2.at_ noTok)).at_ 2 := by
  have ha := sim_body (K := K) T Pa.start hK (Nat.zero_le _)
  have ht := body_top K T
  rw [model_whole] at h ⊢
  simp only at h ⊢
  unfold parseT outT
  cases hw : (wholeQ K T Pa.start).2.wrong
  · obtain ⟨e1, _⟩ := ha.ok (by rw [← ha.wrong, hw])
    unfold endQ at h ⊢
    rw [hw] at h ⊢
    simp only [Bool.false_eq_true, if_false] at h ⊢
    by_cases hl : (wholeQ K T Pa.start).2.at_ < T.length
    · rw [if_pos hl]
      rw [if_pos (.inr (by rw [← e1]; exact hl)), ← e1]
      simp only [fail1]
      rw [place_tok (by omega)]
    · rw [if_neg hl] at h
      simp only at h
      rw [hw] at h
      cases h
  · rw [if_pos (.inl (by rw [← ha.wrong, hw]))]
    unfold endQ
    rw [if_pos hw]
    simp only
    rw [ha.at_, place_tok ht]
open Classical in
theorem parse_done {K : Nat} {T : List Tok} {len : Nat} (hK : T.length < K) (h : (modelQ K T Pa.start).2.wrong = false) : parseT K T len = (match (modelQ K T Pa.start).2.bad with
    | some p => .err p 7
    | none => if checkM (modelQ K T Pa.start).1 = 0 then .model (modelQ K T Pa.start).1 else .err 0 (checkM (modelQ K T Pa.start).1)) ∧ ((modelQ K T Pa.start).2.bad = none → (modelQ K T Pa.start).1 = (bodyR K T Pa.start).1 ∧ (bodyR K T Pa.start).2.wrong = false) := by
  have ha := sim_body (K := K) T Pa.start hK (Nat.zero_le _)
  rw [model_whole] at h ⊢
  simp only at h ⊢
  cases hw : (wholeQ K T Pa.start).2.wrong
  · obtain ⟨e1, e2⟩ := ha.ok (by rw [← ha.wrong, hw])
    unfold endQ at h ⊢
    rw [hw] at h ⊢
    simp only [Bool.false_eq_true, if_false] at h ⊢
    by_cases hl : (wholeQ K T Pa.start).2.at_ < T.length
    · rw [if_pos hl] at h
      cases h
    · rw [if_neg hl]
      simp only
      unfold parseT outT
      rw [if_neg (by rw [← e1, hw]; simp; omega), ← e1]
      refine ⟨?_, fun hb => ⟨e2 (by rw [← e1]; exact hb), hw⟩⟩
      cases hb : (wholeQ K T Pa.start).2.bad with
      | some p => rfl
      | none =>
        simp only
        rw [e2 (by rw [← e1]; exact hb)]
  · exfalso
    unfold endQ at h
    rw [if_pos hw] at h
    simp only at h
    rw [hw] at h
    cases h
theorem few_body {K : Nat} {T : List Tok} (hT : T.length ≤ 1000) (hx : ∀ t ∈ T, t.text.length ≤ 1000) (h : (bodyR K T Pa.start).2.wrong = false) : Few (bodyR K T Pa.start).1 := by
  obtain ⟨h1, h2⟩ := (sz_body (B := 1000) K).size T Pa.start hx h
  have ht := body_top K T
  have hk : (bodyR K T Pa.start).2.at_ - Pa.start.at_ ≤ 1000 := by omega
  obtain ⟨k, hk2⟩ : ∃ k, k = (bodyR K T Pa.start).2.at_ - Pa.start.at_ := ⟨_, rfl⟩
  rw [← hk2] at h1 h2 hk
  have hs : ∀ c : PCon, Of c k → Short 1000 c := fun c hc => ⟨by have := hc.vars; omega, by have := hc.coefs; omega, by have := hc.nums; omega⟩
  exact ⟨by have := h1.len; omega, fun b hb => by have := (h1.each b hb).vars.len; omega, fun b hb => ⟨by have := (h1.each b hb).cons.len; omega, fun c hc => hs c ((h1.each b hb).cons.each c hc)⟩, ⟨by have := h2.len; omega, fun c hc => hs c (h2.each c hc)⟩, fun b hb d hd => by have := (h1.each b hb).vars.each d hd; omega, by have := h1.vars; omega⟩
theorem good_body {K : Nat} {T : List Tok} (hv : ∀ t ∈ T, t.value ≤ 2000000000000) : (∀ b ∈ (bodyR K T Pa.start).1.blocks, GoodL b.cons) ∧ GoodL (bodyR K T Pa.start).1.goal := gives_body K T Pa.start hv
end Go.Proofs.Ytfkakdpppejehaa.Pp
