/-
  What follows of texts of models: what stands ahead of a wrong place is right; blanks change nothing; what is no model has a place within the text. Nothing of the program.
-/
import Derived.Test.YtfkakdpppejehaaGNum
import Derived.Test.YtfkakdpppejehaaKNum
namespace Go.Proofs.Ytfkakdpppejehaa.Pa
open Sc (Tok scanL)

/-- a model, or a place and what is wrong -/
inductive Out where
  | model (m : PModel)
  | err (p : Nat) (e : Int)
/-- the place of token number n, or the text's length -/
def placeT (T : List Tok) (len n : Nat) : Nat := match T[n]? with
  | some t => t.at_
  | none => len
open Classical in
noncomputable def outT (T : List Tok) (len : Nat) (q : PModel × Rd) : Out :=
  if q.2.wrong = true ∨ q.2.at_ < T.length then .err (placeT T len q.2.at_) 2
  else match q.2.bad with
    | some p => .err p 7
    | none => if checkM q.1 = 0 then .model q.1 else .err 0 (checkM q.1)
noncomputable def parseT (K : Nat) (T : List Tok) (len : Nat) : Out := outT T len (bodyR K T start)
noncomputable def parseL (K : Nat) (s : List UInt8) : Out := match scanL 0 s with
  | .bad p e => .err p e
  | .ok T => parseT K T s.length

/- cut off ahead of a token -/
theorem body_top (K : Nat) (T : List Tok) : (bodyR K T start).2.at_ ≤ T.length := (fine_body K).top T start (Nat.zero_le _)
theorem take_same {T : List Tok} {n i : Nat} (h : i < n) : (T.take n)[i]? = T[i]? := by rw [List.getElem?_take, if_pos h]
theorem cut_at {K : Nat} {T : List Tok} {n : Nat} (hn : n ≤ (bodyR K T start).2.at_) : (bodyR K (T.take n) start).2.at_ = n := by
  have h1 := body_top K (T.take n)
  rw [List.length_take] at h1
  apply Classical.byContradiction
  intro hne
  have h2 : (bodyR K (T.take n) start).2.at_ < n := by omega
  have e := (fine_body K).loc (T.take n) T n start (fun i hi => take_same hi) h2
  rw [e] at hn
  omega
theorem cut_wrong {K : Nat} {T : List Tok} {n : Nat} (hn : n < (bodyR K T start).2.at_) : (bodyR K (T.take n) start).2.wrong = true := by
  have h1 := cut_at (Nat.le_of_lt hn)
  cases hw : (bodyR K (T.take n) start).2.wrong
  · exfalso
    have hb : ∀ U, bodyR K U start = ((mostR K U start).1, (mustF tSemi (mostR K U start).2 (next U (mostR K U start).2)).2) := fun U => rfl
    have hs : textO (next (T.take n) (mostR K (T.take n) start).2) = tSemi := Classical.byContradiction fun hs => by
      rw [hb] at hw
      simp [mustF, hs, fail1] at hw
    have ha : (mostR K (T.take n) start).2.at_ + 1 = n := by
      rw [hb] at h1
      simpa [mustF, hs, step1] using h1
    have e := (fine_most K).loc (T.take n) T n start (fun i hi => take_same hi) (by omega)
    have en : next T (mostR K (T.take n) start).2 = next (T.take n) (mostR K (T.take n) start).2 := by
      unfold next
      rw [take_same (by omega)]
    have eb : bodyR K T start = bodyR K (T.take n) start := by rw [hb, hb, e, en]
    rw [eb, h1] at hn
    omega
  · rfl
/-- cut off there, or ahead of that -/
theorem cut_out {K : Nat} {T : List Tok} {n len : Nat} (hn : n ≤ (bodyR K T start).2.at_) (hw : (bodyR K (T.take n) start).2.wrong = true) : parseT K (T.take n) len = .err len 2 := by
  have h1 := cut_at hn
  have h2 := Nat.le_trans hn (body_top K T)
  unfold parseT outT
  rw [if_pos (.inl hw), h1]
  unfold placeT
  rw [List.getElem?_eq_none_iff.2 (by rw [List.length_take]; omega)]

/- models of tokens have blocks, and their blocks variables -/
def Rs {α : Type} (P : Rx α) (φ : α → Prop) : Prop := ∀ T r, φ (P T r).1
theorem rs_ret {α : Type} {a : α} {φ : α → Prop} (h : φ a) : Rs (ret a) φ := fun _ _ => h
theorem rs_seq {α β : Type} {m : Rx α} {f : α → Rx β} {φ : α → Prop} {χ : β → Prop} (hm : Rs m φ) (hf : ∀ a, φ a → Rs (f a) χ) : Rs (seq m f) χ := fun T r => hf _ (hm T r) T _
theorem rs_any {α : Type} (P : Rx α) : Rs P (fun _ => True) := fun _ _ => trivial
theorem rs_if {α : Type} {c : Prop} [Decidable c] {P Q : Rx α} {φ : α → Prop} (hP : Rs P φ) (hQ : Rs Q φ) : Rs (if c then P else Q) φ := by split <;> assumption
theorem rs_decls (K : Nat) : ∀ (n : Nat) (l : List PDecl), (n ≠ 0 ∨ l ≠ []) → Rs (declsR K n l) (fun r => r ≠ [])
  | 0, l, h => rs_ret (h.resolve_left (by omega))
  | n + 1, l, _ => rs_seq (rs_any _) fun s _ => rs_seq (rs_any _) fun _ _ => rs_seq (rs_any _) fun dom _ => rs_seq (rs_any _) fun _ _ => rs_seq (rs_any _) fun _ _ => rs_if (rs_decls K n _ (.inr (by simp))) (rs_ret (by simp))
theorem rs_block {K : Nat} (hK : K ≠ 0) : Rs (blockR K) (fun b => b.vars ≠ []) :=
  rs_seq (rs_any _) fun _ _ => rs_seq (rs_any _) fun _ _ => rs_seq (rs_decls K K [] (.inl hK)) fun _ hv => rs_seq (rs_any _) fun _ _ => rs_seq (rs_any _) fun _ _ => rs_seq (rs_any _) fun _ _ => rs_ret hv
theorem rs_blocks {K : Nat} (hK : K ≠ 0) : ∀ (n : Nat) (l : List PBlock), (n ≠ 0 ∨ l ≠ []) → (∀ b ∈ l, b.vars ≠ []) → Rs (blocksR K n l) (fun r => r ≠ [] ∧ ∀ b ∈ r, b.vars ≠ [])
  | 0, l, h, hl => rs_ret ⟨h.resolve_left (by omega), hl⟩
  | n + 1, l, _, hl => rs_seq (rs_block hK) fun b hb =>
    have hl2 : ∀ x ∈ l ++ [b], x.vars ≠ [] := fun x hx => by
      rcases List.mem_append.1 hx with q | q
      · exact hl x q
      · obtain rfl := List.mem_singleton.1 q
        exact hb
    rs_seq (rs_any _) fun _ _ => rs_if (rs_blocks hK n _ (.inr (by simp)) hl2) (rs_ret ⟨by simp, hl2⟩)
theorem rs_body {K : Nat} (hK : K ≠ 0) : Rs (bodyR K) (fun m => m.blocks ≠ [] ∧ ∀ b ∈ m.blocks, b.vars ≠ []) :=
  rs_seq (rs_seq (rs_blocks hK K [] (.inl hK) (by simp)) (χ := fun m => m.blocks ≠ [] ∧ ∀ b ∈ m.blocks, b.vars ≠ []) fun bs h => rs_seq (rs_any _) fun _ _ => rs_seq (rs_any _) fun g _ => rs_ret h) fun m h => rs_seq (rs_any _) fun _ _ => rs_ret h
theorem check_form {m : PModel} (h1 : m.blocks ≠ []) (h2 : ∀ b ∈ m.blocks, b.vars ≠ []) : checkM m ≠ 2 := by
  have hf : formM m = false := by
    unfold formM
    rw [Bool.or_eq_false_iff]
    refine ⟨decide_eq_false fun e => h1 (List.eq_nil_of_length_eq_zero e), List.any_eq_false.2 fun b hb => ?_⟩
    have := h2 b hb
    simpa using this
  unfold checkM faultsM
  simp only [firstF, hf]
  cases bigM m <;> cases nameM m <;> cases twiceM m <;> cases domM m <;> cases conM m <;> simp
/-- of a whole text nothing is wrong with its form -/
theorem out_whole {K : Nat} (hK : K ≠ 0) {T : List Tok} {len : Nat} {p : Nat} (hw : (bodyR K T start).2.wrong = false) (ha : (bodyR K T start).2.at_ = T.length) : parseT K T len ≠ .err p 2 := by
  unfold parseT outT
  rw [if_neg (by rw [hw, ha]; simp)]
  cases (bodyR K T start).2.bad with
  | some q => simp
  | none =>
    have hc := rs_body hK T start
    have := check_form hc.1 hc.2
    simp only
    split
    · simp
    · simp [this]

/- places -/
theorem bad_at {K : Nat} {T : List Tok} {B p : Nat} (hT : ∀ t ∈ T, t.at_ ≤ B) (h : (bodyR K T start).2.bad = some p) : p ≤ B := (fine_body K).bd T start B hT (fun p h => by cases h) p h
theorem err_place {K : Nat} {T : List Tok} {len p : Nat} {e : Int} (hT : ∀ t ∈ T, t.at_ ≤ len) (h : parseT K T len = .err p e) : p ≤ len := by
  unfold parseT outT at h
  split at h
  · simp only [Out.err.injEq] at h
    rw [← h.1]
    unfold placeT
    split
    · rename_i t ht
      exact hT t (List.mem_of_getElem? ht)
    · exact Nat.le_refl _
  · split at h
    · rename_i q hq
      simp only [Out.err.injEq] at h
      rw [← h.1]
      exact bad_at hT hq
    · split at h
      · cases h
      · simp only [Out.err.injEq] at h
        omega
theorem model_may {K : Nat} {T : List Tok} {len : Nat} {m : PModel} (h : parseT K T len = .model m) : checkM m = 0 := by
  unfold parseT outT at h
  split at h
  · cases h
  · split at h
    · cases h
    · split at h
      · rename_i hc
        cases h
        exact hc
      · cases h

/- tokens that differ in places alone -/
/-- the same model, or the same fault -/
def Out.like : Out → Out → Prop
  | .model m, .model n => m = n
  | .err _ e, .err _ f => e = f
  | _, _ => False
theorem like_out {K : Nat} {T U : List Tok} {len len' : Nat} (h : T.map key = U.map key) : (parseT K T len).like (parseT K U len') := by
  obtain ⟨e1, e2⟩ := (fine_body K).like T U start start h ⟨rfl, rfl, rfl, rfl⟩
  have hl : T.length = U.length := by
    have := congrArg List.length h
    simpa using this
  unfold parseT outT
  rw [← e2.wrong, ← e2.at_, ← hl, ← e1]
  split
  · exact rfl
  · have hb := e2.bad
    cases h1 : (bodyR K T start).2.bad <;> cases h2 : (bodyR K U start).2.bad <;> rw [h1, h2] at hb <;> simp at hb ⊢
    · split <;> exact rfl
    · exact rfl

end Go.Proofs.Ytfkakdpppejehaa.Pa
