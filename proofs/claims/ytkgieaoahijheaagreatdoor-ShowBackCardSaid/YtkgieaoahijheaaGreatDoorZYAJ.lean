/-
  What follows of texts of models: what stands ahead of a wrong place is right; blanks change nothing; what is no model has a place within the text. Nothing of the program.
  What a reader of tokens tells of tokens that are known: numbers, names, sums, constraints, lists. Nothing of the program.
  What a reader of tokens tells of a constraint's tokens, and of a list's. Nothing of the program.
-/
import Derived.Test.YtkgieaoahijheaaGreatDoorZGNum
import Derived.Test.YtkgieaoahijheaaGreatDoorZYAI
import Derived.Test.YtkgieaoahijheaaGreatDoorZYAE
namespace Go.Proofs.YtkgieaoahijheaaGreatDoor.Pa
open Sc (Tok scanL)

/-- a model, or a place and what is wrong -/
inductive Out where
  | model (m : PModel)
  | err (p : Nat) (e : Int)
/-- the place of token number n, or the text's length -/
def placeT (T : List Tok) (len n : Nat) : Nat := match T[n]? with
  | some t => t.at_
  | none => len
open Classical in
noncomputable def outT (T : List Tok) (len : Nat) (q : PModel × Rd) : Out :=
  if q.2.wrong = true ∨ q.2.at_ < T.length then .err (placeT T len q.2.at_) 2
  else match q.2.bad with
    | some p => .err p 7
    | none => if checkM q.1 = 0 then .model q.1 else .err 0 (checkM q.1)
noncomputable def parseT (K : Nat) (T : List Tok) (len : Nat) : Out := outT T len (bodyR K T start)
noncomputable def parseL (K : Nat) (s : List UInt8) : Out := match scanL 0 s with
  | .bad p e => .err p e
  | .ok T => parseT K T s.length

/- cut off ahead of a token -/
theorem body_top (K : Nat) (T : List Tok) : (bodyR K T start).2.at_ ≤ T.length := (fine_body K).top T start (Nat.zero_le _)
theorem take_same {T : List Tok} {n i : Nat} (h : i < n) : (T.take n)[i]? = T[i]? := by rw [List.getElem?_take, if_pos h]
theorem cut_at {K : Nat} {T : List Tok} {n : Nat} (hn : n ≤ (bodyR K T start).2.at_) : (bodyR K (T.take n) start).2.at_ = n := by
  have h1 := body_top K (T.take n)
  rw [List.length_take] at h1
  apply Classical.byContradiction
  intro hne
  have h2 : (bodyR K (T.take n) start).2.at_ < n := by omega
  have e := (fine_body K).loc (T.take n) T n start (fun i hi => take_same hi) h2
  rw [e] at hn
  omega
theorem cut_wrong {K : Nat} {T : List Tok} {n : Nat} (hn : n < (bodyR K T start).2.at_) : (bodyR K (T.take n) start).2.wrong = true := by
  have h1 := cut_at (Nat.le_of_lt hn)
  cases hw : (bodyR K (T.take n) start).2.wrong
  · exfalso
    have hb : ∀ U, bodyR K U start = ((mostR K U start).1, (mustF tSemi (mostR K U start).2 (next U (mostR K U start).2)).2) := fun U => rfl
    have hs : textO (next (T.take n) (mostR K (T.take n) start).2) = tSemi := Classical.byContradiction fun hs => by
      rw [hb] at hw
      simp [mustF, hs, fail1] at hw
    have ha : (mostR K (T.take n) start).2.at_ + 1 = n := by
      rw [hb] at h1
      simpa [mustF, hs, step1] using h1
    have e := (fine_most K).loc (T.take n) T n start (fun i hi => take_same hi) (by omega)
    have en : next T (mostR K (T.take n) start).2 = next (T.take n) (mostR K (T.take n) start).2 := by
      unfold next
      rw [take_same (by omega)]
    have eb : bodyR K T start = bodyR K (T.take n) start := by rw [hb, hb, e, en]
    rw [eb, h1] at hn
    omega
  · rfl
/-- cut off there, or ahead of that -/
theorem cut_out {K : Nat} {T : List Tok} {n len : Nat} (hn : n ≤ (bodyR K T start).2.at_) (hw : (bodyR K (T.take n) start).2.wrong = true) : parseT K (T.take n) len = .err len 2 := by
  have h1 := cut_at hn
  have h2 := Nat.le_trans hn (body_top K T)
  unfold parseT outT
  rw [if_pos (.inl hw), h1]
  unfold placeT
  rw [List.getElem?_eq_none_iff.2 (by rw [List.length_take]; omega)]

/- models of tokens have blocks, and their blocks variables -/
def Rs {α : Type} (P : Rx α) (φ : α → Prop) : Prop := ∀ T r, φ (P T r).1
theorem rs_ret {α : Type} {a : α} {φ : α → Prop} (h : φ a) : Rs (ret a) φ := fun _ _ => h
theorem rs_seq {α β : Type} {m : Rx α} {f : α → Rx β} {φ : α → Prop} {χ : β → Prop} (hm : Rs m φ) (hf : ∀ a, φ a → Rs (f a) χ) : Rs (seq m f) χ := fun T r => hf _ (hm T r) T _
theorem rs_any {α : Type} (P : Rx α) : Rs P (fun _ => True) := fun _ _ => trivial
theorem rs_if {α : Type} {c : Prop} [Decidable c] {P Q : Rx α} {φ : α → Prop} (hP : Rs P φ) (hQ : Rs Q φ) : Rs (if c then P else Q) φ := by split <;> assumption
theorem rs_decls (K : Nat) : ∀ (n : Nat) (l : List PDecl), (n ≠ 0 ∨ l ≠ []) → Rs (declsR K n l) (fun r => r ≠ [])
  | 0, l, h => rs_ret (h.resolve_left (by omega))
  | n + 1, l, _ => rs_seq (rs_any _) fun s _ => rs_seq (rs_any _) fun _ _ => rs_seq (rs_any _) fun dom _ => rs_seq (rs_any _) fun _ _ => rs_seq (rs_any _) fun _ _ => rs_if (rs_decls K n _ (.inr (by simp))) (rs_ret (by simp))
theorem rs_block {K : Nat} (hK : K ≠ 0) : Rs (blockR K) (fun b => b.vars ≠ []) :=
  rs_seq (rs_any _) fun _ _ => rs_seq (rs_any _) fun _ _ => rs_seq (rs_decls K K [] (.inl hK)) fun _ hv => rs_seq (rs_any _) fun _ _ => rs_seq (rs_any _) fun _ _ => rs_seq (rs_any _) fun _ _ => rs_ret hv
theorem rs_blocks {K : Nat} (hK : K ≠ 0) : ∀ (n : Nat) (l : List PBlock), (n ≠ 0 ∨ l ≠ []) → (∀ b ∈ l, b.vars ≠ []) → Rs (blocksR K n l) (fun r => r ≠ [] ∧ ∀ b ∈ r, b.vars ≠ [])
  | 0, l, h, hl => rs_ret ⟨h.resolve_left (by omega), hl⟩
  | n + 1, l, _, hl => rs_seq (rs_block hK) fun b hb =>
    have hl2 : ∀ x ∈ l ++ [b], x.vars ≠ [] := fun x hx => by
      rcases List.mem_append.1 hx with q | q
      · exact hl x q
      · obtain rfl := List.mem_singleton.1 q
        exact hb
    rs_seq (rs_any _) fun _ _ => rs_if (rs_blocks hK n _ (.inr (by simp)) hl2) (rs_ret ⟨by simp, hl2⟩)
theorem rs_body {K : Nat} (hK : K ≠ 0) : Rs (bodyR K) (fun m => m.blocks ≠ [] ∧ ∀ b ∈ m.blocks, b.vars ≠ []) :=
  rs_seq (rs_seq (rs_blocks hK K [] (.inl hK) (by simp)) (χ := fun m => m.blocks ≠ [] ∧ ∀ b ∈ m.blocks, b.vars ≠ []) fun bs h => rs_seq (rs_any _) fun _ _ => rs_seq (rs_any _) fun g _ => rs_ret h) fun m h => rs_seq (rs_any _) fun _ _ => rs_ret h
theorem check_form {m : PModel} (h1 : m.blocks ≠ []) (h2 : ∀ b ∈ m.blocks, b.vars ≠ []) : checkM m ≠ 2 := by
  have hf : formM m = false := by
    unfold formM
    rw [Bool.or_eq_false_iff]
    refine ⟨decide_eq_false fun e => h1 (List.eq_nil_of_length_eq_zero e), List.any_eq_false.2 fun b hb => ?_⟩
    have := h2 b hb
    simpa using this
  unfold checkM faultsM
  simp only [firstF, hf]
  cases bigM m <;> cases nameM m <;> cases twiceM m <;> cases domM m <;> cases conM m <;> simp
/-- of a whole text nothing is wrong with its form -/
theorem out_whole {K : Nat} (hK : K ≠ 0) {T : List Tok} {len : Nat} {p : Nat} (hw : (bodyR K T start).2.wrong = false) (ha : (bodyR K T start).2.at_ = T.length) : parseT K T len ≠ .err p 2 := by
  unfold parseT outT
  rw [if_neg (by rw [hw, ha]; simp)]
  cases (bodyR K T start).2.bad with
  | some q => simp
  | none =>
    have hc := rs_body hK T start
    have := check_form hc.1 hc.2
    simp only
    split
    · simp
    · simp [this]

/- places -/
theorem bad_at {K : Nat} {T : List Tok} {B p : Nat} (hT : ∀ t ∈ T, t.at_ ≤ B) (h : (bodyR K T start).2.bad = some p) : p ≤ B := (fine_body K).bd T start B hT (fun p h => by cases h) p h
theorem err_place {K : Nat} {T : List Tok} {len p : Nat} {e : Int} (hT : ∀ t ∈ T, t.at_ ≤ len) (h : parseT K T len = .err p e) : p ≤ len := by
  unfold parseT outT at h
  split at h
  · simp only [Out.err.injEq] at h
    rw [← h.1]
    unfold placeT
    split
    · rename_i t ht
      exact hT t (List.mem_of_getElem? ht)
    · exact Nat.le_refl _
  · split at h
    · rename_i q hq
      simp only [Out.err.injEq] at h
      rw [← h.1]
      exact bad_at hT hq
    · split at h
      · cases h
      · simp only [Out.err.injEq] at h
        omega
theorem model_may {K : Nat} {T : List Tok} {len : Nat} {m : PModel} (h : parseT K T len = .model m) : checkM m = 0 := by
  unfold parseT outT at h
  split at h
  · cases h
  · split at h
    · cases h
    · split at h
      · rename_i hc
        cases h
        exact hc
      · cases h

/- tokens that differ in places alone -/
/-- the same model, or the same fault -/
def Out.like : Out → Out → Prop
  | .model m, .model n => m = n
  | .err _ e, .err _ f => e = f
  | _, _ => False
theorem like_out {K : Nat} {T U : List Tok} {len len' : Nat} (h : T.map key = U.map key) : (parseT K T len).like (parseT K U len') := by
  obtain ⟨e1, e2⟩ := (fine_body K).like T U start start h ⟨rfl, rfl, rfl, rfl⟩
  have hl : T.length = U.length := by
    have := congrArg List.length h
    simpa using this
  unfold parseT outT
  rw [← e2.wrong, ← e2.at_, ← hl, ← e1]
  split
  · exact rfl
  · have hb := e2.bad
    cases h1 : (bodyR K T start).2.bad <;> cases h2 : (bodyR K U start).2.bad <;> rw [h1, h2] at hb <;> simp at hb ⊢
    · split <;> exact rfl
    · exact rfl

end Go.Proofs.YtkgieaoahijheaaGreatDoor.Pa
namespace Go.Proofs.YtkgieaoahijheaaGreatDoor.Wt
open Sc (Tok)
open Pa

/-- where these tokens are next, and such behind them, a reader takes just these, and tells this -/
def Reads {α : Type} (P : Rx α) (vs : List Txt) (ts : List Tok) (φ : List Tok → Prop) (a : α) (new : List Txt) : Prop :=
  ∀ (T : List Tok) (r : Rd) (post : List Tok), r.wrong = false → r.vars = vs → r.bad = none → T.drop r.at_ = ts ++ post → φ post → P T r = (a, ⟨r.at_ + ts.length, false, vs ++ new, none⟩)
def Any (_ : List Tok) : Prop := True
section
variable {α β : Type} {vs n1 n2 : List Txt} {t1 t2 : List Tok} {φ ψ : List Tok → Prop} {a : α} {b : β}
theorem next_head {T : List Tok} {r : Rd} {l : List Tok} (hw : r.wrong = false) (hd : T.drop r.at_ = l) : next T r = l.head? := by
  unfold next
  rw [hw, ← hd, List.head?_drop]
  simp
theorem reads_ret : Reads (ret a) vs [] φ a [] := fun T r post hw hv hb _ _ => by
  obtain ⟨i, w, v, b⟩ := r
  simp only at hw hv hb
  subst hw hv hb
  simp [ret]
theorem reads_seq {m : Rx α} {f : α → Rx β} (hm : Reads m vs t1 φ a n1) (hf : Reads (f a) (vs ++ n1) t2 ψ b n2) (hφ : ∀ post, ψ post → φ (t2 ++ post)) : Reads (seq m f) vs (t1 ++ t2) ψ b (n1 ++ n2) := fun T r post hw hv hb hd hp => by
  have e1 := hm T r (t2 ++ post) hw hv hb (by rw [hd, List.append_assoc]) (hφ post hp)
  unfold seq
  rw [e1]
  have e2 := hf T ⟨r.at_ + t1.length, false, vs ++ n1, none⟩ post rfl rfl rfl (by
    show T.drop (r.at_ + t1.length) = _
    rw [← List.drop_drop, hd, List.append_assoc, List.drop_left]) hp
  simp only at e2 ⊢
  rw [e2]
  simp [Nat.add_assoc]
/-- with nothing new -/
theorem reads_seq0 {m : Rx α} {f : α → Rx β} (hm : Reads m vs t1 φ a []) (hf : Reads (f a) vs t2 ψ b n2) (hφ : ∀ post, ψ post → φ (t2 ++ post)) : Reads (seq m f) vs (t1 ++ t2) ψ b n2 := by
  have h := reads_seq (n1 := []) (f := f) hm (by rw [List.append_nil]; exact hf) hφ
  simpa using h
theorem reads_imp {P : Rx α} (h : Reads P vs t1 φ a n1) (hi : ∀ post, ψ post → φ post) : Reads P vs t1 ψ a n1 := fun T r post hw hv hb hd hp => h T r post hw hv hb hd (hi post hp)
theorem reads_yes {c : Prop} [Decidable c] {P Q : Rx α} (hc : c) (h : Reads P vs t1 φ a n1) : Reads (if c then P else Q) vs t1 φ a n1 := by rw [if_pos hc]; exact h
theorem reads_no {c : Prop} [Decidable c] {P Q : Rx α} (hc : ¬ c) (h : Reads Q vs t1 φ a n1) : Reads (if c then P else Q) vs t1 φ a n1 := by rw [if_neg hc]; exact h
theorem reads_step {f : Rd → Option Tok → α × Rd} {t : Tok} (h : ∀ r : Rd, r.wrong = false → r.vars = vs → f r (some t) = (a, step1 r)) : Reads (Pa.look f) vs [t] φ a [] := fun T r post hw hv hb hd _ => by
  show f r (next T r) = _
  rw [next_head hw hd]
  show f r (some t) = _
  rw [h r hw hv]
  obtain ⟨i, w, v, b⟩ := r
  simp only at hw hv hb
  subst hw hv hb
  simp [step1]
theorem reads_stay {f : Rd → Option Tok → α × Rd} (h : ∀ (r : Rd) (post : List Tok), r.wrong = false → φ post → f r post.head? = (a, r)) : Reads (Pa.look f) vs [] φ a [] := fun T r post hw hv hb hd hp => by
  show f r (next T r) = _
  rw [next_head hw hd, List.nil_append, h r post hw hp]
  obtain ⟨i, w, v, b⟩ := r
  simp only at hw hv hb
  subst hw hv hb
  simp
theorem reads_tell {f : Rd → Option Tok → α} (h : ∀ (r : Rd) (post : List Tok), r.wrong = false → φ post → f r post.head? = a) : Reads (tell f) vs [] φ a [] := reads_stay fun r post hw hp => by rw [h r post hw hp]
end
/-- such a token is next -/
def Nx (p : Tok → Prop) (post : List Tok) : Prop := ∃ t r, post = t :: r ∧ p t
section
variable {vs : List Txt} {φ : List Tok → Prop}
theorem reads_must {s : Txt} {t : Tok} (h : t.text = s) : Reads (Pa.look (mustF s)) vs [t] φ () [] := reads_step fun r _ _ => by simp [mustF, textO, h]
theorem reads_has {s : Txt} {t : Tok} (h : t.text = s) : Reads (Pa.look (hasF s)) vs [t] φ true [] := reads_step fun r _ _ => by simp [hasF, textO, h]
theorem reads_hasnt {s : Txt} (h : ∀ post, φ post → Nx (fun t => t.text ≠ s) post) : Reads (Pa.look (hasF s)) vs [] φ false [] := reads_stay fun r post _ hp => by
  obtain ⟨t, l, rfl, ht⟩ := h post hp
  simp [hasF, textO, ht]
theorem reads_value {n : Nat} : Reads (Pa.look valueF) vs [tN n] φ (n : Int) [] := reads_step fun r _ _ => by simp [valueF, kindO, valueO, tN]
theorem reads_name {s : Txt} (h : nameL s = true) : Reads (Pa.look nameF) vs [tW s] φ s [] := reads_step fun r _ _ => by
  have h2 : wordsL.contains s = false := by
    unfold nameL at h
    simp only [Bool.and_eq_true] at h
    simpa using h.1
  have h3 : namedO (some (tW s)) = true := by
    unfold namedO
    show (!wordsL.contains s && decide ((1 : Nat) = 1)) = true
    rw [h2]
    rfl
  unfold nameF
  rw [if_pos h3]
  rfl
/-- a name that is a variable's -/
structure Kn (vs : List Txt) (t : Tok) (v : Int) : Prop where
  mark : t.text ≠ tMinus
  word : namedO (some t) = true
  find : findF t.text vs = some v.toNat
  low : 0 ≤ v
theorem reads_variable {t : Tok} {v : Int} (h : Kn vs t v) : Reads (Pa.look variableF) vs [t] φ v [] := reads_step fun r _ hv => by
  unfold variableF
  rw [if_pos h.word]
  show (match findF t.text r.vars with
    | some i => ((i : Int), step1 r)
    | none => _) = _
  rw [hv, h.find]
  have := h.low
  simp only [Prod.mk.injEq, and_true]
  omega
theorem named_word {t : Tok} (h : namedO (some t) = true) : wordsL.contains t.text = false ∧ t.kind = 1 := by
  unfold namedO at h
  simp only [Bool.and_eq_true, Bool.not_eq_true', decide_eq_true_eq] at h
  exact h
theorem no_word {s x : Txt} (h : wordsL.contains s = false) (hx : wordsL.contains x = true) : s ≠ x := fun e => by rw [e, hx] at h; cases h
theorem word_ne {t : Tok} {s : Txt} (h : namedO (some t) = true) (hs : wordsL.contains s = true) : t.text ≠ s := no_word (named_word h).1 hs

/- numbers -/
def numT (z : Int) : List Tok := if z < 0 then [tM tMinus, tN z.natAbs] else [tN z.natAbs]
theorem digs_mark {n : Nat} {c : UInt8} {r : List UInt8} (h : Sc.digit c = false) : digs n ≠ c :: r := fun e => by
  have := digs_all n c (by rw [e]; simp)
  rw [h] at this
  cases this
theorem digs_word {n : Nat} {s : Txt} (h : ∀ c ∈ s, Sc.digit c = false) (hs : s ≠ []) : digs n ≠ s := fun e => by
  cases s with
  | nil => exact hs rfl
  | cons c r => exact digs_mark (h c (by simp)) e
theorem reads_number (z : Int) : Reads number vs (numT z) φ z [] := by
  unfold numT number
  by_cases h : z < 0
  · rw [if_pos h]
    exact reads_seq0 (t1 := [tM tMinus]) (φ := Any) (reads_has rfl) (reads_yes rfl (by
      have := reads_seq0 (t1 := [tN z.natAbs]) (t2 := []) (φ := Any) (ψ := φ) (f := fun v => ret (-v)) (vs := vs) (n2 := []) reads_value reads_ret (fun _ _ => trivial)
      rw [show (-(z.natAbs : Int)) = z by omega] at this
      exact this)) (fun _ _ => trivial)
  · rw [if_neg h]
    refine reads_seq0 (t1 := []) (t2 := [tN z.natAbs]) (φ := Nx fun t => t.text ≠ tMinus) (reads_hasnt fun _ h => h) (reads_no (by simp) ?_) (fun post _ => ⟨tN z.natAbs, post, rfl, digs_mark (by decide)⟩)
    have := reads_value (vs := vs) (φ := φ) (n := z.natAbs)
    rw [show ((z.natAbs : Nat) : Int) = z by omega] at this
    exact this
/-- the first token of a number -/
theorem numT_head (z : Int) : ∃ t r, numT z = t :: r ∧ (t = tM tMinus ∨ t = tN z.natAbs) := by
  unfold numT
  split
  · exact ⟨_, _, rfl, .inl rfl⟩
  · exact ⟨_, _, rfl, .inr rfl⟩

/- sums -/
variable {nm : Int → Tok}
def signT (first : Bool) (k : Int) : List Tok := if k < 0 then [tM tMinus] else if first = true then [] else [tM tPlus]
def coefT (k : Int) : List Tok := if k.natAbs = 1 then [] else [tN k.natAbs, tM tStar]
def sumT (nm : Int → Tok) (first : Bool) : List (Int × Int) → List Tok
  | [] => []
  | (v, k) :: l => signT first k ++ (coefT k ++ ([nm v] ++ sumT nm false l))
def sgn (k : Int) : Int := if k < 0 then -1 else 1
theorem sgn_abs (k : Int) : sgn k * (k.natAbs : Int) = k := by
  unfold sgn
  split <;> omega
/-- no more of a sum follows -/
def SumEnd : List Tok → Prop := Nx fun t => t.text ≠ tPlus ∧ t.text ≠ tMinus
theorem reads_factor (k : Int) (t : Tok) (ht : t.kind = 1) : Reads (seq (tell fun _ o => kindO o) fun x => factor x) vs (coefT k) (Nx fun x => x = t) (k.natAbs : Int) [] := by
  unfold coefT
  by_cases h : k.natAbs = 1
  · rw [if_pos h, h]
    refine reads_seq0 (t1 := []) (t2 := []) (φ := Nx fun x => x = t) (a := 1) (reads_tell fun r post _ hp => ?_) ?_ (fun post h => h)
    · obtain ⟨x, l, rfl, rfl⟩ := hp
      exact ht
    · show Reads (if (1 : Nat) = 2 then _ else _) _ _ _ _ _
      exact reads_no (by decide) reads_ret
  · rw [if_neg h]
    refine reads_seq0 (t1 := []) (t2 := [tN k.natAbs, tM tStar]) (φ := Nx fun x => x = tN k.natAbs) (a := 2) (reads_tell fun r post _ hp => ?_) ?_ (fun post _ => ⟨_, _, rfl, rfl⟩)
    · obtain ⟨x, l, rfl, rfl⟩ := hp
      rfl
    · show Reads (if (2 : Nat) = 2 then _ else _) _ _ _ _ _
      exact reads_yes rfl (reads_seq0 (t1 := [tN k.natAbs]) (t2 := [tM tStar]) (φ := Any) reads_value (reads_seq0 (t1 := [tM tStar]) (t2 := []) (φ := Any) (reads_must rfl) reads_ret (fun _ _ => trivial)) (fun _ _ => trivial))
theorem reads_terms : ∀ (l : List (Int × Int)) (n : Nat) (v k : Int) (c : PCon), l.length < n → (∀ x ∈ (v, k) :: l, Kn vs (nm x.1) x.1) →
    Reads (terms n (sgn k) c) vs (coefT k ++ ([nm v] ++ sumT nm false l)) SumEnd { c with coefs := c.coefs ++ k :: l.map (·.2), vars := c.vars ++ v :: l.map (·.1) } []
  | l, 0, v, k, c, hn, _ => by omega
  | l, n + 1, v, k, c, hn, hk => by
    have hv := hk (v, k) (by simp)
    have hkind := (named_word hv.word).2
    have A := reads_factor (vs := vs) k (nm v) hkind
    unfold terms
    -- the coefficient
    have e1 : (seq (tell fun _ o => kindO o) fun k_1 => seq (factor k_1) fun v => seq (Pa.look variableF) fun x =>
        seq (tell fun _ o => if textO o = tMinus then (-1 : Int) else 1) fun s' => seq (Pa.look (hasF tPlus)) fun b => seq (orMinus b) fun b' =>
        if b' = true then terms n s' { c with coefs := c.coefs ++ [sgn k * v], vars := c.vars ++ [x] } else ret { c with coefs := c.coefs ++ [sgn k * v], vars := c.vars ++ [x] }) =
      seq (seq (tell fun _ o => kindO o) fun x => factor x) fun v => seq (Pa.look variableF) fun x =>
        seq (tell fun _ o => if textO o = tMinus then (-1 : Int) else 1) fun s' => seq (Pa.look (hasF tPlus)) fun b => seq (orMinus b) fun b' =>
        if b' = true then terms n s' { c with coefs := c.coefs ++ [sgn k * v], vars := c.vars ++ [x] } else ret { c with coefs := c.coefs ++ [sgn k * v], vars := c.vars ++ [x] } := rfl
    rw [e1]
    refine reads_seq0 A ?_ (fun post _ => ⟨nm v, sumT nm false l ++ post, by simp, rfl⟩)
    rw [sgn_abs]
    refine reads_seq0 (φ := Any) (reads_variable hv) ?_ (fun _ _ => trivial)
    cases l with
    | nil =>
      refine reads_seq0 (t1 := []) (t2 := []) (φ := SumEnd) (a := 1) (reads_tell fun r post _ hp => ?_) ?_ (fun post h => h)
      · obtain ⟨x, l, rfl, h1, h2⟩ := hp
        simp [textO, h2]
      refine reads_seq0 (t1 := []) (t2 := []) (φ := SumEnd) (reads_hasnt fun post hp => ?_) ?_ (fun post h => h)
      · obtain ⟨x, l, rfl, h1, h2⟩ := hp
        exact ⟨x, l, rfl, h1⟩
      refine reads_seq0 (t1 := []) (t2 := []) (φ := SumEnd) (a := false) ?_ (reads_no (by simp) ?_) (fun post h => h)
      · show Reads (if false = true then _ else _) _ _ _ _ _
        refine reads_no (by simp) (reads_hasnt fun post hp => ?_)
        obtain ⟨x, l, rfl, h1, h2⟩ := hp
        exact ⟨x, l, rfl, h2⟩
      · exact reads_ret
    | cons y l =>
      obtain ⟨v', k'⟩ := y
      have IH := reads_terms l n v' k' { c with coefs := c.coefs ++ [k], vars := c.vars ++ [v] } (by simp at hn; omega) (fun x hx => hk x (by simp at hx ⊢; right; exact hx))
      have e2 : ({ c with coefs := c.coefs ++ k :: ((v', k') :: l).map (·.2), vars := c.vars ++ v :: ((v', k') :: l).map (·.1) } : PCon) = { c with coefs := (c.coefs ++ [k]) ++ k' :: l.map (·.2), vars := (c.vars ++ [v]) ++ v' :: l.map (·.1) } := by simp
      rw [e2]
      show Reads _ _ (signT false k' ++ (coefT k' ++ ([nm v'] ++ sumT nm false l))) _ _ _
      unfold signT
      by_cases hneg : k' < 0
      · rw [if_pos hneg]
        have hs : sgn k' = -1 := if_pos hneg
        refine reads_seq0 (t1 := []) (φ := Nx fun t => t = tM tMinus) (a := -1) (reads_tell fun r post _ hp => ?_) ?_ (fun post _ => ⟨_, _, rfl, rfl⟩)
        · obtain ⟨x, l, rfl, rfl⟩ := hp
          rfl
        refine reads_seq0 (t1 := []) (φ := Nx fun t => t = tM tMinus) (reads_hasnt fun post hp => ?_) ?_ (fun post _ => ⟨_, _, rfl, rfl⟩)
        · obtain ⟨x, l, rfl, rfl⟩ := hp
          exact ⟨_, _, rfl, by decide⟩
        refine reads_seq0 (t1 := [tM tMinus]) (φ := Any) (a := true) ?_ (reads_yes rfl ?_) (fun _ _ => trivial)
        · show Reads (if false = true then _ else _) _ _ _ _ _
          exact reads_no (by simp) (reads_has rfl)
        · rw [← hs]
          exact IH
      · rw [if_neg hneg]
        have hs : sgn k' = 1 := if_neg hneg
        simp only [Bool.false_eq_true, if_false]
        refine reads_seq0 (t1 := []) (φ := Nx fun t => t = tM tPlus) (a := 1) (reads_tell fun r post _ hp => ?_) ?_ (fun post _ => ⟨_, _, rfl, rfl⟩)
        · obtain ⟨x, l, rfl, rfl⟩ := hp
          rfl
        refine reads_seq0 (t1 := [tM tPlus]) (φ := Any) (reads_has rfl) ?_ (fun _ _ => trivial)
        refine reads_seq0 (t1 := []) (φ := Any) (a := true) ?_ (reads_yes rfl ?_) (fun _ _ => trivial)
        · show Reads (if true = true then _ else _) _ _ _ _ _
          exact reads_yes rfl reads_ret
        · rw [← hs]
          exact IH
def relT (r : Int) : Tok := tM (relsL.getD r.toNat [])
theorem reads_rel {r : Int} (h : 0 ≤ r ∧ r ≤ 5) : Reads (Pa.look relF) vs [relT r] φ (some r.toNat) [] := reads_step fun q _ _ => by
  obtain ⟨n, hn⟩ : ∃ n : Nat, n = r.toNat := ⟨_, rfl⟩
  have hn5 : n ≤ 5 := by omega
  unfold relT
  rw [← hn]
  have e : findF (relsL.getD n []) relsL = some n := by
    match n, hn5 with
    | 0, _ => rfl
    | 1, _ => rfl
    | 2, _ => rfl
    | 3, _ => rfl
    | 4, _ => rfl
    | 5, _ => rfl
  unfold relF
  show (match findF (relsL.getD n []) relsL with
    | some i => (some i, step1 q)
    | none => (none, fail1 q)) = _
  rw [e]
theorem rel_mark {r : Int} (h : 0 ≤ r ∧ r ≤ 5) : (relT r).text ≠ tPlus ∧ (relT r).text ≠ tMinus := by
  obtain ⟨n, hn⟩ : ∃ n : Nat, n = r.toNat := ⟨_, rfl⟩
  have hn5 : n ≤ 5 := by omega
  unfold relT
  rw [← hn]
  match n, hn5 with
  | 0, _ => decide
  | 1, _ => decide
  | 2, _ => decide
  | 3, _ => decide
  | 4, _ => decide
  | 5, _ => decide
theorem relate_some (c : PCon) (i : Nat) : relate c (some i) = seq number fun k => ret { c with rel := (i : Int), const := k } := rfl
/-- the tokens of a sum, how it compares, and to what -/
def sumsT (nm : Int → Tok) (l : List (Int × Int)) (rel const : Int) : List Tok := sumT nm true l ++ ([relT rel] ++ numT const)
theorem reads_sum {K : Nat} {c : PCon} {v k : Int} {l : List (Int × Int)} {rel const : Int} (hK : l.length < K) (hk : ∀ x ∈ (v, k) :: l, Kn vs (nm x.1) x.1) (hr : 0 ≤ rel ∧ rel ≤ 5) :
    Reads (sumR K c) vs (sumsT nm ((v, k) :: l) rel const) φ { c with coefs := c.coefs ++ k :: l.map (·.2), vars := c.vars ++ v :: l.map (·.1), rel := rel, const := const } [] := by
  unfold sumsT sumR
  show Reads _ _ ((signT true k ++ (coefT k ++ ([nm v] ++ sumT nm false l))) ++ ([relT rel] ++ numT const)) _ _ _
  rw [List.append_assoc]
  have B := reads_terms (vs := vs) (nm := nm) l K v k c hK hk
  have C : Reads (seq (terms K (sgn k) c) fun d => seq (Pa.look relF) fun i => relate d i) vs ((coefT k ++ ([nm v] ++ sumT nm false l)) ++ ([relT rel] ++ numT const)) φ { c with coefs := c.coefs ++ k :: l.map (·.2), vars := c.vars ++ v :: l.map (·.1), rel := rel, const := const } [] := by
    refine reads_seq0 B (reads_seq0 (φ := Any) (reads_rel hr) ?_ (fun _ _ => trivial)) (fun post _ => ⟨_, _, rfl, rel_mark hr⟩)
    have D := reads_seq0 (t2 := []) (φ := Any) (ψ := φ) (n2 := []) (f := fun z => ret ({ ({ c with coefs := c.coefs ++ k :: l.map (·.2), vars := c.vars ++ v :: l.map (·.1) } : PCon) with rel := ((rel.toNat : Nat) : Int), const := z } : PCon)) (reads_number (vs := vs) const) reads_ret (fun _ _ => trivial)
    rw [List.append_nil, show ((rel.toNat : Nat) : Int) = rel by omega] at D
    rw [relate_some, show ((rel.toNat : Nat) : Int) = rel by omega]
    exact D
  unfold signT
  by_cases hneg : k < 0
  · rw [if_pos hneg]
    refine reads_seq0 (t1 := [tM tMinus]) (φ := Any) (reads_has rfl) ?_ (fun _ _ => trivial)
    rw [if_pos rfl, show (-1 : Int) = sgn k from (if_pos hneg).symm]
    exact C
  · rw [if_neg hneg]
    simp only [if_true, List.nil_append]
    have hh : ∀ post, Nx (fun t => t.text ≠ tMinus) (((coefT k ++ ([nm v] ++ sumT nm false l)) ++ ([relT rel] ++ numT const)) ++ post) := fun post => by
      unfold coefT
      split
      · exact ⟨nm v, _, rfl, (hk (v, k) (by simp)).mark⟩
      · exact ⟨tN k.natAbs, _, rfl, digs_mark (by decide)⟩
    refine reads_seq0 (t1 := []) (φ := Nx fun t => t.text ≠ tMinus) (reads_hasnt fun _ h => h) ?_ (fun post _ => hh post)
    rw [if_neg (by simp), show (1 : Int) = sgn k from (if_neg hneg).symm]
    exact C
end
end Go.Proofs.YtkgieaoahijheaaGreatDoor.Wt
namespace Go.Proofs.YtkgieaoahijheaaGreatDoor.Wt
open Sc (Tok)
open Pa

/-- constraints end here -/
def Stop : List Tok → Prop := Nx fun t => t = tW tAnd ∨ t = tM tSemi
def wordT (k : Int) : Txt := if k = 2 then tProduct else if k = 4 then tElement else if k = 5 then tDifferent else tTable
def numsT (l : List Int) : List Tok := tM tOpen :: (l.flatMap numT ++ [tM tShut])
/-- a constraint's tokens -/
def conT (nm : Int → Tok) (c : PCon) : List Tok :=
  if c.kind = 1 then sumsT nm (c.vars.zip c.coefs) c.rel c.const
  else if c.kind = 3 then tW tIff :: nm (c.vars.getD 0 0) :: sumsT nm ((c.vars.drop 1).zip c.coefs) c.rel c.const
  else tW (wordT c.kind) :: (c.vars.map nm ++ (if c.kind = 4 ∨ c.kind = 6 then numsT c.nums else []))
/-- the forms of constraints -/
inductive Shape : PCon → Prop where
  | lin (vs cs : List Int) (rel const : Int) (h : vs.length = cs.length) (h0 : vs ≠ []) (hr : 0 ≤ rel ∧ rel ≤ 5) : Shape ⟨1, vs, cs, rel, const, []⟩
  | iff (v : Int) (vs cs : List Int) (rel const : Int) (h : vs.length = cs.length) (h0 : vs ≠ []) (hr : 0 ≤ rel ∧ rel ≤ 5) : Shape ⟨3, v :: vs, cs, rel, const, []⟩
  | product (vs : List Int) (h : vs.length = 3) : Shape ⟨2, vs, [], 0, 0, []⟩
  | element (vs ns : List Int) (h : vs.length = 2) (hn : 1 ≤ ns.length) : Shape ⟨4, vs, [], 0, 0, ns⟩
  | differ (vs : List Int) (h : 2 ≤ vs.length) : Shape ⟨5, vs, [], 0, 0, []⟩
  | table (vs ns : List Int) (h : 1 ≤ vs.length) : Shape ⟨6, vs, [], 0, 0, ns⟩
section
variable {vs : List Txt} {φ : List Tok → Prop} {nm : Int → Tok}
theorem reads_names : ∀ (l : List Int) (n m : Nat) (more : Bool) (c : PCon), l.length < n → m ≤ l.length → (more = false → m = l.length) → (∀ v ∈ l, Kn vs (nm v) v) →
    Reads (namesR n m more c) vs (l.map nm) (Nx fun t => namedO (some t) = false) { c with vars := c.vars ++ l } []
  | l, 0, m, more, c, hn, _, _, _ => by omega
  | [], n + 1, m, more, c, _, hm, _, _ => by
    obtain rfl : m = 0 := by simpa using hm
    have hc : ({ c with vars := c.vars ++ [] } : PCon) = c := by simp
    rw [hc]
    unfold namesR
    refine reads_seq0 (t1 := []) (t2 := []) (φ := Nx fun t => namedO (some t) = false) (a := false) (reads_tell fun r post _ hp => ?_) (reads_no (by simp) reads_ret) (fun post h => h)
    obtain ⟨t, l, rfl, ht⟩ := hp
    simp [ht]
  | v :: l, n + 1, m, more, c, hn, hm, hmo, hk => by
    have IH := reads_names l n (m - 1) more { c with vars := c.vars ++ [v] } (by simp at hn; omega) (by simp at hm; omega) (fun e => by have := hmo e; simp at this; omega) (fun x hx => hk x (by simp [hx]))
    have hv := hk v (by simp)
    have hc : ({ c with vars := c.vars ++ v :: l } : PCon) = { c with vars := (c.vars ++ [v]) ++ l } := by simp
    rw [hc]
    unfold namesR
    refine reads_seq0 (t1 := []) (φ := Nx fun t => t = nm v) (a := true) (reads_tell fun r post hw hp => ?_) (reads_yes rfl (reads_seq0 (t1 := [nm v]) (φ := Any) (reads_variable hv) IH (fun _ _ => trivial))) (fun post _ => ⟨nm v, _, rfl, rfl⟩)
    obtain ⟨t, l', rfl, rfl⟩ := hp
    rw [List.head?_cons, hv.word, hw]
    by_cases h0 : 0 < m
    · simp [h0]
    · cases more
      · have := hmo rfl
        simp at this
        omega
      · simp
theorem numT_shut (z : Int) : ∃ t r, numT z = t :: r ∧ t.text ≠ tShut := by
  obtain ⟨t, r, e, h⟩ := numT_head z
  refine ⟨t, r, e, ?_⟩
  rcases h with rfl | rfl
  · decide
  · exact digs_mark (by decide)
theorem reads_nums : ∀ (l : List Int) (n m : Nat) (c : PCon), l.length < n → m ≤ l.length → Reads (numsR n m c) vs (l.flatMap numT) (Nx fun t => t.text = tShut) { c with nums := c.nums ++ l } []
  | l, 0, m, c, hn, _ => by omega
  | [], n + 1, m, c, _, hm => by
    obtain rfl : m = 0 := by simpa using hm
    have hc : ({ c with nums := c.nums ++ [] } : PCon) = c := by simp
    rw [hc]
    unfold numsR
    refine reads_seq0 (t1 := []) (t2 := []) (φ := Nx fun t => t.text = tShut) (a := false) (reads_tell fun r post _ hp => ?_) (reads_no (by simp) reads_ret) (fun post h => h)
    obtain ⟨t, l, rfl, ht⟩ := hp
    simp [textO, ht]
  | z :: l, n + 1, m, c, hn, hm => by
    have IH := reads_nums l n (m - 1) { c with nums := c.nums ++ [z] } (by simp at hn; omega) (by simp at hm; omega)
    have hc : ({ c with nums := c.nums ++ z :: l } : PCon) = { c with nums := (c.nums ++ [z]) ++ l } := by simp
    rw [hc, List.flatMap_cons]
    unfold numsR
    refine reads_seq0 (t1 := []) (φ := Nx fun t => t.text ≠ tShut) (a := true) (reads_tell fun r post hw hp => ?_) (reads_yes rfl (reads_seq0 (φ := Any) (reads_number z) IH (fun _ _ => trivial))) (fun post _ => ?_)
    · obtain ⟨t, l', rfl, ht⟩ := hp
      simp [textO, ht, hw]
    · obtain ⟨t, r, e, h⟩ := numT_shut z
      exact ⟨t, r ++ (l.flatMap numT ++ post), by rw [e]; simp, h⟩
theorem reads_brackets {K m : Nat} {c : PCon} {l : List Int} (hK : l.length < K) (hm : m ≤ l.length) : Reads (brackets K m c) vs (numsT l) φ { c with nums := c.nums ++ l } [] := by
  unfold brackets numsT
  refine reads_seq0 (t1 := [tM tOpen]) (φ := Any) (reads_must rfl) (reads_seq0 (reads_nums l K m c hK hm) ?_ (fun post _ => ⟨_, _, rfl, rfl⟩)) (fun _ _ => trivial)
  exact reads_seq0 (t1 := [tM tShut]) (t2 := []) (φ := Any) (reads_must rfl) reads_ret (fun _ _ => trivial)
theorem stop_named {post : List Tok} (h : Stop post) : Nx (fun t => namedO (some t) = false) post := by
  obtain ⟨t, r, e, ht⟩ := h
  refine ⟨t, r, e, ?_⟩
  rcases ht with rfl | rfl
  · decide
  · decide
theorem sums_head {v k : Int} {l : List (Int × Int)} {rel const : Int} (hv : Kn vs (nm v) v) : ∃ t r, sumsT nm ((v, k) :: l) rel const = t :: r ∧ wordsL.contains t.text = false := by
  show ∃ t r, (signT true k ++ (coefT k ++ ([nm v] ++ sumT nm false l))) ++ ([relT rel] ++ numT const) = t :: r ∧ _
  unfold signT
  by_cases h : k < 0
  · rw [if_pos h]
    exact ⟨tM tMinus, _, rfl, by decide⟩
  · rw [if_neg h, if_pos rfl, List.nil_append]
    unfold coefT
    split
    · exact ⟨nm v, _, rfl, (named_word hv.word).1⟩
    · refine ⟨tN k.natAbs, _, rfl, ?_⟩
      have hw : ∀ s ∈ wordsL, digs k.natAbs ≠ s := fun s hs => digs_word (by
        have : ∀ s ∈ wordsL, ∀ c ∈ s, Sc.digit c = false := by decide
        exact this s hs) (by
        have : ∀ s ∈ wordsL, s ≠ [] := by decide
        exact this s hs)
      show wordsL.contains (digs k.natAbs) = false
      cases hc : wordsL.contains (digs k.natAbs)
      · rfl
      · exact absurd rfl (hw _ (List.contains_iff_mem.1 hc))
theorem zip_cons {a : List Int} {b : List Int} (h : a.length = b.length) (h0 : a ≠ []) : ∃ v k l, a.zip b = (v, k) :: l ∧ a = v :: l.map (·.1) ∧ b = k :: l.map (·.2) := by
  cases a with
  | nil => exact absurd rfl h0
  | cons v a =>
    cases b with
    | nil => simp at h
    | cons k b =>
      simp only [List.length_cons, Nat.add_right_cancel_iff] at h
      refine ⟨v, k, a.zip b, rfl, ?_, ?_⟩
      · rw [List.map_fst_zip (by omega)]
      · rw [List.map_snd_zip (by omega)]
theorem reads_con {K : Nat} {c : PCon} (hc : Shape c) (hK : c.vars.length < K ∧ c.nums.length < K) (hk : ∀ v ∈ c.vars, Kn vs (nm v) v) : Reads (conR K) vs (conT nm c) Stop c [] := by
  cases hc with
  | lin xs cs rel const h h0 hr =>
    obtain ⟨v, k, l, e, e1, e2⟩ := zip_cons h h0
    show Reads _ _ (sumsT nm (xs.zip cs) rel const) _ _ _
    rw [e]
    have hkl : ∀ x ∈ (v, k) :: l, Kn vs (nm x.1) x.1 := fun x hx => hk x.1 (by
      show x.1 ∈ xs
      rw [e1]
      rcases List.mem_cons.1 hx with q | q
      · rw [q]; simp
      · exact List.mem_cons_of_mem _ (List.mem_map_of_mem q))
    have hl : l.length < K := by
      have h1 : xs.length < K := hK.1
      rw [e1] at h1
      simp at h1
      omega
    obtain ⟨t, r, eh, hw⟩ := sums_head (nm := nm) (l := l) (rel := rel) (const := const) (k := k) (hkl (v, k) (by simp))
    unfold conR
    refine reads_seq0 (t1 := []) (φ := Nx fun x => x = t) (a := t.text) (reads_tell fun q post _ hp => ?_) ?_ (fun post _ => ⟨t, r ++ post, by show sumsT nm ((v, k) :: l) rel const ++ post = _; rw [show sumsT nm ((v, k) :: l) rel const = t :: r from eh]; rfl, rfl⟩)
    · obtain ⟨x, l', rfl, rfl⟩ := hp
      rfl
    refine reads_no (no_word hw (by decide)) (reads_no (no_word hw (by decide)) (reads_no (no_word hw (by decide)) (reads_no (no_word hw (by decide)) (reads_no (no_word hw (by decide)) ?_))))
    have A := reads_sum (vs := vs) (nm := nm) (φ := Stop) (K := K) (c := conOf 1) (v := v) (k := k) (l := l) (rel := rel) (const := const) hl hkl hr
    simp only [conOf, List.nil_append] at A
    rw [e1, e2]
    exact A
  | iff x xs cs rel const h h0 hr =>
    obtain ⟨v, k, l, e, e1, e2⟩ := zip_cons h h0
    show Reads _ _ (tW tIff :: nm x :: sumsT nm (xs.zip cs) rel const) _ _ _
    rw [e]
    have hkl : ∀ y ∈ (v, k) :: l, Kn vs (nm y.1) y.1 := fun y hy => hk y.1 (by
      show y.1 ∈ x :: xs
      refine List.mem_cons_of_mem _ ?_
      rw [e1]
      rcases List.mem_cons.1 hy with q | q
      · rw [q]; simp
      · exact List.mem_cons_of_mem _ (List.mem_map_of_mem q))
    have hl : l.length < K := by
      have h1 : (x :: xs).length < K := hK.1
      rw [e1] at h1
      simp at h1
      omega
    unfold conR
    refine reads_seq0 (t1 := []) (φ := Nx fun y => y = tW tIff) (a := tIff) (reads_tell fun q post _ hp => ?_) ?_ (fun post _ => ⟨_, _, rfl, rfl⟩)
    · obtain ⟨y, l', rfl, rfl⟩ := hp
      rfl
    refine reads_no (by decide) (reads_yes rfl ?_)
    refine reads_seq0 (t1 := [tW tIff]) (φ := Any) (reads_must rfl) (reads_seq0 (t1 := [nm x]) (φ := Any) (reads_variable (hk x (by simp))) ?_ (fun _ _ => trivial)) (fun _ _ => trivial)
    have A := reads_sum (vs := vs) (nm := nm) (φ := Stop) (K := K) (c := { conOf 3 with vars := [x] }) (v := v) (k := k) (l := l) (rel := rel) (const := const) hl hkl hr
    simp only [conOf, List.nil_append, List.cons_append] at A
    rw [e1, e2]
    exact A
  | product xs h =>
    show Reads _ _ (tW tProduct :: (xs.map nm ++ [])) _ _ _
    unfold conR
    refine reads_seq0 (t1 := []) (φ := Nx fun y => y = tW tProduct) (a := tProduct) (reads_tell fun q post _ hp => ?_) ?_ (fun post _ => ⟨_, _, rfl, rfl⟩)
    · obtain ⟨y, l', rfl, rfl⟩ := hp
      rfl
    refine reads_yes rfl (reads_seq0 (t1 := [tW tProduct]) (φ := Any) (reads_must rfl) ?_ (fun _ _ => trivial))
    show Reads _ _ (xs.map nm ++ []) _ _ _
    rw [List.append_nil]
    exact reads_imp (reads_names xs K 3 false (conOf 2) hK.1 (by omega) (fun _ => h.symm) hk) (fun _ hp => stop_named hp)
  | element xs ns h hn =>
    show Reads _ _ (tW tElement :: (xs.map nm ++ numsT ns)) _ _ _
    unfold conR
    refine reads_seq0 (t1 := []) (φ := Nx fun y => y = tW tElement) (a := tElement) (reads_tell fun q post _ hp => ?_) ?_ (fun post _ => ⟨_, _, rfl, rfl⟩)
    · obtain ⟨y, l', rfl, rfl⟩ := hp
      rfl
    refine reads_no (by decide) (reads_no (by decide) (reads_yes rfl (reads_seq0 (t1 := [tW tElement]) (φ := Any) (reads_must rfl) ?_ (fun _ _ => trivial))))
    refine reads_seq0 (reads_names xs K 2 false (conOf 4) hK.1 (by omega) (fun _ => h.symm) hk) ?_ (fun post _ => ⟨_, _, rfl, by decide⟩)
    exact reads_brackets hK.2 hn
  | differ xs h =>
    show Reads _ _ (tW tDifferent :: (xs.map nm ++ [])) _ _ _
    unfold conR
    refine reads_seq0 (t1 := []) (φ := Nx fun y => y = tW tDifferent) (a := tDifferent) (reads_tell fun q post _ hp => ?_) ?_ (fun post _ => ⟨_, _, rfl, rfl⟩)
    · obtain ⟨y, l', rfl, rfl⟩ := hp
      rfl
    refine reads_no (by decide) (reads_no (by decide) (reads_no (by decide) (reads_yes rfl (reads_seq0 (t1 := [tW tDifferent]) (φ := Any) (reads_must rfl) ?_ (fun _ _ => trivial)))))
    show Reads _ _ (xs.map nm ++ []) _ _ _
    rw [List.append_nil]
    exact reads_imp (reads_names xs K 2 true (conOf 5) hK.1 h (fun e => by cases e) hk) (fun _ hp => stop_named hp)
  | table xs ns h =>
    show Reads _ _ (tW tTable :: (xs.map nm ++ numsT ns)) _ _ _
    unfold conR
    refine reads_seq0 (t1 := []) (φ := Nx fun y => y = tW tTable) (a := tTable) (reads_tell fun q post _ hp => ?_) ?_ (fun post _ => ⟨_, _, rfl, rfl⟩)
    · obtain ⟨y, l', rfl, rfl⟩ := hp
      rfl
    refine reads_no (by decide) (reads_no (by decide) (reads_no (by decide) (reads_no (by decide) (reads_yes rfl (reads_seq0 (t1 := [tW tTable]) (φ := Any) (reads_must rfl) ?_ (fun _ _ => trivial))))))
    refine reads_seq0 (reads_names xs K 1 true (conOf 6) hK.1 h (fun e => by cases e) hk) ?_ (fun post _ => ⟨_, _, rfl, by decide⟩)
    exact reads_brackets hK.2 (Nat.zero_le _)

/- lists -/
def listT (nm : Int → Tok) : List PCon → List Tok
  | [] => [tW tTrue]
  | c :: l => conT nm c ++ l.flatMap fun c => tW tAnd :: conT nm c
/-- all of a list is read -/
structure ConOk (vs : List Txt) (nm : Int → Tok) (K : Nat) (c : PCon) : Prop where
  shape : Shape c
  vars : c.vars.length < K
  nums : c.nums.length < K
  kn : ∀ v ∈ c.vars, Kn vs (nm v) v
def Semi : List Tok → Prop := Nx fun t => t = tM tSemi
theorem con_first {K : Nat} {c : PCon} (h : ConOk vs nm K c) : ∃ t r, conT nm c = t :: r ∧ t.text ≠ tTrue := by
  obtain ⟨hs, h1, h2, hk⟩ := h
  cases hs with
  | lin xs cs rel const h h0 hr =>
    obtain ⟨v, k, l, e, e1, e2⟩ := zip_cons h h0
    obtain ⟨t, r, eh, hw⟩ := sums_head (vs := vs) (nm := nm) (l := l) (rel := rel) (const := const) (k := k) (hk v (by show v ∈ xs; rw [e1]; simp))
    refine ⟨t, r, ?_, no_word hw (by decide)⟩
    show sumsT nm (xs.zip cs) rel const = _
    rw [e, eh]
  | iff x xs cs rel const h h0 hr => exact ⟨tW tIff, _, rfl, by decide⟩
  | product xs h => exact ⟨tW tProduct, _, rfl, by decide⟩
  | element xs ns h hn => exact ⟨tW tElement, _, rfl, by decide⟩
  | differ xs h => exact ⟨tW tDifferent, _, rfl, by decide⟩
  | table xs ns h => exact ⟨tW tTable, _, rfl, by decide⟩
theorem reads_ands {K : Nat} : ∀ (l : List PCon) (n : Nat) (acc : List PCon), l.length < n → (∀ c ∈ l, ConOk vs nm K c) → Reads (andsR K n acc) vs (l.flatMap fun c => tW tAnd :: conT nm c) Semi (acc ++ l) []
  | l, 0, acc, hn, _ => by omega
  | [], n + 1, acc, _, _ => by
    rw [List.append_nil]
    unfold andsR
    exact reads_seq0 (t1 := []) (t2 := []) (φ := Semi) (reads_hasnt fun post hp => by
      obtain ⟨t, r, rfl, rfl⟩ := hp
      exact ⟨_, _, rfl, by decide⟩) (reads_no (by simp) reads_ret) (fun _ h => h)
  | c :: l, n + 1, acc, hn, hk => by
    have IH := reads_ands (K := K) l n (acc ++ [c]) (by simp at hn; omega) (fun x hx => hk x (by simp [hx]))
    have hc := hk c (by simp)
    rw [List.flatMap_cons, show acc ++ c :: l = (acc ++ [c]) ++ l by simp]
    unfold andsR
    show Reads _ _ ([tW tAnd] ++ conT nm c ++ _) _ _ _
    rw [List.append_assoc]
    refine reads_seq0 (φ := Any) (reads_has rfl) (reads_yes rfl (reads_seq0 (reads_con hc.shape ⟨hc.vars, hc.nums⟩ hc.kn) IH (fun post hp => ?_))) (fun _ _ => trivial)
    cases l with
    | nil =>
      obtain ⟨t, r, rfl, rfl⟩ := hp
      exact ⟨_, _, rfl, .inr rfl⟩
    | cons d l => exact ⟨_, _, rfl, .inl rfl⟩
theorem reads_list {K : Nat} {l : List PCon} (hK : l.length < K) (hk : ∀ c ∈ l, ConOk vs nm K c) : Reads (listR K) vs (listT nm l) Semi l [] := by
  unfold listR
  cases l with
  | nil => exact reads_seq0 (t1 := [tW tTrue]) (t2 := []) (φ := Any) (reads_has rfl) (reads_yes rfl reads_ret) (fun _ _ => trivial)
  | cons c l =>
    have hc := hk c (by simp)
    obtain ⟨t, r, e, ht⟩ := con_first hc
    show Reads _ _ (conT nm c ++ l.flatMap fun c => tW tAnd :: conT nm c) _ _ _
    refine reads_seq0 (t1 := []) (φ := Nx fun x => x.text ≠ tTrue) (reads_hasnt fun _ h => h) (reads_no (by simp) ?_) (fun post _ => ⟨t, (r ++ l.flatMap fun c => tW tAnd :: conT nm c) ++ post, by rw [e]; simp, ht⟩)
    refine reads_seq0 (reads_con hc.shape ⟨hc.vars, hc.nums⟩ hc.kn) ?_ (fun post hp => ?_)
    · exact reads_ands (K := K) l K [c] (by simp at hK; omega) (fun x hx => hk x (by simp [hx]))
    · cases l with
      | nil =>
        obtain ⟨t, r, rfl, rfl⟩ := hp
        exact ⟨_, _, rfl, .inr rfl⟩
      | cons d l => exact ⟨_, _, rfl, .inl rfl⟩
end
end Go.Proofs.YtkgieaoahijheaaGreatDoor.Wt
