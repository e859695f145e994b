/-
  Models of tokens, as the document says it: what a reader of tokens does, token by token, and what holds of all that it does. Nothing of the program.
-/
import Derived.Test.YtkgieaoahijheaaGreatDoorZYAB
import Derived.Test.YtkgieaoahijheaaGreatDoorZYAC
namespace Go.Proofs.YtkgieaoahijheaaGreatDoor.Pa
open Sc (Tok)

abbrev Txt : Type := List UInt8
/-- where a reader is; is something wrong; the names of the variables so far; the place of the first name that is no variable's -/
structure Rd where
  at_ : Nat
  wrong : Bool
  vars : List Txt
  bad : Option Nat
/-- what a reader of tokens does -/
def Rx (α : Type) : Type := List Tok → Rd → α × Rd
def ret {α : Type} (a : α) : Rx α := fun _ r => (a, r)
def seq {α β : Type} (m : Rx α) (f : α → Rx β) : Rx β := fun T r => f (m T r).1 T (m T r).2
/-- the next token, if nothing was wrong -/
def next (T : List Tok) (r : Rd) : Option Tok := if r.wrong = true then none else T[r.at_]?
/-- one look at it -/
def look {α : Type} (f : Rd → Option Tok → α × Rd) : Rx α := fun T r => f r (next T r)

def textO : Option Tok → Txt
  | none => []
  | some t => t.text
def kindO : Option Tok → Nat
  | none => 0
  | some t => t.kind
def valueO : Option Tok → Nat
  | none => 0
  | some t => t.value
def step1 (r : Rd) : Rd := { r with at_ := r.at_ + 1 }
def fail1 (r : Rd) : Rd := { r with wrong := true }
def namedO (o : Option Tok) : Bool := !wordsL.contains (textO o) && decide (kindO o = 1)

def tExists : Txt := [101, 120, 105, 115, 116, 115]
def tForall : Txt := [102, 111, 114, 97, 108, 108]
def tIn : Txt := [105, 110]
def tWhere : Txt := [119, 104, 101, 114, 101]
def tAnd : Txt := [97, 110, 100]
def tGoal : Txt := [103, 111, 97, 108]
def tTrue : Txt := [116, 114, 117, 101]
def tProduct : Txt := [112, 114, 111, 100, 117, 99, 116]
def tIff : Txt := [105, 102, 102]
def tElement : Txt := [101, 108, 101, 109, 101, 110, 116]
def tDifferent : Txt := [100, 105, 102, 102, 101, 114, 101, 110, 116]
def tTable : Txt := [116, 97, 98, 108, 101]
def tMinus : Txt := [45]
def tPlus : Txt := [43]
def tStar : Txt := [42]
def tComma : Txt := [44]
def tSemi : Txt := [59]
def tOpen : Txt := [91]
def tShut : Txt := [93]
def tDots : Txt := [46, 46]
def relsL : List Txt := [[61], [33, 61], [60], [60, 61], [62], [62, 61]]

def mustF (s : Txt) (r : Rd) (o : Option Tok) : Unit × Rd := if textO o = s then ((), step1 r) else ((), fail1 r)
def hasF (s : Txt) (r : Rd) (o : Option Tok) : Bool × Rd := if textO o = s then (true, step1 r) else (false, r)
def nameF (r : Rd) (o : Option Tok) : Txt × Rd := if namedO o = true then (textO o, step1 r) else ([], fail1 r)
def valueF (r : Rd) (o : Option Tok) : Int × Rd := if kindO o = 2 then ((valueO o : Int), step1 r) else (0, fail1 r)
/-- the first of some texts that is this one -/
def findF (s : Txt) : List Txt → Option Nat
  | [] => none
  | x :: l => if x = s then some 0 else (findF s l).map (· + 1)
def variableF (r : Rd) (o : Option Tok) : Int × Rd :=
  if namedO o = true then
    match findF (textO o) r.vars with
    | some i => ((i : Int), step1 r)
    | none => (0, { step1 r with bad := match r.bad with | some p => some p | none => o.map (·.at_) })
  else (0, fail1 r)
def relF (r : Rd) (o : Option Tok) : Option Nat × Rd := match findF (textO o) relsL with
  | some i => (some i, step1 r)
  | none => (none, fail1 r)
def tell {α : Type} (f : Rd → Option Tok → α) : Rx α := look fun r o => (f r o, r)

def number : Rx Int := seq (look (hasF tMinus)) fun b => if b = true then seq (look valueF) fun v => ret (-v) else look valueF
def factor (k : Nat) : Rx Int := if k = 2 then seq (look valueF) fun v => seq (look (mustF tStar)) fun _ => ret v else ret 1
def orMinus (b : Bool) : Rx Bool := if b = true then ret true else look (hasF tMinus)
/-- terms of a sum, the first of which has this sign -/
def terms : Nat → Int → PCon → Rx PCon
  | 0, _, c => ret c
  | n + 1, s, c => seq (tell fun _ o => kindO o) fun k => seq (factor k) fun v => seq (look variableF) fun x =>
    seq (tell fun _ o => if textO o = tMinus then (-1 : Int) else 1) fun s' => seq (look (hasF tPlus)) fun b => seq (orMinus b) fun b' =>
    if b' = true then terms n s' { c with coefs := c.coefs ++ [s * v], vars := c.vars ++ [x] } else ret { c with coefs := c.coefs ++ [s * v], vars := c.vars ++ [x] }
def relate (c : PCon) : Option Nat → Rx PCon
  | some i => seq number fun k => ret { c with rel := (i : Int), const := k }
  | none => ret c
def sumR (K : Nat) (c : PCon) : Rx PCon := seq (look (hasF tMinus)) fun b => seq (terms K (if b = true then -1 else 1) c) fun d => seq (look relF) fun i => relate d i
/-- names of variables: so many at least, and more, if more may be -/
def namesR : Nat → Nat → Bool → PCon → Rx PCon
  | 0, _, _, c => ret c
  | n + 1, m, more, c => seq (tell fun r o => (decide (0 < m) && !r.wrong) || (more && namedO o)) fun go =>
    if go = true then seq (look variableF) fun x => namesR n (m - 1) more { c with vars := c.vars ++ [x] } else ret c
def numsR : Nat → Nat → PCon → Rx PCon
  | 0, _, c => ret c
  | n + 1, m, c => seq (tell fun r o => !r.wrong && (decide (0 < m) || !decide (textO o = tShut))) fun go =>
    if go = true then seq number fun x => numsR n (m - 1) { c with nums := c.nums ++ [x] } else ret c
def brackets (K m : Nat) (c : PCon) : Rx PCon := seq (look (mustF tOpen)) fun _ => seq (numsR K m c) fun d => seq (look (mustF tShut)) fun _ => ret d
def conOf (k : Int) : PCon := ⟨k, [], [], 0, 0, []⟩
def conR (K : Nat) : Rx PCon := seq (tell fun _ o => textO o) fun t =>
  if t = tProduct then seq (look (mustF tProduct)) fun _ => namesR K 3 false (conOf 2)
  else if t = tIff then seq (look (mustF tIff)) fun _ => seq (look variableF) fun x => sumR K { conOf 3 with vars := [x] }
  else if t = tElement then seq (look (mustF tElement)) fun _ => seq (namesR K 2 false (conOf 4)) fun c => brackets K 1 c
  else if t = tDifferent then seq (look (mustF tDifferent)) fun _ => namesR K 2 true (conOf 5)
  else if t = tTable then seq (look (mustF tTable)) fun _ => seq (namesR K 1 true (conOf 6)) fun c => brackets K 0 c
  else sumR K (conOf 1)
def andsR (K : Nat) : Nat → List PCon → Rx (List PCon)
  | 0, l => ret l
  | n + 1, l => seq (look (hasF tAnd)) fun b => if b = true then seq (conR K) fun c => andsR K n (l ++ [c]) else ret l
def listR (K : Nat) : Rx (List PCon) := seq (look (hasF tTrue)) fun b => if b = true then ret [] else seq (conR K) fun c => andsR K K [c]
def highR (b : Bool) (lo : Int) : Rx Int := if b = true then number else ret lo
def rangesR : Nat → List (Int × Int) → Rx (List (Int × Int))
  | 0, l => ret l
  | n + 1, l => seq number fun lo => seq (look (hasF tDots)) fun b => seq (highR b lo) fun hi => seq (tell fun _ o => decide (kindO o = 2) || decide (textO o = tMinus)) fun go =>
    if go = true then rangesR n (l ++ [(lo, hi)]) else ret (l ++ [(lo, hi)])
def addVar (s : Txt) : Rx Unit := look fun r _ => ((), { r with vars := r.vars ++ [s] })
def declsR (K : Nat) : Nat → List PDecl → Rx (List PDecl)
  | 0, l => ret l
  | n + 1, l => seq (look nameF) fun s => seq (look (mustF tIn)) fun _ => seq (rangesR K []) fun dom => seq (addVar s) fun _ => seq (look (hasF tComma)) fun b =>
    if b = true then declsR K n (l ++ [⟨s, dom⟩]) else ret (l ++ [⟨s, dom⟩])
def whereR (K : Nat) (b : Bool) : Rx (List PCon) := if b = true then listR K else ret []
def headR (b : Bool) : Rx Unit := if b = true then ret () else look (mustF tExists)
def blockR (K : Nat) : Rx PBlock := seq (look (hasF tForall)) fun all => seq (headR all) fun _ => seq (declsR K K []) fun vs => seq (look (hasF tWhere)) fun b => seq (whereR K b) fun cs =>
  seq (look (mustF tSemi)) fun _ => ret ⟨all, vs, cs⟩
def blocksR (K : Nat) : Nat → List PBlock → Rx (List PBlock)
  | 0, l => ret l
  | n + 1, l => seq (blockR K) fun b => seq (tell fun r o => !decide (textO o = tGoal) && !r.wrong) fun go => if go = true then blocksR K n (l ++ [b]) else ret (l ++ [b])
/-- all but the last token -/
def mostR (K : Nat) : Rx PModel := seq (blocksR K K []) fun bs => seq (look (mustF tGoal)) fun _ => seq (listR K) fun g => ret ⟨bs, g⟩
def bodyR (K : Nat) : Rx PModel := seq (mostR K) fun m => seq (look (mustF tSemi)) fun _ => ret m

/- what holds of all that a reader does -/
def key (t : Tok) : Nat × Txt × Nat := (t.kind, t.text, t.value)
/-- two readers that differ in places alone -/
structure LikeR (r q : Rd) : Prop where
  at_ : r.at_ = q.at_
  wrong : r.wrong = q.wrong
  vars : r.vars = q.vars
  bad : r.bad.isSome = q.bad.isSome
structure Fine {α : Type} (P : Rx α) : Prop where
  up : ∀ T r, r.at_ ≤ (P T r).2.at_
  top : ∀ T r, r.at_ ≤ T.length → (P T r).2.at_ ≤ T.length
  loc : ∀ T U n r, (∀ i, i < n → T[i]? = U[i]?) → (P T r).2.at_ < n → P U r = P T r
  bd : ∀ T r B, (∀ t ∈ T, t.at_ ≤ B) → (∀ p, r.bad = some p → p ≤ B) → ∀ p, (P T r).2.bad = some p → p ≤ B
  like : ∀ T U r q, T.map key = U.map key → LikeR r q → (P T r).1 = (P U q).1 ∧ LikeR (P T r).2 (P U q).2
theorem fine_ret {α : Type} (a : α) : Fine (ret a) := ⟨fun _ _ => Nat.le_refl _, fun _ _ h => h, fun _ _ _ _ _ _ => rfl, fun _ _ _ _ h => h, fun _ _ _ _ _ h => ⟨rfl, h⟩⟩
theorem fine_seq {α β : Type} {m : Rx α} {f : α → Rx β} (hm : Fine m) (hf : ∀ a, Fine (f a)) : Fine (seq m f) := by
  refine ⟨fun T r => Nat.le_trans (hm.up T r) ((hf _).up T _), fun T r h => (hf _).top T _ (hm.top T r h), fun T U n r h hn => ?_, fun T r B hT hr => (hf _).bd T _ B hT (hm.bd T r B hT hr), fun T U r q h hr => ?_⟩
  · have h1 : (m T r).2.at_ < n := Nat.lt_of_le_of_lt ((hf _).up T _) hn
    have e := hm.loc T U n r h h1
    unfold seq
    rw [e]
    exact (hf _).loc T U n _ h hn
  · obtain ⟨e1, e2⟩ := hm.like T U r q h hr
    unfold seq
    rw [e1]
    exact (hf _).like T U _ _ h e2
/-- what one look may do -/
structure Ok {α : Type} (f : Rd → Option Tok → α × Rd) : Prop where
  at_ : ∀ r o, (f r o).2.at_ = r.at_ ∨ (o ≠ none ∧ (f r o).2.at_ = r.at_ + 1)
  bad : ∀ r o, (f r o).2.bad = r.bad ∨ ∃ t, o = some t ∧ (f r o).2.bad = some t.at_
  like : ∀ r q o p, LikeR r q → Option.map key o = Option.map key p → (f r o).1 = (f q p).1 ∧ LikeR (f r o).2 (f q p).2
theorem next_some {T : List Tok} {r : Rd} (h : next T r ≠ none) : r.at_ < T.length := by
  unfold next at h
  split at h
  · exact absurd rfl h
  · exact Nat.lt_of_not_le fun hl => h (List.getElem?_eq_none_iff.2 hl)
theorem next_mem {T : List Tok} {r : Rd} {t : Tok} (h : next T r = some t) : t ∈ T := by
  unfold next at h
  split at h
  · cases h
  · exact List.mem_of_getElem? h
theorem fine_look {α : Type} {f : Rd → Option Tok → α × Rd} (h : Ok f) : Fine (look f) := by
  refine ⟨fun T r => ?_, fun T r ht => ?_, fun T U n r hTU hn => ?_, fun T r B hT hr p hp => ?_, fun T U r q hTU hr => ?_⟩
  · rcases h.at_ r (next T r) with e | ⟨_, e⟩ <;> simp only [look] <;> omega
  · rcases h.at_ r (next T r) with e | ⟨h1, e⟩
    · simp only [look]; omega
    · have := next_some h1
      simp only [look]; omega
  · have h1 : r.at_ < n := by
      rcases h.at_ r (next T r) with e | ⟨_, e⟩ <;> simp only [look] at hn <;> omega
    have e : next U r = next T r := by
      unfold next
      rw [hTU _ h1]
    simp only [look, e]
  · simp only [look] at hp
    rcases h.bad r (next T r) with e | ⟨t, e1, e2⟩
    · exact hr p (e ▸ hp)
    · rw [e2] at hp
      cases hp
      exact hT t (next_mem e1)
  · refine h.like r q _ _ hr ?_
    unfold next
    rw [← hr.wrong, ← hr.at_]
    split
    · rfl
    · rw [← List.getElem?_map, ← List.getElem?_map, hTU]
theorem fine_if {α : Type} {c : Prop} [Decidable c] {A B : Rx α} (hA : Fine A) (hB : Fine B) : Fine (if c then A else B) := by split <;> assumption

theorem text_key {o p : Option Tok} (h : Option.map key o = Option.map key p) : textO o = textO p ∧ kindO o = kindO p ∧ valueO o = valueO p ∧ o.isSome = p.isSome := by
  cases o <;> cases p <;> simp [key, textO, kindO, valueO] at h ⊢
  exact ⟨h.2.1, h.1, h.2.2⟩
theorem LikeR.step {r q : Rd} (h : LikeR r q) : LikeR (step1 r) (step1 q) := ⟨by simp [step1, h.at_], h.wrong, h.vars, h.bad⟩
theorem LikeR.fail {r q : Rd} (h : LikeR r q) : LikeR (fail1 r) (fail1 q) := ⟨h.at_, rfl, h.vars, h.bad⟩
theorem text_some {o : Option Tok} {s : Txt} (h : textO o = s) (hs : s ≠ []) : o ≠ none := by
  rintro rfl
  exact hs h.symm
theorem named_some {o : Option Tok} (h : namedO o = true) : o ≠ none := by
  rintro rfl
  simp [namedO, kindO] at h
theorem ok_must {s : Txt} (hs : s ≠ []) : Ok (mustF s) := by
  refine ⟨fun r o => ?_, fun r o => ?_, fun r q o p h hk => ?_⟩ <;> unfold mustF
  · split
    · rename_i e
      exact .inr ⟨text_some e hs, rfl⟩
    · exact .inl rfl
  · split <;> exact .inl rfl
  · rw [(text_key hk).1]
    split
    · exact ⟨rfl, h.step⟩
    · exact ⟨rfl, h.fail⟩
theorem ok_has {s : Txt} (hs : s ≠ []) : Ok (hasF s) := by
  refine ⟨fun r o => ?_, fun r o => ?_, fun r q o p h hk => ?_⟩ <;> unfold hasF
  · split
    · rename_i e
      exact .inr ⟨text_some e hs, rfl⟩
    · exact .inl rfl
  · split <;> exact .inl rfl
  · rw [(text_key hk).1]
    split
    · exact ⟨rfl, h.step⟩
    · exact ⟨rfl, h⟩
theorem named_key {o p : Option Tok} (h : Option.map key o = Option.map key p) : namedO o = namedO p := by
  unfold namedO
  rw [(text_key h).1, (text_key h).2.1]
theorem ok_name : Ok nameF := by
  refine ⟨fun r o => ?_, fun r o => ?_, fun r q o p h hk => ?_⟩ <;> unfold nameF
  · split
    · rename_i e
      exact .inr ⟨named_some e, rfl⟩
    · exact .inl rfl
  · split <;> exact .inl rfl
  · rw [named_key hk]
    split
    · exact ⟨(text_key hk).1, h.step⟩
    · exact ⟨rfl, h.fail⟩
theorem ok_value : Ok valueF := by
  refine ⟨fun r o => ?_, fun r o => ?_, fun r q o p h hk => ?_⟩ <;> unfold valueF
  · split
    · rename_i e
      refine .inr ⟨?_, rfl⟩
      rintro rfl
      simp [kindO] at e
    · exact .inl rfl
  · split <;> exact .inl rfl
  · rw [(text_key hk).2.1]
    split
    · exact ⟨by rw [(text_key hk).2.2.1], h.step⟩
    · exact ⟨rfl, h.fail⟩
theorem ok_variable : Ok variableF := by
  refine ⟨fun r o => ?_, fun r o => ?_, fun r q o p h hk => ?_⟩ <;> unfold variableF
  · split
    · rename_i e
      split
      · exact .inr ⟨named_some e, rfl⟩
      · exact .inr ⟨named_some e, rfl⟩
    · exact .inl rfl
  · split
    · rename_i e
      split
      · exact .inl rfl
      · cases hb : r.bad with
        | some p => exact .inl rfl
        | none =>
          cases o with
          | none => exact absurd rfl (named_some e)
          | some t => exact .inr ⟨t, rfl, rfl⟩
    · exact .inl rfl
  · rw [named_key hk, (text_key hk).1, h.vars]
    split
    · split
      · exact ⟨rfl, h.step⟩
      · refine ⟨rfl, ⟨by simp [step1, h.at_], h.wrong, h.vars, ?_⟩⟩
        have hb := h.bad
        cases h1 : r.bad <;> cases h2 : q.bad <;> rw [h1, h2] at hb <;> simp at hb ⊢
        exact (text_key hk).2.2.2
    · exact ⟨rfl, h.fail⟩
theorem find_nil : findF [] relsL = none := by decide
theorem ok_rel : Ok relF := by
  refine ⟨fun r o => ?_, fun r o => ?_, fun r q o p h hk => ?_⟩ <;> unfold relF
  · cases o with
    | none => exact .inl (by rw [show textO none = [] from rfl, find_nil]; rfl)
    | some t =>
      split
      · exact .inr ⟨by simp, rfl⟩
      · exact .inl rfl
  · split <;> exact .inl rfl
  · rw [(text_key hk).1]
    split
    · exact ⟨rfl, h.step⟩
    · exact ⟨rfl, h.fail⟩
theorem fine_tell {α : Type} {f : Rd → Option Tok → α} (h : ∀ r q o p, LikeR r q → Option.map key o = Option.map key p → f r o = f q p) : Fine (tell f) :=
  fine_look ⟨fun _ _ => .inl rfl, fun _ _ => .inl rfl, fun r q o p hr hk => ⟨h r q o p hr hk, hr⟩⟩
theorem fine_add (s : Txt) : Fine (addVar s) := fine_look ⟨fun _ _ => .inl rfl, fun _ _ => .inl rfl, fun r q o p h _ => ⟨rfl, ⟨h.at_, h.wrong, by rw [h.vars], h.bad⟩⟩⟩

theorem fine_number : Fine number := fine_seq (fine_look (ok_has (by decide))) fun b => fine_if (fine_seq (fine_look ok_value) fun v => fine_ret _) (fine_look ok_value)
theorem fine_factor (k : Nat) : Fine (factor k) := fine_if (fine_seq (fine_look ok_value) fun v => fine_seq (fine_look (ok_must (by decide))) fun _ => fine_ret _) (fine_ret _)
theorem fine_or (b : Bool) : Fine (orMinus b) := fine_if (fine_ret _) (fine_look (ok_has (by decide)))
theorem fine_terms : ∀ (n : Nat) (s : Int) (c : PCon), Fine (terms n s c)
  | 0, _, _ => fine_ret _
  | n + 1, _, _ => fine_seq (fine_tell fun _ _ _ _ _ hk => (text_key hk).2.1) fun k => fine_seq (fine_factor k) fun _ => fine_seq (fine_look ok_variable) fun _ =>
    fine_seq (fine_tell fun _ _ _ _ _ hk => by rw [(text_key hk).1]) fun _ => fine_seq (fine_look (ok_has (by decide))) fun b => fine_seq (fine_or b) fun _ => fine_if (fine_terms n _ _) (fine_ret _)
theorem fine_relate (c : PCon) (i : Option Nat) : Fine (relate c i) := by
  cases i with
  | none => exact fine_ret c
  | some i => exact fine_seq (f := fun k => ret { c with rel := (i : Int), const := k }) fine_number fun k => fine_ret _
theorem fine_sum (K : Nat) (c : PCon) : Fine (sumR K c) := fine_seq (fine_look (ok_has (by decide))) fun _ => fine_seq (fine_terms K _ c) fun d => fine_seq (fine_look ok_rel) fun i => fine_relate d i
theorem fine_names : ∀ (n m : Nat) (more : Bool) (c : PCon), Fine (namesR n m more c)
  | 0, _, _, _ => fine_ret _
  | n + 1, m, more, _ => fine_seq (fine_tell fun _ _ _ _ hr hk => by rw [hr.wrong, named_key hk]) fun _ => fine_if (fine_seq (fine_look ok_variable) fun _ => fine_names n _ _ _) (fine_ret _)
theorem fine_nums : ∀ (n m : Nat) (c : PCon), Fine (numsR n m c)
  | 0, _, _ => fine_ret _
  | n + 1, m, _ => fine_seq (fine_tell fun _ _ _ _ hr hk => by rw [hr.wrong, (text_key hk).1]) fun _ => fine_if (fine_seq fine_number fun _ => fine_nums n _ _) (fine_ret _)
theorem fine_brackets (K m : Nat) (c : PCon) : Fine (brackets K m c) := fine_seq (fine_look (ok_must (by decide))) fun _ => fine_seq (fine_nums K m c) fun _ => fine_seq (fine_look (ok_must (by decide))) fun _ => fine_ret _
theorem fine_con (K : Nat) : Fine (conR K) := fine_seq (fine_tell fun _ _ _ _ _ hk => (text_key hk).1) fun _ =>
  fine_if (fine_seq (fine_look (ok_must (by decide))) fun _ => fine_names _ _ _ _) (fine_if (fine_seq (fine_look (ok_must (by decide))) fun _ => fine_seq (fine_look ok_variable) fun _ => fine_sum _ _)
    (fine_if (fine_seq (fine_look (ok_must (by decide))) fun _ => fine_seq (fine_names _ _ _ _) fun _ => fine_brackets _ _ _) (fine_if (fine_seq (fine_look (ok_must (by decide))) fun _ => fine_names _ _ _ _)
      (fine_if (fine_seq (fine_look (ok_must (by decide))) fun _ => fine_seq (fine_names _ _ _ _) fun _ => fine_brackets _ _ _) (fine_sum _ _)))))
theorem fine_ands (K : Nat) : ∀ (n : Nat) (l : List PCon), Fine (andsR K n l)
  | 0, _ => fine_ret _
  | n + 1, _ => fine_seq (fine_look (ok_has (by decide))) fun _ => fine_if (fine_seq (fine_con K) fun _ => fine_ands K n _) (fine_ret _)
theorem fine_list (K : Nat) : Fine (listR K) := fine_seq (fine_look (ok_has (by decide))) fun _ => fine_if (fine_ret _) (fine_seq (fine_con K) fun _ => fine_ands K K _)
theorem fine_high (b : Bool) (lo : Int) : Fine (highR b lo) := fine_if fine_number (fine_ret _)
theorem fine_ranges : ∀ (n : Nat) (l : List (Int × Int)), Fine (rangesR n l)
  | 0, _ => fine_ret _
  | n + 1, _ => fine_seq fine_number fun lo => fine_seq (fine_look (ok_has (by decide))) fun b => fine_seq (fine_high b lo) fun _ => fine_seq (fine_tell fun _ _ _ _ _ hk => by rw [(text_key hk).1, (text_key hk).2.1]) fun _ => fine_if (fine_ranges n _) (fine_ret _)
theorem fine_decls (K : Nat) : ∀ (n : Nat) (l : List PDecl), Fine (declsR K n l)
  | 0, _ => fine_ret _
  | n + 1, _ => fine_seq (fine_look ok_name) fun s => fine_seq (fine_look (ok_must (by decide))) fun _ => fine_seq (fine_ranges K []) fun _ => fine_seq (fine_add s) fun _ => fine_seq (fine_look (ok_has (by decide))) fun _ => fine_if (fine_decls K n _) (fine_ret _)
theorem fine_where (K : Nat) (b : Bool) : Fine (whereR K b) := fine_if (fine_list K) (fine_ret _)
theorem fine_head (b : Bool) : Fine (headR b) := fine_if (fine_ret _) (fine_look (ok_must (by decide)))
theorem fine_block (K : Nat) : Fine (blockR K) := fine_seq (fine_look (ok_has (by decide))) fun all => fine_seq (fine_head all) fun _ => fine_seq (fine_decls K K []) fun _ => fine_seq (fine_look (ok_has (by decide))) fun b => fine_seq (fine_where K b) fun _ => fine_seq (fine_look (ok_must (by decide))) fun _ => fine_ret _
theorem fine_blocks (K : Nat) : ∀ (n : Nat) (l : List PBlock), Fine (blocksR K n l)
  | 0, _ => fine_ret _
  | n + 1, _ => fine_seq (fine_block K) fun _ => fine_seq (fine_tell fun _ _ _ _ hr hk => by rw [hr.wrong, (text_key hk).1]) fun _ => fine_if (fine_blocks K n _) (fine_ret _)
theorem fine_most (K : Nat) : Fine (mostR K) := fine_seq (fine_blocks K K []) fun _ => fine_seq (fine_look (ok_must (by decide))) fun _ => fine_seq (fine_list K) fun _ => fine_ret _
theorem fine_body (K : Nat) : Fine (bodyR K) := fine_seq (fine_most K) fun _ => fine_seq (fine_look (ok_must (by decide))) fun _ => fine_ret _

def start : Rd := ⟨0, false, [], none⟩

/- how much a reader can take in, if nothing is wrong at its end -/
/-- what is told, of so many tokens -/
structure Sz {α : Type} (B : Nat) (P : Rx α) (φ : α → Nat → Prop) : Prop where
  pers : ∀ T r, (P T r).2.wrong = false → r.wrong = false
  up : ∀ T r, r.at_ ≤ (P T r).2.at_
  size : ∀ T r, (∀ t ∈ T, t.text.length ≤ B) → (P T r).2.wrong = false → φ (P T r).1 ((P T r).2.at_ - r.at_)
section
variable {B : Nat}
theorem sz_ret {α : Type} {a : α} {φ : α → Nat → Prop} (h : φ a 0) : Sz B (ret a) φ := ⟨fun _ _ h => h, fun _ _ => Nat.le_refl _, fun T r _ _ => by simpa [ret] using h⟩
theorem sz_seq {α β : Type} {m : Rx α} {f : α → Rx β} {φ : α → Nat → Prop} {ψ : α → β → Nat → Prop} {χ : β → Nat → Prop} (hm : Sz B m φ) (hf : ∀ a, Sz B (f a) (ψ a)) (h : ∀ a k b j, φ a k → ψ a b j → χ b (k + j)) : Sz B (seq m f) χ := by
  refine ⟨fun T r hw => hm.pers T r ((hf _).pers T _ hw), fun T r => Nat.le_trans (hm.up T r) ((hf _).up T _), fun T r hB hw => ?_⟩
  have h1 := (hf _).pers T _ hw
  have h2 := h _ _ _ _ (hm.size T r hB h1) ((hf _).size T _ hB hw)
  have u1 := hm.up T r
  have u2 := (hf (m T r).1).up T (m T r).2
  have e : (m T r).2.at_ - r.at_ + ((f (m T r).1 T (m T r).2).2.at_ - (m T r).2.at_) = (seq m f T r).2.at_ - r.at_ := by simp only [seq]; omega
  rw [e] at h2
  exact h2
theorem sz_imp {α : Type} {P : Rx α} {φ ψ : α → Nat → Prop} (h : Sz B P φ) (hi : ∀ a k, φ a k → ψ a k) : Sz B P ψ := ⟨h.pers, h.up, fun T r hB hw => hi _ _ (h.size T r hB hw)⟩
theorem sz_if {α : Type} {c : Prop} [Decidable c] {P Q : Rx α} {φ : α → Nat → Prop} (hP : c → Sz B P φ) (hQ : ¬ c → Sz B Q φ) : Sz B (if c then P else Q) φ := by
  split
  · exact hP (by assumption)
  · exact hQ (by assumption)
theorem sz_tell {α : Type} (f : Rd → Option Tok → α) : Sz B (tell f) (fun _ k => k = 0) := ⟨fun _ _ h => h, fun _ _ => Nat.le_refl _, fun T r _ _ => by simp [tell, look]⟩
theorem next_wrong {T : List Tok} {r : Rd} (h : r.wrong = true) : next T r = none := by unfold next; rw [if_pos h]
theorem right_of {r : Rd} (h : r.wrong = true → False) : r.wrong = false := by
  cases e : r.wrong
  · rfl
  · exact (h e).elim
theorem sz_must {s : Txt} (hs : s ≠ []) : Sz B (look (mustF s)) (fun _ k => k = 1) := by
  refine ⟨fun T r h => right_of fun hw => ?_, fun T r => ?_, fun T r _ h => ?_⟩
  · simp only [look, next_wrong hw, mustF, textO, if_neg (Ne.symm hs), fail1] at h
    cases h
  · simp only [look, mustF]
    split <;> simp [step1, fail1]
  · simp only [look, mustF] at h ⊢
    split
    · simp [step1]
    · rename_i e
      rw [if_neg e] at h
      simp [fail1] at h
theorem sz_has {s : Txt} (hs : s ≠ []) : Sz B (look (hasF s)) (fun b k => k = if b = true then 1 else 0) := by
  refine ⟨fun T r h => right_of fun hw => ?_, fun T r => ?_, fun T r _ h => ?_⟩
  · simp only [look, next_wrong hw, hasF, textO, if_neg (Ne.symm hs), hw] at h
    cases h
  · simp only [look, hasF]
    split <;> simp [step1]
  · simp only [look, hasF] at h ⊢
    split <;> simp [step1]
theorem sz_name : Sz B (look nameF) (fun s k => k = 1 ∧ s.length ≤ B) := by
  refine ⟨fun T r h => right_of fun hw => ?_, fun T r => ?_, fun T r hB h => ?_⟩
  · simp [look, next_wrong hw, nameF, namedO, kindO, fail1] at h
  · simp only [look, nameF]
    split <;> simp [step1, fail1]
  · simp only [look, nameF] at h ⊢
    split
    · rename_i e
      refine ⟨by simp [step1], ?_⟩
      cases hn : next T r with
      | none => rw [hn] at e; simp [namedO, kindO] at e
      | some t => exact hB t (next_mem hn)
    · rename_i e
      rw [if_neg e] at h
      simp [fail1] at h
theorem sz_value : Sz B (look valueF) (fun _ k => k = 1) := by
  refine ⟨fun T r h => right_of fun hw => ?_, fun T r => ?_, fun T r _ h => ?_⟩
  · simp [look, next_wrong hw, valueF, kindO, fail1] at h
  · simp only [look, valueF]
    split <;> simp [step1, fail1]
  · simp only [look, valueF] at h ⊢
    split
    · simp [step1]
    · rename_i e
      rw [if_neg e] at h
      simp [fail1] at h
theorem sz_variable : Sz B (look variableF) (fun _ k => k = 1) := by
  refine ⟨fun T r h => right_of fun hw => ?_, fun T r => ?_, fun T r _ h => ?_⟩
  · simp [look, next_wrong hw, variableF, namedO, kindO, fail1] at h
  · simp only [look, variableF]
    split
    · split <;> simp [step1]
    · simp [fail1]
  · simp only [look, variableF] at h ⊢
    split
    · split <;> simp [step1]
    · rename_i e
      rw [if_neg e] at h
      simp [fail1] at h
theorem sz_rel : Sz B (look relF) (fun _ k => k = 1) := by
  refine ⟨fun T r h => right_of fun hw => ?_, fun T r => ?_, fun T r _ h => ?_⟩
  · simp [look, next_wrong hw, relF, textO, find_nil, fail1] at h
  · simp only [look, relF]
    split <;> simp [step1, fail1]
  · simp only [look, relF] at h ⊢
    split
    · simp [step1]
    · rename_i e
      rw [e] at h
      simp [fail1] at h
theorem sz_add (s : Txt) : Sz B (addVar s) (fun _ k => k = 0) := ⟨fun _ _ h => h, fun _ _ => Nat.le_refl _, fun T r _ _ => by simp [addVar, look]⟩
theorem sz_number : Sz B number (fun _ k => 1 ≤ k) :=
  sz_seq (sz_has (by decide)) (ψ := fun _ _ j => 1 ≤ j) (fun b => sz_if (fun _ => sz_seq sz_value (fun v => sz_ret (φ := fun _ j => j = 0) rfl) (fun _ _ _ _ h1 h2 => by omega)) (fun _ => sz_imp sz_value fun _ _ h => by omega)) (fun _ _ _ _ _ h2 => by omega)
theorem sz_factor (k : Nat) : Sz B (factor k) (fun _ _ => True) :=
  sz_if (fun _ => sz_seq sz_value (fun v => sz_seq (sz_must (by decide)) (fun _ => sz_ret (φ := fun _ _ => True) trivial) (χ := fun _ _ => True) (fun _ _ _ _ _ _ => trivial)) (fun _ _ _ _ _ _ => trivial)) (fun _ => sz_ret trivial)
theorem sz_or (b : Bool) : Sz B (orMinus b) (fun _ _ => True) := sz_if (fun _ => sz_ret trivial) (fun _ => sz_imp (sz_has (by decide)) fun _ _ _ => trivial)
/-- a constraint grows by no more than so much -/
structure Grow (c d : PCon) (k : Nat) : Prop where
  vars : d.vars.length ≤ c.vars.length + k
  coefs : d.coefs.length ≤ c.coefs.length + k
  nums : d.nums.length ≤ c.nums.length + k
theorem Grow.refl (c : PCon) (k : Nat) : Grow c c k := ⟨by omega, by omega, by omega⟩
theorem Grow.trans {c d e : PCon} {k j n : Nat} (h : Grow c d k) (g : Grow d e j) (hn : k + j ≤ n) : Grow c e n :=
  ⟨by have := h.vars; have := g.vars; omega, by have := h.coefs; have := g.coefs; omega, by have := h.nums; have := g.nums; omega⟩
theorem sz_terms : ∀ (n : Nat) (s : Int) (c : PCon), Sz B (terms n s c) (fun d k => Grow c d k)
  | 0, _, c => sz_ret (Grow.refl c 0)
  | n + 1, s, c => by
    refine sz_seq (sz_tell _) (ψ := fun _ d j => Grow c d j) (fun k => ?_) (fun _ k _ j h1 h2 => by subst h1; rw [Nat.zero_add]; exact h2)
    refine sz_seq (sz_factor k) (ψ := fun _ d j => Grow c d j) (fun v => ?_) (fun _ k _ j _ h2 => h2.trans (Grow.refl _ k) (by omega))
    refine sz_seq sz_variable (ψ := fun x d j => Grow { c with coefs := c.coefs ++ [s * v], vars := c.vars ++ [x] } d j) (fun x => ?_) (fun x k d j h1 h2 => by
      subst h1
      exact ⟨by have := h2.vars; simp at this; omega, by have := h2.coefs; simp at this; omega, by have := h2.nums; simp at this; omega⟩)
    refine sz_seq (sz_tell _) (ψ := fun _ d j => Grow { c with coefs := c.coefs ++ [s * v], vars := c.vars ++ [x] } d j) (fun s' => ?_) (fun _ k _ j h1 h2 => by subst h1; rw [Nat.zero_add]; exact h2)
    refine sz_seq (sz_has (by decide)) (ψ := fun _ d j => Grow { c with coefs := c.coefs ++ [s * v], vars := c.vars ++ [x] } d j) (fun b => ?_) (fun _ k _ j _ h2 => h2.trans (Grow.refl _ k) (by omega))
    refine sz_seq (sz_or b) (ψ := fun _ d j => Grow { c with coefs := c.coefs ++ [s * v], vars := c.vars ++ [x] } d j) (fun b' => ?_) (fun _ k _ j _ h2 => h2.trans (Grow.refl _ k) (by omega))
    exact sz_if (fun _ => sz_terms n s' _) (fun _ => sz_ret (Grow.refl _ 0))
theorem sz_relate (c : PCon) (i : Option Nat) : Sz B (relate c i) (fun d k => Grow c d k) := by
  cases i with
  | none => exact sz_ret (Grow.refl c 0)
  | some i => exact sz_seq sz_number (f := fun k => ret { c with rel := (i : Int), const := k }) (ψ := fun _ d j => Grow c d j) (fun k => sz_ret ⟨by simp, by simp, by simp⟩) (fun _ k _ j _ h2 => h2.trans (Grow.refl _ k) (by omega))
theorem sz_sum (K : Nat) (c : PCon) : Sz B (sumR K c) (fun d k => Grow c d k ∧ 1 ≤ k) := by
  refine sz_seq (sz_has (by decide)) (ψ := fun _ d j => Grow c d j ∧ 1 ≤ j) (fun b => ?_) (fun _ k _ j _ h2 => ⟨h2.1.trans (Grow.refl _ k) (by omega), by omega⟩)
  refine sz_seq (sz_terms K _ c) (ψ := fun d e j => Grow d e j ∧ 1 ≤ j) (fun d => ?_) (fun _ k _ j h1 h2 => ⟨h1.trans h2.1 (by omega), by omega⟩)
  exact sz_seq sz_rel (ψ := fun _ e j => Grow d e j) (fun i => sz_relate d i) (fun _ k _ j h1 h2 => ⟨h2.trans (Grow.refl _ k) (by omega), by omega⟩)
theorem sz_names : ∀ (n m : Nat) (more : Bool) (c : PCon), Sz B (namesR n m more c) (fun d k => Grow c d k)
  | 0, _, _, c => sz_ret (Grow.refl c 0)
  | n + 1, m, more, c => by
    refine sz_seq (sz_tell _) (ψ := fun _ d j => Grow c d j) (fun go => ?_) (fun _ k _ j h1 h2 => by subst h1; rw [Nat.zero_add]; exact h2)
    refine sz_if (fun _ => ?_) (fun _ => sz_ret (Grow.refl c 0))
    exact sz_seq sz_variable (ψ := fun x d j => Grow { c with vars := c.vars ++ [x] } d j) (fun x => sz_names n (m - 1) more _) (fun x k d j h1 h2 => by
      subst h1
      exact ⟨by have := h2.vars; simp at this; omega, by have := h2.coefs; simp at this; omega, by have := h2.nums; simp at this; omega⟩)
theorem sz_nums : ∀ (n m : Nat) (c : PCon), Sz B (numsR n m c) (fun d k => Grow c d k)
  | 0, _, c => sz_ret (Grow.refl c 0)
  | n + 1, m, c => by
    refine sz_seq (sz_tell _) (ψ := fun _ d j => Grow c d j) (fun go => ?_) (fun _ k _ j h1 h2 => by subst h1; rw [Nat.zero_add]; exact h2)
    refine sz_if (fun _ => ?_) (fun _ => sz_ret (Grow.refl c 0))
    exact sz_seq sz_number (ψ := fun x d j => Grow { c with nums := c.nums ++ [x] } d j) (fun x => sz_nums n (m - 1) _) (fun x k d j h1 h2 =>
      ⟨by have := h2.vars; simp at this; omega, by have := h2.coefs; simp at this; omega, by have := h2.nums; simp at this; omega⟩)
theorem sz_brackets (K m : Nat) (c : PCon) : Sz B (brackets K m c) (fun d k => Grow c d k) := by
  refine sz_seq (sz_must (by decide)) (ψ := fun _ d j => Grow c d j) (fun _ => ?_) (fun _ k _ j _ h2 => h2.trans (Grow.refl _ k) (by omega))
  exact sz_seq (sz_nums K m c) (ψ := fun d e j => Grow d e j) (fun d => sz_seq (sz_must (by decide)) (ψ := fun _ e j => Grow d e j) (fun _ => sz_ret (Grow.refl d 0)) (fun _ k _ j _ h2 => h2.trans (Grow.refl _ k) (by omega))) (fun _ k _ j h1 h2 => h1.trans h2 (by omega))
/-- a constraint of so many tokens -/
structure Of (c : PCon) (k : Nat) : Prop where
  vars : c.vars.length ≤ k
  coefs : c.coefs.length ≤ k
  nums : c.nums.length ≤ k
theorem Of.more {c : PCon} {k j : Nat} (h : Of c k) (hk : k ≤ j) : Of c j := ⟨by have := h.vars; omega, by have := h.coefs; omega, by have := h.nums; omega⟩
theorem of_grow {q : Int} {d : PCon} {k : Nat} (h : Grow (conOf q) d k) : Of d k := ⟨by have := h.vars; simpa [conOf] using this, by have := h.coefs; simpa [conOf] using this, by have := h.nums; simpa [conOf] using this⟩
theorem sz_con (K : Nat) : Sz B (conR K) (fun d k => Of d k ∧ 1 ≤ k) := by
  have hn : ∀ (t : Txt) (_ : t ≠ []) (n : Nat) (more : Bool) (q : Int), Sz B (seq (look (mustF t)) fun _ => namesR K n more (conOf q)) (fun d k => Of d k ∧ 1 ≤ k) := fun t ht n more q =>
    sz_seq (sz_must ht) (ψ := fun _ d j => Grow (conOf q) d j) (fun _ => sz_names K n more _) (fun _ k _ j h1 h2 => ⟨(of_grow h2).more (by omega), by omega⟩)
  have hb : ∀ (t : Txt) (_ : t ≠ []) (n m : Nat) (more : Bool) (q : Int), Sz B (seq (look (mustF t)) fun _ => seq (namesR K n more (conOf q)) fun c => brackets K m c) (fun d k => Of d k ∧ 1 ≤ k) := fun t ht n m more q =>
    sz_seq (sz_must ht) (ψ := fun _ d j => Grow (conOf q) d j) (fun _ => sz_seq (sz_names K n more _) (ψ := fun d e j => Grow d e j) (fun d => sz_brackets K m d) (fun _ k _ j h1 h2 => h1.trans h2 (by omega))) (fun _ k _ j h1 h2 => ⟨(of_grow h2).more (by omega), by omega⟩)
  refine sz_seq (sz_tell _) (ψ := fun _ d j => Of d j ∧ 1 ≤ j) (fun t => ?_) (fun _ k _ j h1 h2 => by subst h1; rw [Nat.zero_add]; exact h2)
  refine sz_if (fun _ => hn _ (by decide) 3 false 2) (fun _ => sz_if (fun _ => ?_) (fun _ => sz_if (fun _ => hb _ (by decide) 2 1 false 4) (fun _ => sz_if (fun _ => hn _ (by decide) 2 true 5) (fun _ => sz_if (fun _ => hb _ (by decide) 1 0 true 6) (fun _ => ?_)))))
  · refine sz_seq (sz_must (by decide)) (ψ := fun _ d j => Of d j) (fun _ => ?_) (fun _ k _ j h1 h2 => ⟨h2.more (by omega), by omega⟩)
    exact sz_seq sz_variable (ψ := fun x d j => Grow { conOf 3 with vars := [x] } d j) (fun x => sz_imp (sz_sum K _) fun _ _ h => h.1) (fun x k d j h1 h2 => by
      subst h1
      exact ⟨by have := h2.vars; simp at this; omega, by have := h2.coefs; simp [conOf] at this; omega, by have := h2.nums; simp [conOf] at this; omega⟩)
  · exact sz_imp (sz_sum K _) fun _ _ h => ⟨of_grow h.1, h.2⟩
/-- some constraints, of so many tokens -/
structure OfL (l : List PCon) (k : Nat) : Prop where
  len : l.length ≤ k
  each : ∀ c ∈ l, Of c k
theorem OfL.more {l : List PCon} {k j : Nat} (h : OfL l k) (hk : k ≤ j) : OfL l j := ⟨by have := h.len; omega, fun c hc => (h.each c hc).more hk⟩
theorem OfL.snoc {l : List PCon} {c : PCon} {k j : Nat} (h : OfL l k) (hc : Of c j) (hj : 1 ≤ j) : OfL (l ++ [c]) (k + j) :=
  ⟨by have := h.len; simp; omega, fun d hd => by
    rcases List.mem_append.1 hd with q | q
    · exact (h.each d q).more (by omega)
    · obtain rfl := List.mem_singleton.1 q
      exact hc.more (by omega)⟩
theorem sz_ands (K : Nat) : ∀ (n : Nat) (l : List PCon), Sz B (andsR K n l) (fun r k => ∀ i, OfL l i → OfL r (i + k))
  | 0, l => sz_ret (fun i h => h)
  | n + 1, l => by
    refine sz_seq (sz_has (by decide)) (ψ := fun _ r j => ∀ i, OfL l i → OfL r (i + j)) (fun b => ?_) (fun _ k _ j _ h2 i h => (h2 i h).more (by omega))
    refine sz_if (fun _ => ?_) (fun _ => sz_ret (fun i h => h))
    exact sz_seq (sz_con K) (ψ := fun c r j => ∀ i, OfL (l ++ [c]) i → OfL r (i + j)) (fun c => sz_ands K n _) (fun c k _ j h1 h2 i h => (h2 _ (h.snoc h1.1 h1.2)).more (by omega))
theorem sz_list (K : Nat) : Sz B (listR K) (fun l k => OfL l k) := by
  refine sz_seq (sz_has (by decide)) (ψ := fun _ l j => OfL l j) (fun b => ?_) (fun _ k _ j _ h2 => h2.more (by omega))
  refine sz_if (fun _ => sz_ret ⟨by simp, by simp⟩) (fun _ => ?_)
  exact sz_seq (sz_con K) (ψ := fun c r j => ∀ i, OfL [c] i → OfL r (i + j)) (fun c => sz_ands K K _) (fun c k _ j h1 h2 => h2 _ ⟨by simp; omega, fun d hd => by
    obtain rfl := List.mem_singleton.1 hd
    exact h1.1⟩)
theorem sz_high (b : Bool) (lo : Int) : Sz B (highR b lo) (fun _ _ => True) := sz_if (fun _ => sz_imp sz_number fun _ _ _ => trivial) (fun _ => sz_ret trivial)
theorem sz_ranges : ∀ (n : Nat) (l : List (Int × Int)), Sz B (rangesR n l) (fun r k => r.length ≤ l.length + k)
  | 0, l => sz_ret (by omega)
  | n + 1, l => by
    refine sz_seq sz_number (ψ := fun _ r j => r.length ≤ l.length + 1 + j) (fun lo => ?_) (fun _ k _ j h1 h2 => by omega)
    refine sz_seq (sz_has (by decide)) (ψ := fun _ r j => r.length ≤ l.length + 1 + j) (fun b => ?_) (fun _ k _ j h1 h2 => by omega)
    refine sz_seq (sz_high b lo) (ψ := fun _ r j => r.length ≤ l.length + 1 + j) (fun hi => ?_) (fun _ k _ j h1 h2 => by omega)
    refine sz_seq (sz_tell _) (ψ := fun _ r j => r.length ≤ l.length + 1 + j) (fun go => ?_) (fun _ k _ j h1 h2 => by omega)
    exact sz_if (fun _ => sz_imp (sz_ranges n _) fun r k h => by simpa using h) (fun _ => sz_ret (by simp))
/-- some variables, of so many tokens -/
structure OfD (B : Nat) (l : List PDecl) (k : Nat) : Prop where
  len : l.length ≤ k
  each : ∀ d ∈ l, d.name.length ≤ B ∧ d.dom.length ≤ k
theorem OfD.more {l : List PDecl} {k j : Nat} (h : OfD B l k) (hk : k ≤ j) : OfD B l j := ⟨by have := h.len; omega, fun c hc => ⟨(h.each c hc).1, by have := (h.each c hc).2; omega⟩⟩
theorem sz_decls (K : Nat) : ∀ (n : Nat) (l : List PDecl), Sz B (declsR K n l) (fun r k => ∀ i, OfD B l i → OfD B r (i + k))
  | 0, l => sz_ret (fun i h => h)
  | n + 1, l => by
    refine sz_seq sz_name (ψ := fun s r j => s.length ≤ B → ∀ i, OfD B l i → OfD B r (i + 1 + j)) (fun s => ?_) (fun _ k _ j h1 h2 i h => by rw [h1.1, ← Nat.add_assoc]; exact h2 h1.2 i h)
    refine sz_seq (sz_must (by decide)) (ψ := fun _ r j => s.length ≤ B → ∀ i, OfD B l i → OfD B r (i + 1 + j)) (fun _ => ?_) (fun _ k _ j h1 h2 hs i h => (h2 hs i h).more (by omega))
    refine sz_seq (sz_ranges K []) (ψ := fun dom r j => s.length ≤ B → ∀ i, OfD B l i → ∀ q, dom.length ≤ q → OfD B r (i + 1 + q + j)) (fun dom => ?_) (fun dom k _ j h1 h2 hs i h => (h2 hs i h k (by simpa using h1)).more (by omega))
    refine sz_seq (sz_add s) (ψ := fun _ r j => s.length ≤ B → ∀ i, OfD B l i → ∀ q, dom.length ≤ q → OfD B r (i + 1 + q + j)) (fun _ => ?_) (fun _ k _ j h1 h2 hs i h q hq => (h2 hs i h q hq).more (by omega))
    refine sz_seq (sz_has (by decide)) (ψ := fun _ r j => s.length ≤ B → ∀ i, OfD B l i → ∀ q, dom.length ≤ q → OfD B r (i + 1 + q + j)) (fun b => ?_) (fun _ k _ j h1 h2 hs i h q hq => (h2 hs i h q hq).more (by omega))
    have hl : s.length ≤ B → ∀ i, OfD B l i → ∀ q, dom.length ≤ q → OfD B (l ++ [⟨s, dom⟩]) (i + 1 + q) := fun hs i h q hq =>
      ⟨by have := h.len; simp; omega, fun d hd => by
        rcases List.mem_append.1 hd with p | p
        · exact ⟨(h.each d p).1, by have := (h.each d p).2; omega⟩
        · obtain rfl := List.mem_singleton.1 p
          exact ⟨hs, by show dom.length ≤ _; omega⟩⟩
    exact sz_if (fun _ => sz_imp (sz_decls K n _) fun r k h hs i hi q hq => h _ (hl hs i hi q hq)) (fun _ => sz_ret (fun hs i hi q hq => hl hs i hi q hq))
theorem sz_where (K : Nat) (b : Bool) : Sz B (whereR K b) (fun l k => OfL l k) := sz_if (fun _ => sz_list K) (fun _ => sz_ret ⟨by simp, by simp⟩)
theorem sz_head (b : Bool) : Sz B (headR b) (fun _ _ => True) := sz_if (fun _ => sz_ret trivial) (fun _ => sz_imp (sz_must (by decide)) fun _ _ _ => trivial)
/-- a block of so many tokens -/
structure OfB (B : Nat) (b : PBlock) (k : Nat) : Prop where
  vars : OfD B b.vars k
  cons : OfL b.cons k
theorem OfB.more {b : PBlock} {k j : Nat} (h : OfB B b k) (hk : k ≤ j) : OfB B b j := ⟨h.vars.more hk, h.cons.more hk⟩
theorem sz_block (K : Nat) : Sz B (blockR K) (fun b k => OfB B b k ∧ 1 ≤ k) := by
  refine sz_seq (sz_has (by decide)) (ψ := fun _ b j => OfB B b j ∧ 1 ≤ j) (fun all => ?_) (fun _ k _ j _ h2 => ⟨h2.1.more (by omega), by omega⟩)
  refine sz_seq (sz_head all) (ψ := fun _ b j => OfB B b j ∧ 1 ≤ j) (fun _ => ?_) (fun _ k _ j _ h2 => ⟨h2.1.more (by omega), by omega⟩)
  refine sz_seq (sz_decls K K []) (ψ := fun vs b j => ∀ i, OfD B vs i → OfB B b (i + j) ∧ 1 ≤ j) (fun vs => ?_) (fun vs k _ j h1 h2 => by
    have h0 := h1 0 ⟨by simp, by simp⟩
    rw [Nat.zero_add] at h0
    exact ⟨(h2 k h0).1, by have := (h2 k h0).2; omega⟩)
  refine sz_seq (sz_has (by decide)) (ψ := fun _ b j => ∀ i, OfD B vs i → OfB B b (i + j) ∧ 1 ≤ j) (fun wh => ?_) (fun _ k _ j _ h2 i hi => ⟨(h2 i hi).1.more (by omega), by have := (h2 i hi).2; omega⟩)
  refine sz_seq (sz_where K wh) (ψ := fun cs b j => ∀ i q, OfD B vs i → OfL cs q → OfB B b (i + q + j) ∧ 1 ≤ j) (fun cs => ?_) (fun cs k _ j h1 h2 i hi => ⟨(h2 i k hi h1).1.more (by omega), by have := (h2 i k hi h1).2; omega⟩)
  exact sz_seq (sz_must (by decide)) (ψ := fun _ b _ => b = ⟨all, vs, cs⟩) (fun _ => sz_ret rfl) (fun _ k b j h1 h2 i q hi hq => by
    subst h2
    exact ⟨⟨hi.more (by omega), hq.more (by omega)⟩, by omega⟩)
/-- some blocks, of so many tokens -/
structure OfM (B : Nat) (l : List PBlock) (k : Nat) : Prop where
  len : l.length ≤ k
  vars : (varsL l).length ≤ k
  each : ∀ b ∈ l, OfB B b k
theorem OfM.more {l : List PBlock} {k j : Nat} (h : OfM B l k) (hk : k ≤ j) : OfM B l j := ⟨by have := h.len; omega, by have := h.vars; omega, fun b hb => (h.each b hb).more hk⟩
theorem OfM.snoc {l : List PBlock} {b : PBlock} {k j : Nat} (h : OfM B l k) (hb : OfB B b j) (hj : 1 ≤ j) : OfM B (l ++ [b]) (k + j) :=
  ⟨by have := h.len; simp; omega, by have := h.vars; have := hb.vars.len; simp [varsL] at *; omega, fun d hd => by
    rcases List.mem_append.1 hd with q | q
    · exact (h.each d q).more (by omega)
    · obtain rfl := List.mem_singleton.1 q
      exact hb.more (by omega)⟩
theorem sz_blocks (K : Nat) : ∀ (n : Nat) (l : List PBlock), Sz B (blocksR K n l) (fun r k => ∀ i, OfM B l i → OfM B r (i + k))
  | 0, l => sz_ret (fun i h => h)
  | n + 1, l => by
    refine sz_seq (sz_block K) (ψ := fun b r j => ∀ i, OfM B (l ++ [b]) i → OfM B r (i + j)) (fun b => ?_) (fun b k _ j h1 h2 i h => (h2 _ (h.snoc h1.1 h1.2)).more (by omega))
    refine sz_seq (sz_tell _) (ψ := fun _ r j => ∀ i, OfM B (l ++ [b]) i → OfM B r (i + j)) (fun go => ?_) (fun _ k _ j h1 h2 i h => (h2 i h).more (by omega))
    exact sz_if (fun _ => sz_blocks K n _) (fun _ => sz_ret (fun i h => h))
theorem sz_body (K : Nat) : Sz B (bodyR K) (fun m k => OfM B m.blocks k ∧ OfL m.goal k) := by
  refine sz_seq (φ := fun m k => OfM B m.blocks k ∧ OfL m.goal k) ?_ (ψ := fun m m' _ => m' = m) (fun m => sz_seq (sz_must (by decide)) (ψ := fun _ m' _ => m' = m) (fun _ => sz_ret rfl) (fun _ _ _ _ _ h => h)) (fun m k m' j h1 h2 => by subst h2; exact ⟨h1.1.more (by omega), h1.2.more (by omega)⟩)
  refine sz_seq (sz_blocks K K []) (ψ := fun bs m j => m.blocks = bs ∧ OfL m.goal j) (fun bs => ?_) (fun bs k m j h1 h2 => by
    have h0 := h1 0 ⟨by simp, by simp [varsL], by simp⟩
    rw [Nat.zero_add] at h0
    rw [h2.1]
    exact ⟨h0.more (by omega), h2.2.more (by omega)⟩)
  refine sz_seq (sz_must (by decide)) (ψ := fun _ m j => m.blocks = bs ∧ OfL m.goal j) (fun _ => ?_) (fun _ k _ j _ h2 => ⟨h2.1, h2.2.more (by omega)⟩)
  exact sz_seq (sz_list K) (ψ := fun g m _ => m = ⟨bs, g⟩) (fun g => sz_ret rfl) (fun g k m j h1 h2 => by subst h2; exact ⟨rfl, h1.more (by omega)⟩)
end
end Go.Proofs.YtkgieaoahijheaaGreatDoor.Pa
