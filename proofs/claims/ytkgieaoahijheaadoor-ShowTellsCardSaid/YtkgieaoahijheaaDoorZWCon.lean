/-
  What a reader of tokens tells of a constraint's tokens, and of a list's. Nothing of the program.
-/
import Derived.Test.YtkgieaoahijheaaDoorZYAN
namespace Go.Proofs.YtkgieaoahijheaaDoor.Wt
open Sc (Tok)
open Pa

/-- constraints end here -/
def Stop : List Tok → Prop := Nx fun t => t = tW tAnd ∨ t = tM tSemi
def wordT (k : Int) : Txt := if k = 2 then tProduct else if k = 4 then tElement else if k = 5 then tDifferent else tTable
def numsT (l : List Int) : List Tok := tM tOpen :: (l.flatMap numT ++ [tM tShut])
/-- a constraint's tokens -/
def conT (nm : Int → Tok) (c : PCon) : List Tok :=
  if c.kind = 1 then sumsT nm (c.vars.zip c.coefs) c.rel c.const
  else if c.kind = 3 then tW tIff :: nm (c.vars.getD 0 0) :: sumsT nm ((c.vars.drop 1).zip c.coefs) c.rel c.const
  else tW (wordT c.kind) :: (c.vars.map nm ++ (if c.kind = 4 ∨ c.kind = 6 then numsT c.nums else []))
/-- the forms of constraints -/
inductive Shape : PCon → Prop where
  | lin (vs cs : List Int) (rel const : Int) (h : vs.length = cs.length) (h0 : vs ≠ []) (hr : 0 ≤ rel ∧ rel ≤ 5) : Shape ⟨1, vs, cs, rel, const, []⟩
  | iff (v : Int) (vs cs : List Int) (rel const : Int) (h : vs.length = cs.length) (h0 : vs ≠ []) (hr : 0 ≤ rel ∧ rel ≤ 5) : Shape ⟨3, v :: vs, cs, rel, const, []⟩
  | product (vs : List Int) (h : vs.length = 3) : Shape ⟨2, vs, [], 0, 0, []⟩
  | element (vs ns : List Int) (h : vs.length = 2) (hn : 1 ≤ ns.length) : Shape ⟨4, vs, [], 0, 0, ns⟩
  | differ (vs : List Int) (h : 2 ≤ vs.length) : Shape ⟨5, vs, [], 0, 0, []⟩
  | table (vs ns : List Int) (h : 1 ≤ vs.length) : Shape ⟨6, vs, [], 0, 0, ns⟩
section
variable {vs : List Txt} {φ : List Tok → Prop} {nm : Int → Tok}
theorem reads_names : ∀ (l : List Int) (n m : Nat) (more : Bool) (c : PCon), l.length < n → m ≤ l.length → (more = false → m = l.length) → (∀ v ∈ l, Kn vs (nm v) v) →
    Reads (namesR n m more c) vs (l.map nm) (Nx fun t => namedO (some t) = false) { c with vars := c.vars ++ l } []
  | l, 0, m, more, c, hn, _, _, _ => by omega
  | [], n + 1, m, more, c, _, hm, _, _ => by
    obtain rfl : m = 0 := by simpa using hm
    have hc : ({ c with vars := c.vars ++ [] } : PCon) = c := by simp
    rw [hc]
    unfold namesR
    refine reads_seq0 (t1 := []) (t2 := []) (φ := Nx fun t => namedO (some t) = false) (a := false) (reads_tell fun r post _ hp => ?_) (reads_no (by simp) reads_ret) (fun post h => h)
    obtain ⟨t, l, rfl, ht⟩ := hp
    simp [ht]
  | v :: l, n + 1, m, more, c, hn, hm, hmo, hk => by
    have IH := reads_names l n (m - 1) more { c with vars := c.vars ++ [v] } (by simp at hn; omega) (by simp at hm; omega) (fun e => by have := hmo e; simp at this; omega) (fun x hx => hk x (by simp [hx]))
    have hv := hk v (by simp)
    have hc : ({ c with vars := c.vars ++ v :: l } : PCon) = { c with vars := (c.vars ++ [v]) ++ l } := by simp
    rw [hc]
    unfold namesR
    refine reads_seq0 (t1 := []) (φ := Nx fun t => t = nm v) (a := true) (reads_tell fun r post hw hp => ?_) (reads_yes rfl (reads_seq0 (t1 := [nm v]) (φ := Any) (reads_variable hv) IH (fun _ _ => trivial))) (fun post _ => ⟨nm v, _, rfl, rfl⟩)
    obtain ⟨t, l', rfl, rfl⟩ := hp
    rw [List.head?_cons, hv.word, hw]
    by_cases h0 : 0 < m
    · simp [h0]
    · cases more
      · have := hmo rfl
        simp at this
        omega
      · simp
theorem numT_shut (z : Int) : ∃ t r, numT z = t :: r ∧ t.text ≠ tShut := by
  obtain ⟨t, r, e, h⟩ := numT_head z
  refine ⟨t, r, e, ?_⟩
  rcases h with rfl | rfl
  · decide
  · exact digs_mark (by decide)
theorem reads_nums : ∀ (l : List Int) (n m : Nat) (c : PCon), l.length < n → m ≤ l.length → Reads (numsR n m c) vs (l.flatMap numT) (Nx fun t => t.text = tShut) { c with nums := c.nums ++ l } []
  | l, 0, m, c, hn, _ => by omega
  | [], n + 1, m, c, _, hm => by
    obtain rfl : m = 0 := by simpa using hm
    have hc : ({ c with nums := c.nums ++ [] } : PCon) = c := by simp
    rw [hc]
    unfold numsR
    refine reads_seq0 (t1 := []) (t2 := []) (φ := Nx fun t => t.text = tShut) (a := false) (reads_tell fun r post _ hp => ?_) (reads_no (by simp) reads_ret) (fun post h => h)
    obtain ⟨t, l, rfl, ht⟩ := hp
    simp [textO, ht]
  | z :: l, n + 1, m, c, hn, hm => by
    have IH := reads_nums l n (m - 1) { c with nums := c.nums ++ [z] } (by simp at hn; omega) (by simp at hm; omega)
    have hc : ({ c with nums := c.nums ++ z :: l } : PCon) = { c with nums := (c.nums ++ [z]) ++ l } := by simp
    rw [hc, List.flatMap_cons]
    unfold numsR
    refine reads_seq0 (t1 := []) (φ := Nx fun t => t.text ≠ tShut) (a := true) (reads_tell fun r post hw hp => ?_) (reads_yes rfl (reads_seq0 (φ := Any) (reads_number z) IH (fun _ _ => trivial))) (fun post _ => ?_)
    · obtain ⟨t, l', rfl, ht⟩ := hp
      simp [textO, ht, hw]
    · obtain ⟨t, r, e, h⟩ := numT_shut z
      exact ⟨t, r ++ (l.flatMap numT ++ post), by rw [e]; simp, h⟩
theorem reads_brackets {K m : Nat} {c : PCon} {l : List Int} (hK : l.length < K) (hm : m ≤ l.length) : Reads (brackets K m c) vs (numsT l) φ { c with nums := c.nums ++ l } [] := by
  unfold brackets numsT
  refine reads_seq0 (t1 := [tM tOpen]) (φ := Any) (reads_must rfl) (reads_seq0 (reads_nums l K m c hK hm) ?_ (fun post _ => ⟨_, _, rfl, rfl⟩)) (fun _ _ => trivial)
  exact reads_seq0 (t1 := [tM tShut]) (t2 := []) (φ := Any) (reads_must rfl) reads_ret (fun _ _ => trivial)
theorem stop_named {post : List Tok} (h : Stop post) : Nx (fun t => namedO (some t) = false) post := by
  obtain ⟨t, r, e, ht⟩ := h
  refine ⟨t, r, e, ?_⟩
  rcases ht with rfl | rfl
  · decide
  · decide
theorem sums_head {v k : Int} {l : List (Int × Int)} {rel const : Int} (hv : Kn vs (nm v) v) : ∃ t r, sumsT nm ((v, k) :: l) rel const = t :: r ∧ wordsL.contains t.text = false := by
  show ∃ t r, (signT true k ++ (coefT k ++ ([nm v] ++ sumT nm false l))) ++ ([relT rel] ++ numT const) = t :: r ∧ _
  unfold signT
  by_cases h : k < 0
  · rw [if_pos h]
    exact ⟨tM tMinus, _, rfl, by decide⟩
  · rw [if_neg h, if_pos rfl, List.nil_append]
    unfold coefT
    split
    · exact ⟨nm v, _, rfl, (named_word hv.word).1⟩
    · refine ⟨tN k.natAbs, _, rfl, ?_⟩
      have hw : ∀ s ∈ wordsL, digs k.natAbs ≠ s := fun s hs => digs_word (by
        have : ∀ s ∈ wordsL, ∀ c ∈ s, Sc.digit c = false := by decide
        exact this s hs) (by
        have : ∀ s ∈ wordsL, s ≠ [] := by decide
        exact this s hs)
      show wordsL.contains (digs k.natAbs) = false
      cases hc : wordsL.contains (digs k.natAbs)
      · rfl
      · exact absurd rfl (hw _ (List.contains_iff_mem.1 hc))
theorem zip_cons {a : List Int} {b : List Int} (h : a.length = b.length) (h0 : a ≠ []) : ∃ v k l, a.zip b = (v, k) :: l ∧ a = v :: l.map (·.1) ∧ b = k :: l.map (·.2) := by
  cases a with
  | nil => exact absurd rfl h0
  | cons v a =>
    cases b with
    | nil => simp at h
    | cons k b =>
      simp only [List.length_cons, Nat.add_right_cancel_iff] at h
      refine ⟨v, k, a.zip b, rfl, ?_, ?_⟩
      · rw [List.map_fst_zip (by omega)]
      · rw [List.map_snd_zip (by omega)]
theorem reads_con {K : Nat} {c : PCon} (hc : Shape c) (hK : c.vars.length < K ∧ c.nums.length < K) (hk : ∀ v ∈ c.vars, Kn vs (nm v) v) : Reads (conR K) vs (conT nm c) Stop c [] := by
  cases hc with
  | lin xs cs rel const h h0 hr =>
    obtain ⟨v, k, l, e, e1, e2⟩ := zip_cons h h0
    show Reads _ _ (sumsT nm (xs.zip cs) rel const) _ _ _
    rw [e]
    have hkl : ∀ x ∈ (v, k) :: l, Kn vs (nm x.1) x.1 := fun x hx => hk x.1 (by
      show x.1 ∈ xs
      rw [e1]
      rcases List.mem_cons.1 hx with q | q
      · rw [q]; simp
      · exact List.mem_cons_of_mem _ (List.mem_map_of_mem q))
    have hl : l.length < K := by
      have h1 : xs.length < K := hK.1
      rw [e1] at h1
      simp at h1
      omega
    obtain ⟨t, r, eh, hw⟩ := sums_head (nm := nm) (l := l) (rel := rel) (const := const) (k := k) (hkl (v, k) (by simp))
    unfold conR
    refine reads_seq0 (t1 := []) (φ := Nx fun x => x = t) (a := t.text) (reads_tell fun q post _ hp => ?_) ?_ (fun post _ => ⟨t, r ++ post, by show sumsT nm ((v, k) :: l) rel const ++ post = _; rw [show sumsT nm ((v, k) :: l) rel const = t :: r from eh]; rfl, rfl⟩)
    · obtain ⟨x, l', rfl, rfl⟩ := hp
      rfl
    refine reads_no (no_word hw (by decide)) (reads_no (no_word hw (by decide)) (reads_no (no_word hw (by decide)) (reads_no (no_word hw (by decide)) (reads_no (no_word hw (by decide)) ?_))))
    have A := reads_sum (vs := vs) (nm := nm) (φ := Stop) (K := K) (c := conOf 1) (v := v) (k := k) (l := l) (rel := rel) (const := const) hl hkl hr
    simp only [conOf, List.nil_append] at A
    rw [e1, e2]
    exact A
  | iff x xs cs rel const h h0 hr =>
    obtain ⟨v, k, l, e, e1, e2⟩ := zip_cons h h0
    show Reads _ _ (tW tIff :: nm x :: sumsT nm (xs.zip cs) rel const) _ _ _
    rw [e]
    have hkl : ∀ y ∈ (v, k) :: l, Kn vs (nm y.1) y.1 := fun y hy => hk y.1 (by
      show y.1 ∈ x :: xs
      refine List.mem_cons_of_mem _ ?_
      rw [e1]
      rcases List.mem_cons.1 hy with q | q
      · rw [q]; simp
      · exact List.mem_cons_of_mem _ (List.mem_map_of_mem q))
    have hl : l.length < K := by
      have h1 : (x :: xs).length < K := hK.1
      rw [e1] at h1
      simp at h1
      omega
    unfold conR
    refine reads_seq0 (t1 := []) (φ := Nx fun y => y = tW tIff) (a := tIff) (reads_tell fun q post _ hp => ?_) ?_ (fun post _ => ⟨_, _, rfl, rfl⟩)
    · obtain ⟨y, l', rfl, rfl⟩ := hp
      rfl
    refine reads_no (by decide) (reads_yes rfl ?_)
    refine reads_seq0 (t1 := [tW tIff]) (φ := Any) (reads_must rfl) (reads_seq0 (t1 := [nm x]) (φ := Any) (reads_variable (hk x (by simp))) ?_ (fun _ _ => trivial)) (fun _ _ => trivial)
    have A := reads_sum (vs := vs) (nm := nm) (φ := Stop) (K := K) (c := { conOf 3 with vars := [x] }) (v := v) (k := k) (l := l) (rel := rel) (const := const) hl hkl hr
    simp only [conOf, List.nil_append, List.cons_append] at A
    rw [e1, e2]
    exact A
  | product xs h =>
    show Reads _ _ (tW tProduct :: (xs.map nm ++ [])) _ _ _
    unfold conR
    refine reads_seq0 (t1 := []) (φ := Nx fun y => y = tW tProduct) (a := tProduct) (reads_tell fun q post _ hp => ?_) ?_ (fun post _ => ⟨_, _, rfl, rfl⟩)
    · obtain ⟨y, l', rfl, rfl⟩ := hp
      rfl
    refine reads_yes rfl (reads_seq0 (t1 := [tW tProduct]) (φ := Any) (reads_must rfl) ?_ (fun _ _ => trivial))
    show Reads _ _ (xs.map nm ++ []) _ _ _
    rw [List.append_nil]
    exact reads_imp (reads_names xs K 3 false (conOf 2) hK.1 (by omega) (fun _ => h.symm) hk) (fun _ hp => stop_named hp)
  | element xs ns h hn =>
    show Reads _ _ (tW tElement :: (xs.map nm ++ numsT ns)) _ _ _
    unfold conR
    refine reads_seq0 (t1 := []) (φ := Nx fun y => y = tW tElement) (a := tElement) (reads_tell fun q post _ hp => ?_) ?_ (fun post _ => ⟨_, _, rfl, rfl⟩)
    · obtain ⟨y, l', rfl, rfl⟩ := hp
      rfl
    refine reads_no (by decide) (reads_no (by decide) (reads_yes rfl (reads_seq0 (t1 := [tW tElement]) (φ := Any) (reads_must rfl) ?_ (fun _ _ => trivial))))
    refine reads_seq0 (reads_names xs K 2 false (conOf 4) hK.1 (by omega) (fun _ => h.symm) hk) ?_ (fun post _ => ⟨_, _, rfl, by decide⟩)
    exact reads_brackets hK.2 hn
  | differ xs h =>
    show Reads _ _ (tW tDifferent :: (xs.map nm ++ [])) _ _ _
    unfold conR
    refine reads_seq0 (t1 := []) (φ := Nx fun y => y = tW tDifferent) (a := tDifferent) (reads_tell fun q post _ hp => ?_) ?_ (fun post _ => ⟨_, _, rfl, rfl⟩)
    · obtain ⟨y, l', rfl, rfl⟩ := hp
      rfl
    refine reads_no (by decide) (reads_no (by decide) (reads_no (by decide) (reads_yes rfl (reads_seq0 (t1 := [tW tDifferent]) (φ := Any) (reads_must rfl) ?_ (fun _ _ => trivial)))))
    show Reads _ _ (xs.map nm ++ []) _ _ _
    rw [List.append_nil]
    exact reads_imp (reads_names xs K 2 true (conOf 5) hK.1 h (fun e => by cases e) hk) (fun _ hp => stop_named hp)
  | table xs ns h =>
    show Reads _ _ (tW tTable :: (xs.map nm ++ numsT ns)) _ _ _
    unfold conR
    refine reads_seq0 (t1 := []) (φ := Nx fun y => y = tW tTable) (a := tTable) (reads_tell fun q post _ hp => ?_) ?_ (fun post _ => ⟨_, _, rfl, rfl⟩)
    · obtain ⟨y, l', rfl, rfl⟩ := hp
      rfl
    refine reads_no (by decide) (reads_no (by decide) (reads_no (by decide) (reads_no (by decide) (reads_yes rfl (reads_seq0 (t1 := [tW tTable]) (φ := Any) (reads_must rfl) ?_ (fun _ _ => trivial))))))
    refine reads_seq0 (reads_names xs K 1 true (conOf 6) hK.1 h (fun e => by cases e) hk) ?_ (fun post _ => ⟨_, _, rfl, by decide⟩)
    exact reads_brackets hK.2 (Nat.zero_le _)

/- lists -/
def listT (nm : Int → Tok) : List PCon → List Tok
  | [] => [tW tTrue]
  | c :: l => conT nm c ++ l.flatMap fun c => tW tAnd :: conT nm c
/-- all of a list is read -/
structure ConOk (vs : List Txt) (nm : Int → Tok) (K : Nat) (c : PCon) : Prop where
  shape : Shape c
  vars : c.vars.length < K
  nums : c.nums.length < K
  kn : ∀ v ∈ c.vars, Kn vs (nm v) v
def Semi : List Tok → Prop := Nx fun t => t = tM tSemi
theorem con_first {K : Nat} {c : PCon} (h : ConOk vs nm K c) : ∃ t r, conT nm c = t :: r ∧ t.text ≠ tTrue := by
  obtain ⟨hs, h1, h2, hk⟩ := h
  cases hs with
  | lin xs cs rel const h h0 hr =>
    obtain ⟨v, k, l, e, e1, e2⟩ := zip_cons h h0
    obtain ⟨t, r, eh, hw⟩ := sums_head (vs := vs) (nm := nm) (l := l) (rel := rel) (const := const) (k := k) (hk v (by show v ∈ xs; rw [e1]; simp))
    refine ⟨t, r, ?_, no_word hw (by decide)⟩
    show sumsT nm (xs.zip cs) rel const = _
    rw [e, eh]
  | iff x xs cs rel const h h0 hr => exact ⟨tW tIff, _, rfl, by decide⟩
  | product xs h => exact ⟨tW tProduct, _, rfl, by decide⟩
  | element xs ns h hn => exact ⟨tW tElement, _, rfl, by decide⟩
  | differ xs h => exact ⟨tW tDifferent, _, rfl, by decide⟩
  | table xs ns h => exact ⟨tW tTable, _, rfl, by decide⟩
theorem reads_ands {K : Nat} : ∀ (l : List PCon) (n : Nat) (acc : List PCon), l.length < n → (∀ c ∈ l, ConOk vs nm K c) → Reads (andsR K n acc) vs (l.flatMap fun c => tW tAnd :: conT nm c) Semi (acc ++ l) []
  | l, 0, acc, hn, _ => by omega
  | [], n + 1, acc, _, _ => by
    rw [List.append_nil]
    unfold andsR
    exact reads_seq0 (t1 := []) (t2 := []) (φ := Semi) (reads_hasnt fun post hp => by
      obtain ⟨t, r, rfl, rfl⟩ := hp
      exact ⟨_, _, rfl, by decide⟩) (reads_no (by simp) reads_ret) (fun _ h => h)
  | c :: l, n + 1, acc, hn, hk => by
    have IH := reads_ands (K := K) l n (acc ++ [c]) (by simp at hn; omega) (fun x hx => hk x (by simp [hx]))
    have hc := hk c (by simp)
    rw [List.flatMap_cons, show acc ++ c :: l = (acc ++ [c]) ++ l by simp]
    unfold andsR
    show Reads _ _ ([tW tAnd] ++ conT nm c ++ _) _ _ _
    rw [List.append_assoc]
    refine reads_seq0 (φ := Any) (reads_has rfl) (reads_yes rfl (reads_seq0 (reads_con hc.shape ⟨hc.vars, hc.nums⟩ hc.kn) IH (fun post hp => ?_))) (fun _ _ => trivial)
    cases l with
    | nil =>
      obtain ⟨t, r, rfl, rfl⟩ := hp
      exact ⟨_, _, rfl, .inr rfl⟩
    | cons d l => exact ⟨_, _, rfl, .inl rfl⟩
theorem reads_list {K : Nat} {l : List PCon} (hK : l.length < K) (hk : ∀ c ∈ l, ConOk vs nm K c) : Reads (listR K) vs (listT nm l) Semi l [] := by
  unfold listR
  cases l with
  | nil => exact reads_seq0 (t1 := [tW tTrue]) (t2 := []) (φ := Any) (reads_has rfl) (reads_yes rfl reads_ret) (fun _ _ => trivial)
  | cons c l =>
    have hc := hk c (by simp)
    obtain ⟨t, r, e, ht⟩ := con_first hc
    show Reads _ _ (conT nm c ++ l.flatMap fun c => tW tAnd :: conT nm c) _ _ _
    refine reads_seq0 (t1 := []) (φ := Nx fun x => x.text ≠ tTrue) (reads_hasnt fun _ h => h) (reads_no (by simp) ?_) (fun post _ => ⟨t, (r ++ l.flatMap fun c => tW tAnd :: conT nm c) ++ post, by rw [e]; simp, ht⟩)
    refine reads_seq0 (reads_con hc.shape ⟨hc.vars, hc.nums⟩ hc.kn) ?_ (fun post hp => ?_)
    · exact reads_ands (K := K) l K [c] (by simp at hK; omega) (fun x hx => hk x (by simp [hx]))
    · cases l with
      | nil =>
        obtain ⟨t, r, rfl, rfl⟩ := hp
        exact ⟨_, _, rfl, .inr rfl⟩
      | cons d l => exact ⟨_, _, rfl, .inl rfl⟩
end
end Go.Proofs.YtkgieaoahijheaaDoor.Wt
