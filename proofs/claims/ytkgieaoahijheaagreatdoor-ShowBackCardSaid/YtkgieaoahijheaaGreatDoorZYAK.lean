/-
  What a reader of tokens tells of a model's tokens: that model. Nothing of the program.
  The text of a model, and that it comes back from it. Nothing of the program.
  A model that may be comes back from its text. Nothing of the program.
  Numbers and sums, of the document's answers for texts of models.
-/
import Derived.Test.YtkgieaoahijheaaGreatDoorZYAJ
import Derived.Test.YtkgieaoahijheaaGreatDoorZYAE
namespace Go.Proofs.YtkgieaoahijheaaGreatDoor.Wt
open Sc (Tok)
open Pa

theorem find_at : ∀ (l : List Txt) (i : Nat), i < l.length → (∀ j, j < i → l.getD j [] ≠ l.getD i []) → findF (l.getD i []) l = some i
  | [], i, h, _ => by simp at h
  | x :: l, 0, _, _ => by simp [findF]
  | x :: l, i + 1, h, hj => by
    have h0 := hj 0 (by omega)
    simp only [List.getD_cons_zero, List.getD_cons_succ] at h0
    simp only [List.getD_cons_succ, findF]
    rw [if_neg h0, find_at l i (by simpa using h) (fun j hj' => by
      have := hj (j + 1) (by omega)
      simpa using this)]
    rfl
/-- the token of a variable -/
def nmT (ns : List Txt) (v : Int) : Tok := tW (ns.getD v.toNat [])
theorem name_mark {s : Txt} (h : nameL s = true) : s ≠ tMinus := fun e => by rw [e] at h; exact absurd h (by decide)
theorem kn_of {ns vs rest : List Txt} {v : Int} (hp : ns = vs ++ rest) (hd : ¬ TwiceTo ns ns.length) (hn : ∀ s ∈ ns, nameL s = true) (h0 : 0 ≤ v) (hv : v.toNat < vs.length) : Kn vs (nmT ns v) v := by
  have hl : v.toNat < ns.length := by rw [hp, List.length_append]; omega
  have e : ns.getD v.toNat [] = vs.getD v.toNat [] := by
    rw [hp]
    simp only [List.getD_eq_getElem?_getD, List.getElem?_append_left hv]
  have hm : nameL (ns.getD v.toNat []) = true := by
    have : ns.getD v.toNat [] ∈ ns := by
      rw [List.getD_eq_getElem?_getD, List.getElem?_eq_getElem hl]
      exact List.getElem_mem hl
    exact hn _ this
  refine ⟨name_mark hm, ?_, ?_, h0⟩
  · have h2 : wordsL.contains (ns.getD v.toNat []) = false := by
      unfold nameL at hm
      simp only [Bool.and_eq_true] at hm
      simpa using hm.1
    unfold namedO
    show (!wordsL.contains (ns.getD v.toNat []) && decide ((1 : Nat) = 1)) = true
    rw [h2]
    rfl
  · show findF (ns.getD v.toNat []) vs = _
    rw [e]
    refine find_at vs v.toNat hv fun j hj he => hd ⟨v.toNat, j, hj, hl, ?_⟩
    rw [e, ← he, hp]
    simp only [List.getD_eq_getElem?_getD, List.getElem?_append_left (show j < vs.length by omega)]

def spanT (p : Int × Int) : List Tok := numT p.1 ++ (if p.2 = p.1 then [] else tM tDots :: numT p.2)
def declT (d : PDecl) : List Tok := tW d.name :: tW tIn :: d.dom.flatMap spanT
def declsT : List PDecl → List Tok
  | [] => []
  | d :: l => declT d ++ l.flatMap fun d => tM tComma :: declT d
/-- a block's tokens, but for the last one -/
def blockH (nm : Int → Tok) (b : PBlock) : List Tok := tW (if b.all = true then tForall else tExists) :: (declsT b.vars ++ (if b.cons = [] then [] else tW tWhere :: listT nm b.cons))
def blockT (nm : Int → Tok) (b : PBlock) : List Tok := blockH nm b ++ [tM tSemi]
def goalH (nm : Int → Tok) (l : List PCon) : List Tok := tW tGoal :: listT nm l
def modelT (nm : Int → Tok) (m : PModel) : List Tok := m.blocks.flatMap (blockT nm) ++ (goalH nm m.goal ++ [tM tSemi])
/-- a variable ends here -/
def DStop : List Tok → Prop := Nx fun t => t = tM tComma ∨ t = tW tWhere ∨ t = tM tSemi
/-- a block's variables end here -/
def BStop : List Tok → Prop := Nx fun t => t = tW tWhere ∨ t = tM tSemi
section
variable {vs : List Txt} {φ : List Tok → Prop} {nm : Int → Tok} {K : Nat}
theorem reads_ranges : ∀ (l : List (Int × Int)) (n : Nat) (p : Int × Int) (acc : List (Int × Int)), l.length < n → Reads (rangesR n acc) vs ((p :: l).flatMap spanT) DStop (acc ++ p :: l) []
  | l, 0, p, acc, hn => by omega
  | l, n + 1, p, acc, hn => by
    rw [List.flatMap_cons]
    have hd : ∀ post, DStop post → Nx (fun t => t.text ≠ tDots) (l.flatMap spanT ++ post) := fun post hp => by
      cases l with
      | nil =>
        obtain ⟨t, r, rfl, ht⟩ := hp
        refine ⟨t, r, rfl, ?_⟩
        rcases ht with rfl | rfl | rfl <;> decide
      | cons q l =>
        obtain ⟨t, r, e, ht⟩ := numT_head q.1
        refine ⟨t, (r ++ (if q.2 = q.1 then [] else tM tDots :: numT q.2)) ++ (l.flatMap spanT) ++ post, by rw [List.flatMap_cons, spanT, e]; simp, ?_⟩
        rcases ht with rfl | rfl
        · decide
        · exact digs_mark (by decide)
    have A : Reads (seq number fun lo => seq (Pa.look (hasF tDots)) fun b => seq (highR b lo) fun hi => ret (lo, hi)) vs (spanT p) (Nx fun t => t.text ≠ tDots) p [] := by
      unfold spanT
      refine reads_seq0 (φ := Any) (reads_number p.1) ?_ (fun _ _ => trivial)
      by_cases h : p.2 = p.1
      · rw [if_pos h]
        refine reads_seq0 (t1 := []) (t2 := []) (φ := Nx fun t => t.text ≠ tDots) (reads_hasnt fun _ h => h) ?_ (fun _ h => h)
        refine reads_seq0 (t1 := []) (t2 := []) (φ := Any) (a := p.1) (by
          show Reads (if false = true then _ else _) _ _ _ _ _
          exact reads_no (by simp) reads_ret) ?_ (fun _ _ => trivial)
        have e : (p.1, p.1) = p := Prod.ext rfl h.symm
        show Reads (ret (p.1, p.1)) _ _ _ _ _
        rw [e]
        exact reads_ret
      · rw [if_neg h]
        refine reads_seq0 (t1 := [tM tDots]) (φ := Any) (reads_has rfl) ?_ (fun _ _ => trivial)
        have B := reads_seq0 (t2 := []) (φ := Any) (ψ := Nx fun t => t.text ≠ tDots) (n2 := []) (vs := vs) (f := fun hi => ret (p.1, hi)) (m := highR true p.1) (t1 := numT p.2) (a := p.2) (by
          show Reads (if true = true then _ else _) _ _ _ _ _
          exact reads_yes rfl (reads_number p.2)) reads_ret (fun _ _ => trivial)
        rw [List.append_nil] at B
        exact B
    have e1 : rangesR (n + 1) acc = seq (seq number fun lo => seq (Pa.look (hasF tDots)) fun b => seq (highR b lo) fun hi => ret (lo, hi)) fun q => seq (tell fun _ o => decide (kindO o = 2) || decide (textO o = tMinus)) fun go =>
      if go = true then rangesR n (acc ++ [q]) else ret (acc ++ [q]) := rfl
    rw [e1]
    refine reads_seq0 A ?_ hd
    cases l with
    | nil =>
      refine reads_seq0 (t1 := []) (t2 := []) (φ := DStop) (a := false) (reads_tell fun r post _ hp => ?_) (reads_no (by simp) reads_ret) (fun _ h => h)
      obtain ⟨t, r, rfl, ht⟩ := hp
      rcases ht with rfl | rfl | rfl <;> rfl
    | cons q l =>
      have IH := reads_ranges l n q (acc ++ [p]) (by simp at hn; omega)
      rw [show acc ++ p :: q :: l = (acc ++ [p]) ++ q :: l by simp]
      refine reads_seq0 (t1 := []) (φ := Nx fun t => t.kind = 2 ∨ t.text = tMinus) (a := true) (reads_tell fun r post _ hp => ?_) (reads_yes rfl IH) (fun post _ => ?_)
      · obtain ⟨t, r, rfl, ht⟩ := hp
        rcases ht with h | h <;> simp [kindO, textO, h]
      · obtain ⟨t, r, e, ht⟩ := numT_head q.1
        refine ⟨t, (r ++ (if q.2 = q.1 then [] else tM tDots :: numT q.2)) ++ (l.flatMap spanT) ++ post, by show (q :: l).flatMap spanT ++ post = _; rw [List.flatMap_cons, spanT, e]; simp, ?_⟩
        rcases ht with rfl | rfl
        · exact .inr rfl
        · exact .inl rfl
theorem reads_add (s : Txt) : Reads (addVar s) vs [] φ () [s] := fun T r post hw hv hb _ _ => by
  obtain ⟨i, w, v, b⟩ := r
  simp only at hw hv hb
  subst hw hv hb
  simp [addVar, Pa.look]
/-- a variable may be written -/
structure DeclOk (K : Nat) (d : PDecl) : Prop where
  name : nameL d.name = true
  dom : d.dom ≠ []
  few : d.dom.length ≤ K
theorem reads_decls : ∀ (l : List PDecl) (n : Nat) (d : PDecl) (acc : List PDecl) (vs : List Txt), l.length < n → (∀ x ∈ d :: l, DeclOk K x) →
    Reads (declsR K n acc) vs (declT d ++ l.flatMap fun d => tM tComma :: declT d) BStop (acc ++ d :: l) ((d :: l).map (·.name))
  | l, 0, d, acc, vs, hn, _ => by omega
  | l, n + 1, d, acc, vs, hn, hk => by
    obtain ⟨h1, h2, h3⟩ := hk d (by simp)
    obtain ⟨p, q, e⟩ := List.exists_cons_of_ne_nil h2
    have hq : q.length < K := by rw [e] at h3; simp at h3; omega
    have R := reads_ranges (vs := vs) q K p [] hq
    rw [List.nil_append, ← e] at R
    unfold declsR declT
    show Reads _ _ (([tW d.name] ++ ([tW tIn] ++ d.dom.flatMap spanT)) ++ _) _ _ _
    rw [List.append_assoc, List.append_assoc]
    refine reads_seq0 (φ := Any) (reads_name h1) (reads_seq0 (φ := Any) (reads_must rfl) (reads_seq0 R ?_ ?_) (fun _ _ => trivial)) (fun _ _ => trivial)
    · have e2 : (d :: l).map (·.name) = [d.name] ++ l.map (·.name) := rfl
      rw [e2]
      refine reads_seq (t1 := []) (φ := Any) (reads_add d.name) ?_ (fun _ _ => trivial)
      cases l with
      | nil =>
        refine reads_seq0 (t1 := []) (t2 := []) (φ := BStop) (reads_hasnt fun post hp => ?_) (reads_no (by simp) reads_ret) (fun _ h => h)
        obtain ⟨t, r, rfl, ht⟩ := hp
        refine ⟨t, r, rfl, ?_⟩
        rcases ht with rfl | rfl <;> decide
      | cons d' l =>
        have IH := reads_decls l n d' (acc ++ [d]) (vs ++ [d.name]) (by simp at hn; omega) (fun x hx => hk x (by simp at hx ⊢; right; exact hx))
        rw [show acc ++ d :: d' :: l = (acc ++ [d]) ++ d' :: l by simp]
        show Reads _ _ ([tM tComma] ++ (declT d' ++ l.flatMap fun d => tM tComma :: declT d)) _ _ _
        exact reads_seq0 (φ := Any) (reads_has rfl) (reads_yes rfl IH) (fun _ _ => trivial)
    · intro post hp
      cases l with
      | nil =>
        obtain ⟨t, r, rfl, ht⟩ := hp
        exact ⟨t, r, rfl, .inr ht⟩
      | cons d' l => exact ⟨_, _, rfl, .inl rfl⟩
/-- a block may be written -/
structure BlockOk (vs : List Txt) (nm : Int → Tok) (K : Nat) (b : PBlock) : Prop where
  vars : b.vars ≠ []
  few : b.vars.length ≤ K
  decls : ∀ d ∈ b.vars, DeclOk K d
  long : b.cons.length < K
  cons : ∀ c ∈ b.cons, ConOk (vs ++ b.vars.map (·.name)) nm K c
theorem reads_block {b : PBlock} (h : BlockOk vs nm K b) : Reads (blockR K) vs (blockT nm b) φ b (b.vars.map (·.name)) := by
  obtain ⟨h1, h2, h3, h4, h5⟩ := h
  obtain ⟨d, l, e⟩ := List.exists_cons_of_ne_nil h1
  have D := reads_decls (K := K) l K d [] vs (by rw [e] at h2; simp at h2; omega) (by rw [← e]; exact h3)
  rw [List.nil_append, ← e] at D
  have ed : declsT b.vars = declT d ++ l.flatMap fun d => tM tComma :: declT d := by rw [e]; rfl
  rw [← ed] at D
  have A : Reads (seq (declsR K K []) fun vs' => seq (Pa.look (hasF tWhere)) fun w => seq (whereR K w) fun cs => seq (Pa.look (mustF tSemi)) fun _ => ret (⟨b.all, vs', cs⟩ : PBlock)) vs (declsT b.vars ++ ((if b.cons = [] then [] else tW tWhere :: listT nm b.cons) ++ [tM tSemi])) φ b (b.vars.map (·.name)) := by
    have en : b.vars.map (·.name) = b.vars.map (·.name) ++ [] := by simp
    rw [en]
    refine reads_seq (φ := BStop) D ?_ (fun post _ => ?_)
    · by_cases hc : b.cons = []
      · rw [if_pos hc, List.nil_append]
        refine reads_seq0 (t1 := []) (t2 := [tM tSemi]) (φ := Nx fun t => t = tM tSemi) (reads_hasnt fun post hp => ?_) ?_ (fun post _ => ⟨_, _, rfl, rfl⟩)
        · obtain ⟨t, r, rfl, rfl⟩ := hp
          exact ⟨_, _, rfl, by decide⟩
        refine reads_seq0 (t1 := []) (t2 := [tM tSemi]) (φ := Any) (a := []) (by
          show Reads (if false = true then _ else _) _ _ _ _ _
          exact reads_no (by simp) reads_ret) ?_ (fun _ _ => trivial)
        have eb : (⟨b.all, b.vars, []⟩ : PBlock) = b := by
          obtain ⟨x, y, z⟩ := b
          simp only at hc
          rw [hc]
        show Reads (seq (Pa.look (mustF tSemi)) fun _ => ret (⟨b.all, b.vars, []⟩ : PBlock)) _ _ _ _ _
        rw [eb]
        exact reads_seq0 (t1 := [tM tSemi]) (t2 := []) (φ := Any) (reads_must rfl) reads_ret (fun _ _ => trivial)
      · rw [if_neg hc]
        show Reads _ _ ([tW tWhere] ++ listT nm b.cons ++ [tM tSemi]) _ _ _
        rw [List.append_assoc]
        refine reads_seq0 (φ := Any) (reads_has rfl) ?_ (fun _ _ => trivial)
        refine reads_seq0 (φ := Semi) (a := b.cons) (by
          show Reads (if true = true then _ else _) _ _ _ _ _
          exact reads_yes rfl (reads_list h4 h5)) ?_ (fun post _ => ⟨_, _, rfl, rfl⟩)
        exact reads_seq0 (t1 := [tM tSemi]) (t2 := []) (φ := Any) (reads_must rfl) reads_ret (fun _ _ => trivial)
    · by_cases hc : b.cons = []
      · rw [if_pos hc]
        exact ⟨_, _, rfl, .inr rfl⟩
      · rw [if_neg hc]
        exact ⟨_, _, rfl, .inl rfl⟩
  unfold blockR blockT blockH
  show Reads _ _ ((([tW (if b.all = true then tForall else tExists)] ++ (declsT b.vars ++ _))) ++ _) _ _ _
  rw [List.append_assoc, List.append_assoc]
  cases hb : b.all
  · rw [hb] at A
    refine reads_seq0 (t1 := []) (t2 := _) (φ := Nx fun t => t = tW tExists) (a := false) (reads_hasnt fun post hp => ?_) ?_ (fun post _ => ⟨_, _, rfl, rfl⟩)
    · obtain ⟨t, r, rfl, rfl⟩ := hp
      exact ⟨_, _, rfl, by decide⟩
    refine reads_seq0 (t1 := [tW tExists]) (φ := Any) (a := ()) (by
      show Reads (if false = true then _ else _) _ _ _ _ _
      exact reads_no (by simp) (reads_must rfl)) A (fun _ _ => trivial)
  · rw [hb] at A
    refine reads_seq0 (t1 := [tW tForall]) (φ := Any) (a := true) (reads_has rfl) ?_ (fun _ _ => trivial)
    refine reads_seq0 (t1 := []) (φ := Any) (a := ()) (by
      show Reads (if true = true then _ else _) _ _ _ _ _
      exact reads_yes rfl reads_ret) A (fun _ _ => trivial)
/-- blocks may be written, one behind the other -/
def BlocksOk (nm : Int → Tok) (K : Nat) : List Txt → List PBlock → Prop
  | _, [] => True
  | vs, b :: l => BlockOk vs nm K b ∧ BlocksOk nm K (vs ++ b.vars.map (·.name)) l
def namesB (l : List PBlock) : List Txt := l.flatMap fun b => b.vars.map (·.name)
theorem block_head (nm : Int → Tok) (b : PBlock) : ∃ t r, blockT nm b = t :: r ∧ t.text ≠ tGoal := by
  refine ⟨_, _, rfl, ?_⟩
  cases b.all <;> decide
theorem reads_blocks : ∀ (l : List PBlock) (n : Nat) (b : PBlock) (acc : List PBlock) (vs : List Txt), l.length < n → BlocksOk nm K vs (b :: l) →
    Reads (blocksR K n acc) vs ((b :: l).flatMap (blockT nm)) (Nx fun t => t = tW tGoal) (acc ++ b :: l) (namesB (b :: l))
  | l, 0, b, acc, vs, hn, _ => by omega
  | l, n + 1, b, acc, vs, hn, hk => by
    obtain ⟨hb, hl⟩ := hk
    unfold blocksR
    rw [List.flatMap_cons]
    show Reads _ _ _ _ _ (b.vars.map (·.name) ++ namesB l)
    refine reads_seq (φ := Any) (reads_block hb) ?_ (fun _ _ => trivial)
    cases l with
    | nil =>
      refine reads_seq0 (t1 := []) (t2 := []) (φ := Nx fun t => t = tW tGoal) (a := false) (reads_tell fun r post hw hp => ?_) (reads_no (by simp) reads_ret) (fun _ h => h)
      obtain ⟨t, r, rfl, rfl⟩ := hp
      simp [textO, tW]
    | cons b' l =>
      have IH := reads_blocks l n b' (acc ++ [b]) _ (by simp at hn; omega) hl
      rw [show acc ++ b :: b' :: l = (acc ++ [b]) ++ b' :: l by simp]
      refine reads_seq0 (t1 := []) (φ := Nx fun t => t.text ≠ tGoal) (a := true) (reads_tell fun r post hw hp => ?_) (reads_yes rfl IH) (fun post _ => ?_)
      · obtain ⟨t, r, rfl, ht⟩ := hp
        simp [textO, ht, hw]
      · obtain ⟨t, r, e, ht⟩ := block_head nm b'
        exact ⟨t, r ++ l.flatMap (blockT nm) ++ post, by show (b' :: l).flatMap (blockT nm) ++ post = _; rw [List.flatMap_cons, e]; simp, ht⟩
/-- a model may be written -/
structure ModelOk (nm : Int → Tok) (K : Nat) (m : PModel) : Prop where
  some : m.blocks ≠ []
  few : m.blocks.length ≤ K
  blocks : BlocksOk nm K [] m.blocks
  long : m.goal.length < K
  goal : ∀ c ∈ m.goal, ConOk (namesB m.blocks) nm K c
theorem reads_body {m : PModel} (h : ModelOk nm K m) : Reads (bodyR K) [] (modelT nm m) φ m (namesB m.blocks) := by
  obtain ⟨h1, h2, h3, h4, h5⟩ := h
  obtain ⟨b, l, e⟩ := List.exists_cons_of_ne_nil h1
  have B := reads_blocks (nm := nm) (K := K) l K b [] [] (by rw [e] at h2; simp at h2; omega) (by rw [← e]; exact h3)
  rw [List.nil_append, ← e] at B
  unfold modelT bodyR mostR goalH
  have en : namesB m.blocks = namesB m.blocks ++ [] := by simp
  rw [en]
  have e2 : m.blocks.flatMap (blockT nm) ++ (tW tGoal :: listT nm m.goal ++ [tM tSemi]) = (m.blocks.flatMap (blockT nm) ++ ([tW tGoal] ++ (listT nm m.goal ++ []))) ++ ([tM tSemi] ++ []) := by simp
  rw [e2]
  refine reads_seq (φ := Semi) (n1 := namesB m.blocks) ?_ (reads_seq0 (φ := Any) (reads_must rfl) reads_ret (fun _ _ => trivial)) (fun _ _ => ⟨_, _, rfl, rfl⟩)
  have A := reads_seq (n2 := []) (ψ := Semi) (b := m) (t2 := [tW tGoal] ++ (listT nm m.goal ++ [])) (f := fun bs => seq (Pa.look (mustF tGoal)) fun _ => seq (listR K) fun g => ret (⟨bs, g⟩ : PModel)) B
    (reads_seq0 (φ := Any) (reads_must rfl) (reads_seq0 (φ := Semi) (reads_list (by exact h4) (by rw [List.nil_append]; exact h5)) reads_ret (fun _ h => h)) (fun _ _ => trivial)) (fun _ _ => ⟨_, _, rfl, rfl⟩)
  rw [List.append_nil (namesB m.blocks)] at A
  exact A
end
theorem body_back {nm : Int → Tok} {K : Nat} {m : PModel} (h : ModelOk nm K m) : bodyR K (modelT nm m) Pa.start = (m, ⟨(modelT nm m).length, false, namesB m.blocks, none⟩) := by
  have := reads_body (φ := Any) h (modelT nm m) Pa.start [] rfl rfl rfl (by simp [Pa.start]) trivial
  rw [this]
  simp [Pa.start]
end Go.Proofs.YtkgieaoahijheaaGreatDoor.Wt
namespace Go.Proofs.YtkgieaoahijheaaGreatDoor.Wt
open Sc (Tok Own mostV scanL)
open Pa

/-- tokens with what parts them: a line that ends with `;` -/
def lineP (ts : List Tok) : List (Tok × UInt8) := ts.map (fun t => (t, (32 : UInt8))) ++ [(tM tSemi, 10)]
def lineL (ts : List Tok) : List UInt8 := sepL (lineP ts)
def pairsM (nm : Int → Tok) (m : PModel) : List (Tok × UInt8) := m.blocks.flatMap (fun b => lineP (blockH nm b)) ++ lineP (goalH nm m.goal)
/-- a model's text -/
def textL (nm : Int → Tok) (m : PModel) : List UInt8 := sepL (pairsM nm m)
theorem sep_app (A B : List (Tok × UInt8)) : sepL (A ++ B) = sepL A ++ sepL B := by simp [sepL]
theorem line_fst (ts : List Tok) : (lineP ts).map (·.1) = ts ++ [tM tSemi] := by simp [lineP, Function.comp_def]
theorem pairs_fst (nm : Int → Tok) (m : PModel) : (pairsM nm m).map (·.1) = modelT nm m := by
  unfold pairsM modelT
  rw [List.map_append, line_fst, List.map_flatMap]
  congr 2
  funext b
  rw [line_fst]
  rfl
theorem line_sep (ts : List Tok) (h : ∀ t ∈ ts, Own t) : ∀ x ∈ lineP ts, Own x.1 ∧ Sep x.2 := fun x hx => by
  unfold lineP at hx
  rcases List.mem_append.1 hx with q | q
  · obtain ⟨t, ht, rfl⟩ := List.mem_map.1 q
    exact ⟨h t ht, .inl rfl⟩
  · rw [List.mem_singleton.1 q]
    exact ⟨⟨59, [], rfl, rfl⟩, .inr rfl⟩
/- tokens that are their own texts -/
theorem own_mark {s : Txt} (h : s ∈ [tMinus, tPlus, tStar, tComma, tSemi, tOpen, tShut, tDots] ∨ s ∈ relsL) : Own (tM s) := by
  have h2 : s ∈ [tMinus, tPlus, tStar, tComma, tSemi, tOpen, tShut, tDots] ++ relsL := List.mem_append.2 h
  have : ∀ x ∈ [tMinus, tPlus, tStar, tComma, tSemi, tOpen, tShut, tDots] ++ relsL, ∃ c r, x = c :: r ∧ Sc.step c r = .tok 3 x.length 0 := by
    intro x hx
    simp only [relsL, List.cons_append, List.nil_append, List.mem_cons, List.not_mem_nil, or_false] at hx
    rcases hx with rfl | rfl | rfl | rfl | rfl | rfl | rfl | rfl | rfl | rfl | rfl | rfl | rfl | rfl <;> exact ⟨_, _, rfl, rfl⟩
  exact this s h2
theorem own_key {s : Txt} (h : s ∈ wordsL) : Own (tW s) := by
  have : ∀ x ∈ wordsL, ∃ c r, x = c :: r ∧ Sc.step c r = .tok 1 x.length 0 := by
    intro x hx
    simp only [wordsL, List.mem_cons, List.not_mem_nil, or_false] at hx
    rcases hx with rfl | rfl | rfl | rfl | rfl | rfl | rfl | rfl | rfl | rfl | rfl | rfl <;> exact ⟨_, _, rfl, rfl⟩
  exact this s h
/-- a number that a text may hold -/
def Num (z : Int) : Prop := z.natAbs ≤ mostV
theorem own_number {z : Int} (h : Num z) : ∀ t ∈ numT z, Own t := fun t ht => by
  unfold numT at ht
  split at ht
  · rcases List.mem_cons.1 ht with rfl | q
    · exact own_mark (.inl (by decide))
    · rw [List.mem_singleton.1 q]; exact own_num h
  · rw [List.mem_singleton.1 ht]; exact own_num h
section
variable {nm : Int → Tok}
theorem own_sum : ∀ (l : List (Int × Int)) (first : Bool), (∀ x ∈ l, Own (nm x.1) ∧ Num x.2) → ∀ t ∈ sumT nm first l, Own t
  | [], _, _, t, ht => by cases ht
  | (v, k) :: l, first, h, t, ht => by
    obtain ⟨h1, h2⟩ := h (v, k) (by simp)
    rcases List.mem_append.1 ht with q | q
    · unfold signT at q
      split at q
      · rw [List.mem_singleton.1 q]; exact own_mark (.inl (by decide))
      · split at q
        · cases q
        · rw [List.mem_singleton.1 q]; exact own_mark (.inl (by decide))
    · rcases List.mem_append.1 q with q | q
      · unfold coefT at q
        split at q
        · cases q
        · rcases List.mem_cons.1 q with rfl | q
          · exact own_num h2
          · rw [List.mem_singleton.1 q]; exact own_mark (.inl (by decide))
      · rcases List.mem_append.1 q with q | q
        · rw [List.mem_singleton.1 q]; exact h1
        · exact own_sum l false (fun x hx => h x (by simp [hx])) t q
theorem own_rel {r : Int} (h : 0 ≤ r ∧ r ≤ 5) : Own (relT r) := by
  refine own_mark (.inr ?_)
  obtain ⟨n, hn⟩ : ∃ n : Nat, n = r.toNat := ⟨_, rfl⟩
  have hn5 : n ≤ 5 := by omega
  rw [← hn]
  match n, hn5 with
  | 0, _ => decide
  | 1, _ => decide
  | 2, _ => decide
  | 3, _ => decide
  | 4, _ => decide
  | 5, _ => decide
theorem own_sums {l : List (Int × Int)} {rel const : Int} (h : ∀ x ∈ l, Own (nm x.1) ∧ Num x.2) (hr : 0 ≤ rel ∧ rel ≤ 5) (hc : Num const) : ∀ t ∈ sumsT nm l rel const, Own t := fun t ht => by
  rcases List.mem_append.1 ht with q | q
  · exact own_sum l true h t q
  · rcases List.mem_cons.1 q with rfl | q
    · exact own_rel hr
    · exact own_number hc t q
/-- all numbers of a constraint may be written, and all names -/
structure ConNum (nm : Int → Tok) (c : PCon) : Prop where
  shape : Shape c
  own : ∀ v ∈ c.vars, Own (nm v)
  coefs : ∀ k ∈ c.coefs, Num k
  const : Num c.const
  nums : ∀ k ∈ c.nums, Num k
theorem own_nums {l : List Int} (h : ∀ k ∈ l, Num k) : ∀ t ∈ numsT l, Own t := fun t ht => by
  unfold numsT at ht
  rcases List.mem_cons.1 ht with rfl | q
  · exact own_mark (.inl (by decide))
  · rcases List.mem_append.1 q with q | q
    · obtain ⟨z, hz, hq⟩ := List.mem_flatMap.1 q
      exact own_number (h z hz) t hq
    · rw [List.mem_singleton.1 q]; exact own_mark (.inl (by decide))
theorem own_con {c : PCon} (h : ConNum nm c) : ∀ t ∈ conT nm c, Own t := fun t ht => by
  obtain ⟨hs, h1, h2, h3, h4⟩ := h
  have hz : ∀ (a b : List Int), (∀ v ∈ a, Own (nm v)) → (∀ k ∈ b, Num k) → ∀ x ∈ a.zip b, Own (nm x.1) ∧ Num x.2 := fun a b ha hb x hx => ⟨ha _ (List.of_mem_zip hx).1, hb _ (List.of_mem_zip hx).2⟩
  have hw : ∀ (s : Txt) (xs : List Int) (r : List Tok), s ∈ wordsL → (∀ v ∈ xs, Own (nm v)) → (∀ t ∈ r, Own t) → ∀ t ∈ tW s :: (xs.map nm ++ r), Own t := fun s xs r hs hx hr t ht => by
    rcases List.mem_cons.1 ht with rfl | q
    · exact own_key hs
    · rcases List.mem_append.1 q with q | q
      · obtain ⟨v, hv, rfl⟩ := List.mem_map.1 q
        exact hx v hv
      · exact hr t q
  cases hs with
  | lin xs cs rel const h h0 hr => exact own_sums (hz xs cs h1 h2) hr h3 t ht
  | iff x xs cs rel const h h0 hr =>
    have ht2 : t ∈ tW tIff :: nm x :: sumsT nm (xs.zip cs) rel const := ht
    rcases List.mem_cons.1 ht2 with rfl | q
    · exact own_key (by decide)
    · rcases List.mem_cons.1 q with rfl | q
      · exact h1 x (by simp)
      · exact own_sums (hz xs cs (fun v hv => h1 v (List.mem_cons_of_mem _ hv)) h2) hr h3 t q
  | product xs h => exact hw tProduct xs [] (by decide) h1 (by simp) t ht
  | element xs ns h hn => exact hw tElement xs _ (by decide) h1 (own_nums h4) t ht
  | differ xs h => exact hw tDifferent xs [] (by decide) h1 (by simp) t ht
  | table xs ns h => exact hw tTable xs _ (by decide) h1 (own_nums h4) t ht
theorem own_list {l : List PCon} (h : ∀ c ∈ l, ConNum nm c) : ∀ t ∈ listT nm l, Own t := fun t ht => by
  cases l with
  | nil => rw [List.mem_singleton.1 ht]; exact own_key (by decide)
  | cons c l =>
    rcases List.mem_append.1 ht with q | q
    · exact own_con (h c (by simp)) t q
    · obtain ⟨d, hd, hq⟩ := List.mem_flatMap.1 q
      rcases List.mem_cons.1 hq with rfl | hq
      · exact own_key (by decide)
      · exact own_con (h d (by simp [hd])) t hq
/-- all of a variable may be written -/
structure DeclNum (d : PDecl) : Prop where
  name : nameL d.name = true
  nums : ∀ p ∈ d.dom, Num p.1 ∧ Num p.2
theorem own_decl {d : PDecl} (h : DeclNum d) : ∀ t ∈ declT d, Own t := fun t ht => by
  rcases List.mem_cons.1 ht with rfl | q
  · exact own_name h.name
  · rcases List.mem_cons.1 q with rfl | q
    · exact own_key (by decide)
    · obtain ⟨p, hp, hq⟩ := List.mem_flatMap.1 q
      obtain ⟨n1, n2⟩ := h.nums p hp
      unfold spanT at hq
      rcases List.mem_append.1 hq with hq | hq
      · exact own_number n1 t hq
      · split at hq
        · cases hq
        · rcases List.mem_cons.1 hq with rfl | hq
          · exact own_mark (.inl (by decide))
          · exact own_number n2 t hq
theorem own_block {b : PBlock} (hd : ∀ d ∈ b.vars, DeclNum d) (hc : ∀ c ∈ b.cons, ConNum nm c) : ∀ t ∈ blockH nm b, Own t := fun t ht => by
  rcases List.mem_cons.1 ht with rfl | q
  · cases b.all
    · exact own_key (by decide)
    · exact own_key (by decide)
  · rcases List.mem_append.1 q with q | q
    · cases hv : b.vars with
      | nil => rw [hv] at q; cases q
      | cons d l =>
        rw [hv] at q hd
        rcases List.mem_append.1 q with q | q
        · exact own_decl (hd d (by simp)) t q
        · obtain ⟨e, he, hq⟩ := List.mem_flatMap.1 q
          rcases List.mem_cons.1 hq with rfl | hq
          · exact own_mark (.inl (by decide))
          · exact own_decl (hd e (by simp [he])) t hq
    · split at q
      · cases q
      · rcases List.mem_cons.1 q with rfl | q
        · exact own_key (by decide)
        · exact own_list hc t q
/-- all of a model may be written -/
structure ModelNum (nm : Int → Tok) (m : PModel) : Prop where
  decls : ∀ b ∈ m.blocks, ∀ d ∈ b.vars, DeclNum d
  cons : ∀ b ∈ m.blocks, ∀ c ∈ b.cons, ConNum nm c
  goal : ∀ c ∈ m.goal, ConNum nm c
theorem own_pairs {m : PModel} (h : ModelNum nm m) : ∀ x ∈ pairsM nm m, Own x.1 ∧ Sep x.2 := fun x hx => by
  rcases List.mem_append.1 hx with q | q
  · obtain ⟨b, hb, hq⟩ := List.mem_flatMap.1 q
    exact line_sep _ (own_block (h.decls b hb) (h.cons b hb)) x hq
  · refine line_sep _ (fun t ht => ?_) x q
    rcases List.mem_cons.1 ht with rfl | ht
    · exact own_key (by decide)
    · exact own_list h.goal t ht
/-- a model comes back from its text -/
theorem text_back {K : Nat} {m : PModel} (h1 : ModelOk nm K m) (h2 : ModelNum nm m) (h3 : checkM m = 0) : parseL K (textL nm m) = .model m := by
  obtain ⟨U, u1, u2⟩ := scan_sep (pairsM nm m) (own_pairs h2) 0
  have hk : (modelT nm m).map Pa.key = U.map Pa.key := by
    rw [u2, ← pairs_fst, List.map_map]
    rfl
  have hl := like_out (K := K) (len := 0) (len' := (textL nm m).length) hk
  have hp : parseT K (modelT nm m) 0 = .model m := by
    unfold parseT outT
    rw [body_back h1]
    simp [h3]
  rw [hp] at hl
  unfold parseL
  rw [show scanL 0 (textL nm m) = .ok U from u1]
  show parseT K U (textL nm m).length = _
  cases hr : parseT K U (textL nm m).length with
  | model n => rw [hr] at hl; rw [show m = n from hl]
  | err p e => rw [hr] at hl; exact absurd hl (by simp [Out.like])
end
end Go.Proofs.YtkgieaoahijheaaGreatDoor.Wt
namespace Go.Proofs.YtkgieaoahijheaaGreatDoor.Wt
open Sc (Tok Own mostV)
open Pa

/-- the names of all variables -/
def namesM (m : PModel) : List Txt := namesB m.blocks
theorem names_eq (l : List PBlock) : names (varsL l) = namesB l := by simp [names, varsL, namesB, List.map_flatMap]
theorem right_in : ∀ (L : List (Int × Int)) (m : Int), -1048576 ≤ m → rightF m L = true → (∀ p ∈ L, Num p.1 ∧ Num p.2) ∧ (L.length : Int) ≤ sizeL L
  | [], _, _, _ => ⟨fun p hp => (by cases hp), (by simp [sizeL])⟩
  | s :: r, m, hm, h => by
    unfold rightF at h
    simp only [Bool.and_eq_true, decide_eq_true_eq] at h
    obtain ⟨⟨⟨h1, h2⟩, h3⟩, h4⟩ := h
    obtain ⟨i1, i2⟩ := right_in r (s.2 + 2) (by omega) h4
    refine ⟨fun p hp => ?_, by simp only [List.length_cons, sizeL]; omega⟩
    rcases List.mem_cons.1 hp with rfl | q
    · unfold Num mostV
      omega
    · exact i1 p q
theorem dom_ok {d : PDecl} (hn : nameL d.name = true) (h : domD d = false) : DeclNum d ∧ DeclOk 10000 d := by
  unfold domD at h
  simp only [Bool.or_eq_false_iff, decide_eq_false_iff_not] at h
  have hr : rightL d.dom = true := by
    cases q : rightL d.dom
    · have : szL d.dom = 0 := by
        unfold szL
        rw [q]
        rfl
      omega
    · rfl
  have hs : szL d.dom = sizeL d.dom := by
    unfold szL
    rw [if_pos hr]
  obtain ⟨i1, i2⟩ := right_in d.dom (-1048576) (by decide) hr
  refine ⟨⟨hn, i1⟩, hn, fun e => ?_, by omega⟩
  have h0 : szL d.dom = 0 := by
    rw [hs, e]
    rfl
  omega
theorem all_num {l : List Int} {m : Int} (h : allN l m = true) (hm : m ≤ 1099511627776) : ∀ k ∈ l, Num k := fun k hk => by
  have := List.all_eq_true.1 h k hk
  simp only [Bool.and_eq_true, decide_eq_true_eq] at this
  unfold Num mostV
  omega
theorem lin_parts {b : Int} {c : PCon} (h : linR b c = true) : 1 ≤ (c.vars.length : Int) - b ∧ (c.vars.length : Int) - b ≤ 8 ∧ (c.coefs.length : Int) = (c.vars.length : Int) - b ∧ (∀ k ∈ c.coefs, Num k) ∧ (0 ≤ c.rel ∧ c.rel ≤ 5) ∧ Num c.const ∧ c.nums = [] := by
  unfold linR at h
  simp only [Bool.and_eq_true, decide_eq_true_eq] at h
  obtain ⟨h1, h2, h3, h4, h5, h6, h7, h8⟩ := h
  exact ⟨h1, h2, h3, all_num h4 (by decide), ⟨h5, h6⟩, all_num h7 (by decide) c.const (by simp), List.eq_nil_of_length_eq_zero h8⟩
/-- what a constraint that may be is -/
theorem right_shape {c : PCon} {n : Int} (h : rightC c n = true) : Shape c ∧ (∀ v ∈ c.vars, 0 ≤ v ∧ v < n) ∧ (∀ k ∈ c.coefs, Num k) ∧ Num c.const ∧ (∀ k ∈ c.nums, Num k) ∧ c.vars.length ≤ 9 ∧ c.nums.length ≤ 96 := by
  have hv : VarsTo c.vars n c.vars.length := Classical.byContradiction fun hv => by
    rw [right_bad hv] at h
    cases h
  rw [right_on hv] at h
  have hvs : ∀ v ∈ c.vars, 0 ≤ v ∧ v < n := fun v hm => by
    obtain ⟨i, hi, e⟩ := List.mem_iff_getElem.1 hm
    have := (hv i hi).1
    rw [List.getD_eq_getElem?_getD, List.getElem?_eq_getElem hi] at this
    rw [← e]
    exact this
  obtain ⟨kind, vars, coefs, rel, const, nums⟩ := c
  simp only at h hvs ⊢
  by_cases k1 : kind = 1
  · subst k1
    rw [if_pos rfl, Bool.and_eq_true] at h
    obtain ⟨h1, h2, h3, h4, h5, h6, h7⟩ := lin_parts h.2
    simp only at h1 h2 h3 h4 h5 h6 h7
    subst h7
    exact ⟨.lin vars coefs rel const (by omega) (fun e => by rw [e] at h1; simp at h1) h5, hvs, h4, h6, by simp, by omega, by simp⟩
  rw [if_neg k1] at h
  by_cases k3 : kind = 3
  · subst k3
    rw [if_pos rfl, Bool.and_eq_true] at h
    obtain ⟨h1, h2, h3, h4, h5, h6, h7⟩ := lin_parts h.2
    simp only at h1 h2 h3 h4 h5 h6 h7
    subst h7
    cases vars with
    | nil => simp at h1
    | cons v vars =>
      simp only [List.length_cons] at h1 h2 h3
      exact ⟨.iff v vars coefs rel const (by omega) (fun e => by rw [e] at h1; simp at h1) h5, hvs, h4, h6, by simp, by simp only [List.length_cons]; omega, by simp⟩
  rw [if_neg k3, Bool.and_eq_true] at h
  obtain ⟨hr, hk⟩ := h
  unfold restR at hr
  simp only [Bool.not_eq_true', Bool.or_eq_false_iff, decide_eq_false_iff_not, Bool.not_eq_false', decide_eq_true_eq] at hr
  obtain ⟨r1, r2, r3, r4, r5⟩ := hr
  obtain rfl : coefs = [] := List.eq_nil_of_length_eq_zero (by omega)
  subst r2 r3
  have hn := all_num r4 (by decide)
  have h0 : Num 0 := by unfold Num; simp
  unfold kindR at hk
  simp only at hk
  by_cases k2 : kind = 2
  · subst k2
    simp only [if_true, Bool.and_eq_true, decide_eq_true_eq] at hk
    obtain rfl : nums = [] := List.eq_nil_of_length_eq_zero hk.2
    exact ⟨.product vars hk.1, hvs, by simp, h0, hn, by omega, by simp⟩
  rw [if_neg k2] at hk
  by_cases k4 : kind = 4
  · subst k4
    simp only [if_true, Bool.and_eq_true, decide_eq_true_eq] at hk
    exact ⟨.element vars nums hk.1 hk.2, hvs, by simp, h0, hn, by omega, by omega⟩
  rw [if_neg k4] at hk
  by_cases k5 : kind = 5
  · subst k5
    simp only [if_true, Bool.and_eq_true, decide_eq_true_eq] at hk
    obtain rfl : nums = [] := List.eq_nil_of_length_eq_zero hk.2.2
    exact ⟨.differ vars hk.1, hvs, by simp, h0, hn, by omega, by simp⟩
  rw [if_neg k5] at hk
  by_cases k6 : kind = 6
  · subst k6
    simp only [if_true, Bool.and_eq_true, decide_eq_true_eq] at hk
    exact ⟨.table vars nums hk.1, hvs, by simp, h0, hn, by omega, by omega⟩
  rw [if_neg k6] at hk
  cases hk
section
variable {ns : List Txt} (hd : ¬ TwiceTo ns ns.length) (hn : ∀ s ∈ ns, nameL s = true)
include hd hn
theorem con_ok {vs rest : List Txt} {c : PCon} (hp : ns = vs ++ rest) (h : rightC c (vs.length : Int) = true) : ConOk vs (nmT ns) 10000 c ∧ ConNum (nmT ns) c := by
  obtain ⟨h1, h2, h3, h4, h5, h6, h7⟩ := right_shape h
  have hk : ∀ v ∈ c.vars, Kn vs (nmT ns v) v := fun v hv => kn_of hp hd hn (h2 v hv).1 (by have := h2 v hv; omega)
  refine ⟨⟨h1, by omega, by omega, hk⟩, h1, fun v hv => own_name ?_, h3, h4, h5⟩
  have hl : v.toNat < ns.length := by
    have := h2 v hv
    rw [hp, List.length_append]
    omega
  refine hn _ ?_
  rw [List.getD_eq_getElem?_getD, List.getElem?_eq_getElem hl]
  exact List.getElem_mem hl
theorem cons_ok {vs rest : List Txt} {l : List PCon} (hp : ns = vs ++ rest) (h : wrongL l vs.length = false) : ∀ c ∈ l, ConOk vs (nmT ns) 10000 c ∧ ConNum (nmT ns) c := fun c hc => by
  have := List.any_eq_false.1 h c hc
  exact con_ok hd hn hp (by simpa using this)
theorem blocks_ok : ∀ (l : List PBlock) (vs : List Txt), ns = vs ++ namesB l → conF vs.length l = false → (∀ b ∈ l, b.vars ≠ [] ∧ b.vars.length ≤ 10000 ∧ b.cons.length < 10000 ∧ ∀ d ∈ b.vars, DeclOk 10000 d) →
    BlocksOk (nmT ns) 10000 vs l ∧ ∀ b ∈ l, ∀ c ∈ b.cons, ConNum (nmT ns) c
  | [], _, _, _, _ => ⟨trivial, fun b hb => by cases hb⟩
  | b :: l, vs, hp, hf, hb => by
    unfold conF at hf
    rw [Bool.or_eq_false_iff] at hf
    have e1 : namesB (b :: l) = b.vars.map (·.name) ++ namesB l := rfl
    have hl : (vs ++ b.vars.map (·.name)).length = vs.length + b.vars.length := by simp
    have hp2 : ns = (vs ++ b.vars.map (·.name)) ++ namesB l := by rw [hp, e1, List.append_assoc]
    rw [← hl] at hf
    have hc := cons_ok hd hn hp2 hf.1
    obtain ⟨b1, b2, b3, b4⟩ := hb b (by simp)
    obtain ⟨i1, i2⟩ := blocks_ok l _ hp2 hf.2 (fun x hx => hb x (by simp [hx]))
    refine ⟨⟨⟨b1, b2, b4, b3, fun c hcc => (hc c hcc).1⟩, i1⟩, fun x hx => ?_⟩
    rcases List.mem_cons.1 hx with rfl | q
    · exact fun c hcc => (hc c hcc).2
    · exact i2 x q
end
theorem check_parts {m : PModel} (h : checkM m = 0) : bigM m = false ∧ formM m = false ∧ nameM m = false ∧ twiceM m = false ∧ domM m = false ∧ conM m = false := by
  unfold checkM faultsM at h
  simp only [firstF] at h
  cases h1 : bigM m <;> cases h2 : formM m <;> cases h3 : nameM m <;> cases h4 : twiceM m <;> cases h5 : domM m <;> cases h6 : conM m <;> simp [h1, h2, h3, h4, h5, h6] at h ⊢
open Classical in
theorem twice_no {m : PModel} (h : twiceM m = false) : ¬ TwiceTo (names (varsL m.blocks)) (names (varsL m.blocks)).length := by
  unfold twiceM at h
  exact of_decide_eq_false h
theorem may_ok {m : PModel} (h : checkM m = 0) : ModelOk (nmT (namesM m)) 10000 m ∧ ModelNum (nmT (namesM m)) m := by
  obtain ⟨h1, h2, h3, h4, h5, h6⟩ := check_parts h
  unfold bigM at h1
  unfold formM at h2
  unfold nameM at h3
  unfold domM at h5
  unfold conM at h6
  simp only [Bool.or_eq_false_iff, decide_eq_false_iff_not] at h1 h2 h6
  obtain ⟨b1, b2, b3, b4⟩ := h1
  have hd : ¬ TwiceTo (namesM m) (namesM m).length := by
    have := twice_no h4
    rw [names_eq] at this
    exact this
  have hnd : ∀ b ∈ m.blocks, ∀ d ∈ b.vars, nameL d.name = true ∧ domD d = false := fun b hb d hdd => by
    have hm : d ∈ varsL m.blocks := List.mem_flatMap.2 ⟨b, hb, hdd⟩
    exact ⟨by simpa using List.any_eq_false.1 h3 d hm, by simpa using List.any_eq_false.1 h5 d hm⟩
  have hn : ∀ s ∈ namesM m, nameL s = true := fun s hs => by
    obtain ⟨b, hb, hq⟩ := List.mem_flatMap.1 hs
    obtain ⟨d, hdd, rfl⟩ := List.mem_map.1 hq
    exact (hnd b hb d hdd).1
  have hlen : (varsL m.blocks).length = (namesM m).length := by
    unfold namesM
    rw [← names_eq]
    simp [names]
  have hle : ∀ b ∈ m.blocks, b.vars.length ≤ (varsL m.blocks).length := fun b hb => by
    obtain ⟨x, y, e⟩ := List.append_of_mem hb
    rw [e]
    simp [varsL]
    omega
  have hbl : ∀ b ∈ m.blocks, b.vars ≠ [] ∧ b.vars.length ≤ 10000 ∧ b.cons.length < 10000 ∧ ∀ d ∈ b.vars, DeclOk 10000 d := fun b hb => by
    have q1 := List.any_eq_false.1 h2.2 b hb
    have q2 := List.any_eq_false.1 b3 b hb
    simp only [decide_eq_true_eq] at q1 q2
    have q3 := hle b hb
    refine ⟨fun e => q1 (by rw [e]; rfl), by omega, by omega, fun d hdd => (dom_ok (hnd b hb d hdd).1 (hnd b hb d hdd).2).2⟩
  obtain ⟨i1, i2⟩ := blocks_ok hd hn m.blocks [] rfl h6.1 hbl
  have hg := cons_ok (vs := namesM m) (rest := []) hd hn (by simp) (by rw [← hlen]; exact h6.2)
  exact ⟨⟨fun e => h2.1 (by rw [e]; rfl), by omega, i1, by omega, fun c hc => (hg c hc).1⟩, fun b hb d hdd => (dom_ok (hnd b hb d hdd).1 (hnd b hb d hdd).2).1, i2, fun c hc => (hg c hc).2⟩
/-- a model that may be comes back from its text -/
theorem may_back {m : PModel} (h : checkM m = 0) : parseL 10000 (textL (nmT (namesM m)) m) = .model m := text_back (may_ok h).1 (may_ok h).2 h
end Go.Proofs.YtkgieaoahijheaaGreatDoor.Wt
namespace Go.Proofs.YtkgieaoahijheaaGreatDoor.Wt
open Go.RowKit
open Sc (Tok)
set_option maxRecDepth 100000

/-- tokens, a space ahead of each -/
def spT (ts : List Tok) : List UInt8 := ts.flatMap fun t => 32 :: t.text
theorem sp_app (a b : List Tok) : spT (a ++ b) = spT a ++ spT b := by simp [spT]
variable {nm : Int → Tok}
theorem sum_snoc : ∀ (l : List (Int × Int)) (first : Bool) (v k : Int), sumT nm first (l ++ [(v, k)]) = sumT nm first l ++ (signT (if l = [] then first else false) k ++ (coefT k ++ [nm v]))
  | [], first, v, k => by simp [sumT]
  | (x, y) :: l, first, v, k => by
    have IH := sum_snoc l false v k
    show signT first y ++ (coefT y ++ ([nm x] ++ sumT nm false (l ++ [(v, k)]))) = (signT first y ++ (coefT y ++ ([nm x] ++ sumT nm false l))) ++ _
    rw [IH]
    simp
theorem zip_at {vs ks : List Int} {k : Nat} {v c : Int} (hv : vs[k]? = some v) (hc : ks[k]? = some c) : (vs.zip ks)[k]? = some (v, c) := by
  rw [List.getElem?_zip_eq_some]
  exact ⟨hv, hc⟩
/-- names of variables, and numbers, in memory -/
structure SumArgs (w : World) (nm : Int → Tok) (pv : Option Addr) (bv ov lv cv : Nat) (pc : Option Addr) (bc oc lc cc : Nat) (pn : Option Addr) (bn on_ ln cn : Nat) (vs ks : List Int) (L : List PDecl) : Prop where
  vars : Nums w pv bv ov lv vs
  coefs : Nums w pc bc oc lc ks
  names : SliceOf rDecl 2 w pn bn on_ ln L
  same : vs.length = ks.length
  few : vs.length ≤ 1000
  low : ∀ v ∈ vs, 0 ≤ v ∧ v.toNat < L.length
  nm_ : ∀ v ∈ vs, (nm v).text = (L.getD v.toNat ⟨[], []⟩).name
  name : ∀ d ∈ L, d.name.length ≤ 1000
  num : ∀ k ∈ ks, k.natAbs ≤ 1000000000000000000
end Go.Proofs.YtkgieaoahijheaaGreatDoor.Wt
