/-
  What the program's parser takes in is what the document's reader takes in: variables, blocks, models. Nothing of the program.
  Tokens of texts that are cut off ahead of a token, and of tokens that are parted anew. Nothing of the program.
  What comes of tokens that the program's parser reads. Nothing of the program.
-/
import Derived.Test.YtfkakdpppejehaaGreatZYBE
import Derived.Test.YtfkakdpppejehaaGreatZGNum
import Derived.Test.YtfkakdpppejehaaGreatZYAN
namespace Go.Proofs.YtfkakdpppejehaaGreat.Pp
open Sc (Tok)
open Pa
set_option maxRecDepth 100000

theorem spans_eqQ (j : Nat) (l : List (Int × Int)) (T : List Tok) (r : Rd) : spansQ (j + 1) l T r = if moreD T r = true then spansQ j (l ++ [(rangeOne T r).1]) T (rangeOne T r).2 else (l, r) := by
  show (if moreD T r = true then seq rangeOne fun d => spansQ j (l ++ [d]) else ret l) T r = _
  rw [if_app]
  rfl
theorem sim_ranges : ∀ (n k : Nat) (l : List (Int × Int)) (T : List Tok) (r : Rd), Fuel T.length n r → Fuel T.length k r → r.at_ ≤ T.length → Agr (rangesR n l T r) ((seq rangeOne fun d => spansQ k (l ++ [d])) T r)
  | 0, k, l, T, r, hf, _, ht => by
    have hw : r.wrong = true := by
      rcases hf with e | e
      · exact e
      · omega
    exact agr_wrong (tame_ranges 0 l) (tame_seq tame_one fun _ => tame_spans k _) hw hw rfl
  | n + 1, k, l, T, r, hf, hk, ht => by
    cases hw : r.wrong
    case true => exact agr_wrong (tame_ranges (n + 1) l) (tame_seq tame_one fun _ => tame_spans k _) hw hw rfl
    have hg := range_went T r
    have htop : (rangeOne T r).2.at_ ≤ T.length := (fine_seq fine_number fun lo => fine_seq (fine_look (ok_has (s := tDots) (by decide))) fun b => fine_seq (fine_high b lo) fun hi => fine_ret (lo, hi)).top T r ht
    rw [ranges_eq]
    show Agr _ (spansQ k (l ++ [(rangeOne T r).1]) T (rangeOne T r).2)
    cases hw1 : (rangeOne T r).2.wrong
    case true =>
      have hm : moreD T (rangeOne T r).2 = false := by
        cases h : moreD T (rangeOne T r).2
        · rfl
        · rw [more_right h] at hw1; cases hw1
      rw [if_neg (by rw [hm]; simp)]
      exact ⟨by rw [(tame_spans k _).wrong T _ hw1]; exact hw1.symm, (tame_spans k _).stay T _ hw1, fun h => by simp only at h; rw [hw1] at h; cases h⟩
    obtain ⟨k', rfl⟩ := fuel_pos (fuel_keep hk hw hg) hw1 htop
    rw [spans_eqQ]
    by_cases hm : moreD T (rangeOne T r).2 = true
    · rw [if_pos hm, if_pos hm]
      exact sim_ranges n k' _ T _ (fuel_on hf hw hg) (by
        rcases hk with e | e
        · rw [hw] at e; cases e
        · have := hg.on
          rcases this with e2 | e2
          · rw [hw1] at e2; cases e2
          · exact .inr (by omega)) htop
    · rw [if_neg hm, if_neg hm]
      exact Agr.refl _
/- names of variables turn nothing but themselves -/
def setV (s : List Txt) (r : Rd) : Rd := { r with vars := s }
def Blind {α : Type} (P : Rx α) : Prop := ∀ T r s, P T (setV s r) = ((P T r).1, setV s (P T r).2)
theorem blind_ret {α : Type} (a : α) : Blind (ret a) := fun _ _ _ => rfl
theorem blind_seq {α β : Type} {m : Rx α} {f : α → Rx β} (hm : Blind m) (hf : ∀ a, Blind (f a)) : Blind (seq m f) := fun T r s => by
  show f (m T (setV s r)).1 T (m T (setV s r)).2 = _
  rw [hm T r s]
  exact hf _ T _ s
theorem blind_if {α : Type} {c : Prop} [Decidable c] {A B : Rx α} (hA : Blind A) (hB : Blind B) : Blind (if c then A else B) := by split <;> assumption
theorem blind_look {α : Type} {f : Rd → Option Tok → α × Rd} (h : ∀ r o s, f (setV s r) o = ((f r o).1, setV s (f r o).2)) : Blind (Pa.look f) := fun T r s => h r (next T r) s
theorem blind_must (t : Txt) : Blind (Pa.look (mustF t)) := blind_look fun r o s => by unfold mustF; split <;> rfl
theorem blind_has (t : Txt) : Blind (Pa.look (hasF t)) := blind_look fun r o s => by unfold hasF; split <;> rfl
theorem blind_value : Blind (Pa.look valueF) := blind_look fun r o s => by unfold valueF; split <;> rfl
theorem blind_tell {α : Type} {f : Rd → Option Tok → α} (h : ∀ r o s, f (setV s r) o = f r o) : Blind (tell f) := blind_look fun r o s => by rw [h]
theorem blind_number : Blind number := blind_seq (blind_has _) fun _ => blind_if (blind_seq blind_value fun _ => blind_ret _) blind_value
theorem blind_one : Blind rangeOne := blind_seq blind_number fun _ => blind_seq (blind_has _) fun _ => blind_seq (blind_if blind_number (blind_ret _)) fun _ => blind_ret _
theorem blind_spans : ∀ (n : Nat) (l : List (Int × Int)), Blind (spansQ n l)
  | 0, _ => blind_ret _
  | n + 1, _ => blind_seq (blind_tell fun _ _ _ => rfl) fun _ => blind_if (blind_seq blind_one fun _ => blind_spans n _) (blind_ret _)
theorem keeps {α : Type} {P : Rx α} (h : Blind P) (T : List Tok) (r : Rd) : (P T r).2.vars = r.vars := by
  have e := h T r r.vars
  rw [show setV r.vars r = r from rfl] at e
  exact congrArg (fun q : α × Rd => q.2.vars) e
def inOne (K : Nat) : Rx (List (Int × Int)) := seq (Pa.look (mustF tIn)) fun _ => seq rangeOne fun d => spansQ K [d]
theorem blind_in (K : Nat) : Blind (inOne K) := blind_seq (blind_must _) fun _ => blind_seq blind_one fun _ => blind_spans K _
theorem tame_in (K : Nat) : Tame (inOne K) := tame_seq (tame_must (by decide)) fun _ => tame_seq tame_one fun _ => tame_spans K _
theorem sim_decl {K : Nat} : Sim K (declOne K) (declQ K) := fun T r hK ht => by
  obtain ⟨x, hx⟩ : ∃ x, x = nameF r (next T r) := ⟨_, rfl⟩
  have htop : x.2.at_ ≤ T.length := by rw [hx]; exact (fine_look ok_name).top T r ht
  show Agr ((seq (Pa.look (mustF tIn)) fun _ => seq (rangesR K []) fun dom => seq (addVar (nameF r (next T r)).1) fun _ => ret (⟨(nameF r (next T r)).1, dom⟩ : PDecl)) T (nameF r (next T r)).2) ((seq (addVar (nameF r (next T r)).1) fun _ => seq (inOne K) fun dom => ret (⟨(nameF r (next T r)).1, dom⟩ : PDecl)) T (nameF r (next T r)).2)
  rw [← hx]
  obtain ⟨s, r1⟩ := x
  simp only at htop ⊢
  have hm := (fine_look (ok_must (s := tIn) (by decide))).top T r1 htop
  have ha := sim_ranges K K [] T (mustF tIn r1 (next T r1)).2 (fuel_start hK) (fuel_start hK) hm
  have ha2 : Agr (rangesR K [] T (mustF tIn r1 (next T r1)).2) (inOne K T r1) := ha
  have hq : (seq (addVar s) fun _ => seq (inOne K) fun dom => ret (⟨s, dom⟩ : PDecl)) T r1 = (⟨s, (inOne K T r1).1⟩, setV (r1.vars ++ [s]) (inOne K T r1).2) := by
    show (((⟨s, (inOne K T (setV (r1.vars ++ [s]) r1)).1⟩ : PDecl), (inOne K T (setV (r1.vars ++ [s]) r1)).2)) = _
    rw [blind_in K T r1 (r1.vars ++ [s])]
  rw [hq]
  have hv : (inOne K T r1).2.vars = r1.vars := keeps (blind_in K) T r1
  obtain ⟨y, hy⟩ : ∃ y, y = rangesR K [] T (mustF tIn r1 (next T r1)).2 := ⟨_, rfl⟩
  rw [← hy] at ha2
  rw [show (seq (Pa.look (mustF tIn)) fun _ => seq (rangesR K []) fun dom => seq (addVar s) fun _ => ret (⟨s, dom⟩ : PDecl)) T r1 = (⟨s, y.1⟩, setV (y.2.vars ++ [s]) y.2) by rw [hy]; rfl]
  refine ⟨ha2.wrong, ha2.at_, fun h => ?_⟩
  obtain ⟨e1, e2⟩ := ha2.ok h
  refine ⟨?_, fun e => ?_⟩
  · show setV (r1.vars ++ [s]) (inOne K T r1).2 = setV (y.2.vars ++ [s]) y.2
    rw [e1] at hv ⊢
    rw [hv]
  · show (⟨s, (inOne K T r1).1⟩ : PDecl) = ⟨s, y.1⟩
    rw [e2 e]
theorem name_went (r : Rd) (o : Option Tok) : Went r (nameF r o).2 := by
  unfold nameF
  split
  · exact ⟨by simp [step1], .inr (by simp [step1])⟩
  · exact ⟨by simp [fail1], .inl rfl⟩
theorem fine_one (K : Nat) : Fine (declOne K) := fine_seq (fine_look ok_name) fun _ => fine_seq (fine_look (ok_must (by decide))) fun _ => fine_seq (fine_ranges K _) fun _ => fine_seq (fine_add _) fun _ => fine_ret _
theorem one_went (K : Nat) (T : List Tok) (r : Rd) : Went r (declOne K T r).2 := by
  have h1 := name_went r (next T r)
  have hT : Tame (seq (Pa.look (mustF tIn)) fun _ => seq (rangesR K []) fun dom => seq (addVar (nameF r (next T r)).1) fun _ => ret (⟨(nameF r (next T r)).1, dom⟩ : PDecl)) := tame_seq (tame_must (by decide)) fun _ => tame_seq (tame_ranges K _) fun _ => tame_seq (tame_add _) fun _ => tame_ret _
  have h2 := hT.up T (nameF r (next T r)).2
  refine ⟨Nat.le_trans h1.up h2, ?_⟩
  rcases h1.on with e | e
  · exact .inl (hT.wrong T _ e)
  · exact .inr (Nat.lt_of_lt_of_le e h2)
theorem decls_eqQ (K j : Nat) (l : List PDecl) (T : List Tok) (r : Rd) : declsQ K (j + 1) l T r = if (hasF tComma r (next T r)).1 = true then (seq (declQ K) fun d => declsQ K j (l ++ [d])) T (hasF tComma r (next T r)).2 else (l, (hasF tComma r (next T r)).2) := by
  show (if (hasF tComma r (next T r)).1 = true then seq (declQ K) fun d => declsQ K j (l ++ [d]) else ret l) T (hasF tComma r (next T r)).2 = _
  rw [if_app]
  rfl
theorem sim_decls {K : Nat} : ∀ (n k : Nat) (l l' : List PDecl) (T : List Tok) (r : Rd), T.length < K → Fuel T.length n r → Fuel T.length k r → r.at_ ≤ T.length → (r.bad = none → l' = l) → Agr (declsR K n l T r) ((seq (declQ K) fun d => declsQ K k (l' ++ [d])) T r)
  | 0, k, l, l', T, r, _, hf, _, ht, _ => by
    have hw : r.wrong = true := by
      rcases hf with e | e
      · exact e
      · omega
    exact agr_wrong (tame_declsR K 0 l) (tame_seq (tame_decl K) fun _ => tame_decls K k _) hw hw rfl
  | n + 1, k, l, l', T, r, hK, hf, hk, ht, hl => by
    cases hw : r.wrong
    case true => exact agr_wrong (tame_declsR K (n + 1) l) (tame_seq (tame_decl K) fun _ => tame_decls K k _) hw hw rfl
    have ha := sim_decl (K := K) T r hK ht
    have hg := one_went K T r
    have htop := (fine_one K).top T r ht
    have hbm := (tame_declOne K).bad T r
    rw [decls_eq]
    show Agr _ (declsQ K k (l' ++ [(declQ K T r).1]) T (declQ K T r).2)
    obtain ⟨x, hx⟩ : ∃ x, x = declOne K T r := ⟨_, rfl⟩
    obtain ⟨y, hy⟩ : ∃ y, y = declQ K T r := ⟨_, rfl⟩
    rw [← hx] at ha hg htop hbm ⊢
    rw [← hy] at ha ⊢
    obtain ⟨d, r1⟩ := x
    obtain ⟨d', q1⟩ := y
    simp only at hg htop hbm
    cases hw1 : r1.wrong
    case true =>
      have hq1 : q1.wrong = true := by have := ha.wrong; simp only at this; rw [this, hw1]
      have hn : hasF tComma r1 (next T r1) = (false, r1) := by
        rw [nextW hw1]
        rfl
      rw [hn]
      simp only [Bool.false_eq_true, if_false]
      exact ⟨by rw [(tame_decls K k _).wrong T q1 hq1]; exact hw1.symm, by rw [(tame_decls K k _).stay T q1 hq1]; exact ha.at_, fun h => by simp only at h; rw [hw1] at h; cases h⟩
    obtain ⟨e1, e2⟩ := ha.ok hw1
    simp only at e1 e2
    subst e1
    have hlt : r.at_ < q1.at_ := hg.on.resolve_left (by rw [hw1]; simp)
    obtain ⟨k', rfl⟩ := fuel_pos (fuel_keep hk hw hg) hw1 htop
    rw [decls_eqQ]
    have hcomma := tame_has (s := tComma) (by decide)
    have hup := hcomma.up T q1
    rw [show (Pa.look (hasF tComma) T q1).2 = (hasF tComma q1 (next T q1)).2 from rfl] at hup
    have hct := (fine_look (ok_has (s := tComma) (by decide))).top T q1 htop
    rw [show (Pa.look (hasF tComma) T q1).2 = (hasF tComma q1 (next T q1)).2 from rfl] at hct
    have hcb := hcomma.bad T q1
    rw [show (Pa.look (hasF tComma) T q1).2 = (hasF tComma q1 (next T q1)).2 from rfl] at hcb
    by_cases hm : (hasF tComma q1 (next T q1)).1 = true
    · rw [if_pos hm, if_pos hm]
      refine sim_decls n k' _ _ T _ hK ?_ ?_ hct (fun e => ?_)
      · rcases hf with q | q
        · rw [hw] at q; cases q
        · exact .inr (show T.length < n + (hasF tComma q1 (next T q1)).2.at_ by omega)
      · rcases hk with q | q
        · rw [hw] at q; cases q
        · exact .inr (show T.length < k' + (hasF tComma q1 (next T q1)).2.at_ by omega)
      · have hb := hcb e
        rw [e2 hb, hl (hbm hb)]
    · rw [if_neg hm, if_neg hm]
      exact ⟨rfl, rfl, fun _ => ⟨rfl, fun e => by
        have hb := hcb e
        show l' ++ [d'] = l ++ [d]
        rw [e2 hb, hl (hbm hb)]⟩⟩
theorem sim_where {K : Nat} (b : Bool) : Sim K (whereR K b) (whereQ K b) := sim_if sim_list (sim_refl _)
theorem sim_block {K : Nat} : Sim K (blockR K) (blockQ K) := sim_same (fine_look (ok_has (by decide))) fun all => sim_same (fine_head all) fun _ => by
  have hd : Sim K (declsR K K []) (seq (declQ K) fun d => declsQ K K [d]) := fun T r hK ht => sim_decls K K [] [] T r hK (fuel_start hK) (fuel_start hK) ht fun _ => rfl
  show Sim K (seq (declsR K K []) fun vs => seq (Pa.look (hasF tWhere)) fun b => seq (whereR K b) fun cs => seq (Pa.look (mustF tSemi)) fun _ => ret (⟨all, vs, cs⟩ : PBlock)) (seq (seq (declQ K) fun d => declsQ K K [d]) fun vs => seq (Pa.look (hasF tWhere)) fun b => seq (whereQ K b) fun cs => seq (Pa.look (mustF tSemi)) fun _ => ret (⟨all, vs, cs⟩ : PBlock))
  refine sim_seq hd (fine_decls K K []) ?_ (fun vs => tame_seq (tame_has (by decide)) fun _ => tame_seq (tame_whereR K _) fun _ => tame_seq (tame_must (by decide)) fun _ => tame_ret _) (fun vs => tame_seq (tame_has (by decide)) fun _ => tame_seq (tame_where K _) fun _ => tame_seq (tame_must (by decide)) fun _ => tame_ret _)
  refine simA_same (F := fun (vs : List PDecl) b => seq (whereR K b) fun cs => seq (Pa.look (mustF tSemi)) fun _ => ret (⟨all, vs, cs⟩ : PBlock)) (G := fun (vs : List PDecl) b => seq (whereQ K b) fun cs => seq (Pa.look (mustF tSemi)) fun _ => ret (⟨all, vs, cs⟩ : PBlock)) (fine_look (ok_has (by decide))) (tame_has (by decide)) fun b => ?_
  exact simA_acc (F := fun q : List PDecl × List PCon => seq (Pa.look (mustF tSemi)) fun _ => ret (⟨all, q.1, q.2⟩ : PBlock)) (G := fun q : List PDecl × List PCon => seq (Pa.look (mustF tSemi)) fun _ => ret (⟨all, q.1, q.2⟩ : PBlock)) (fun vs cs => (vs, cs)) (sim_where b) (fine_where K b) (tame_whereR K b)
    (simA_same (F := fun (q : List PDecl × List PCon) _ => ret (⟨all, q.1, q.2⟩ : PBlock)) (G := fun (q : List PDecl × List PCon) _ => ret (⟨all, q.1, q.2⟩ : PBlock)) (fine_look (ok_must (by decide))) (tame_must (by decide)) fun _ => simA_ret _) (fun _ => tame_seq (tame_must (by decide)) fun _ => tame_ret _) (fun _ => tame_seq (tame_must (by decide)) fun _ => tame_ret _)
theorem wentR_seq {α β : Type} {m : Rx α} {f : α → Rx β} (hm : Tame m) (hf : ∀ a T r, Went r (f a T r).2) (T : List Tok) (r : Rd) : Went r (seq m f T r).2 :=
  ⟨Nat.le_trans (hm.up T r) (hf _ T _).up, (hf (m T r).1 T (m T r).2).on.imp id fun e => Nat.lt_of_le_of_lt (hm.up T r) e⟩
theorem wentR_must {α : Type} (s : Txt) (x : α) (T : List Tok) (r : Rd) : Went r ((seq (Pa.look (mustF s)) fun _ => ret x) T r).2 := by
  show Went r (mustF s r (next T r)).2
  unfold mustF
  split
  · exact ⟨by simp [step1], .inr (by simp [step1])⟩
  · exact ⟨by simp [fail1], .inl rfl⟩
theorem blockR_went (K : Nat) (T : List Tok) (r : Rd) : Went r (blockR K T r).2 :=
  wentR_seq (tame_has (by decide)) (fun _ => wentR_seq (tame_head _) fun _ => wentR_seq (tame_declsR K K _) fun _ => wentR_seq (tame_has (by decide)) fun _ => wentR_seq (tame_whereR K _) fun _ => wentR_must tSemi _) T r
theorem blocks_eqR (K n : Nat) (l : List PBlock) (T : List Tok) (r : Rd) : blocksR K (n + 1) l T r = if (!decide (textO (next T (blockR K T r).2) = tGoal) && !(blockR K T r).2.wrong) = true then blocksR K n (l ++ [(blockR K T r).1]) T (blockR K T r).2 else (l ++ [(blockR K T r).1], (blockR K T r).2) := by
  show (if (!decide (textO (next T (blockR K T r).2) = tGoal) && !(blockR K T r).2.wrong) = true then blocksR K n (l ++ [(blockR K T r).1]) else ret (l ++ [(blockR K T r).1])) T (blockR K T r).2 = _
  rw [if_app]
  rfl
theorem blocks_eqQ (K j : Nat) (l : List PBlock) (T : List Tok) (r : Rd) : blocksQ K (j + 1) l T r = if (hasF tGoal r (next T r)).1 = true then (l, (hasF tGoal r (next T r)).2) else (seq (blockQ K) fun x => blocksQ K j (l ++ [x])) T (hasF tGoal r (next T r)).2 := by
  show (if (hasF tGoal r (next T r)).1 = true then ret l else seq (blockQ K) fun x => blocksQ K j (l ++ [x])) T (hasF tGoal r (next T r)).2 = _
  rw [if_app]
  rfl
def goalR (K n : Nat) (l : List PBlock) : Rx (List PBlock) := seq (blocksR K n l) fun bs => seq (Pa.look (mustF tGoal)) fun _ => ret bs
theorem tame_goalR (K n : Nat) (l : List PBlock) : Tame (goalR K n l) := tame_seq (tame_blocksR K n l) fun _ => tame_seq (tame_must (by decide)) fun _ => tame_ret _
theorem sim_blocks {K : Nat} : ∀ (n k : Nat) (l l' : List PBlock) (T : List Tok) (r : Rd), T.length < K → Fuel T.length n r → Fuel T.length k r → r.at_ ≤ T.length → (r.bad = none → l' = l) → Agr (goalR K n l T r) ((seq (blockQ K) fun x => blocksQ K k (l' ++ [x])) T r)
  | 0, k, l, l', T, r, _, hf, _, ht, _ => by
    have hw : r.wrong = true := by
      rcases hf with e | e
      · exact e
      · omega
    exact agr_wrong (tame_goalR K 0 l) (tame_seq (tame_block K) fun _ => tame_blocks K k _) hw hw rfl
  | n + 1, k, l, l', T, r, hK, hf, hk, ht, hl => by
    cases hw : r.wrong
    case true => exact agr_wrong (tame_goalR K (n + 1) l) (tame_seq (tame_block K) fun _ => tame_blocks K k _) hw hw rfl
    have ha := sim_block (K := K) T r hK ht
    have hg := blockR_went K T r
    have htop := (fine_block K).top T r ht
    have hbm := (tame_blockR K).bad T r
    have e0 : goalR K (n + 1) l T r = if (!decide (textO (next T (blockR K T r).2) = tGoal) && !(blockR K T r).2.wrong) = true then goalR K n (l ++ [(blockR K T r).1]) T (blockR K T r).2 else (l ++ [(blockR K T r).1], (mustF tGoal (blockR K T r).2 (next T (blockR K T r).2)).2) := by
      show ((blocksR K (n + 1) l T r).1, (mustF tGoal (blocksR K (n + 1) l T r).2 (next T (blocksR K (n + 1) l T r).2)).2) = _
      rw [blocks_eqR]
      split <;> rfl
    rw [e0]
    show Agr _ (blocksQ K k (l' ++ [(blockQ K T r).1]) T (blockQ K T r).2)
    obtain ⟨x, hx⟩ : ∃ x, x = blockR K T r := ⟨_, rfl⟩
    obtain ⟨y, hy⟩ : ∃ y, y = blockQ K T r := ⟨_, rfl⟩
    rw [← hx] at ha hg htop hbm ⊢
    rw [← hy] at ha ⊢
    obtain ⟨d, r1⟩ := x
    obtain ⟨d', q1⟩ := y
    simp only at hg htop hbm ⊢
    cases hw1 : r1.wrong
    case true =>
      have hq1 : q1.wrong = true := by have := ha.wrong; simp only at this; rw [this, hw1]
      rw [if_neg (by simp)]
      exact ⟨by rw [(tame_blocks K k _).wrong T q1 hq1]; exact ((tame_must (s := tGoal) (by decide)).wrong T r1 hw1).symm, by rw [(tame_blocks K k _).stay T q1 hq1]; exact ha.at_.trans ((tame_must (s := tGoal) (by decide)).stay T r1 hw1).symm, fun h => by
        have h2 := (tame_must (s := tGoal) (by decide)).wrong T r1 hw1
        rw [show (Pa.look (mustF tGoal) T r1).2 = (mustF tGoal r1 (next T r1)).2 from rfl] at h2
        simp only at h
        rw [h2] at h
        cases h⟩
    obtain ⟨e1, e2⟩ := ha.ok hw1
    simp only at e1 e2
    subst e1
    have hlt : r.at_ < q1.at_ := hg.on.resolve_left (by rw [hw1]; simp)
    obtain ⟨k', rfl⟩ := fuel_pos (fuel_keep hk hw hg) hw1 htop
    rw [blocks_eqQ]
    by_cases hm : textO (next T q1) = tGoal
    · rw [if_neg (by rw [decide_eq_true hm]; simp), has_pos hm, must_step hm]
      exact ⟨rfl, rfl, fun _ => ⟨rfl, fun e => by
        have hb : q1.bad = none := e
        show l' ++ [d'] = l ++ [d]
        rw [e2 hb, hl (hbm hb)]⟩⟩
    · rw [if_pos (by rw [decide_eq_false hm]; rfl), has_neg hm]
      refine sim_blocks n k' _ _ T q1 hK ?_ ?_ htop (fun e => by rw [e2 e, hl (hbm e)])
      · rcases hf with q | q
        · rw [hw] at q; cases q
        · exact .inr (by omega)
      · rcases hk with q | q
        · rw [hw] at q; cases q
        · exact .inr (by omega)
/-- all but what stands behind a model's end -/
def wholeQ (K : Nat) : Rx PModel := seq (blockQ K) fun b => seq (blocksQ K K [b]) fun bs => seq (listQ K) fun g => seq (Pa.look (mustF tSemi)) fun _ => ret ⟨bs, g⟩
theorem tame_wholeQ (K : Nat) : Tame (wholeQ K) := tame_seq (tame_block K) fun _ => tame_seq (tame_blocks K K _) fun _ => tame_seq (tame_list K) fun _ => tame_seq (tame_must (by decide)) fun _ => tame_ret _
theorem sim_body {K : Nat} : Sim K (bodyR K) (wholeQ K) := by
  have hb : Sim K (goalR K K []) (seq (blockQ K) fun b => blocksQ K K [b]) := fun T r hK ht => sim_blocks K K [] [] T r hK (fuel_start hK) (fuel_start hK) ht fun _ => rfl
  have hg : Fine (goalR K K []) := fine_seq (fine_blocks K K []) fun _ => fine_seq (fine_look (ok_must (by decide))) fun _ => fine_ret _
  show Sim K (seq (goalR K K []) fun bs => seq (listR K) fun g => seq (Pa.look (mustF tSemi)) fun _ => ret (⟨bs, g⟩ : PModel)) (seq (seq (blockQ K) fun b => blocksQ K K [b]) fun bs => seq (listQ K) fun g => seq (Pa.look (mustF tSemi)) fun _ => ret (⟨bs, g⟩ : PModel))
  refine sim_seq hb hg ?_ (fun _ => tame_seq (tame_listR K) fun _ => tame_seq (tame_must (by decide)) fun _ => tame_ret _) (fun _ => tame_seq (tame_list K) fun _ => tame_seq (tame_must (by decide)) fun _ => tame_ret _)
  exact simA_acc (F := fun q : List PBlock × List PCon => seq (Pa.look (mustF tSemi)) fun _ => ret (⟨q.1, q.2⟩ : PModel)) (G := fun q : List PBlock × List PCon => seq (Pa.look (mustF tSemi)) fun _ => ret (⟨q.1, q.2⟩ : PModel)) (fun bs g => (bs, g)) sim_list (fine_list K) (tame_listR K)
    (simA_same (F := fun (q : List PBlock × List PCon) _ => ret (⟨q.1, q.2⟩ : PModel)) (G := fun (q : List PBlock × List PCon) _ => ret (⟨q.1, q.2⟩ : PModel)) (fine_look (ok_must (by decide))) (tame_must (by decide)) fun _ => simA_ret _) (fun _ => tame_seq (tame_must (by decide)) fun _ => tame_ret _) (fun _ => tame_seq (tame_must (by decide)) fun _ => tame_ret _)
theorem model_whole (K : Nat) (T : List Tok) (r : Rd) : modelQ K T r = ((wholeQ K T r).1, (endQ T (wholeQ K T r).2).2) := rfl
end Go.Proofs.YtfkakdpppejehaaGreat.Pp
namespace Go.Proofs.YtfkakdpppejehaaGreat.Sc

theorem step_skip {c : UInt8} {r : List UInt8} (h : step c r = .skip) (q : List UInt8) : step c q = .skip := by
  unfold step at h ⊢
  split
  · rfl
  · rename_i h1
    rw [if_neg h1] at h
    exfalso
    unfold first at h
    split at h
    · cases h
    · split at h
      · split at h <;> cases h
      · split at h <;> cases h
theorem cons_ok {t : Tok} {R : Res} {T : List Tok} (h : R.cons t = .ok T) : ∃ T', R = .ok T' ∧ T = t :: T' := by
  cases R with
  | ok l =>
    simp only [Res.cons, Res.ok.injEq] at h
    exact ⟨l, rfl, h.symm⟩
  | bad p e => cases h
/-- a token's own text is that token -/
def Own (t : Tok) : Prop := ∃ c r, t.text = c :: r ∧ step c r = .tok t.kind t.text.length t.value
/-- what is known of the tokens of bytes, the first of which stands at a -/
def Known (a : Nat) (l : List UInt8) : Prop := ∀ T, scanL a l = .ok T → T.length ≤ l.length ∧ ∀ i t, T[i]? = some t → a ≤ t.at_ ∧ t.at_ < a + l.length ∧ t.text.length ≤ l.length ∧ Own t ∧ scanL a (l.take (t.at_ - a)) = .ok (T.take i)
theorem known (a : Nat) (l : List UInt8) : Known a l := by
  refine scan_ind (Q := Known) (fun a T h => ?_) (fun a c r hs ih T h => ?_) (fun a c r e hs T h => ?_) (fun a c r k m v hs ih T h => ?_) l.length a l (Nat.le_refl _)
  · rw [scan_nil] at h
    cases h
    exact ⟨by simp, fun i t ht => by simp at ht⟩
  · rw [scan_skip a hs] at h
    obtain ⟨h1, h2⟩ := ih T h
    refine ⟨by simp; omega, fun i t ht => ?_⟩
    obtain ⟨g1, g2, g3, g4, g5⟩ := h2 i t ht
    refine ⟨by omega, by simp; omega, by simp; omega, g4, ?_⟩
    obtain ⟨x, hx⟩ : ∃ x, t.at_ - a = x + 1 := ⟨t.at_ - a - 1, by omega⟩
    rw [hx, List.take_succ_cons, scan_skip a (step_skip hs _), ← g5]
    congr 2
    omega
  · rw [scan_bad a hs] at h
    cases h
  · rw [scan_tok a hs] at h
    obtain ⟨T', h1, rfl⟩ := cons_ok h
    have hm := step_size hs
    obtain ⟨k1, k2⟩ := ih T' h1
    rw [List.length_drop] at k1
    refine ⟨by simp at hm k1 ⊢; omega, fun i t ht => ?_⟩
    have htx : ((c :: r).take m) = c :: r.take (m - 1) := by
      obtain ⟨x, rfl⟩ : ∃ x, m = x + 1 := ⟨m - 1, by omega⟩
      rw [List.take_succ_cons]
      rfl
    cases i with
    | zero =>
      simp only [List.getElem?_cons_zero, Option.some.injEq] at ht
      subst ht
      refine ⟨Nat.le_refl _, by simp, ?_, ⟨c, r.take (m - 1), htx, ?_⟩, by simp [scan_nil]⟩
      · show ((c :: r).take m).length ≤ _
        rw [List.length_take]
        omega
      · show step c (r.take (m - 1)) = .tok k ((c :: r).take m).length v
        rw [List.length_take, Nat.min_eq_left hm.2]
        exact step_take hs (by omega)
    | succ i =>
      rw [List.getElem?_cons_succ] at ht
      obtain ⟨g1, g2, g3, g4, g5⟩ := k2 i t ht
      rw [List.length_drop] at g2 g3
      refine ⟨by omega, by omega, by omega, g4, ?_⟩
      obtain ⟨x, hx⟩ : ∃ x, t.at_ - a = x + 1 := ⟨t.at_ - a - 1, by omega⟩
      have hmx : m ≤ x + 1 := by omega
      rw [hx, List.take_succ_cons, scan_tok a (step_take hs hmx), ← List.take_succ_cons, List.drop_take, List.take_take, Nat.min_eq_left hmx]
      have e : x + 1 - m = t.at_ - (a + m) := by omega
      rw [e, g5]
      rfl
theorem places_rise {a : Nat} {l : List UInt8} {T : List Tok} (h : scanL a l = .ok T) {i j : Nat} {t u : Tok} (hi : T[i]? = some t) (hj : T[j]? = some u) (hij : i ≤ j) : t.at_ ≤ u.at_ := by
  rcases Nat.lt_or_eq_of_le hij with q | rfl
  · obtain ⟨_, h2⟩ := known a l T h
    obtain ⟨g1, g2, _, _, g5⟩ := h2 j u hj
    have hit : (T.take j)[i]? = some t := by rw [List.getElem?_take, if_pos q]; exact hi
    obtain ⟨_, k2⟩ := known a (l.take (u.at_ - a)) _ g5
    obtain ⟨n1, n2, _⟩ := k2 i t hit
    rw [List.length_take] at n2
    omega
  · rw [hi] at hj
    cases hj
    exact Nat.le_refl _
/-- tokens, parted by a line end and a space -/
def joined (T : List Tok) : List UInt8 := T.flatMap fun t => nl :: 32 :: t.text
theorem scan_joined : ∀ (T : List Tok), (∀ t ∈ T, Own t) → ∀ a, ∃ U, scanL a (joined T) = .ok U ∧ U.map Pa.key = T.map Pa.key
  | [], _, a => ⟨[], rfl, rfl⟩
  | t :: T, h, a => by
    obtain ⟨c, r, e1, e2⟩ := h t (by simp)
    have hs : step c (r ++ joined T) = .tok t.kind t.text.length t.value := by
      cases T with
      | nil => rw [show joined ([] : List Tok) = [] from rfl, List.append_nil]; exact e2
      | cons u T => rw [show joined (u :: T) = nl :: (32 :: u.text ++ joined T) from rfl, step_nl]; exact e2
    obtain ⟨U, u1, u2⟩ := scan_joined T (fun x hx => h x (by simp [hx])) (a + 1 + 1 + t.text.length)
    have ej : joined (t :: T) = nl :: 32 :: c :: (r ++ joined T) := by
      show nl :: 32 :: t.text ++ joined T = _
      rw [e1]
      rfl
    have ed : (c :: (r ++ joined T)).drop t.text.length = joined T := by
      rw [← List.cons_append, ← e1, List.drop_left]
    have et : (c :: (r ++ joined T)).take t.text.length = t.text := by
      rw [← List.cons_append, ← e1, List.take_left]
    refine ⟨⟨t.kind, t.text, t.value, a + 1 + 1⟩ :: U, ?_, by simp [Pa.key, u2]⟩
    rw [ej, scan_skip a (by rfl), scan_skip (a + 1) (by rfl), scan_tok (a + 1 + 1) hs, ed, et, u1]
    rfl
end Go.Proofs.YtfkakdpppejehaaGreat.Sc
namespace Go.Proofs.YtfkakdpppejehaaGreat.Pp
open Sc (Tok noTok scanL mostV)
open Pa
set_option maxRecDepth 100000

theorem step_value {c : UInt8} {r : List UInt8} {k m v : Nat} (h : Sc.step c r = .tok k m v) : v ≤ mostV := by
  unfold Sc.step at h
  split at h
  · cases h
  · unfold Sc.first at h
    split at h
    · cases h; decide
    · split at h
      · split at h
        · rename_i hv
          cases h
          exact hv
        · cases h
      · split at h
        · cases h
        · cases h; decide
theorem small_tokens {a : Nat} {l : List UInt8} {T : List Tok} (h : scanL a l = .ok T) : T.length ≤ l.length ∧ ∀ t ∈ T, t.value ≤ 2000000000000 ∧ t.text.length ≤ l.length ∧ t.at_ < a + l.length := by
  obtain ⟨h1, h2⟩ := Sc.known a l T h
  refine ⟨h1, fun t ht => ?_⟩
  obtain ⟨i, hi⟩ := List.getElem?_of_mem ht
  obtain ⟨_, g2, g3, ⟨c, r, _, hs⟩, _⟩ := h2 i t hi
  have hm : mostV ≤ 2000000000000 := by decide
  exact ⟨Nat.le_trans (step_value hs) hm, g3, g2⟩
theorem place_tok {T : List Tok} {len n : Nat} (h : n ≤ T.length) : placeT T len n = (((T ++ [(⟨0, [], 0, len⟩ : Tok)]).getD n noTok)).at_ := by
  unfold placeT
  by_cases hn : n < T.length
  · rw [List.getElem?_eq_getElem hn]
    simp only [List.getD]
    rw [List.getElem?_append_left hn, List.getElem?_eq_getElem hn]
    rfl
  · obtain rfl : n = T.length := by omega
    rw [List.getElem?_eq_none_iff.2 (Nat.le_refl _)]
    simp only [List.getD]
    rw [List.getElem?_append_right (Nat.le_refl _)]
    simp
/-- what is told of tokens -/
theorem parse_gone {K : Nat} {T : List Tok} {len : Nat} (hK : T.length < K) (h : (modelQ K T Pa.start).2.wrong = true) : parseT K T len = .err (((T ++ [(⟨0, [], 0, len⟩ : Tok)]).getD (modelQ K T Pa.start).2.at_ noTok)).at_ 2 := by
  have ha := sim_body (K := K) T Pa.start hK (Nat.zero_le _)
  have ht := body_top K T
  rw [model_whole] at h ⊢
  simp only at h ⊢
  unfold parseT outT
  cases hw : (wholeQ K T Pa.start).2.wrong
  · obtain ⟨e1, _⟩ := ha.ok (by rw [← ha.wrong, hw])
    unfold endQ at h ⊢
    rw [hw] at h ⊢
    simp only [Bool.false_eq_true, if_false] at h ⊢
    by_cases hl : (wholeQ K T Pa.start).2.at_ < T.length
    · rw [if_pos hl]
      rw [if_pos (.inr (by rw [← e1]; exact hl)), ← e1]
      simp only [fail1]
      rw [place_tok (by omega)]
    · rw [if_neg hl] at h
      simp only at h
      rw [hw] at h
      cases h
  · rw [if_pos (.inl (by rw [← ha.wrong, hw]))]
    unfold endQ
    rw [if_pos hw]
    simp only
    rw [ha.at_, place_tok ht]
open Classical in
theorem parse_done {K : Nat} {T : List Tok} {len : Nat} (hK : T.length < K) (h : (modelQ K T Pa.start).2.wrong = false) : parseT K T len = (match (modelQ K T Pa.start).2.bad with
    | some p => .err p 7
    | none => if checkM (modelQ K T Pa.start).1 = 0 then .model (modelQ K T Pa.start).1 else .err 0 (checkM (modelQ K T Pa.start).1)) ∧ ((modelQ K T Pa.start).2.bad = none → (modelQ K T Pa.start).1 = (bodyR K T Pa.start).1 ∧ (bodyR K T Pa.start).2.wrong = false) := by
  have ha := sim_body (K := K) T Pa.start hK (Nat.zero_le _)
  rw [model_whole] at h ⊢
  simp only at h ⊢
  cases hw : (wholeQ K T Pa.start).2.wrong
  · obtain ⟨e1, e2⟩ := ha.ok (by rw [← ha.wrong, hw])
    unfold endQ at h ⊢
    rw [hw] at h ⊢
    simp only [Bool.false_eq_true, if_false] at h ⊢
    by_cases hl : (wholeQ K T Pa.start).2.at_ < T.length
    · rw [if_pos hl] at h
      cases h
    · rw [if_neg hl]
      simp only
      unfold parseT outT
      rw [if_neg (by rw [← e1, hw]; simp; omega), ← e1]
      refine ⟨?_, fun hb => ⟨e2 (by rw [← e1]; exact hb), hw⟩⟩
      cases hb : (wholeQ K T Pa.start).2.bad with
      | some p => rfl
      | none =>
        simp only
        rw [e2 (by rw [← e1]; exact hb)]
  · exfalso
    unfold endQ at h
    rw [if_pos hw] at h
    simp only at h
    rw [hw] at h
    cases h
theorem few_body {K : Nat} {T : List Tok} (hT : T.length ≤ 1000) (hx : ∀ t ∈ T, t.text.length ≤ 1000) (h : (bodyR K T Pa.start).2.wrong = false) : Few (bodyR K T Pa.start).1 := by
  obtain ⟨h1, h2⟩ := (sz_body (B := 1000) K).size T Pa.start hx h
  have ht := body_top K T
  have hk : (bodyR K T Pa.start).2.at_ - Pa.start.at_ ≤ 1000 := by omega
  obtain ⟨k, hk2⟩ : ∃ k, k = (bodyR K T Pa.start).2.at_ - Pa.start.at_ := ⟨_, rfl⟩
  rw [← hk2] at h1 h2 hk
  have hs : ∀ c : PCon, Of c k → Short 1000 c := fun c hc => ⟨by have := hc.vars; omega, by have := hc.coefs; omega, by have := hc.nums; omega⟩
  exact ⟨by have := h1.len; omega, fun b hb => by have := (h1.each b hb).vars.len; omega, fun b hb => ⟨by have := (h1.each b hb).cons.len; omega, fun c hc => hs c ((h1.each b hb).cons.each c hc)⟩, ⟨by have := h2.len; omega, fun c hc => hs c (h2.each c hc)⟩, fun b hb d hd => by have := (h1.each b hb).vars.each d hd; omega, by have := h1.vars; omega⟩
theorem good_body {K : Nat} {T : List Tok} (hv : ∀ t ∈ T, t.value ≤ 2000000000000) : (∀ b ∈ (bodyR K T Pa.start).1.blocks, GoodL b.cons) ∧ GoodL (bodyR K T Pa.start).1.goal := gives_body K T Pa.start hv
end Go.Proofs.YtfkakdpppejehaaGreat.Pp
