/-
  What the document's reader of tokens takes in for a model: how many names, how far it has come. Nothing of the program's text.
  A model that the program's parser takes.
  What the program's parser does once it has given up: the deferred call that takes the place over.
-/
import Derived.Test.YtfkakdpppejehaaGreatZYAN
import Derived.Test.YtfkakdpppejehaaGreatZYAW
import Derived.Test.YtfkakdpppejehaaGreatZGBlock
import Derived.Defers
import Derived.Recover
import Derived.Laws.Pointers
namespace Go.Proofs.YtfkakdpppejehaaGreat.Pa
open Go.RowKit
open Sc (Tok Cells str noTok OwnsT)
set_option maxRecDepth 100000

/-- names stay -/
def Kp {α : Type} (P : Rx α) : Prop := ∀ T r, (P T r).2.vars = r.vars
section
variable {α β : Type}
theorem kp_ret (a : α) : Kp (ret a) := fun _ _ => rfl
theorem kp_seq {m : Rx α} {f : α → Rx β} (hm : Kp m) (hf : ∀ a, Kp (f a)) : Kp (seq m f) := fun T r => (hf _ T _).trans (hm T r)
theorem kp_if {c : Prop} [Decidable c] {A B : Rx α} (hA : Kp A) (hB : Kp B) : Kp (if c then A else B) := by split <;> assumption
theorem kp_tell (f : Rd → Option Tok → α) : Kp (tell f) := fun _ _ => rfl
end
theorem kp_must (s : Txt) : Kp (look (mustF s)) := fun T r => by
  show (mustF s r (next T r)).2.vars = _
  unfold mustF
  split <;> rfl
theorem kp_has (s : Txt) : Kp (look (hasF s)) := fun _ _ => has_vars
theorem kp_name : Kp (look nameF) := fun T r => by
  show (nameF r (next T r)).2.vars = _
  unfold nameF
  split <;> rfl
theorem kp_value : Kp (look valueF) := fun T r => by
  show (valueF r (next T r)).2.vars = _
  unfold valueF
  split <;> rfl
theorem kp_variable : Kp (look variableF) := fun T r => by
  show (variableF r (next T r)).2.vars = _
  unfold variableF
  split
  · split <;> rfl
  · rfl
theorem kp_rel : Kp (look relF) := fun T r => by
  show (relF r (next T r)).2.vars = _
  unfold relF
  split <;> rfl
theorem kp_number : Kp number := kp_seq (kp_has _) fun _ => kp_if (kp_seq kp_value fun _ => kp_ret _) kp_value
theorem kp_factor (k : Nat) : Kp (factor k) := kp_if (kp_seq kp_value fun _ => kp_seq (kp_must _) fun _ => kp_ret _) (kp_ret _)
theorem kp_minus (b : Bool) : Kp (orMinus b) := kp_if (kp_ret _) (kp_has _)
theorem kp_terms : ∀ (n : Nat) (s : Int) (c : PCon), Kp (terms n s c)
  | 0, _, _ => kp_ret _
  | n + 1, _, _ => kp_seq (kp_tell _) fun _ => kp_seq (kp_factor _) fun _ => kp_seq kp_variable fun _ => kp_seq (kp_tell _) fun _ => kp_seq (kp_has _) fun _ => kp_seq (kp_minus _) fun _ => kp_if (kp_terms n _ _) (kp_ret _)
theorem kp_relate (c : PCon) : ∀ i, Kp (relate c i)
  | some _ => kp_seq kp_number fun _ => kp_ret _
  | none => kp_ret _
theorem kp_sum (K : Nat) (c : PCon) : Kp (sumR K c) := kp_seq (kp_has _) fun _ => kp_seq (kp_terms K _ c) fun _ => kp_seq kp_rel fun _ => kp_relate _ _
theorem kp_names : ∀ (n m : Nat) (more : Bool) (c : PCon), Kp (namesR n m more c)
  | 0, _, _, _ => kp_ret _
  | n + 1, _, _, _ => kp_seq (kp_tell _) fun _ => kp_if (kp_seq kp_variable fun _ => kp_names n _ _ _) (kp_ret _)
theorem kp_nums : ∀ (n m : Nat) (c : PCon), Kp (numsR n m c)
  | 0, _, _ => kp_ret _
  | n + 1, _, _ => kp_seq (kp_tell _) fun _ => kp_if (kp_seq kp_number fun _ => kp_nums n _ _) (kp_ret _)
theorem kp_brackets (K m : Nat) (c : PCon) : Kp (brackets K m c) := kp_seq (kp_must _) fun _ => kp_seq (kp_nums K m c) fun _ => kp_seq (kp_must _) fun _ => kp_ret _
theorem kp_con (K : Nat) : Kp (conR K) := kp_seq (kp_tell _) fun _ =>
  kp_if (kp_seq (kp_must _) fun _ => kp_names _ _ _ _) (kp_if (kp_seq (kp_must _) fun _ => kp_seq kp_variable fun _ => kp_sum _ _) (kp_if (kp_seq (kp_must _) fun _ => kp_seq (kp_names _ _ _ _) fun _ => kp_brackets _ _ _) (kp_if (kp_seq (kp_must _) fun _ => kp_names _ _ _ _) (kp_if (kp_seq (kp_must _) fun _ => kp_seq (kp_names _ _ _ _) fun _ => kp_brackets _ _ _) (kp_sum _ _)))))
theorem kp_ands (K : Nat) : ∀ (n : Nat) (l : List PCon), Kp (andsR K n l)
  | 0, _ => kp_ret _
  | n + 1, _ => kp_seq (kp_has _) fun _ => kp_if (kp_seq (kp_con K) fun _ => kp_ands K n _) (kp_ret _)
theorem kp_list (K : Nat) : Kp (listR K) := kp_seq (kp_has _) fun _ => kp_if (kp_ret _) (kp_seq (kp_con K) fun _ => kp_ands K K _)
theorem kp_high (b : Bool) (lo : Int) : Kp (highR b lo) := kp_if kp_number (kp_ret _)
theorem kp_ranges : ∀ (n : Nat) (l : List (Int × Int)), Kp (rangesR n l)
  | 0, _ => kp_ret _
  | n + 1, _ => kp_seq kp_number fun _ => kp_seq (kp_has _) fun _ => kp_seq (kp_high _ _) fun _ => kp_seq (kp_tell _) fun _ => kp_if (kp_ranges n _) (kp_ret _)
theorem kp_where (K : Nat) (b : Bool) : Kp (whereR K b) := kp_if (kp_list K) (kp_ret _)
theorem kp_head (b : Bool) : Kp (headR b) := kp_if (kp_ret _) (kp_must _)

/-- there come no more names than tokens are taken, and so many fewer -/
def Vk (c : Nat) (d : Nat) {α : Type} (P : Rx α) : Prop := ∀ T r, (P T r).2.wrong = false → r.wrong = false ∧ (P T r).2.vars.length + r.at_ + c ≤ r.vars.length + (P T r).2.at_ + d
section
variable {α β : Type}
theorem vk_seq {m : Rx α} {f : α → Rx β} {a b c d : Nat} (hm : Vk a b m) (hf : ∀ x, Vk c d (f x)) : Vk (a + c) (b + d) (seq m f) := fun T r h => by
  obtain ⟨h1, h2⟩ := hf _ T _ h
  obtain ⟨h3, h4⟩ := hm T r h1
  refine ⟨h3, ?_⟩
  show (f (m T r).1 T (m T r).2).2.vars.length + _ + _ ≤ _ + (f (m T r).1 T (m T r).2).2.at_ + _
  omega
theorem vk_less {P : Rx α} {a b c d : Nat} (h : Vk a b P) (hl : c + b ≤ a + d) : Vk c d P := fun T r hw => by
  obtain ⟨h1, h2⟩ := h T r hw
  exact ⟨h1, by omega⟩
theorem vk_keep {P : Rx α} {φ : α → Nat → Prop} (hk : Kp P) (hs : Sz 0 P φ) : Vk 0 0 P := fun T r h => ⟨hs.pers T r h, by rw [hk T r]; have := hs.up T r; omega⟩
theorem vk_ret (a : α) : Vk 0 0 (ret a) := fun _ _ h => ⟨h, Nat.le_refl _⟩
theorem vk_if {c d : Nat} {p : Prop} [Decidable p] {A B : Rx α} (hA : Vk c d A) (hB : Vk c d B) : Vk c d (if p then A else B) := by split <;> assumption
end
theorem vk_must {s : Txt} (hs : s ≠ []) : Vk 1 0 (look (mustF s)) := fun T r h => by
  have h1 := (sz_must (B := 0) hs).pers T r h
  refine ⟨h1, ?_⟩
  rw [kp_must s T r]
  show _ ≤ _ + (mustF s r (next T r)).2.at_ + _
  have h2 : (mustF s r (next T r)).2.wrong = false := h
  unfold mustF at h2 ⊢
  split
  · simp [step1]; omega
  · rename_i e
    rw [if_neg e] at h2
    simp [fail1] at h2
theorem vk_name : Vk 1 0 (look nameF) := fun T r h => by
  have h1 := (sz_name (B := 0)).pers T r h
  refine ⟨h1, ?_⟩
  rw [kp_name T r]
  show _ ≤ _ + (nameF r (next T r)).2.at_ + _
  have h2 : (nameF r (next T r)).2.wrong = false := h
  unfold nameF at h2 ⊢
  split
  · simp [step1]; omega
  · rename_i e
    rw [if_neg e] at h2
    simp [fail1] at h2
theorem vk_add (s : Txt) : Vk 0 1 (addVar s) := fun T r h => ⟨h, by
  show ({ r with vars := r.vars ++ [s] } : Rd).vars.length + r.at_ + 0 ≤ r.vars.length + r.at_ + 1
  simp; omega⟩
theorem vk_has {s : Txt} (hs : s ≠ []) : Vk 0 0 (look (hasF s)) := vk_keep (kp_has s) (sz_has hs)
theorem vk_decls (K : Nat) : ∀ (n : Nat) (l : List PDecl), Vk 0 0 (declsR K n l)
  | 0, _ => vk_ret _
  | n + 1, l => vk_less (vk_seq vk_name fun s => vk_seq (vk_must (by decide)) fun _ => vk_seq (vk_keep (kp_ranges K []) (sz_ranges K [])) fun dom => vk_seq (vk_add s) fun _ => vk_seq (vk_has (by decide)) fun _ => vk_if (vk_decls K n _) (vk_ret _)) (by omega)
theorem vk_block (K : Nat) : Vk 0 0 (blockR K) :=
  vk_less (vk_seq (vk_has (by decide)) fun all => vk_seq (vk_keep (kp_head all) (sz_head all)) fun _ => vk_seq (vk_decls K K []) fun _ => vk_seq (vk_has (by decide)) fun b => vk_seq (vk_keep (kp_where K b) (sz_where K b)) fun _ => vk_seq (vk_must (by decide)) fun _ => vk_ret _) (by omega)
theorem went_fine {α β : Type} {m : Rx α} {f : α → Rx β} (hm : Fine m) (hf : ∀ a T r, Went r (f a T r).2) (T : List Tok) (r : Rd) : Went r (seq m f T r).2 :=
  ⟨Nat.le_trans (hm.up T r) (hf _ T _).up, (hf (m T r).1 T (m T r).2).on.imp id fun e => Nat.lt_of_le_of_lt (hm.up T r) e⟩
theorem went_mustR {α : Type} (s : Txt) (x : α) (T : List Tok) (r : Rd) : Went r ((seq (look (mustF s)) fun _ => ret x) T r).2 := by
  show Went r (mustF s r (next T r)).2
  unfold mustF
  split
  · exact ⟨by simp [step1], .inr (by simp [step1])⟩
  · exact ⟨by simp [fail1], .inl rfl⟩
theorem blockR_went (K : Nat) (T : List Tok) (r : Rd) : Went r (blockR K T r).2 :=
  went_fine (fine_look (ok_has (by decide))) (fun _ => went_fine (fine_head _) fun _ => went_fine (fine_decls K K _) fun _ => went_fine (fine_look (ok_has (by decide))) fun _ => went_fine (fine_where K _) fun _ => went_mustR tSemi _) T r
theorem blocks_eq (K j : Nat) (l : List PBlock) (T : List Tok) (r : Rd) : blocksR K (j + 1) l T r = if (!decide (textO (next T (blockR K T r).2) = tGoal) && !(blockR K T r).2.wrong) = true then blocksR K j (l ++ [(blockR K T r).1]) T (blockR K T r).2 else (l ++ [(blockR K T r).1], (blockR K T r).2) := by
  show (if (!decide (textO (next T (blockR K T r).2) = tGoal) && !(blockR K T r).2.wrong) = true then blocksR K j (l ++ [(blockR K T r).1]) else ret (l ++ [(blockR K T r).1])) T (blockR K T r).2 = _
  rw [if_app]
  rfl
end Go.Proofs.YtfkakdpppejehaaGreat.Pa
namespace Go.Proofs.YtfkakdpppejehaaGreat.Pp
open Go.RowKit
open Sc (Tok Cells str noTok)
open Pa
set_option maxRecDepth 100000

section
variable {w0 w w' : World} {g n bl ol cl nb base : Nat} {pv : Option Addr} {m cv : Nat} {T : List Tok} {len : Nat} {r : Rd} {v : Value}
set_option maxHeartbeats 8000000 in
theorem modelP_any (K : Nat) (h : PAt w g n bl ol cl nb pv m cv T len r) (hv : ∀ t ∈ T, t.value ≤ 2000000000000) (hm : m ≤ r.at_) (hnb : nb ≤ w.heap.size) (hK : n < K) (hn : n ≤ 9000) :
    Calls Tryz.prog 22 #[.pointer (some ⟨g, 0, none⟩)] w (NEnds w g n bl ol cl nb (.slice pv m cv) T len (modelQ K T r) (ModelE w (modelQ K T r).1)) := by
  obtain ⟨X, hX⟩ : ∃ X, X = modelQ K T r := ⟨_, rfl⟩
  rw [← hX]
  rw [model_formQ] at hX
  have HB0 := Lib.hid (fun o => (Below.refl _ w).alloc (Nat.le_refl _) o)
  have H := Lib.hid (h.below (HB0.out (.cells #[.slice none 0 0, .slice none 0 0] 26)))
  have DX := Lib.hid (blockP_any K H.out hv hm (Nat.le_trans hnb (HB0.out (.cells #[.slice none 0 0, .slice none 0 0] 26)).size) hK hn)
  obtain ⟨y, hy⟩ : ∃ y, y = blockQ K T r := ⟨_, rfl⟩
  have HX3 := Lib.hid (show X = blocksD K K [y.1] T y.2 by rw [hX, hy]; rfl)
  have hup2 := (block_went K T r)
  rw [← hy] at DX hup2
  have HWT := Lib.hid hup2
  have HNB := Lib.hid hnb
  clear h hX hy hup2
  obtain ⟨d, r4⟩ := y
  simp only at HX3
  go_enter Tryz.func22, Tryz.ntmps22
  go_wp2_with fail
  refine DX.out.mono ?_
  rintro e w4 ⟨hB, ⟨hw, ⟨pv4, m4, cv4, hP, hf, hm4⟩, pd, cd, pc, cc, rfl, ho1, ho2⟩ | ⟨hw, rfl⟩⟩
  rotate_left
  · have HG := Lib.hid (nends_no (g := g) (n := n) (bl := bl) (ol := ol) (cl := cl) (nb := nb) (v0 := .slice pv m cv) (T := T) (len := len) (V := ModelE w X.1) ((But.below (HB0.out _)).trans (G := NF g (.slice pv m cv)) hB (fun _ _ e => e)) ((tame_blocksD K K [d]).after HX3.out hw))
    unfold gone at HG ⊢
    clear hw hB
    go_wp2_with fail
    exact ⟨rfl, HG.out⟩
  have e1 : (w.alloc (.cells #[.slice none 0 0, .slice none 0 0] 26)).heap.size = w.heap.size + 1 := by simp
  rw [e1] at ho1 ho2
  have hf2 : ∀ k, (Value.slice pv4 m4 cv4).ownBlock = some k → NF g (.slice pv m cv) k ∨ w.heap.size ≤ k := fun k e => (hf k e).imp id fun q => by rw [e1] at q; omega
  have hb1 : But (NF g (.slice pv m cv)) w w4 := (But.below (HB0.out (.cells #[.slice none 0 0, .slice none 0 0] 26))).trans (G := NF g (.slice pv m cv)) hB (fun _ _ e => e)
  have hrs : BoxM w4 w.heap.size (.slice none 0 0) (.slice none 0 0) := (stays_nf H.out hB (by decide) (by decide) ⟨_, heap_alloc_new w _⟩).trans (heap_alloc_new w _)
  have hs4 : w.heap.size + 1 ≤ w4.heap.size := by have := hrs.lt; omega
  have k1 := (Below.refl _ w4).alloc (Nat.le_refl _) (.cells #[.bool d.all, .slice pd d.vars.length cd, .slice pc d.cons.length cc] 39)
  have k2 := (Below.refl _ (w4.alloc (.cells #[.bool d.all, .slice pd d.vars.length cd, .slice pc d.cons.length cc] 39))).alloc (Nat.le_refl _) (.cells #[.slice (some ⟨w4.heap.size, 0, none⟩) 1 1, .slice none 0 0] 26)
  obtain ⟨wm, hwm⟩ : ∃ wm, wm = (w4.alloc (.cells #[.bool d.all, .slice pd d.vars.length cd, .slice pc d.cons.length cc] 39)).alloc (.cells #[.slice (some ⟨w4.heap.size, 0, none⟩) 1 1, .slice none 0 0] 26) := ⟨_, rfl⟩
  have hbx : BoxM wm (w4.heap.size + 1) (.slice (some ⟨w4.heap.size, 0, none⟩) 1 1) (.slice none 0 0) := by
    rw [hwm]
    have := heap_alloc_new (w4.alloc (.cells #[.bool d.all, .slice pd d.vars.length cd, .slice pc d.cons.length cc] 39)) (.cells #[.slice (some ⟨w4.heap.size, 0, none⟩) 1 1, .slice none 0 0] 26)
    unfold BoxM
    simpa using this
  have hbo := (blocks_one ho1 ho2 hs4).below k2
  have hpm := (hP.below k1).below k2
  have hrm : BoxM wm w.heap.size (.slice none 0 0) (.slice none 0 0) := by
    have q1 := (k1.block _ hrs.lt).trans hrs
    rw [hwm]
    exact (k2.block _ (Array.getElem?_eq_some_iff.1 q1).1).trans q1
  have hbm := (hb1.trans (G := fun _ => False) (But.below k1) (fun _ _ e => e.elim)).trans (G := fun _ => False) (But.below k2) (fun _ _ e => e.elim)
  rw [← hwm] at hbo hpm hbm
  obtain ⟨D, hD⟩ : ∃ D, D = w4.heap.size + 1 := ⟨_, rfl⟩
  rw [← hD] at hbx
  have H6 := Lib.hid (show MAt w wm g n bl ol cl nb (.slice pv m cv) T len D (.slice (some ⟨w4.heap.size, 0, none⟩) 1 1) [d] (.slice none 0 0) [] r4 pv4 m4 cv4 from
    ⟨hpm, hbx, hrm, hbo, cons_nil _ _, hbm, hf2, by omega, hm4⟩)
  have hon4 : r.at_ < r4.at_ := HWT.out.on.resolve_left (by simp only at hw ⊢; rw [hw]; simp)
  clear hB hw hP hf hm4 ho1 ho2 hf2 hb1 hrs hs4 k1 k2 hbx hbo hpm hrm hbm e1
  go_wp2_with fail
  rw [← hwm, ← hD]
  clear hwm hD
  go_loopw [] (fun wr => ∃ (j : Nat) (l : List PBlock) (rr : Rd) (p : Option Addr) (c : Nat) (pv' : Option Addr) (m' cv' : Nat), X = blocksD K j l T rr ∧ n < j + rr.at_ ∧ l.length ≤ rr.at_ ∧ MAt w wr g n bl ol cl nb (.slice pv m cv) T len D (.slice p l.length c) l (.slice none 0 0) [] rr pv' m' cv') (fun wr => n - tookOf wr g)
  case atStart => exact ⟨K, [d], r4, some ⟨w4.heap.size, 0, none⟩, 1, pv4, m4, cv4, HX3.out, by omega, by simp; omega, H6.out⟩
  case round =>
    obtain ⟨ws, rfl⟩ : ∃ ws, ws = wr := ⟨_, rfl⟩
    obtain ⟨j, l, rr, p, c, pv', m', cv', hXr, hnj, hll, hba⟩ := hrel
    have htp := hba.rd.top
    have HTK := Lib.hid (took_at hba.rd)
    obtain ⟨j', rfl⟩ : ∃ j', j = j' + 1 := ⟨j - 1, by omega⟩
    rw [blocksD_eq] at hXr
    have CX := Lib.hid (took_any ⟨#[103, 111, 97, 108]⟩ (by decide) hba.rd)
    rw [show txt ⟨#[103, 111, 97, 108]⟩ = tGoal from rfl] at CX
    obtain ⟨xc, hxc⟩ : ∃ xc, xc = hasF tGoal rr (next T rr) := ⟨_, rfl⟩
    have hupc := (tame_has (s := tGoal) (by decide)).up T rr
    rw [show (Pa.look (hasF tGoal) T rr).2 = (hasF tGoal rr (next T rr)).2 from rfl, ← hxc] at hupc
    rw [← hxc] at CX hXr
    have hoff : xc.1 = false → xc.2 = rr := fun e => by rw [hxc] at e ⊢; exact has_off e
    obtain ⟨bc, rc⟩ := xc
    simp only at CX hXr hoff hupc
    have HXR := Lib.hid hXr
    have HBA := Lib.hid hba
    clear hXr hba hxc
    cases bc
    · obtain rfl := hoff rfl
      have hXr := HXR.out
      rw [if_neg (by simp)] at hXr
      have HXA := Lib.hid hXr
      clear hXr hoff hupc
      go_wp2_with fail
      refine CX.out.mono ?_
      rintro e wz ⟨rfl, hP, hM⟩
      have HR := Lib.hid (show MAt w wz g n bl ol cl nb (.slice pv m cv) T len D (.slice p l.length c) l (.slice none 0 0) [] rc pv' m' cv' from HBA.out.moved hP (mbut hM) (Nat.le_refl _))
      have SX := Lib.hid (fun q => blockP_any K (HR.out.rd.drewN q) hv HR.out.mle (Nat.le_trans HNB.out HR.out.but.size) hK hn)
      obtain ⟨y, hy⟩ : ∃ y, y = blockQ K T rc := ⟨_, rfl⟩
      have HXS := Lib.hid (show X = blocksD K j' (l ++ [y.1]) T y.2 by rw [HXA.out, hy])
      have hwt := block_went K T rc
      rw [← hy] at SX hwt
      have HW5 := Lib.hid hwt
      clear hP hM hy hwt
      obtain ⟨d2, r5⟩ := y
      simp only at HXS
      have b1 := HR.out.box.cell 0 rfl
      have hdl := HR.out.box.lt
      have HSZ1 := Lib.hid (show w.heap.size + 1 ≤ wz.heap.size from by have := HR.out.res.lt; omega)
      go_upto_region 3 with fail
      cases hwv : r5.wrong with
      | true =>
        have SN := Lib.hid (fun q => nends_gone hwv (SX.out q))
        have HG := Lib.hid (fun (q : Nat) (w' : World) (hB : But (NF g (.slice pv' m' cv')) (wz.drewN q) w') => (nends_no (g := g) (n := n) (bl := bl) (ol := ol) (cl := cl) (nb := nb) (v0 := .slice pv m cv) (T := T) (len := len) (V := ModelE w X.1) (rx := r5) (nf_through (w := wz.drewN q) (but_drewN HR.out.but q) HR.out.fn hB) ((tame_blocksD K j' (l ++ [d2])).after HXS.out hwv)))
        unfold gone at SN HG
        clear hwv
        go_region_dies
        all_goals (refine (SN.out _).mono ?_; rintro e w7 ⟨hB7, rfl⟩; (try go_simp); exact ⟨rfl, HG.out _ _ hB7⟩)
      | false =>
        have SO := Lib.hid (fun q => nends_right hwv (SX.out q))
        have HON := Lib.hid (show rc.at_ < r5.at_ from HW5.out.on.resolve_left (by show ¬ r5.wrong = true; rw [hwv]; simp))
        clear hwv
        have hl6 : l.length ≤ 100000 := by omega
        go_region_law (first
          | (refine put_row_step info47b rfl (by decide) (by decide) Tryz.underlying23 rfl _ _ rfl rfl rfl HAV.out.bs rfl HCV.out (by simp [Value.oneCell']) HSN.out hl6 HLV.out ?_; intro p7 cap7 w8 hp1 hp2 hp3; have HN := Lib.hid (HAV.out.grown hp1 hp2); have b7 := (HAV.out.box.grown (fun k e => OwnsP.kind HAV.out.bs e) hp2 (by decide)).cell 0 rfl; have f7 := (HAV.out.box.grown (fun k e => OwnsP.kind HAV.out.bs e) hp2 (by decide)).frozen 0; clear hp1 hp2 hp3)
          | (go_simp; go_at_call 46; refine (SO.out _).mono ?_; rintro e w7 ⟨hB7, ⟨pv7, m7, cv7, h7, hf7, hm7⟩, pd, cd, pc, cc, rfl, ho1, ho2⟩; have HA7 := Lib.hid (((HR.out.moved (HR.out.rd.drewN 1) (but_drewN (But.refl _ wz) 1) (Nat.le_refl _)).named h7 hB7 hf7 hm7)); have b1 := HA7.out.box.cell 0 rfl; have HAV := Lib.hid (HA7.out.below ((Below.refl _ w7).alloc (Nat.le_refl _) (.cells #[.bool d2.all, .slice pd d2.vars.length cd, .slice pc d2.cons.length cc] 39))); have HCV := Lib.hid (block_cells w7 d2.all (.slice pd d2.vars.length cd) (.slice pc d2.cons.length cc)); have HSN := Lib.hid (show blockP (w7.alloc (.cells #[.bool d2.all, .slice pd d2.vars.length cd, .slice pc d2.cons.length cc] 39)) (w.heap.size + 1) [Value.bool d2.all, .slice pd d2.vars.length cd, .slice pc d2.cons.length cc] d2 from ⟨_, _, rfl, (decls_low ho1 HSZ1.out).below ((Below.refl _ w7).alloc (Nat.le_refl _) (.cells #[.bool d2.all, .slice pd d2.vars.length cd, .slice pc d2.cons.length cc] 39)), (cons_low ho2 HSZ1.out).below ((Below.refl _ w7).alloc (Nat.le_refl _) (.cells #[.bool d2.all, .slice pd d2.vars.length cd, .slice pc d2.cons.length cc] 39))⟩); have HLV := Lib.hid (show w.heap.size + 1 ≤ (w7.alloc (.cells #[.bool d2.all, .slice pd d2.vars.length cd, .slice pc d2.cons.length cc] 39)).heap.size from Nat.le_trans HSZ1.out (Nat.le_trans (show wz.heap.size ≤ w7.heap.size from hB7.size) ((Below.refl _ w7).alloc (Nat.le_refl _) (.cells #[.bool d2.all, .slice pd d2.vars.length cd, .slice pc d2.cons.length cc] 39)).size)); have bb := HA7.out.box.lt; clear h7 hB7 hf7 hm7 ho1 ho2))
        all_goals go_wp2_with fail
        all_goals
          go_roundw
          case rel => exact ⟨j', l ++ [d2], r5, p7, cap7, pv7, m7, cv7, HXS.out, by have := HON.out; omega, by have := HON.out; simp only [List.length_append, List.length_cons, List.length_nil]; omega, by rw [List.length_append]; exact HN.out⟩
          case measure =>
            have h1 := HON.out
            have h2 := HN.out.rd.top
            rw [took_at HN.out.rd, HTK.out]
            simp only at h2 ⊢
            omega
    · have hXr := HXR.out
      rw [if_pos rfl] at hXr
      have HXA := Lib.hid (show X = (seq (listQ K) fun q => seq (Pa.look (mustF tSemi)) fun _ => seq endQ fun _ => ret ⟨l, q⟩) T rc from hXr)
      clear hXr hoff
      go_wp2_with fail
      refine CX.out.mono ?_
      rintro e w5 ⟨rfl, hP, hM⟩
      have HC := Lib.hid (show MAt w w5 g n bl ol cl nb (.slice pv m cv) T len D (.slice p l.length c) l (.slice none 0 0) [] rc pv' m' cv' from HBA.out.moved hP (mbut hM) hupc)
      have LX := Lib.hid (listP_any K hP hv (by have := HC.out.mle; have := hP.top; omega) hK hn)
      obtain ⟨yl, hyl⟩ : ∃ yl, yl = listQ K T rc := ⟨_, rfl⟩
      have HXT := Lib.hid (show X = (seq (Pa.look (mustF tSemi)) fun _ => seq endQ fun _ => ret (⟨l, yl.1⟩ : PModel)) T yl.2 by rw [HXA.out, hyl]; rfl)
      have hupl := (tame_list K).up T rc
      rw [← hyl] at LX hupl
      have HS2 := Lib.hid (show w.heap.size + 1 ≤ w5.heap.size from by have := HC.out.res.lt; omega)
      clear hP hM hyl
      obtain ⟨cs, rl⟩ := yl
      simp only at HXT hupl
      go_wp2_with fail
      refine LX.out.mono ?_
      rintro e w7 ⟨hB, ⟨hw, hP, p2, c2, rfl, hc⟩ | ⟨hw, rfl⟩⟩
      rotate_left
      · have HG := Lib.hid (nends_no (g := g) (n := n) (bl := bl) (ol := ol) (cl := cl) (nb := nb) (v0 := .slice pv m cv) (T := T) (len := len) (V := ModelE w X.1) (but_nf HC.out.but hB) ((tame_seq (tame_must (s := tSemi) (by decide)) fun _ => tame_seq tame_end fun _ => tame_ret (⟨l, cs⟩ : PModel)).after HXT.out hw))
        unfold gone at HG ⊢
        clear hw hB
        go_wp2_with fail
        exact ⟨rfl, HG.out⟩
      have HW1 := Lib.hid (show MAt w w7 g n bl ol cl nb (.slice pv m cv) T len D (.slice p l.length c) l (.slice none 0 0) [] rl pv' m' cv' from HC.out.moved hP hB hupl)
      have HW := Lib.hid (HW1.out.setCons (cons_low hc HS2.out))
      have b1 := HW1.out.box.cell 1 rfl
      have f1 := HW1.out.box.frozen 1
      have WX := Lib.hid (want_any ⟨#[59]⟩ (by decide) HW.out.rd)
      rw [show txt ⟨#[59]⟩ = tSemi from rfl] at WX
      obtain ⟨ys, hys⟩ : ∃ ys, ys = mustF tSemi rl (next T rl) := ⟨_, rfl⟩
      have HXU := Lib.hid (show X = (seq endQ fun _ => ret (⟨l, cs⟩ : PModel)) T ys.2 by rw [HXT.out, hys]; rfl)
      have hups := (tame_must (s := tSemi) (by decide)).up T rl
      rw [show (Pa.look (mustF tSemi) T rl).2 = (mustF tSemi rl (next T rl)).2 from rfl, ← hys] at hups
      rw [← hys] at WX
      clear hB hw hP hc hys
      obtain ⟨u9, r9⟩ := ys
      simp only at HXU hups
      go_wp2_with fail
      refine WX.out.mono ?_
      rintro e w9 ⟨hB9, ⟨hw9, hP9, rfl⟩ | ⟨hw9, rfl⟩⟩
      rotate_left
      · have HG := Lib.hid (nends_no (g := g) (n := n) (bl := bl) (ol := ol) (cl := cl) (nb := nb) (v0 := .slice pv m cv) (T := T) (len := len) (V := ModelE w X.1) (x := X) (rx := r9) (but_nf HW.out.but hB9) ((tame_seq tame_end fun _ => tame_ret (⟨l, cs⟩ : PModel)).after HXU.out hw9))
        unfold gone at HG ⊢
        clear hB9 hw9
        go_wp2_with fail
        exact ⟨rfl, HG.out⟩
      have H9 := Lib.hid (HW.out.moved hP9 hB9 hups)
      have c0 := H9.out.rd.c0
      have c1 := H9.out.rd.c1
      have hwr9 := hw9
      have hlong := hP9.long
      obtain ⟨k9, hk9⟩ : ∃ k9, k9 = r9.at_ := ⟨_, rfl⟩
      simp only at c1
      rw [← hk9] at c1
      obtain ⟨n1, hn1⟩ : ∃ n1, n1 = n + 1 := ⟨_, rfl⟩
      rw [← hn1] at c0
      have hsub : IntKind.i64.wrap ((n1 : Int) - 1) = (n : Int) := by
        rw [hn1]
        have := IntWalk.i64_in ((n : Int)) (by omega)
        rw [show (((n + 1 : Nat) : Int) - 1) = (n : Int) by omega]
        exact this
      by_cases hend : k9 < n
      · have hei : (k9 : Int) < (n : Int) := by omega
        have hed : decide ((k9 : Int) < (n : Int)) = true := decide_eq_true hei
        have GX := Lib.hid (fun q => give_any (H9.out.rd.drewN q))
        have hX9 : X = (⟨l, cs⟩, fail1 r9) := by
          rw [HXU.out]
          show ((⟨l, cs⟩ : PModel), (endQ T r9).2) = _
          unfold endQ
          rw [if_neg (by simp only at hwr9; rw [hwr9]; simp), if_pos (by rw [← hlong, ← hk9]; exact hend)]
        have HX9 := Lib.hid hX9
        clear hB9 hw9 hP9 hk9 hn1 hwr9 hlong hX9
        go_upto_region 6 with fail
        go_quiet (fail)
        go_wp2_with fail
        refine (GX.out _).mono ?_
        rintro e wq ⟨rfl, q, rfl⟩
        have HG := Lib.hid (nends_no (g := g) (n := n) (bl := bl) (ol := ol) (cl := cl) (nb := nb) (v0 := .slice pv m cv) (T := T) (len := len) (V := ModelE w X.1) (x := X) (rx := r9) (but_drewN H9.out.but (nq + q)) (by rw [HX9.out]; exact ⟨rfl, rfl⟩))
        unfold gone at HG ⊢
        go_wp2_with fail
        exact ⟨rfl, HG.out⟩
      · have hei : ¬ ((k9 : Int) < (n : Int)) := by omega
        have hee : (n : Int) ≤ (k9 : Int) := by omega
        have hed : decide ((k9 : Int) < (n : Int)) = false := decide_eq_false hei
        have hX9 : X = (⟨l, cs⟩, r9) := by
          rw [HXU.out]
          show ((⟨l, cs⟩ : PModel), (endQ T r9).2) = _
          unfold endQ
          rw [if_neg (by simp only at hwr9; rw [hwr9]; simp), if_neg (by rw [← hlong, ← hk9]; exact hend)]
        have HX9 := Lib.hid hX9
        clear hB9 hw9 hP9 hk9 hn1 hwr9 hlong hX9
        go_upto_region 6 with fail
        go_quiet (fail)
        have HZ := Lib.hid (H9.out.moved (H9.out.rd.drewN nq) (but_drewN (But.refl _ w9) nq) (Nat.le_refl _))
        have b0 := HZ.out.box.cell 0 rfl
        have b1 := HZ.out.box.cell 1 rfl
        have q0 := HZ.out.res.cell 0 rfl
        have g0 := HZ.out.res.frozen 0
        have q1 := HZ.out.res.cell 1 rfl
        have g1 := HZ.out.res.frozen 1
        go_wp2_with fail
        (try simp only [Exit.inBlock, Exit.then])
        refine bodyPost_ret (results_model rfl _ _ w.heap.size (.slice p l.length c) (.slice p2 cs.length c2) rfl ?_ ?_) rfl ?_
        · go_simp
        · go_simp
        · exact HZ.out.ends HX9.out
end
end Go.Proofs.YtfkakdpppejehaaGreat.Pp
namespace Go.Proofs.YtfkakdpppejehaaGreat.Pp
open Go.RowKit
open Sc (Tok Cells str noTok)
open Pa
set_option maxRecDepth 100000

theorem catch_gone (pa pe : Addr) (x z : Int) (p : Nat) (older : List PanicEntry) (w : World) (ca : w.cell? pa = some (.int .i64 x)) (za : w.frozen? pa = false) (ce : (w.setCell pa (.int .i64 (p : Int))).cell? pe = some (.int .i64 z)) (ze : (w.setCell pa (.int .i64 (p : Int))).frozen? pe = false) :
    CallsD Tryz.prog 21 #[.pointer (some pa), .pointer (some pe)] (.panicking ({ v := .iface 70 (.int .i64 (p : Int)), recovered := false } :: older)) w fun e u' w' =>
      e = .returned (.tuple #[]) ∧ u' = .panicking ({ v := .iface 70 (.int .i64 (p : Int)), recovered := true } :: older) ∧ w' = (w.setCell pa (.int .i64 (p : Int))).setCell pe (.int .i64 2) := by
  have hta : ∀ W : World, (Instr.typeAssert (.iface 70 (.int .i64 (p : Int))) 20 70 false).run Tryz.prog W = .ok (.int .i64 (p : Int)) W := fun W => by kernel_rfl
  refine callsD_of_wpS Tryz.func21 rfl fun c₀ cs hu => ?_
  apply wpS_seq
  apply wpS_region
  simp [wpOpsS, go_sem, recoverD, hu, Tryz.ntmps21, Exit.thenS]
  apply wpS_seq
  apply wpS_region
  simp [wpOpsS, go_sem, Exit.thenS, Array.replicate]
  refine wpS_cond (t := true) (by simp [Act.eval]) ?_
  simp only [if_true]
  apply wpS_region
  simp [wpOpsS, go_sem, hta, ca, za, ce, ze, bodyPostS, results, Tryz.results21]
theorem catch_idle (pa pe : Addr) (w : World) :
    CallsD Tryz.prog 21 #[.pointer (some pa), .pointer (some pe)] .returning w fun e u' w' => e = .returned (.tuple #[]) ∧ u' = .returning ∧ w' = w := by
  refine callsD_of_wpS Tryz.func21 rfl fun c₀ cs hu => ?_
  apply wpS_seq
  apply wpS_region
  simp [wpOpsS, go_sem, recoverD, hu, Tryz.ntmps21, Exit.thenS]
  apply wpS_seq
  apply wpS_region
  simp [wpOpsS, go_sem, Exit.thenS, Array.replicate]
  refine wpS_cond (t := false) (by simp [Act.eval]) ?_
  simp only [Bool.false_eq_true, if_false]
  refine wpS_of_wp (wp_skip ?_)
  cases c₀
  simp_all [bodyPostS, results, Tryz.results21]
end Go.Proofs.YtfkakdpppejehaaGreat.Pp
