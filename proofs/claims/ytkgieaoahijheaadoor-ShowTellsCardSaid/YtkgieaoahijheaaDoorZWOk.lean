/-
  A model that may be comes back from its text. Nothing of the program.
-/
import Derived.Test.YtkgieaoahijheaaDoorZYAP
namespace Go.Proofs.YtkgieaoahijheaaDoor.Wt
open Sc (Tok Own mostV)
open Pa

/-- the names of all variables -/
def namesM (m : PModel) : List Txt := namesB m.blocks
theorem names_eq (l : List PBlock) : names (varsL l) = namesB l := by simp [names, varsL, namesB, List.map_flatMap]
theorem right_in : ∀ (L : List (Int × Int)) (m : Int), -1048576 ≤ m → rightF m L = true → (∀ p ∈ L, Num p.1 ∧ Num p.2) ∧ (L.length : Int) ≤ sizeL L
  | [], _, _, _ => ⟨fun p hp => (by cases hp), (by simp [sizeL])⟩
  | s :: r, m, hm, h => by
    unfold rightF at h
    simp only [Bool.and_eq_true, decide_eq_true_eq] at h
    obtain ⟨⟨⟨h1, h2⟩, h3⟩, h4⟩ := h
    obtain ⟨i1, i2⟩ := right_in r (s.2 + 2) (by omega) h4
    refine ⟨fun p hp => ?_, by simp only [List.length_cons, sizeL]; omega⟩
    rcases List.mem_cons.1 hp with rfl | q
    · unfold Num mostV
      omega
    · exact i1 p q
theorem dom_ok {d : PDecl} (hn : nameL d.name = true) (h : domD d = false) : DeclNum d ∧ DeclOk 10000 d := by
  unfold domD at h
  simp only [Bool.or_eq_false_iff, decide_eq_false_iff_not] at h
  have hr : rightL d.dom = true := by
    cases q : rightL d.dom
    · have : szL d.dom = 0 := by
        unfold szL
        rw [q]
        rfl
      omega
    · rfl
  have hs : szL d.dom = sizeL d.dom := by
    unfold szL
    rw [if_pos hr]
  obtain ⟨i1, i2⟩ := right_in d.dom (-1048576) (by decide) hr
  refine ⟨⟨hn, i1⟩, hn, fun e => ?_, by omega⟩
  have h0 : szL d.dom = 0 := by
    rw [hs, e]
    rfl
  omega
theorem all_num {l : List Int} {m : Int} (h : allN l m = true) (hm : m ≤ 1099511627776) : ∀ k ∈ l, Num k := fun k hk => by
  have := List.all_eq_true.1 h k hk
  simp only [Bool.and_eq_true, decide_eq_true_eq] at this
  unfold Num mostV
  omega
theorem lin_parts {b : Int} {c : PCon} (h : linR b c = true) : 1 ≤ (c.vars.length : Int) - b ∧ (c.vars.length : Int) - b ≤ 8 ∧ (c.coefs.length : Int) = (c.vars.length : Int) - b ∧ (∀ k ∈ c.coefs, Num k) ∧ (0 ≤ c.rel ∧ c.rel ≤ 5) ∧ Num c.const ∧ c.nums = [] := by
  unfold linR at h
  simp only [Bool.and_eq_true, decide_eq_true_eq] at h
  obtain ⟨h1, h2, h3, h4, h5, h6, h7, h8⟩ := h
  exact ⟨h1, h2, h3, all_num h4 (by decide), ⟨h5, h6⟩, all_num h7 (by decide) c.const (by simp), List.eq_nil_of_length_eq_zero h8⟩
/-- what a constraint that may be is -/
theorem right_shape {c : PCon} {n : Int} (h : rightC c n = true) : Shape c ∧ (∀ v ∈ c.vars, 0 ≤ v ∧ v < n) ∧ (∀ k ∈ c.coefs, Num k) ∧ Num c.const ∧ (∀ k ∈ c.nums, Num k) ∧ c.vars.length ≤ 9 ∧ c.nums.length ≤ 96 := by
  have hv : VarsTo c.vars n c.vars.length := Classical.byContradiction fun hv => by
    rw [right_bad hv] at h
    cases h
  rw [right_on hv] at h
  have hvs : ∀ v ∈ c.vars, 0 ≤ v ∧ v < n := fun v hm => by
    obtain ⟨i, hi, e⟩ := List.mem_iff_getElem.1 hm
    have := (hv i hi).1
    rw [List.getD_eq_getElem?_getD, List.getElem?_eq_getElem hi] at this
    rw [← e]
    exact this
  obtain ⟨kind, vars, coefs, rel, const, nums⟩ := c
  simp only at h hvs ⊢
  by_cases k1 : kind = 1
  · subst k1
    rw [if_pos rfl, Bool.and_eq_true] at h
    obtain ⟨h1, h2, h3, h4, h5, h6, h7⟩ := lin_parts h.2
    simp only at h1 h2 h3 h4 h5 h6 h7
    subst h7
    exact ⟨.lin vars coefs rel const (by omega) (fun e => by rw [e] at h1; simp at h1) h5, hvs, h4, h6, by simp, by omega, by simp⟩
  rw [if_neg k1] at h
  by_cases k3 : kind = 3
  · subst k3
    rw [if_pos rfl, Bool.and_eq_true] at h
    obtain ⟨h1, h2, h3, h4, h5, h6, h7⟩ := lin_parts h.2
    simp only at h1 h2 h3 h4 h5 h6 h7
    subst h7
    cases vars with
    | nil => simp at h1
    | cons v vars =>
      simp only [List.length_cons] at h1 h2 h3
      exact ⟨.iff v vars coefs rel const (by omega) (fun e => by rw [e] at h1; simp at h1) h5, hvs, h4, h6, by simp, by simp only [List.length_cons]; omega, by simp⟩
  rw [if_neg k3, Bool.and_eq_true] at h
  obtain ⟨hr, hk⟩ := h
  unfold restR at hr
  simp only [Bool.not_eq_true', Bool.or_eq_false_iff, decide_eq_false_iff_not, Bool.not_eq_false', decide_eq_true_eq] at hr
  obtain ⟨r1, r2, r3, r4, r5⟩ := hr
  obtain rfl : coefs = [] := List.eq_nil_of_length_eq_zero (by omega)
  subst r2 r3
  have hn := all_num r4 (by decide)
  have h0 : Num 0 := by unfold Num; simp
  unfold kindR at hk
  simp only at hk
  by_cases k2 : kind = 2
  · subst k2
    simp only [if_true, Bool.and_eq_true, decide_eq_true_eq] at hk
    obtain rfl : nums = [] := List.eq_nil_of_length_eq_zero hk.2
    exact ⟨.product vars hk.1, hvs, by simp, h0, hn, by omega, by simp⟩
  rw [if_neg k2] at hk
  by_cases k4 : kind = 4
  · subst k4
    simp only [if_true, Bool.and_eq_true, decide_eq_true_eq] at hk
    exact ⟨.element vars nums hk.1 hk.2, hvs, by simp, h0, hn, by omega, by omega⟩
  rw [if_neg k4] at hk
  by_cases k5 : kind = 5
  · subst k5
    simp only [if_true, Bool.and_eq_true, decide_eq_true_eq] at hk
    obtain rfl : nums = [] := List.eq_nil_of_length_eq_zero hk.2.2
    exact ⟨.differ vars hk.1, hvs, by simp, h0, hn, by omega, by simp⟩
  rw [if_neg k5] at hk
  by_cases k6 : kind = 6
  · subst k6
    simp only [if_true, Bool.and_eq_true, decide_eq_true_eq] at hk
    exact ⟨.table vars nums hk.1, hvs, by simp, h0, hn, by omega, by omega⟩
  rw [if_neg k6] at hk
  cases hk
section
variable {ns : List Txt} (hd : ¬ TwiceTo ns ns.length) (hn : ∀ s ∈ ns, nameL s = true)
include hd hn
theorem con_ok {vs rest : List Txt} {c : PCon} (hp : ns = vs ++ rest) (h : rightC c (vs.length : Int) = true) : ConOk vs (nmT ns) 10000 c ∧ ConNum (nmT ns) c := by
  obtain ⟨h1, h2, h3, h4, h5, h6, h7⟩ := right_shape h
  have hk : ∀ v ∈ c.vars, Kn vs (nmT ns v) v := fun v hv => kn_of hp hd hn (h2 v hv).1 (by have := h2 v hv; omega)
  refine ⟨⟨h1, by omega, by omega, hk⟩, h1, fun v hv => own_name ?_, h3, h4, h5⟩
  have hl : v.toNat < ns.length := by
    have := h2 v hv
    rw [hp, List.length_append]
    omega
  refine hn _ ?_
  rw [List.getD_eq_getElem?_getD, List.getElem?_eq_getElem hl]
  exact List.getElem_mem hl
theorem cons_ok {vs rest : List Txt} {l : List PCon} (hp : ns = vs ++ rest) (h : wrongL l vs.length = false) : ∀ c ∈ l, ConOk vs (nmT ns) 10000 c ∧ ConNum (nmT ns) c := fun c hc => by
  have := List.any_eq_false.1 h c hc
  exact con_ok hd hn hp (by simpa using this)
theorem blocks_ok : ∀ (l : List PBlock) (vs : List Txt), ns = vs ++ namesB l → conF vs.length l = false → (∀ b ∈ l, b.vars ≠ [] ∧ b.vars.length ≤ 10000 ∧ b.cons.length < 10000 ∧ ∀ d ∈ b.vars, DeclOk 10000 d) →
    BlocksOk (nmT ns) 10000 vs l ∧ ∀ b ∈ l, ∀ c ∈ b.cons, ConNum (nmT ns) c
  | [], _, _, _, _ => ⟨trivial, fun b hb => by cases hb⟩
  | b :: l, vs, hp, hf, hb => by
    unfold conF at hf
    rw [Bool.or_eq_false_iff] at hf
    have e1 : namesB (b :: l) = b.vars.map (·.name) ++ namesB l := rfl
    have hl : (vs ++ b.vars.map (·.name)).length = vs.length + b.vars.length := by simp
    have hp2 : ns = (vs ++ b.vars.map (·.name)) ++ namesB l := by rw [hp, e1, List.append_assoc]
    rw [← hl] at hf
    have hc := cons_ok hd hn hp2 hf.1
    obtain ⟨b1, b2, b3, b4⟩ := hb b (by simp)
    obtain ⟨i1, i2⟩ := blocks_ok l _ hp2 hf.2 (fun x hx => hb x (by simp [hx]))
    refine ⟨⟨⟨b1, b2, b4, b3, fun c hcc => (hc c hcc).1⟩, i1⟩, fun x hx => ?_⟩
    rcases List.mem_cons.1 hx with rfl | q
    · exact fun c hcc => (hc c hcc).2
    · exact i2 x q
end
theorem check_parts {m : PModel} (h : checkM m = 0) : bigM m = false ∧ formM m = false ∧ nameM m = false ∧ twiceM m = false ∧ domM m = false ∧ conM m = false := by
  unfold checkM faultsM at h
  simp only [firstF] at h
  cases h1 : bigM m <;> cases h2 : formM m <;> cases h3 : nameM m <;> cases h4 : twiceM m <;> cases h5 : domM m <;> cases h6 : conM m <;> simp [h1, h2, h3, h4, h5, h6] at h ⊢
open Classical in
theorem twice_no {m : PModel} (h : twiceM m = false) : ¬ TwiceTo (names (varsL m.blocks)) (names (varsL m.blocks)).length := by
  unfold twiceM at h
  exact of_decide_eq_false h
theorem may_ok {m : PModel} (h : checkM m = 0) : ModelOk (nmT (namesM m)) 10000 m ∧ ModelNum (nmT (namesM m)) m := by
  obtain ⟨h1, h2, h3, h4, h5, h6⟩ := check_parts h
  unfold bigM at h1
  unfold formM at h2
  unfold nameM at h3
  unfold domM at h5
  unfold conM at h6
  simp only [Bool.or_eq_false_iff, decide_eq_false_iff_not] at h1 h2 h6
  obtain ⟨b1, b2, b3, b4⟩ := h1
  have hd : ¬ TwiceTo (namesM m) (namesM m).length := by
    have := twice_no h4
    rw [names_eq] at this
    exact this
  have hnd : ∀ b ∈ m.blocks, ∀ d ∈ b.vars, nameL d.name = true ∧ domD d = false := fun b hb d hdd => by
    have hm : d ∈ varsL m.blocks := List.mem_flatMap.2 ⟨b, hb, hdd⟩
    exact ⟨by simpa using List.any_eq_false.1 h3 d hm, by simpa using List.any_eq_false.1 h5 d hm⟩
  have hn : ∀ s ∈ namesM m, nameL s = true := fun s hs => by
    obtain ⟨b, hb, hq⟩ := List.mem_flatMap.1 hs
    obtain ⟨d, hdd, rfl⟩ := List.mem_map.1 hq
    exact (hnd b hb d hdd).1
  have hlen : (varsL m.blocks).length = (namesM m).length := by
    unfold namesM
    rw [← names_eq]
    simp [names]
  have hle : ∀ b ∈ m.blocks, b.vars.length ≤ (varsL m.blocks).length := fun b hb => by
    obtain ⟨x, y, e⟩ := List.append_of_mem hb
    rw [e]
    simp [varsL]
    omega
  have hbl : ∀ b ∈ m.blocks, b.vars ≠ [] ∧ b.vars.length ≤ 10000 ∧ b.cons.length < 10000 ∧ ∀ d ∈ b.vars, DeclOk 10000 d := fun b hb => by
    have q1 := List.any_eq_false.1 h2.2 b hb
    have q2 := List.any_eq_false.1 b3 b hb
    simp only [decide_eq_true_eq] at q1 q2
    have q3 := hle b hb
    refine ⟨fun e => q1 (by rw [e]; rfl), by omega, by omega, fun d hdd => (dom_ok (hnd b hb d hdd).1 (hnd b hb d hdd).2).2⟩
  obtain ⟨i1, i2⟩ := blocks_ok hd hn m.blocks [] rfl h6.1 hbl
  have hg := cons_ok (vs := namesM m) (rest := []) hd hn (by simp) (by rw [← hlen]; exact h6.2)
  exact ⟨⟨fun e => h2.1 (by rw [e]; rfl), by omega, i1, by omega, fun c hc => (hg c hc).1⟩, fun b hb d hdd => (dom_ok (hnd b hb d hdd).1 (hnd b hb d hdd).2).1, i2, fun c hc => (hg c hc).2⟩
/-- a model that may be comes back from its text -/
theorem may_back {m : PModel} (h : checkM m = 0) : parseL 10000 (textL (nmT (namesM m)) m) = .model m := text_back (may_ok h).1 (may_ok h).2 h
end Go.Proofs.YtkgieaoahijheaaDoor.Wt
