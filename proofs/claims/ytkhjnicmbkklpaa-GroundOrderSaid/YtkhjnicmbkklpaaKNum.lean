/-
  Models that may be, as plain data; sizes of domains in memory.
-/
import Derived.Test.YtkhjnicmbkklpaaPRight
import Derived.Test.YtkhjnicmbkklpaaSRefs
namespace Go.Proofs.Ytkhjnicmbkklpaa
open Go.RowKit
set_option maxRecDepth 100000

def szL (L : List (Int × Int)) : Int := if rightL L = true then sizeL L else 0
theorem sz_low (L : List (Int × Int)) : 0 ≤ szL L ∧ szL L ≤ 2097153 := by
  unfold szL
  by_cases h : rightL L = true
  · rw [if_pos h]
    exact size_most h
  · rw [if_neg h]
    omega
theorem sees_of {w : World} {v : Value} {L : List (Int × Int)} (h : Slc rSpan 2 w v L) : Sees w v L := by
  obtain ⟨p, b, off, c, len, rfl, _, hs⟩ := h
  have hl := hs.long
  subst hl
  exact ⟨p, b, off, c, rfl, hs.at_, fun k hk => span_at hs hk⟩
def bigM (m : PModel) : Bool := decide (8 < m.blocks.length) || (decide (16 < m.goal.length) || (m.blocks.any (fun b => decide (16 < b.cons.length)) || decide (16 < (varsL m.blocks).length)))
def formM (m : PModel) : Bool := decide (m.blocks.length = 0) || m.blocks.any (fun b => decide (b.vars.length = 0))
def nameM (m : PModel) : Bool := (varsL m.blocks).any (fun d => !nameL d.name)
def names (L : List PDecl) : List (List UInt8) := L.map (·.name)
/-- do two of the first n have one name? -/
def TwiceTo (ns : List (List UInt8)) (n : Nat) : Prop := ∃ i j, j < i ∧ i < n ∧ ns.getD i [] = ns.getD j []
open Classical in
noncomputable def twiceM (m : PModel) : Bool := decide (TwiceTo (names (varsL m.blocks)) (names (varsL m.blocks)).length)
def domD (d : PDecl) : Bool := decide (szL d.dom < 1) || decide (64 < szL d.dom)
def domM (m : PModel) : Bool := (varsL m.blocks).any domD
noncomputable def wrongL (L : List PCon) (n : Nat) : Bool := L.any (fun c => !rightC c (n : Int))
noncomputable def conF (n : Nat) : List PBlock → Bool
  | [] => false
  | b :: r => wrongL b.cons (n + b.vars.length) || conF (n + b.vars.length) r
noncomputable def conM (m : PModel) : Bool := conF 0 m.blocks || wrongL m.goal (varsL m.blocks).length
/-- the first of some errors -/
def firstF : List (Bool × Int) → Int
  | [] => 0
  | (b, e) :: r => if b = true then e else firstF r
noncomputable def faultsM (m : PModel) : List (Bool × Int) := [(bigM m, 5), (formM m, 2), (nameM m, 7), (twiceM m, 8), (domM m, 1), (conM m, 12)]
noncomputable def checkM (m : PModel) : Int := firstF (faultsM m)

/-- the lists of a model are short -/
structure Few (m : PModel) : Prop where
  blocks : m.blocks.length ≤ 1000
  vars : ∀ b ∈ m.blocks, b.vars.length ≤ 1000
  wheres : ∀ b ∈ m.blocks, b.cons.length ≤ 1000 ∧ ∀ c ∈ b.cons, Short 1000 c
  goal : m.goal.length ≤ 1000 ∧ ∀ c ∈ m.goal, Short 1000 c
  decls : ∀ b ∈ m.blocks, ∀ d ∈ b.vars, d.name.length ≤ 1000 ∧ d.dom.length ≤ 1000
  few : (varsL m.blocks).length ≤ 1000
theorem vars_most (bs : List PBlock) (h : ∀ x ∈ bs, x.vars.length ≤ 30) : (varsL bs).length ≤ bs.length * 30 := by
  induction bs with
  | nil => simp [varsL]
  | cons x r ih =>
    have h1 := h x (by simp)
    have h2 := ih fun y hy => h y (by simp [hy])
    have e : varsL (x :: r) = x.vars ++ varsL r := by simp [varsL]
    rw [e, List.length_append, List.length_cons]
    omega
theorem short_up {c : PCon} (h : Short 150 c) : Short 1000 c := ⟨by have := h.1; omega, by have := h.2.1; omega, by have := h.2.2; omega⟩
theorem few_of {m : PModel} (h : largeB m = false) : Few m := by
  simp only [largeB, Bool.or_eq_false_iff, decide_eq_false_iff_not, List.any_eq_false] at h
  obtain ⟨h1, h2, h3⟩ := h
  have hb : ∀ b ∈ m.blocks, ¬ 30 < b.vars.length ∧ consB b.cons = false ∧ ∀ d ∈ b.vars, ¬ longD d = true := fun b hb => by
    have := h3 b hb
    rw [Bool.not_eq_true] at this
    simpa only [longB, Bool.or_eq_false_iff, decide_eq_false_iff_not, List.any_eq_false] using this
  have hd : ∀ b ∈ m.blocks, ∀ d ∈ b.vars, d.name.length ≤ 1000 ∧ d.dom.length ≤ 1000 := fun b q d r => by
    have := (hb b q).2.2 d r
    simp [longD] at this
    omega
  have hv : ∀ b ∈ m.blocks, b.vars.length ≤ 30 := fun b q => by have := (hb b q).1; omega
  have ht := vars_most m.blocks hv
  exact ⟨by omega, fun b q => by have := hv b q; omega, fun b q => ⟨by have := (cons_short (hb b q).2.1).1; omega, fun c hc => short_up ((cons_short (hb b q).2.1).2 c hc)⟩, ⟨by have := (cons_short h2).1; omega, fun c hc => short_up ((cons_short h2).2 c hc)⟩, hd, by omega⟩
theorem Few.decl {m : PModel} (h : Few m) : ∀ d ∈ varsL m.blocks, d.name.length ≤ 1000 ∧ d.dom.length ≤ 1000 := fun d hd => by
  obtain ⟨b, hb, hd⟩ := List.mem_flatMap.1 hd
  exact h.decls b hb d hd
theorem twice_yes {ns : List (List UInt8)} {n i j : Nat} (hj : j < i) (hi : i < n) (e : ns.getD i [] = ns.getD j []) : TwiceTo ns n := ⟨i, j, hj, hi, e⟩
theorem names_get {L : List PDecl} {k : Nat} {d : PDecl} (h : L[k]? = some d) : (names L).getD k [] = d.name := by
  simp [names, h]
theorem dom_is (d : PDecl) : domD d = (decide (szL d.dom = 0) || decide (64 < szL d.dom)) := by
  have := (sz_low d.dom).1
  unfold domD
  congr 1
  exact decide_eq_decide.2 (by omega)
theorem totals {bs : List PBlock} {k : Nat} {x : PBlock} (h : bs[k]? = some x) : (varsL (bs.take (k + 1))).length = (varsL (bs.take k)).length + x.vars.length := by
  obtain ⟨hk, e⟩ := List.getElem?_eq_some_iff.1 h
  rw [vars_drop (x := x) (by rw [← e]; exact List.drop_eq_getElem_cons hk), List.length_append]
theorem con_at_k {bs : List PBlock} {n k : Nat} {x : PBlock} (h : bs[k]? = some x) : conF n (bs.drop k) = (wrongL x.cons (n + x.vars.length) || conF (n + x.vars.length) (bs.drop (k + 1))) := by
  obtain ⟨hk, e⟩ := List.getElem?_eq_some_iff.1 h
  rw [List.drop_eq_getElem_cons hk, conF, e]
end Go.Proofs.Ytkhjnicmbkklpaa
