/-
  A constraint that the document's reader of tokens takes: what its loops take in. Nothing of the program.
  A constraint that the document's reader of tokens takes.
  A list of constraints that the document's reader of tokens takes.
  Names, ranges and variables that a reader of tokens takes, in rows of its own; an element behind a row, as one operation.
  What a block's loops take in; how far a reader has come with a block. Nothing of the program.
  A block that the document's reader of tokens takes.
-/
import Derived.Test.YtkgieaoahijheaaGreatDoorZYAU
import Derived.Deep.RegionLaw
import Derived.Deep.CutBlock
import Derived.Deep.DeepCutAuto
namespace Go.Proofs.YtkgieaoahijheaaGreatDoor.Pa
open Go.RowKit
open Sc (Tok Cells str noTok)
set_option maxRecDepth 100000

/- what a constraint that names its variables takes in -/
def tailR (K : Nat) (nu : Int) (c : PCon) : Rx PCon := if nu < 0 then ret c else brackets K nu.toNat c
def goN (m : Nat) (more : Bool) (T : List Tok) (r : Rd) : Bool := (decide (0 < m) && !r.wrong) || (more && namedO (next T r))
def goM (m : Nat) (T : List Tok) (r : Rd) : Bool := !r.wrong && (decide (0 < m) || !decide (textO (next T r) = tShut))
theorem names_eq (j m : Nat) (more : Bool) (c : PCon) (T : List Tok) (r : Rd) : namesR (j + 1) m more c T r = if goN m more T r = true then namesR j (m - 1) more { c with vars := c.vars ++ [(variableF r (next T r)).1] } T (variableF r (next T r)).2 else (c, r) := by
  show (if goN m more T r = true then seq (look variableF) fun x => namesR j (m - 1) more { c with vars := c.vars ++ [x] } else ret c) T r = _
  rw [if_app]
  rfl
theorem nums_eq (j m : Nat) (c : PCon) (T : List Tok) (r : Rd) : numsR (j + 1) m c T r = if goM m T r = true then numsR j (m - 1) { c with nums := c.nums ++ [(number T r).1] } T (number T r).2 else (c, r) := by
  show (if goM m T r = true then seq number fun x => numsR j (m - 1) { c with nums := c.nums ++ [x] } else ret c) T r = _
  rw [if_app]
  rfl
/-- a step, or something wrong -/
structure Went (r r' : Rd) : Prop where
  up : r.at_ ≤ r'.at_
  on : r'.wrong = true ∨ r.at_ < r'.at_
theorem variable_went (r : Rd) (o : Option Tok) : Went r (variableF r o).2 := by
  unfold variableF
  split
  · split
    · exact ⟨by simp [step1], .inr (by simp [step1])⟩
    · exact ⟨by simp [step1], .inr (by simp [step1])⟩
  · exact ⟨by simp [fail1], .inl rfl⟩
theorem value_went (r : Rd) (o : Option Tok) : Went r (valueF r o).2 := by
  unfold valueF
  split
  · exact ⟨by simp [step1], .inr (by simp [step1])⟩
  · exact ⟨by simp [fail1], .inl rfl⟩
theorem number_went (T : List Tok) (r : Rd) : Went r (number T r).2 := by
  have u1 : r.at_ ≤ (hasF tMinus r (next T r)).2.at_ := (fine_look (ok_has (s := tMinus) (by decide))).up T r
  have u2 := value_went (hasF tMinus r (next T r)).2 (next T (hasF tMinus r (next T r)).2)
  have e : (number T r).2 = (valueF (hasF tMinus r (next T r)).2 (next T (hasF tMinus r (next T r)).2)).2 := by
    show ((if (hasF tMinus r (next T r)).1 = true then seq (look valueF) fun v => ret (-v) else look valueF) T (hasF tMinus r (next T r)).2).2 = _
    rw [if_app]
    split <;> rfl
  rw [e]
  exact ⟨Nat.le_trans u1 u2.up, u2.on.imp id fun h => by omega⟩
theorem number_few {T : List Tok} {r : Rd} (hv : ∀ t ∈ T, t.value ≤ 2000000000000) : -2000000000000 ≤ (number T r).1 ∧ (number T r).1 ≤ 2000000000000 := by
  have h := value_few (r := (hasF tMinus r (next T r)).2) hv
  have e : (number T r).1 = (valueF (hasF tMinus r (next T r)).2 (next T (hasF tMinus r (next T r)).2)).1 ∨ (number T r).1 = -(valueF (hasF tMinus r (next T r)).2 (next T (hasF tMinus r (next T r)).2)).1 := by
    show ((if (hasF tMinus r (next T r)).1 = true then seq (look valueF) fun v => ret (-v) else look valueF) T (hasF tMinus r (next T r)).2).1 = _ ∨ ((if (hasF tMinus r (next T r)).1 = true then seq (look valueF) fun v => ret (-v) else look valueF) T (hasF tMinus r (next T r)).2).1 = _
    rw [if_app]
    split
    · exact .inr rfl
    · exact .inl rfl
  rcases e with e | e <;> rw [e] <;> omega
theorem go_right {m : Nat} {more : Bool} {T : List Tok} {r : Rd} (h : goN m more T r = true) : r.wrong = false := by
  refine right_of fun hw => ?_
  unfold goN at h
  rw [next_wrong hw, hw] at h
  simp [namedO, kindO] at h
theorem gom_right {m : Nat} {T : List Tok} {r : Rd} (h : goM m T r = true) : r.wrong = false := by
  refine right_of fun hw => ?_
  unfold goM at h
  rw [hw] at h
  simp at h
/-- so long is a list that a reader fills -/
def Short (l : Nat) (r : Rd) : Prop := l + (if r.wrong = true then 0 else 1) ≤ r.at_ + 1
theorem short_on {l : Nat} {r r' : Rd} (h : Short l r) (hw : r.wrong = false) (hg : Went r r') : Short (l + 1) r' := by
  unfold Short at h ⊢
  rw [hw] at h
  have := hg.up
  rcases hg.on with e | e
  · rw [e]
    simp at h ⊢
    omega
  · simp at h
    split <;> omega
/-- fuel for a reader -/
def Fuel (n j : Nat) (r : Rd) : Prop := r.wrong = true ∨ n < j + r.at_
theorem fuel_on {n j : Nat} {r r' : Rd} (h : Fuel n (j + 1) r) (hw : r.wrong = false) (hg : Went r r') : Fuel n j r' := by
  rcases h with h | h
  · rw [hw] at h
    cases h
  · exact hg.on.imp id fun e => by omega
theorem fuel_pos {n j : Nat} {r : Rd} (h : Fuel n j r) (hw : r.wrong = false) (ht : r.at_ ≤ n) : ∃ i, j = i + 1 := by
  rcases h with h | h
  · rw [hw] at h
    cases h
  · exact ⟨j - 1, by omega⟩
def NamesTo (n K m : Nat) (more : Bool) (c0 : PCon) (T : List Tok) (r0 : Rd) (c : PCon) (r : Rd) : Prop := ∃ j, namesR K m more c0 T r0 = namesR j (m - c.vars.length) more c T r ∧ Fuel n j r
def NumsTo (n K m : Nat) (c0 : PCon) (T : List Tok) (r0 : Rd) (c : PCon) (r : Rd) : Prop := ∃ j, numsR K m c0 T r0 = numsR j (m - c.nums.length) c T r ∧ Fuel n j r
theorem names_on {n K m : Nat} {more : Bool} {c0 : PCon} {T : List Tok} {r0 : Rd} {c : PCon} {r : Rd} (h : NamesTo n K m more c0 T r0 c r) (hg : goN (m - c.vars.length) more T r = true) (ht : r.at_ ≤ n) : NamesTo n K m more c0 T r0 { c with vars := c.vars ++ [(variableF r (next T r)).1] } (variableF r (next T r)).2 := by
  obtain ⟨j, e, f⟩ := h
  obtain ⟨i, rfl⟩ := fuel_pos f (go_right hg) ht
  refine ⟨i, ?_, fuel_on f (go_right hg) (variable_went _ _)⟩
  rw [e, names_eq, if_pos hg]
  simp only [List.length_append, List.length_cons, List.length_nil, Nat.zero_add, Nat.sub_sub]
theorem names_off {n K m : Nat} {more : Bool} {c0 : PCon} {T : List Tok} {r0 : Rd} {c : PCon} {r : Rd} (h : NamesTo n K m more c0 T r0 c r) (hg : goN (m - c.vars.length) more T r = false) : namesR K m more c0 T r0 = (c, r) := by
  obtain ⟨j, e, f⟩ := h
  rw [e]
  cases j with
  | zero => rfl
  | succ i => rw [names_eq, if_neg (by rw [hg]; simp)]
theorem nums_on {n K m : Nat} {c0 : PCon} {T : List Tok} {r0 : Rd} {c : PCon} {r : Rd} (h : NumsTo n K m c0 T r0 c r) (hg : goM (m - c.nums.length) T r = true) (ht : r.at_ ≤ n) : NumsTo n K m c0 T r0 { c with nums := c.nums ++ [(number T r).1] } (number T r).2 := by
  obtain ⟨j, e, f⟩ := h
  obtain ⟨i, rfl⟩ := fuel_pos f (gom_right hg) ht
  refine ⟨i, ?_, fuel_on f (gom_right hg) (number_went _ _)⟩
  rw [e, nums_eq, if_pos hg]
  simp only [List.length_append, List.length_cons, List.length_nil, Nat.zero_add, Nat.sub_sub]
theorem nums_off {n K m : Nat} {c0 : PCon} {T : List Tok} {r0 : Rd} {c : PCon} {r : Rd} (h : NumsTo n K m c0 T r0 c r) (hg : goM (m - c.nums.length) T r = false) : numsR K m c0 T r0 = (c, r) := by
  obtain ⟨j, e, f⟩ := h
  rw [e]
  cases j with
  | zero => rfl
  | succ i => rw [nums_eq, if_neg (by rw [hg]; simp)]
/-- how far a reader is from its end, out of its own cells -/
def leftOf (w : World) (g n : Nat) : Nat := (n - tookOf w g) + match w.cell? ⟨g, 2, none⟩ with
  | some (.bool true) => 0
  | _ => 1
theorem left_less {n : Nat} {r r' : Rd} (hw : r.wrong = false) (hg : Went r r') (ht : r'.at_ ≤ n) : ((n - r'.at_) + if r'.wrong = true then 0 else 1) < (n - r.at_) + if r.wrong = true then 0 else 1 := by
  rw [hw]
  have := hg.up
  rcases hg.on with e | e
  · rw [e]
    simp
    omega
  · split <;> simp <;> omega
theorem must_step {s : Txt} {r : Rd} {o : Option Tok} (h : textO o = s) : (mustF s r o).2 = step1 r := by
  unfold mustF
  rw [if_pos h]
theorem con_form (K : Nat) (T : List Tok) (r : Rd) : conR K T r = (if textO (next T r) = tProduct then seq (look (mustF tProduct)) fun _ => namesR K 3 false (conOf 2)
  else if textO (next T r) = tIff then seq (look (mustF tIff)) fun _ => seq (look variableF) fun x => sumR K { conOf 3 with vars := [x] }
  else if textO (next T r) = tElement then seq (look (mustF tElement)) fun _ => seq (namesR K 2 false (conOf 4)) fun c => brackets K 1 c
  else if textO (next T r) = tDifferent then seq (look (mustF tDifferent)) fun _ => namesR K 2 true (conOf 5)
  else if textO (next T r) = tTable then seq (look (mustF tTable)) fun _ => seq (namesR K 1 true (conOf 6)) fun c => brackets K 0 c
  else sumR K (conOf 1)) T r := rfl
theorem con_product {K : Nat} {T : List Tok} {r : Rd} (h : textO (next T r) = tProduct) : conR K T r = seq (namesR K 3 false (conOf 2)) (tailR K (-1)) T (step1 r) := by
  rw [con_form, if_pos h, ← must_step (s := tProduct) h]
  rfl
theorem con_iff {K : Nat} {T : List Tok} {r : Rd} (h : textO (next T r) = tIff) : conR K T r = sumR K { conOf 3 with vars := [(variableF (step1 r) (next T (step1 r))).1] } T (variableF (step1 r) (next T (step1 r))).2 := by
  rw [con_form, if_neg (by rw [h]; decide), if_pos h, ← must_step (s := tIff) h]
  rfl
theorem con_element {K : Nat} {T : List Tok} {r : Rd} (h : textO (next T r) = tElement) : conR K T r = seq (namesR K 2 false (conOf 4)) (tailR K 1) T (step1 r) := by
  rw [con_form, if_neg (by rw [h]; decide), if_neg (by rw [h]; decide), if_pos h, ← must_step (s := tElement) h]
  rfl
theorem con_different {K : Nat} {T : List Tok} {r : Rd} (h : textO (next T r) = tDifferent) : conR K T r = seq (namesR K 2 true (conOf 5)) (tailR K (-1)) T (step1 r) := by
  rw [con_form, if_neg (by rw [h]; decide), if_neg (by rw [h]; decide), if_neg (by rw [h]; decide), if_pos h, ← must_step (s := tDifferent) h]
  rfl
theorem con_table {K : Nat} {T : List Tok} {r : Rd} (h : textO (next T r) = tTable) : conR K T r = seq (namesR K 1 true (conOf 6)) (tailR K 0) T (step1 r) := by
  rw [con_form, if_neg (by rw [h]; decide), if_neg (by rw [h]; decide), if_neg (by rw [h]; decide), if_neg (by rw [h]; decide), if_pos h, ← must_step (s := tTable) h]
  rfl
theorem con_sum {K : Nat} {T : List Tok} {r : Rd} (h1 : textO (next T r) ≠ tProduct) (h2 : textO (next T r) ≠ tIff) (h3 : textO (next T r) ≠ tElement) (h4 : textO (next T r) ≠ tDifferent) (h5 : textO (next T r) ≠ tTable) : conR K T r = sumR K (conOf 1) T r := by
  rw [con_form, if_neg h1, if_neg h2, if_neg h3, if_neg h4, if_neg h5]
theorem tail_none {K : Nat} {c : PCon} {T : List Tok} {r : Rd} {nu : Int} (h : nu < 0) : tailR K nu c T r = (c, r) := by
  unfold tailR
  rw [if_pos h]
  rfl
theorem tail_some {K : Nat} {c : PCon} {T : List Tok} {r : Rd} {nu : Nat} : tailR K nu c T r = ((numsR K nu c T (mustF tOpen r (next T r)).2).1, (mustF tShut (numsR K nu c T (mustF tOpen r (next T r)).2).2 (next T (numsR K nu c T (mustF tOpen r (next T r)).2).2)).2) := by
  unfold tailR
  rw [if_neg (by omega)]
  rfl

end Go.Proofs.YtkgieaoahijheaaGreatDoor.Pa
namespace Go.Proofs.YtkgieaoahijheaaGreatDoor.Pa
open Go.RowKit
open Sc (Tok Cells str noTok)
set_option maxRecDepth 100000
section
variable {w0 w : World} {F : Nat → Prop} {g n : Nat} {pl : Option Addr} {bl ol cl : Nat} {pv : Option Addr} {bv ov m cv : Nat} {T : List Tok} {B base : Nat} {c : PCon} {r : Rd} {u1 u2 u3 : Value}
def zeroCon : Obj := .cells #[.int .i64 0, .slice none 0 0, .slice none 0 0, .int .i64 0, .int .i64 0, .slice none 0 0] 38
def oneCon : Obj := .cells #[.int .i64 1, .slice none 0 0, .slice none 0 0, .int .i64 0, .int .i64 0, .slice none 0 0] 38
def conW (w : World) : World := (w.alloc zeroCon).alloc oneCon
theorem Box6.but {F : Nat → Prop} {w w' : World} {b : Nat} {k r t : Int} {v1 v2 v3 : Value} (h : Box6 w b k v1 v2 r t v3) (hb : But F w w') (hF : ¬ F b) : Box6 w' b k v1 v2 r t v3 := h.same (hb.block b h.lt hF)
theorem kinds_apart {w : World} {b g : Nat} {e f : TypeId} (h : ∃ cs, w.heap[b]? = some (.cells cs e)) (k : ∃ cs, w.heap[g]? = some (.cells cs f)) (hne : e ≠ f) : b ≠ g := by
  rintro rfl
  obtain ⟨c1, e1⟩ := h
  obtain ⟨c2, e2⟩ := k
  rw [e1] at e2
  injection e2 with e2
  injection e2 with _ e2
  exact hne e2

end
end Go.Proofs.YtkgieaoahijheaaGreatDoor.Pa
namespace Go.Proofs.YtkgieaoahijheaaGreatDoor.Pa
open Go.RowKit
open Sc (Tok Cells str noTok)
set_option maxRecDepth 100000

theorem info50 : (Tryz.prog.info? 38).map (fun i => (i.zero, i.size, i.bytes)) = some (some (.agg #[.int .i64 0, .slice none 0 0, .slice none 0 0, .int .i64 0, .int .i64 0, .slice none 0 0]), 6, 96) := by kernel_rfl
/-- cells of a constraint with lists of its own -/
def conP (w : World) (base : Nat) (cs : List Value) (c : PCon) : Prop := ∃ u1 u2 u3 : Value, cs = [.int .i64 c.kind, u1, u2, .int .i64 c.rel, .int .i64 c.const, u3] ∧ Own3 w base c u1 u2 u3
def ConsAt (w : World) (base : Nat) (v : Value) (L : List PCon) : Prop := OwnsP (conP w base) 6 38 base w v L
section
variable {w0 w w' : World} {F : Nat → Prop} {g n : Nat} {pl : Option Addr} {bl ol cl : Nat} {pv : Option Addr} {bv ov m cv : Nat} {T : List Tok} {B base : Nat} {c : PCon} {r : Rd} {u1 u2 u3 v : Value} {L : List PCon}
theorem ConsAt.below (h : ConsAt w base v L) (hB : Below w.heap.size w w') : ConsAt w' base v L :=
  OwnsP.below (OwnsP.imp h (fun _ _ _ ⟨u1, u2, u3, e, o⟩ => ⟨u1, u2, u3, e, o.below hB⟩)) hB
theorem cons_nil (w : World) (base : Nat) : ConsAt w base (.slice none 0 0) [] := ownsP_nil _ _ _ _ _
theorem cons_one (o : Own3 w base c u1 u2 u3) (hb : base ≤ w.heap.size) : ConsAt (w.alloc (.cells #[.int .i64 c.kind, u1, u2, .int .i64 c.rel, .int .i64 c.const, u3] 38)) base (.slice (some ⟨w.heap.size, 0, none⟩) 1 1) [c] := by
  refine ⟨[.int .i64 c.kind, u1, u2, .int .i64 c.rel, .int .i64 c.const, u3], ⟨rfl, .inr ⟨w.heap.size, 1, _, rfl, hb, heap_alloc_new w _, Nat.le_refl _, by unfold maxLen; omega, rfl, rfl⟩⟩, rfl, fun k a hk => ?_⟩
  have hk1 := (List.getElem?_eq_some_iff.1 hk).1
  obtain rfl : k = 0 := by simp at hk1; omega
  obtain rfl : c = a := by simpa using hk
  exact ⟨_, rfl, fun j _ => by simp, u1, u2, u3, rfl, o.below ((Below.refl _ w).alloc (Nat.le_refl _) _)⟩
theorem But.turns (h : But (fun i => i = g) w w') : Moves g none w w' := ⟨h.os, h.tape, h.output, h.size, fun k hk hg _ => h.block k hk hg⟩
theorem Own3.grown50 {w : World} (h : Own3 w base c u1 u2 u3) (hk : ∀ k, v.ownBlock = some k → ∃ cs, w.heap[k]? = some (.cells cs 38)) (hg : w.grownBy w' v.ownBlock) : Own3 w' base c u1 u2 u3 :=
  h.same fun k q => hg.block k (Array.getElem?_eq_some_iff.1 q.choose_spec).1 (fun e => kinds_apart q (hk k e.symm) (by decide) rfl)
end
section
variable {w : World} {ops : Array Oper} {rest : List Oper} {o : Oper} {a : Act} {Q : Exit → Act → World → Prop} {base b c H : Nat} {v : Value} {L : List PCon} {y : PCon} {u1 u2 u3 : Value}
/-- a constraint behind a list -/
theorem put_con (hgd : o.guard = none) (s x : Operand) (ho : o.op = .call { callee := .builtin .append, args := #[s, x], argTypes := #[23, 23] }) (hs : a.eval s = v) (hx : a.eval x = .slice (some ⟨b, 0, none⟩) 1 c) (hown : ConsAt w base v L)
    (hbx : Box6 w b y.kind u1 u2 y.rel y.const u3) (hy : Own3 w base y u1 u2 u3) (hsm : L.length ≤ 100000) (hbase : base ≤ w.heap.size)
    (h : ∀ p cap w', ConsAt w' base (.slice p (L.length + 1) cap) (L ++ [y]) → w.grownBy w' v.ownBlock → ((Value.slice p (L.length + 1) cap).ownBlock = v.ownBlock ∨ (Value.slice p (L.length + 1) cap).ownBlock = some w.heap.size) → wpList Tryz.prog ops Q rest (a.put o.dst (.slice p (L.length + 1) cap)) w') : wpList Tryz.prog ops Q (o :: rest) a w := by
  obtain ⟨i0, hi, hz0, hz1, hz2⟩ := info_parts info50
  have hkd : ∀ k, v.ownBlock = some k → ∃ cs, w.heap[k]? = some (.cells cs 38) := fun k hk => OwnsP.kind hown hk
  obtain ⟨os, o1, o2, o3⟩ := hown
  obtain ⟨p1, k1, e1⟩ := hy.o1.shape
  obtain ⟨p2, k2, e2⟩ := hy.o2.shape
  obtain ⟨p3, k3, e3⟩ := hy.o3.shape
  refine wpList_append_lies w hgd s x 23 ho base 38 i0 _ 6 96 Tryz.underlying23 hi hz0 hz1 hz2 rfl (by decide) v L.length os hs o1 ⟨b, 0, none⟩ 1 c [.int .i64 y.kind, u1, u2, .int .i64 y.rel, .int .i64 y.const, u3] hx (by simp) (fun j u hj => ?_) (by rw [e1, e2, e3]; simp [Value.oneCell']) (by decide) (by unfold maxLen; omega) (by omega) hbase w.heap.size rfl (fun g cap w' g1 g2 g3 _ => h _ cap w' (ownsP_snoc o2 (fun k a' hk => ?_) rfl ⟨u1, u2, u3, rfl, hy.grown50 hkd g2⟩ g1) g2 ?_)
  · rw [add_plain', Nat.zero_add]
    exact hbx.cell j (by simpa using hj)
  · obtain ⟨d, d1, d2, x1, x2, x3, d3, d4⟩ := o3 k a' hk
    exact ⟨d, d1, d2, x1, x2, x3, d3, d4.grown50 hkd g2⟩
  · rcases g3 with q | q
    · exact .inl q.symm
    · exact .inr (by rw [← q]; rfl)
end
theorem ands_eq (K j : Nat) (l : List PCon) (T : List Tok) (r : Rd) : andsR K (j + 1) l T r = if (hasF tAnd r (next T r)).1 = true then andsR K j (l ++ [(conR K T (hasF tAnd r (next T r)).2).1]) T (conR K T (hasF tAnd r (next T r)).2).2 else (l, (hasF tAnd r (next T r)).2) := by
  show (if (hasF tAnd r (next T r)).1 = true then seq (conR K) fun c => andsR K j (l ++ [c]) else ret l) T (hasF tAnd r (next T r)).2 = _
  rw [if_app]
  rfl
theorem list_eq (K : Nat) (T : List Tok) (r : Rd) : listR K T r = if (hasF tTrue r (next T r)).1 = true then ([], (hasF tTrue r (next T r)).2) else andsR K K [(conR K T (hasF tTrue r (next T r)).2).1] T (conR K T (hasF tTrue r (next T r)).2).2 := by
  show (if (hasF tTrue r (next T r)).1 = true then ret [] else seq (conR K) fun c => andsR K K [c]) T (hasF tTrue r (next T r)).2 = _
  rw [if_app]
  rfl
theorem has_on {s : Txt} {r : Rd} {o : Option Tok} (h : (hasF s r o).1 = true) : (hasF s r o).2 = step1 r := by
  unfold hasF at h ⊢
  split at h
  · rename_i e
    rw [if_pos e]
  · cases h
section
variable {w : World} {g n : Nat} {pl : Option Addr} {bl ol cl : Nat} {pv : Option Addr} {bv ov m cv : Nat} {T : List Tok} {r : Rd}
end
end Go.Proofs.YtkgieaoahijheaaGreatDoor.Pa
namespace Go.Proofs.YtkgieaoahijheaaGreatDoor.Pa
open Go.RowKit
open Sc (Tok Cells str noTok)
set_option maxRecDepth 100000

def nameP (cs : List Value) (s : Txt) : Prop := cs = [str s]
def spanP (cs : List Value) (p : Int × Int) : Prop := cs = [.int .i64 p.1, .int .i64 p.2] ∧ Fit p.1 ∧ Fit p.2
def declP (w : World) (base : Nat) (cs : List Value) (d : PDecl) : Prop := ∃ (s : ByteArray) (u : Value), cs = [.string s, u] ∧ txt s = d.name ∧ OwnsP spanP 2 71 base w u d.dom
def DeclsAt (w : World) (base : Nat) (v : Value) (L : List PDecl) : Prop := OwnsP (declP w base) 2 45 base w v L
theorem info9 : (Tryz.prog.info? 9).map (fun i => (i.zero, i.size, i.bytes)) = some (some (.string ⟨#[]⟩), 1, 16) := by kernel_rfl
theorem info41 : (Tryz.prog.info? 71).map (fun i => (i.zero, i.size, i.bytes)) = some (some (.agg #[.int .i64 0, .int .i64 0]), 2, 16) := by kernel_rfl
theorem info44 : (Tryz.prog.info? 45).map (fun i => (i.zero, i.size, i.bytes)) = some (some (.agg #[.string ⟨#[]⟩, .slice none 0 0]), 2, 40) := by kernel_rfl
theorem info47 : (Tryz.prog.info? 42).map (fun i => (i.zero, i.size, i.bytes)) = some (some (.agg #[.bool false, .slice none 0 0, .slice none 0 0]), 3, 56) := by kernel_rfl
section
variable {α : Type} {R : List Value → α → Prop} {k e f base : Nat} {w w' : World} {v u : Value} {L : List α}
theorem OwnsP.set {b j : Nat} {x : Value} (h : OwnsP R k e base w v L) (hb : ∃ cs, w.heap[b]? = some (.cells cs f)) (he : e ≠ f) : OwnsP R k e base (w.setCell ⟨b, j, none⟩ x) v L :=
  h.same fun i hi => Below.heap_setCell w ⟨b, j, none⟩ x i (kinds_apart (h.kind hi) hb he)
theorem OwnsP.grown (h : OwnsP R k e base w v L) (hu : ∀ i, u.ownBlock = some i → ∃ cs, w.heap[i]? = some (.cells cs f)) (hg : w.grownBy w' u.ownBlock) (he : e ≠ f) : OwnsP R k e base w' v L :=
  h.same fun i hi => hg.block i (h.lt i hi).2 (fun e' => kinds_apart (h.kind hi) (hu i e'.symm) he rfl)
end
section
variable {w w' : World} {base : Nat} {v : Value} {L : List PDecl} {g f b j : Nat} {u x : Value}
theorem DeclsAt.below (h : DeclsAt w base v L) (hB : Below w.heap.size w w') : DeclsAt w' base v L :=
  OwnsP.below (OwnsP.imp h (fun _ _ _ ⟨s, u, e, t, o⟩ => ⟨s, u, e, t, o.below hB⟩)) hB
theorem DeclsAt.set (h : DeclsAt w base v L) (hb : ∃ cs, w.heap[b]? = some (.cells cs f)) (h1 : 45 ≠ f) (h2 : 71 ≠ f) : DeclsAt (w.setCell ⟨b, j, none⟩ x) base v L :=
  OwnsP.set (OwnsP.imp h (fun _ _ _ ⟨s, u, e, t, o⟩ => ⟨s, u, e, t, OwnsP.set o hb h2⟩)) hb h1
theorem DeclsAt.grown (h : DeclsAt w base v L) (hu : ∀ i, u.ownBlock = some i → ∃ cs, w.heap[i]? = some (.cells cs f)) (hg : w.grownBy w' u.ownBlock) (h1 : 45 ≠ f) (h2 : 71 ≠ f) : DeclsAt w' base v L :=
  OwnsP.grown (OwnsP.imp h (fun _ _ _ ⟨s, u, e, t, o⟩ => ⟨s, u, e, t, OwnsP.grown o hu hg h2⟩)) hu hg h1
theorem decls_nil (w : World) (base : Nat) : DeclsAt w base (.slice none 0 0) [] := ownsP_nil _ _ _ _ _
end
/-- names in a row of its own are names in memory -/
theorem nm_of_owns {w : World} {base : Nat} {p : Option Addr} {m c : Nat} {L : List Txt} (h : OwnsP nameP 1 9 base w (.slice p m c) L) : m = L.length ∧ ∃ b, NmAt w p b 0 m L ∧ (0 < m → (Value.slice p m c).ownBlock = some b) := by
  have hm : m = L.length := by
    obtain ⟨p', k, e⟩ := h.shape
    simp only [Value.slice.injEq] at e
    exact e.2.1
  refine ⟨hm, ?_⟩
  obtain ⟨cs, h1, h2, h3⟩ := h
  have h0 := h1
  rcases h1.2 with ⟨e, hl⟩ | ⟨b, cap, cur, e, hb, hg, hn, hc, hs, ht⟩
  · exact ⟨0, ⟨hm, fun h => by omega, fun k hk => by omega⟩, fun h => by omega⟩
  · simp only [Value.slice.injEq] at e
    obtain ⟨rfl, rfl, rfl⟩ := e
    refine ⟨b, ⟨hm, fun _ => rfl, fun k hk => ?_⟩, fun _ => rfl⟩
    obtain ⟨d, d1, d2, d3⟩ := h3 k _ (List.getElem?_eq_getElem (by omega : k < L.length))
    have h5 := h0.cellAt (k * 1 + 0) (by omega)
    rw [d2 0 (by omega), d3] at h5
    rw [show (k * 1 + 0) = 0 + k by omega] at h5
    rw [h5]
    simp [List.getD, List.getElem?_eq_getElem (by omega : k < L.length)]
section
variable {α : Type} {R : List Value → α → Prop} {w : World} {ops : Array Oper} {rest : List Oper} {o : Oper} {a : Act} {Q : Exit → Act → World → Prop} {base b c k by_ e t : Nat} {v z : Value} {L : List α} {y : α} {cs : List Value}
theorem put_row (hi : (Tryz.prog.info? e).map (fun i => (i.zero, i.size, i.bytes)) = some (some z, k, by_)) (hzc : z.cells.size = k) (hpos : 0 < k) (hby : by_ ≤ 128) (ht : Tryz.prog.underlying t = some (.slice e)) (hgd : o.guard = none) (s x : Operand) (ho : o.op = .call { callee := .builtin .append, args := #[s, x], argTypes := #[t, t] }) (hs : a.eval s = v) (hx : a.eval x = .slice (some ⟨b, 0, none⟩) 1 c)
    (hown : OwnsP R k e base w v L) (hlen : cs.length = k) (hcell : ∀ j u, cs[j]? = some u → w.cell? ⟨b, j, none⟩ = some u) (h1 : ∀ u ∈ cs, u.oneCell' = true) (hR : R cs y) (hsm : L.length ≤ 100000) (hbase : base ≤ w.heap.size)
    (h : ∀ p cap w', OwnsP R k e base w' (.slice p (L.length + 1) cap) (L ++ [y]) → w.grownBy w' v.ownBlock → ((Value.slice p (L.length + 1) cap).ownBlock = v.ownBlock ∨ (Value.slice p (L.length + 1) cap).ownBlock = some w.heap.size) → wpList Tryz.prog ops Q rest (a.put o.dst (.slice p (L.length + 1) cap)) w') : wpList Tryz.prog ops Q (o :: rest) a w := by
  obtain ⟨i0, hi, hz0, hz1, hz2⟩ := info_parts hi
  obtain ⟨os, o1, o2, o3⟩ := hown
  refine wpList_append_lies w hgd s x t ho base e i0 z k by_ ht hi hz0 hz1 hz2 hzc hpos v L.length os hs o1 ⟨b, 0, none⟩ 1 c cs hx (by rw [hlen, Nat.one_mul]) (fun j u hj => by rw [add_plain', Nat.zero_add]; exact hcell j u hj) h1 (by decide) (by unfold maxLen; omega) ?_ hbase w.heap.size rfl (fun g cap w' g1 g2 g3 _ => h _ cap w' (ownsP_snoc o2 o3 hlen hR g1) g2 ?_)
  · have : (L.length + 1) * by_ ≤ 100001 * 128 := Nat.mul_le_mul (by omega) hby
    omega
  · rcases g3 with q | q
    · exact .inl q.symm
    · exact .inr (by rw [← q]; rfl)
theorem put_row_step {K : Act → World → Prop} {E : Prop} (hi : (Tryz.prog.info? e).map (fun i => (i.zero, i.size, i.bytes)) = some (some z, k, by_)) (hzc : z.cells.size = k) (hpos : 0 < k) (hby : by_ ≤ 128) (ht : Tryz.prog.underlying t = some (.slice e)) (hgd : o.guard = none) (s x : Operand) (ho : o.op = .call { callee := .builtin .append, args := #[s, x], argTypes := #[t, t] }) (hs : a.eval s = v) (hx : a.eval x = .slice (some ⟨b, 0, none⟩) 1 c)
    (hown : OwnsP R k e base w v L) (hlen : cs.length = k) (hcell : ∀ j u, cs[j]? = some u → w.cell? ⟨b, j, none⟩ = some u) (h1 : ∀ u ∈ cs, u.oneCell' = true) (hR : R cs y) (hsm : L.length ≤ 100000) (hbase : base ≤ w.heap.size)
    (h : ∀ p cap w', OwnsP R k e base w' (.slice p (L.length + 1) cap) (L ++ [y]) → w.grownBy w' v.ownBlock → ((Value.slice p (L.length + 1) cap).ownBlock = v.ownBlock ∨ (Value.slice p (L.length + 1) cap).ownBlock = some w.heap.size) → K (a.put o.dst (.slice p (L.length + 1) cap)) w') : if Region.wanted o (yielded ops a.tmps) = true then Oper.wp Tryz.prog o a w K Q else E := by
  obtain ⟨i0, hi, hz0, hz1, hz2⟩ := info_parts hi
  obtain ⟨os, o1, o2, o3⟩ := hown
  refine step_append_lies w hgd s x t ho base e i0 z k by_ ht hi hz0 hz1 hz2 hzc hpos v L.length os hs o1 ⟨b, 0, none⟩ 1 c cs hx (by rw [hlen, Nat.one_mul]) (fun j u hj => by rw [add_plain', Nat.zero_add]; exact hcell j u hj) h1 (by decide) (by unfold maxLen; omega) ?_ hbase w.heap.size rfl (fun g cap w' g1 g2 g3 _ => h _ cap w' (ownsP_snoc o2 o3 hlen hR g1) g2 ?_)
  · have : (L.length + 1) * by_ ≤ 100001 * 128 := Nat.mul_le_mul (by omega) hby
    omega
  · rcases g3 with q | q
    · exact .inl q.symm
    · exact .inr (by rw [← q]; rfl)
end
section
variable {w w' : World} {base g n : Nat} {pl : Option Addr} {bl ol cl : Nat} {pv : Option Addr} {bv ov m cv : Nat} {T : List Tok} {r : Rd}
theorem five_set {u : World} {g : Nat} {V v0 v1 v2 v3 v4 : Value} (c0 : u.cell? ⟨g, 0, none⟩ = some v0) (c1 : u.cell? ⟨g, 1, none⟩ = some v1) (c2 : u.cell? ⟨g, 2, none⟩ = some v2) (c3 : u.cell? ⟨g, 3, none⟩ = some v3) (c4 : u.cell? ⟨g, 4, none⟩ = some v4) (f1 : u.frozen? ⟨g, 1, none⟩ = false) (f2 : u.frozen? ⟨g, 2, none⟩ = false) (f3 : u.frozen? ⟨g, 3, none⟩ = false) (f4 : u.frozen? ⟨g, 4, none⟩ = false) :
    ((u.setCell ⟨g, 3, none⟩ V).cell? ⟨g, 0, none⟩ = some v0 ∧ (u.setCell ⟨g, 3, none⟩ V).cell? ⟨g, 1, none⟩ = some v1 ∧ (u.setCell ⟨g, 3, none⟩ V).cell? ⟨g, 2, none⟩ = some v2 ∧ (u.setCell ⟨g, 3, none⟩ V).cell? ⟨g, 3, none⟩ = some V ∧ (u.setCell ⟨g, 3, none⟩ V).cell? ⟨g, 4, none⟩ = some v4) ∧
      (u.setCell ⟨g, 3, none⟩ V).frozen? ⟨g, 1, none⟩ = false ∧ (u.setCell ⟨g, 3, none⟩ V).frozen? ⟨g, 2, none⟩ = false ∧ (u.setCell ⟨g, 3, none⟩ V).frozen? ⟨g, 3, none⟩ = false ∧ (u.setCell ⟨g, 3, none⟩ V).frozen? ⟨g, 4, none⟩ = false :=
  ⟨⟨by go_simp, by go_simp, by go_simp, by go_simp, by go_simp⟩, by go_simp, by go_simp, by go_simp, by go_simp⟩
end
end Go.Proofs.YtkgieaoahijheaaGreatDoor.Pa
namespace Go.Proofs.YtkgieaoahijheaaGreatDoor.Pa
open Go.RowKit
open Sc (Tok Cells str noTok)
set_option maxRecDepth 100000

def rangeOne : Rx (Int × Int) := seq number fun lo => seq (look (hasF tDots)) fun b => seq (highR b lo) fun hi => ret (lo, hi)
def moreD (T : List Tok) (r : Rd) : Bool := decide (kindO (next T r) = 2) || decide (textO (next T r) = tMinus)
theorem ranges_eq (j : Nat) (l : List (Int × Int)) (T : List Tok) (r : Rd) : rangesR (j + 1) l T r = if moreD T (rangeOne T r).2 = true then rangesR j (l ++ [(rangeOne T r).1]) T (rangeOne T r).2 else (l ++ [(rangeOne T r).1], (rangeOne T r).2) := by
  show (if moreD T (rangeOne T r).2 = true then rangesR j (l ++ [(rangeOne T r).1]) else ret (l ++ [(rangeOne T r).1])) T (rangeOne T r).2 = _
  rw [if_app]
  rfl
theorem range_form (T : List Tok) (r : Rd) : rangeOne T r = (((number T r).1, (highR (hasF tDots (number T r).2 (next T (number T r).2)).1 (number T r).1 T (hasF tDots (number T r).2 (next T (number T r).2)).2).1), (highR (hasF tDots (number T r).2 (next T (number T r).2)).1 (number T r).1 T (hasF tDots (number T r).2 (next T (number T r).2)).2).2) := rfl
theorem range_went (T : List Tok) (r : Rd) : Went r (rangeOne T r).2 := by
  have h1 := number_went T r
  have h2 : (number T r).2.at_ ≤ (hasF tDots (number T r).2 (next T (number T r).2)).2.at_ := (fine_look (ok_has (s := tDots) (by decide))).up T _
  have h3 := (fine_high (hasF tDots (number T r).2 (next T (number T r).2)).1 (number T r).1).up T (hasF tDots (number T r).2 (next T (number T r).2)).2
  rw [range_form]
  refine ⟨by have := h1.up; show _ ≤ _; simp only; omega, ?_⟩
  rcases h1.on with e | e
  · refine .inl ?_
    have e2 : (hasF tDots (number T r).2 (next T (number T r).2)) = (false, (number T r).2) := by
      rw [next_wrong e]
      rfl
    show (highR (hasF tDots (number T r).2 (next T (number T r).2)).1 (number T r).1 T (hasF tDots (number T r).2 (next T (number T r).2)).2).2.wrong = true
    rw [e2]
    exact e
  · exact .inr (by simp only; omega)
theorem range_few {T : List Tok} {r : Rd} (hv : ∀ t ∈ T, t.value ≤ 2000000000000) : Fit (rangeOne T r).1.1 ∧ Fit (rangeOne T r).1.2 := by
  rw [range_form]
  have h1 := number_few (r := r) hv
  refine ⟨by unfold Fit; simp only; omega, ?_⟩
  simp only [highR]
  split
  · have h2 := number_few (r := (hasF tDots (number T r).2 (next T (number T r).2)).2) hv
    unfold Fit; omega
  · show Fit (number T r).1
    unfold Fit; omega
theorem more_right {T : List Tok} {r : Rd} (h : moreD T r = true) : r.wrong = false := by
  refine right_of fun hw => ?_
  unfold moreD at h
  rw [next_wrong hw] at h
  simp [kindO, textO, tMinus] at h
def declOne (K : Nat) : Rx PDecl := seq (look nameF) fun s => seq (look (mustF tIn)) fun _ => seq (rangesR K []) fun dom => seq (addVar s) fun _ => ret ⟨s, dom⟩
theorem decls_eq (K j : Nat) (l : List PDecl) (T : List Tok) (r : Rd) : declsR K (j + 1) l T r = if (hasF tComma (declOne K T r).2 (next T (declOne K T r).2)).1 = true then declsR K j (l ++ [(declOne K T r).1]) T (hasF tComma (declOne K T r).2 (next T (declOne K T r).2)).2 else (l ++ [(declOne K T r).1], (hasF tComma (declOne K T r).2 (next T (declOne K T r).2)).2) := by
  show (if (hasF tComma (declOne K T r).2 (next T (declOne K T r).2)).1 = true then declsR K j (l ++ [(declOne K T r).1]) else ret (l ++ [(declOne K T r).1])) T (hasF tComma (declOne K T r).2 (next T (declOne K T r).2)).2 = _
  rw [if_app]
  rfl
/-- what a variable's name and 'in' leave -/
def declHead (T : List Tok) (r : Rd) : Rd := (mustF tIn (nameF r (next T r)).2 (next T (nameF r (next T r)).2)).2
theorem decl_form (K : Nat) (T : List Tok) (r : Rd) : declOne K T r = (⟨(nameF r (next T r)).1, (rangesR K [] T (declHead T r)).1⟩, { (rangesR K [] T (declHead T r)).2 with vars := (rangesR K [] T (declHead T r)).2.vars ++ [(nameF r (next T r)).1] }) := rfl
theorem block_form (K : Nat) (T : List Tok) (r : Rd) : blockR K T r = (seq (headR (hasF tForall r (next T r)).1) fun _ => seq (declsR K K []) fun vs => seq (look (hasF tWhere)) fun b => seq (whereR K b) fun cs => seq (look (mustF tSemi)) fun _ => ret ⟨(hasF tForall r (next T r)).1, vs, cs⟩) T (hasF tForall r (next T r)).2 := rfl

/-- a block's variable: three cells -/
def Box3 (w : World) (b : Nat) (x y z : Value) : Prop := w.heap[b]? = some (.cells #[x, y, z] 42)
/-- a variable's: two -/
def Box2 (w : World) (b : Nat) (x y : Value) : Prop := w.heap[b]? = some (.cells #[x, y] 45)
section
variable {w w' : World} {b g : Nat} {x y z v : Value}
theorem Box3.kind (h : Box3 w b x y z) : ∃ cs, w.heap[b]? = some (.cells cs 42) := ⟨_, h⟩
theorem Box2.kind (h : Box2 w b x y) : ∃ cs, w.heap[b]? = some (.cells cs 45) := ⟨_, h⟩
theorem Box3.lt (h : Box3 w b x y z) : b < w.heap.size := (Array.getElem?_eq_some_iff.1 h).1
theorem Box2.lt (h : Box2 w b x y) : b < w.heap.size := (Array.getElem?_eq_some_iff.1 h).1
theorem Box3.cell (h : Box3 w b x y z) (j : Nat) {u : Value} (hx : #[x, y, z][j]? = some u) : w.cell? ⟨b, j, none⟩ = some u := by
  unfold Box3 at h
  simp only [World.cell?, h]
  exact hx
theorem Box2.cell (h : Box2 w b x y) (j : Nat) {u : Value} (hx : #[x, y][j]? = some u) : w.cell? ⟨b, j, none⟩ = some u := by
  unfold Box2 at h
  simp only [World.cell?, h]
  exact hx
theorem Box3.frozen (h : Box3 w b x y z) (j : Nat) : w.frozen? ⟨b, j, none⟩ = false := frozen_of_row w b j _ 42 h
theorem Box2.frozen (h : Box2 w b x y) (j : Nat) : w.frozen? ⟨b, j, none⟩ = false := frozen_of_row w b j _ 45 h
theorem Box3.below (h : Box3 w b x y z) (hB : Below w.heap.size w w') : Box3 w' b x y z := (hB.block b h.lt).trans h
theorem Box2.below (h : Box2 w b x y) (hB : Below w.heap.size w w') : Box2 w' b x y := (hB.block b h.lt).trans h
theorem Box3.grown {f : Nat} (h : Box3 w b x y z) (hu : ∀ i, v.ownBlock = some i → ∃ cs, w.heap[i]? = some (.cells cs f)) (hg : w.grownBy w' v.ownBlock) (he : 42 ≠ f) : Box3 w' b x y z := (hg.block b h.lt (fun e => kinds_apart h.kind (hu b e.symm) he rfl)).trans h
theorem Box2.grown {f : Nat} (h : Box2 w b x y) (hu : ∀ i, v.ownBlock = some i → ∃ cs, w.heap[i]? = some (.cells cs f)) (hg : w.grownBy w' v.ownBlock) (he : 45 ≠ f) : Box2 w' b x y := (hg.block b h.lt (fun e => kinds_apart h.kind (hu b e.symm) he rfl)).trans h
theorem Box3.set (h : Box3 w b x y z) (u : Value) : Box3 (w.setCell ⟨b, 0, none⟩ u) b u y z ∧ Box3 (w.setCell ⟨b, 1, none⟩ u) b x u z ∧ Box3 (w.setCell ⟨b, 2, none⟩ u) b x y u := by
  unfold Box3 at *
  simp only [World.setCell, Array.getElem?_modify, h]
  exact ⟨rfl, rfl, rfl⟩
theorem Box2.set (h : Box2 w b x y) (u : Value) : Box2 (w.setCell ⟨b, 1, none⟩ u) b x u := by
  unfold Box2 at *
  simp only [World.setCell, Array.getElem?_modify, h]
  rfl
end
end Go.Proofs.YtkgieaoahijheaaGreatDoor.Pa
namespace Go.Proofs.YtkgieaoahijheaaGreatDoor.Pa
open Go.RowKit
open Sc (Tok Cells str noTok)
set_option maxRecDepth 100000

theorem Moves.put {g b j : Nat} {w w' : World} {x : Value} (h : Moves g none w w') (hb : w.heap.size ≤ b) : Moves g none w (w'.setCell ⟨b, j, none⟩ x) :=
  ⟨h.os, h.tape, h.output, by have := h.size; simp [World.setCell]; exact this, fun k hk hg hv => (Below.heap_setCell _ _ _ _ (show k ≠ b by omega)).trans (h.block k hk hg hv)⟩
theorem Moves.grows {g : Nat} {w w' w'' : World} {row : Option Nat} (h : Moves g none w w') (hg : w'.grownBy w'' row) (hr : ∀ k, row = some k → w.heap.size ≤ k) : Moves g none w w'' :=
  ⟨hg.os.trans h.os, hg.tape.trans h.tape, hg.output.trans h.output, Nat.le_trans h.size hg.size, fun k hk h1 h2 => (hg.block k (Nat.lt_of_lt_of_le hk h.size) (fun e => by have := hr k e.symm; omega)).trans (h.block k hk h1 h2)⟩
section
variable {w0 w w' : World} {F : Nat → Prop} {g n : Nat} {pl : Option Addr} {bl ol cl : Nat} {pv : Option Addr} {bv ov m cv : Nat} {T : List Tok} {base : Nat} {all : Bool} {l : List PDecl} {cs : List PCon} {r : Rd} {v1 v2 : Value}
theorem ConsAt.set {b j f : Nat} {x v : Value} {L : List PCon} (h : ConsAt w base v L) (hb : ∃ cs, w.heap[b]? = some (.cells cs f)) (h1 : 38 ≠ f) (h2 : 3 ≠ f) : ConsAt (w.setCell ⟨b, j, none⟩ x) base v L :=
  OwnsP.set (OwnsP.imp h (fun _ _ _ ⟨u1, u2, u3, e, o⟩ => ⟨u1, u2, u3, e, ⟨OwnsP.set o.o1 hb h2, OwnsP.set o.o2 hb h2, OwnsP.set o.o3 hb h2, o.p12, o.p13, o.p23⟩⟩)) hb h1
end
theorem results_block {fn : Func} {p : Tmp} (h : fn.results = #[.cell p 42]) (tmps : Array Value) (w : World) (b : Nat) (v0 v1 v2 : Value) (hp : tmps.getD p undef = .pointer (some ⟨b, 0, none⟩)) (c0 : w.cell? ⟨b, 0, none⟩ = some v0) (c1 : w.cell? ⟨b, 1, none⟩ = some v1) (c2 : w.cell? ⟨b, 2, none⟩ = some v2) :
    (results fn tmps).run Tryz.prog w = .ok (.agg #[v0, v1, v2]) w := by
  have hp' : tmps[p]?.getD undef = .pointer (some ⟨b, 0, none⟩) := by simpa using hp
  simp only [results, h]
  simp [hp', asAddr]
  go_simp
end Go.Proofs.YtkgieaoahijheaaGreatDoor.Pa
