/-
  What the writer puts out of a model that may be is its text; of a constraint, its tokens. Nothing of the program's text.
  What the copies of a text, and of a list of spans, answer.
-/
import Derived.Test.YtkgieaoahijheaaDoorZYBE
import Derived.Test.YtkgieaoahijheaaDoorZYAZ
import Derived.Test.YtkgieaoahijheaaDoorZYAA
namespace Go.Proofs.YtkgieaoahijheaaDoor.Wt
open Go.RowKit
open Sc (Tok)
open Pa
set_option maxRecDepth 100000

/-- tokens of which none is the one that ends a line -/
def NoS (ts : List Tok) : Prop := ∀ t ∈ ts, t.text ≠ [59]
theorem noS_app {a b : List Tok} (ha : NoS a) (hb : NoS b) : NoS (a ++ b) := fun t ht => (List.mem_append.1 ht).elim (ha t) (hb t)
theorem noS_cons {t : Tok} {b : List Tok} (ha : t.text ≠ [59]) (hb : NoS b) : NoS (t :: b) := fun x hx => (List.mem_cons.1 hx).elim (fun e => by rw [e]; exact ha) (hb x)
theorem noS_nil : NoS [] := fun t ht => by cases ht
theorem noS_flat {α : Type} {l : List α} {f : α → List Tok} (h : ∀ a ∈ l, NoS (f a)) : NoS (l.flatMap f) := fun t ht => by
  obtain ⟨a, ha, hta⟩ := List.mem_flatMap.1 ht
  exact h a ha t hta
theorem noS_num (z : Int) : NoS (numT z) := by
  unfold numT
  split
  · exact noS_cons (by decide) (noS_cons (digs_mark (by decide)) noS_nil)
  · exact noS_cons (digs_mark (by decide)) noS_nil
section
variable {nm : Int → Tok} (hn : ∀ v, (nm v).text ≠ [59])
include hn
theorem noS_sum : ∀ (l : List (Int × Int)) (first : Bool), NoS (sumT nm first l)
  | [], _ => noS_nil
  | (v, k) :: l, first => by
    refine noS_app ?_ (noS_app ?_ (noS_app (noS_cons (hn v) noS_nil) (noS_sum l false)))
    · unfold signT
      split
      · exact noS_cons (by decide) noS_nil
      · split
        · exact noS_nil
        · exact noS_cons (by decide) noS_nil
    · unfold coefT
      split
      · exact noS_nil
      · exact noS_cons (digs_mark (by decide)) (noS_cons (by decide) noS_nil)
theorem noS_sums (l : List (Int × Int)) (r c : Int) : NoS (sumsT nm l r c) := by
  refine noS_app (noS_sum hn l true) (noS_app (noS_cons ?_ noS_nil) (noS_num c))
  show relsL.getD r.toNat [] ≠ [59]
  intro e
  have hm : ∀ n, relsL.getD n [] ∈ relsL ∨ relsL.getD n [] = [] := fun n => by
    rw [List.getD_eq_getElem?_getD]
    cases h : relsL[n]? with
    | none => exact .inr rfl
    | some x => exact .inl (List.mem_of_getElem? h)
  rcases hm r.toNat with h | h
  · rw [e] at h
    revert h
    decide
  · rw [e] at h
    cases h
theorem noS_con (c : PCon) : NoS (conT nm c) := by
  unfold conT
  split
  · exact noS_sums hn _ _ _
  · split
    · exact noS_cons (by decide) (noS_cons (hn _) (noS_sums hn _ _ _))
    · refine noS_cons ?_ (noS_app (fun t ht => ?_) ?_)
      · show wordT c.kind ≠ [59]
        unfold wordT
        split
        · decide
        · split
          · decide
          · split <;> decide
      · obtain ⟨v, _, rfl⟩ := List.mem_map.1 ht
        exact hn v
      · split
        · exact noS_cons (by decide) (noS_app (noS_flat fun z _ => noS_num z) (noS_cons (by decide) noS_nil))
        · exact noS_nil
theorem noS_list (l : List PCon) : NoS (listT nm l) := by
  cases l with
  | nil => exact noS_cons (by decide) noS_nil
  | cons c l => exact noS_app (noS_con hn c) (noS_flat fun x _ => noS_cons (by decide) (noS_con hn x))
theorem noS_goal (l : List PCon) : NoS (goalH nm l) := noS_cons (by decide) (noS_list hn l)
theorem noS_block (b : PBlock) (hd : ∀ d ∈ b.vars, d.name ≠ [59]) : NoS (blockH nm b) := by
  have hdecl : ∀ d ∈ b.vars, NoS (declT d) := fun d hm => noS_cons (hd d hm) (noS_cons (by decide) (noS_flat fun p _ => by
    unfold spanT
    refine noS_app (noS_num _) ?_
    split
    · exact noS_nil
    · exact noS_cons (by decide) (noS_num _)))
  have hds : NoS (declsT b.vars) := by
    revert hdecl
    generalize b.vars = l
    intro hdecl
    cases l with
    | nil => exact noS_nil
    | cons d l => exact noS_app (hdecl d (by simp)) (noS_flat fun x hx => noS_cons (by decide) (hdecl x (by simp [hx])))
  refine noS_cons ?_ (noS_app hds ?_)
  · show (if b.all = true then tForall else tExists) ≠ [59]
    split <;> decide
  · split
    · exact noS_nil
    · exact noS_cons (by decide) (noS_list hn _)
end
theorem putT_no (ts : List Tok) (h : NoS ts) : putT ts = ts.flatMap fun t => t.text ++ [32] := by
  unfold putT putX
  rw [List.flatMap_map]
  induction ts with
  | nil => rfl
  | cons t ts ih =>
    rw [List.flatMap_cons, List.flatMap_cons, ih fun x hx => h x (by simp [hx])]
    congr 1
    unfold sepO
    rw [if_neg (h t (by simp))]
theorem putT_line (ts : List Tok) (h : NoS ts) : putT (ts ++ [tM tSemi]) = lineL ts := by
  rw [putT_app, putT_no ts h, putT_one]
  unfold lineL lineP
  rw [sep_app]
  have : sepL (ts.map fun t => (t, (32 : UInt8))) = ts.flatMap fun t => t.text ++ [32] := by unfold sepL; rw [List.flatMap_map]
  rw [this]
  rfl
theorem putT_model {nm : Int → Tok} (hn : ∀ v, (nm v).text ≠ [59]) (m : PModel) (hd : ∀ b ∈ m.blocks, ∀ d ∈ b.vars, d.name ≠ [59]) : putT (modelT nm m) = textL nm m := by
  unfold modelT textL pairsM
  rw [putT_app, sep_app, putT_line _ (noS_goal hn m.goal)]
  congr 1
  show putT (m.blocks.flatMap (blockT nm)) = sepL (m.blocks.flatMap fun b => lineP (blockH nm b))
  have : ∀ l : List PBlock, (∀ b ∈ l, ∀ d ∈ b.vars, d.name ≠ [59]) → putT (l.flatMap (blockT nm)) = sepL (l.flatMap fun b => lineP (blockH nm b)) := by
    intro l
    induction l with
    | nil => intro _; rfl
    | cons b l ih =>
      intro h
      rw [List.flatMap_cons, List.flatMap_cons, putT_app, sep_app, ih fun x hx => h x (by simp [hx])]
      congr 1
      exact putT_line _ (noS_block hn b (h b (by simp)))
  exact this _ hd
/-- of tokens of which none ends a line: a space ahead, or behind -/
theorem putT_sp (ts : List Tok) (h : NoS ts) : [32] ++ putT ts = spT ts ++ [32] := by
  rw [putT_no ts h]
  clear h
  induction ts with
  | nil => rfl
  | cons t ts ih =>
    have e1 : ([32] : List UInt8) ++ (t :: ts).flatMap (fun t => t.text ++ [32]) = [32] ++ (t.text ++ ([32] ++ ts.flatMap fun t => t.text ++ [32])) := by simp
    have e2 : spT (t :: ts) ++ [32] = [32] ++ (t.text ++ (spT ts ++ [32])) := by simp [spT]
    rw [e1, e2, ih]
theorem con_tail {nm : Int → Tok} (hn : ∀ v, (nm v).text ≠ [59]) (c : PCon) (h0 : conT nm c ≠ []) : ∃ O, spT (conT nm c) = 32 :: O ∧ putT (conT nm c) = O ++ [32] := by
  cases h : conT nm c with
  | nil => exact absurd h h0
  | cons t ts =>
    have hs : NoS (t :: ts) := by rw [← h]; exact noS_con hn c
    refine ⟨t.text ++ spT ts, rfl, ?_⟩
    have := putT_sp (t :: ts) hs
    have e : spT (t :: ts) ++ [32] = [32] ++ ((t.text ++ spT ts) ++ [32]) := by simp [spT]
    rw [e] at this
    exact List.append_cancel_left this
/- what may be -/
theorem right_nz {c : PCon} {n : Int} (h : rightC c n = true) : ∀ k ∈ c.coefs, k ≠ 0 := by
  have hv : VarsTo c.vars n c.vars.length := Classical.byContradiction fun hv => by
    rw [right_bad hv] at h
    cases h
  rw [right_on hv] at h
  intro k hk
  split at h
  · rw [Bool.and_eq_true] at h
    simpa using List.all_eq_true.1 h.1 k hk
  · split at h
    · rw [Bool.and_eq_true] at h
      simpa using List.all_eq_true.1 h.1 k hk
    · rw [Bool.and_eq_true] at h
      unfold restR at h
      have h1 := h.1
      simp only [Bool.not_eq_true', Bool.or_eq_false_iff, decide_eq_false_iff_not] at h1
      have := List.length_pos_of_mem hk
      omega
theorem all_right {m : PModel} (h : checkM m = 0) : (∀ b ∈ m.blocks, ∀ c ∈ b.cons, ∃ k, rightC c k = true) ∧ ∀ c ∈ m.goal, ∃ k, rightC c k = true := by
  obtain ⟨_, _, _, _, _, h6⟩ := check_parts h
  unfold conM at h6
  simp only [Bool.or_eq_false_iff] at h6
  refine ⟨fun b hb c hc => ?_, fun c hc => ?_⟩
  · obtain ⟨k, _, k2⟩ := some_right m.blocks 0 h6.1 b hb c hc
    exact ⟨_, k2⟩
  · exact ⟨_, by simpa using List.any_eq_false.1 h6.2 c hc⟩
theorem name_semi {m : PModel} (h : checkM m = 0) : (∀ d ∈ varsL m.blocks, d.name ≠ [59]) ∧ ∀ v, (nmT (namesM m) v).text ≠ [59] := by
  obtain ⟨_, _, h3, _, _, _⟩ := check_parts h
  unfold nameM at h3
  have hd : ∀ d ∈ varsL m.blocks, d.name ≠ [59] := fun d hm e => by
    have hn : nameL d.name = true := by simpa using List.any_eq_false.1 h3 d hm
    rw [e] at hn
    revert hn
    decide
  refine ⟨hd, fun v e => ?_⟩
  have e2 : (namesM m).getD v.toNat [] = [59] := e
  unfold namesM at e2
  rw [← names_eq, getD_name] at e2
  rw [List.getD_eq_getElem?_getD] at e2
  cases hh : (varsL m.blocks)[v.toNat]? with
  | none => rw [hh] at e2; cases e2
  | some d => rw [hh] at e2; exact hd d (List.mem_of_getElem? hh) e2
theorem model_out {m : PModel} (h : checkM m = 0) : ModelOut (nmT (namesM m)) (varsL m.blocks) m := by
  have T := text_may h
  obtain ⟨r1, r2⟩ := all_right h
  have f1 := T.fewb
  have f2 := T.fewg
  refine ⟨by omega, by omega, fun x hx => ?_, fun c hc => ⟨T.goal c hc, fun k hk => ?_⟩⟩
  · have f3 := T.fewv x hx
    have f4 := T.fewc x hx
    refine ⟨by omega, by omega, fun d hd => ?_, fun c hc => ⟨T.cons x hx c hc, fun k hk => ?_⟩⟩
    · obtain ⟨g1, g2⟩ := T.doms x hx d hd
      refine ⟨by omega, fun p hp => ?_⟩
      have := g1 p hp
      unfold Num Sc.mostV at this
      omega
    · obtain ⟨n, hn⟩ := r1 x hx c hc
      exact right_nz hn k hk
  · obtain ⟨n, hn⟩ := r2 c hc
    exact right_nz hn k hk
theorem text_long {m : PModel} (h : checkM m = 0) : (textL (nmT (namesM m)) m).length ≤ 1000000000 := by
  have T := text_may h
  have hd : ∀ d ∈ varsL m.blocks, d.name.length ≤ 1000 := fun d hd => Nat.le_trans (T.name d hd) (by decide)
  have hdecl : ∀ b ∈ m.blocks, ∀ d ∈ b.vars, (spT (declT d)).length ≤ 4000 := fun b hb d hm => by
    obtain ⟨g1, g2⟩ := T.doms b hb d hm
    have g3 := T.name d (List.mem_flatMap.2 ⟨b, hb, hm⟩)
    have sp : ∀ l : List (Int × Int), (∀ p ∈ l, Num p.1 ∧ Num p.2) → (spT (l.flatMap spanT)).length ≤ 50 * l.length := by
      intro l
      induction l with
      | nil => intro _; simp [spT]
      | cons p l ih =>
        intro hh
        have q1 := span_long (hh p (by simp))
        have q2 := ih fun x hx => hh x (by simp [hx])
        rw [List.flatMap_cons, sp_app, List.length_append, List.length_cons]
        omega
    have q := sp d.dom g1
    have e : spT (declT d) = [32] ++ (d.name ++ ([32, 105, 110] ++ spT (d.dom.flatMap spanT))) := by simp [declT, spT, tW, tIn]
    rw [e]
    simp only [List.length_append, List.length_cons, List.length_nil]
    omega
  have hdecls : ∀ l : List PDecl, (∀ d ∈ l, (spT (declT d)).length ≤ 4000) → (spT (declsT l)).length ≤ 4010 * l.length := by
    intro l hl
    cases l with
    | nil => simp [declsT, spT]
    | cons d l =>
      have ih : ∀ l : List PDecl, (∀ d ∈ l, (spT (declT d)).length ≤ 4000) → (spT (l.flatMap fun d => tM tComma :: declT d)).length ≤ 4010 * l.length := by
        intro l
        induction l with
        | nil => intro _; simp [spT]
        | cons x l ih =>
          intro hh
          have q1 := hh x (by simp)
          have q2 := ih fun y hy => hh y (by simp [hy])
          have e : spT ((x :: l).flatMap fun d => tM tComma :: declT d) = [32, 44] ++ (spT (declT x) ++ spT (l.flatMap fun d => tM tComma :: declT d)) := by simp [spT, tM, tComma, List.flatMap_append]
          rw [e]
          simp only [List.length_append, List.length_cons, List.length_nil]
          omega
      have q1 := hl d (by simp)
      have q2 := ih l fun y hy => hl y (by simp [hy])
      show (spT (declT d ++ l.flatMap fun d => tM tComma :: declT d)).length ≤ _
      rw [sp_app, List.length_append, List.length_cons]
      omega
  have hblock : ∀ b ∈ m.blocks, (blockL (nmT (namesM m)) b).length ≤ 60000000 := fun b hb => by
    have q1 := hdecls b.vars (hdecl b hb)
    have q2 := list_long hd b.cons (T.cons b hb)
    have f3 := T.fewv b hb
    have f4 := T.fewc b hb
    have q3 : (if b.all = true then tForall else tExists).length ≤ 6 := by split <;> decide
    have q4 : (if b.cons = [] then [] else [32, 119, 104, 101, 114, 101] ++ spT (listT (nmT (namesM m)) b.cons)).length ≤ 6 + (spT (listT (nmT (namesM m)) b.cons)).length := by
      split
      · simp
      · rw [List.length_append]; simp
    unfold blockL
    simp only [List.length_append, List.length_cons, List.length_nil]
    omega
  have hblocks : ∀ l : List PBlock, (∀ b ∈ l, (blockL (nmT (namesM m)) b).length ≤ 60000000) → (l.flatMap (blockL (nmT (namesM m)))).length ≤ 60000000 * l.length := by
    intro l
    induction l with
    | nil => intro _; simp
    | cons b l ih =>
      intro hh
      have q1 := hh b (by simp)
      have q2 := ih fun y hy => hh y (by simp [hy])
      rw [List.flatMap_cons, List.length_append, List.length_cons]
      omega
  have q1 := hblocks m.blocks hblock
  have q2 := list_long hd m.goal T.goal
  have f1 := T.fewb
  have f2 := T.fewg
  rw [text_eq]
  simp only [List.length_append, List.length_cons, List.length_nil]
  omega
theorem text_last (nm : Int → Tok) (m : PModel) : tailX (textL nm m) = [] := by
  rw [text_eq]
  have e : m.blocks.flatMap (blockL nm) ++ ([103, 111, 97, 108] ++ (spT (listT nm m.goal) ++ [32, 59, 10])) = (m.blocks.flatMap (blockL nm) ++ ([103, 111, 97, 108] ++ (spT (listT nm m.goal) ++ [32, 59]))) ++ [10] := by simp
  rw [e, tail_nl]
end Go.Proofs.YtkgieaoahijheaaDoor.Wt
namespace Go.Proofs.YtkgieaoahijheaaDoor
open Go.RowKit
set_option maxRecDepth 100000

theorem sclone_any (s : ByteArray) (w : World) (hm : s.size ≤ 100000) :
    Calls Tryd.prog 32 #[.string s] w fun e w' => e = .returned (.string s) ∧ Below w.heap.size w w' := by
  go_enter Tryd.func32, Tryd.ntmps32
  go_wp2_with (go_at_call 53; refine (Tryd.stringslite_Clone _ _ (by omega)).mono ?_; rintro e w' ⟨rfl, hB⟩)
  go_ret
  exact ⟨rfl, hB⟩

theorem nil_eq46 (w : World) : Sem.run Tryd.prog (binOp BinOp.eql 45 (Value.slice none 0 0) (Value.slice none 0 0)) w = Result.ok (Value.bool true) w := by kernel_rfl
theorem nil_ne46 (ad : Addr) (len c : Nat) (w : World) : Sem.run Tryd.prog (binOp BinOp.eql 45 (Value.slice (some ad) len c) (Value.slice none 0 0)) w = Result.ok (Value.bool false) w := by kernel_rfl
theorem rSpan_one : rSpan.One := fun w cs a ⟨h1, _⟩ u hu => by
  subst h1
  simp at hu
  rcases hu with rfl | rfl <;> rfl
theorem info52 : (Tryd.prog.info? 60).map (fun i => (i.zero, i.size, i.bytes)) = some (some (.agg #[.int .i64 0, .int .i64 0]), 2, 16) := by kernel_rfl

set_option maxHeartbeats 1000000 in
theorem spclone_any {w : World} {v : Value} {L : List (Int × Int)} (h : Slc rSpan 2 w v L) (hl : L.length ≤ 100000) :
    Calls Tryd.prog 33 #[v] w fun e w' => ∃ v', e = .returned v' ∧ OwnsOf rSpan 2 60 w w' v' L ∧ Below w.heap.size w w' := by
  obtain ⟨i0, hi, hz0, hz1, hz2⟩ := info_parts info52
  obtain ⟨p, b, off, c, len, rfl, hc, hs⟩ := h
  have hlen := hs.long
  cases p with
  | none =>
    obtain rfl := hc.1 rfl
    obtain rfl : len = 0 := by omega
    have hL : L = [] := List.eq_nil_of_length_eq_zero hlen.symm
    subst hL
    have q1 := nil_eq46
    clear hs hi hz0 hz1 hz2 hlen hc hl
    go_enter Tryd.func33, Tryd.ntmps33
    go_wp2
    go_ret
    exact ⟨_, rfl, ownsOf_nil _ _ _ _ _, Below.refl _ _⟩
  | some ad =>
    have q1 := nil_ne46 ad len c
    have HB := Lib.hid ((Below.refl w.heap.size w).alloc (Nat.le_refl _) (.cells #[] 60))
    have HO := Lib.hid (ownsOf_made rSpan 2 60 w w (Nat.le_refl _))
    have HS := Lib.hid hs
    have HLN := Lib.hid hlen
    have hml : len ≤ 100000 := by omega
    clear hs hc hlen
    go_enter Tryd.func33, Tryd.ntmps33
    go_wp2_with (at_builtin; refine append_of rSpan_one rfl _ _ 45 60 2 16 i0 _ Tryd.underlying45 hi hz0 hz1 hz2 rfl (by decide) (by decide) rfl _ _ b off c len [] L rfl rfl HO.out HS.out (fun h => by cases h) HB.out (by simp; omega) HB.out.size ?_; intro v' w1 hown' hgrow)
    go_ret
    exact ⟨_, rfl, hown', HB.out.grown hgrow HB.out.size (fun j e => (HO.out.lt j e).1)⟩
end Go.Proofs.YtkgieaoahijheaaDoor
