/-
  Lists of constraints, of the document's answers for texts of models.
  The bytes of a model's text, part by part; constraints of a model that may be may be written. Nothing of the program's text.
  What decls of package model answers, at every model that can be read.
-/
import Derived.Test.YtkgieaoahijheaaDoorZYAV
import Derived.Test.YtkgieaoahijheaaDoorZYAM
namespace Go.Proofs.YtkgieaoahijheaaDoor.Wt
open Go.RowKit
open Sc (Tok)
set_option maxRecDepth 100000

section
variable {nm : Int → Tok} {w w' : World} {pn : Option Addr} {bn on_ ln cn : Nat} {L : List PDecl} {c : PCon}
theorem rcon_at {p : Option Addr} {b off len : Nat} {l : List PCon} (h : SliceOf rCon 6 w p b off len l) {k : Nat} (hk : k < len) :
    ∃ (c : PCon) (u1 u2 u3 : Value), l[k]? = some c ∧ w.cell? ⟨b, off + k * 6, none⟩ = some (.int .i64 c.kind) ∧ w.cell? ⟨b, off + k * 6 + 1, none⟩ = some u1 ∧ w.cell? ⟨b, off + k * 6 + 2, none⟩ = some u2 ∧ w.cell? ⟨b, off + k * 6 + 3, none⟩ = some (.int .i64 c.rel) ∧ w.cell? ⟨b, off + k * 6 + 4, none⟩ = some (.int .i64 c.const) ∧ w.cell? ⟨b, off + k * 6 + 5, none⟩ = some u3 ∧ rCon w [.int .i64 c.kind, u1, u2, .int .i64 c.rel, .int .i64 c.const, u3] c := by
  have hx : k < l.length := by rw [← h.long]; exact hk
  have e : l[k]? = some l[k] := List.getElem?_eq_getElem hx
  obtain ⟨cs, h1, h2, h3⟩ := h.cell k _ e
  have h3' := h3
  obtain ⟨u1, u2, u3, e3, _⟩ := h3
  subst e3
  exact ⟨_, u1, u2, u3, e, h2 0 (by omega), h2 1 (by omega), h2 2 (by omega), h2 3 (by omega), h2 4 (by omega), h2 5 (by omega), h3'⟩
theorem names_long : ∀ (l : List Int), (∀ v ∈ l, (nm v).text.length ≤ 1000) → (spT (l.map nm)).length ≤ 1001 * l.length
  | [], _ => by simp [spT]
  | v :: l, h => by
    have h1 := h v (by simp)
    have h2 := names_long l (fun x hx => h x (by simp [hx]))
    have e : spT ((v :: l).map nm) = (32 :: (nm v).text) ++ spT (l.map nm) := by simp [spT]
    rw [e, List.length_append, List.length_cons, List.length_cons]
    omega
theorem nums_long : ∀ (l : List Int), (∀ k ∈ l, k.natAbs ≤ 1000000000000000000) → (spT (l.flatMap numT)).length ≤ 22 * l.length
  | [], _ => by simp [spT]
  | v :: l, h => by
    have h1 := numT_long (h v (by simp))
    have h2 := nums_long l (fun x hx => h x (by simp [hx]))
    rw [List.flatMap_cons, sp_app, List.length_append, List.length_cons]
    omega
theorem con_long (hc : ConM nm L c) (hd : ∀ d ∈ L, d.name.length ≤ 1000) : (spT (conT nm c)).length ≤ 3000000 := by
  obtain ⟨h1, h2, h3, h4, h5, h6, h7, h8⟩ := hc
  have hn : ∀ v ∈ c.vars, (nm v).text.length ≤ 1000 := fun v hv => by
    rw [h5 v hv]
    have hl := (h4 v hv).2
    rw [List.getD_eq_getElem?_getD, List.getElem?_eq_getElem hl]
    exact hd _ (List.getElem_mem hl)
  have hsum : ∀ (xs ks : List Int) (r const : Int), xs.length ≤ 1000 → (∀ v ∈ xs, (nm v).text.length ≤ 1000) → (∀ k ∈ ks, k.natAbs ≤ 1000000000000000000) → const.natAbs ≤ 1000000000000000000 → 0 ≤ r ∧ r ≤ 5 → (spT (sumsT nm (xs.zip ks) r const)).length ≤ 2000100 := fun xs ks r const q1 q2 q3 q4 q5 => by
    have a1 := sum_long (nm := nm) (xs.zip ks) true (fun x hx => ⟨q2 _ (List.of_mem_zip hx).1, q3 _ (List.of_mem_zip hx).2⟩)
    have a2 := numT_long q4
    have a3 : (spT [relT r]).length ≤ 3 := by
      obtain ⟨n, rfl⟩ : ∃ n : Nat, r = (n : Int) := ⟨r.toNat, by omega⟩
      exact ((conW_is default 1 default default (n : Int) 0 default).rel (by omega)).2
    have a4 : (xs.zip ks).length ≤ xs.length := by rw [List.length_zip]; omega
    unfold sumsT
    rw [sp_app, sp_app, List.length_append, List.length_append]
    omega
  have hw : ∀ (s : Pa.Txt) (xs : List Int) (r : List Tok), s.length ≤ 20 → xs.length ≤ 1000 → (∀ v ∈ xs, (nm v).text.length ≤ 1000) → (spT r).length ≤ 100000 → (spT (tW s :: (xs.map nm ++ r))).length ≤ 3000000 := fun s xs r q1 q2 q3 q4 => by
    have a1 := names_long (nm := nm) xs q3
    have e : spT (tW s :: (xs.map nm ++ r)) = (32 :: s) ++ (spT (xs.map nm) ++ spT r) := by simp [spT, tW]
    rw [e, List.length_append, List.length_append, List.length_cons]
    omega
  have hb : (spT (numsT c.nums)).length ≤ 100000 := by
    have a1 := nums_long c.nums h8
    have e : spT (numsT c.nums) = [32, 91] ++ (spT (c.nums.flatMap numT) ++ [32, 93]) := by simp [spT, numsT, tM, Pa.tOpen, Pa.tShut, List.flatMap_append]
    rw [e]
    simp only [List.length_append, List.length_cons, List.length_nil]
    omega
  cases h1 with
  | lin xs cs rel const h h0 hr =>
    have := hsum xs cs rel const h2 hn h6 h7 hr
    show (spT (sumsT nm (xs.zip cs) rel const)).length ≤ _
    omega
  | iff x xs cs rel const h h0 hr =>
    have := hsum xs cs rel const (by simp at h2; omega) (fun v hv => hn v (List.mem_cons_of_mem _ hv)) h6 h7 hr
    have hx := hn x (by simp)
    have e : spT (tW Pa.tIff :: nm x :: sumsT nm (xs.zip cs) rel const) = [32, 105, 102, 102] ++ ((32 :: (nm x).text) ++ spT (sumsT nm (xs.zip cs) rel const)) := by simp [spT, tW, Pa.tIff]
    show (spT (tW Pa.tIff :: nm x :: sumsT nm (xs.zip cs) rel const)).length ≤ _
    rw [e]
    simp only [List.length_append, List.length_cons, List.length_nil]
    omega
  | product xs h => exact hw Pa.tProduct xs [] (by decide) h2 hn (by simp [spT])
  | element xs ns h hn' => exact hw Pa.tElement xs _ (by decide) h2 hn hb
  | differ xs h => exact hw Pa.tDifferent xs [] (by decide) h2 hn (by simp [spT])
  | table xs ns h => exact hw Pa.tTable xs _ (by decide) h2 hn hb
theorem list_snoc (l : List PCon) (c : PCon) (h : l ≠ []) : listT nm (l ++ [c]) = listT nm l ++ (tW Pa.tAnd :: conT nm c) := by
  cases l with
  | nil => exact absurd rfl h
  | cons d l => simp [listT]
set_option maxHeartbeats 8000000 in
theorem list_any {pl : Option Addr} {bl ol ll cl : Nat} {l : List PCon} (h : SliceOf rCon 6 w pl bl ol ll l) (hn : SliceOf rDecl 2 w pn bn on_ ln L) (hd : ∀ d ∈ L, d.name.length ≤ 1000) (hc : ∀ c ∈ l, ConM nm L c) (hl : l.length ≤ 1000) :
    Calls Tryd.prog 22 #[.slice pl ll cl, .slice pn ln cn] w fun e w' => e = .returned (.string ⟨(spT (listT nm l)).toArray⟩) ∧ Below w.heap.size w w' := by
  have HLL := Lib.hid h.long
  have hl1000 : ll ≤ 1000 := by have := h.long; omega
  have H := Lib.hid h
  have HN := Lib.hid hn
  clear h hn
  by_cases h0 : ll = 0
  · have hnil : l = [] := List.eq_nil_of_length_eq_zero (by have := HLL.out; omega)
    subst hnil
    subst h0
    go_enter Tryd.func22, Tryd.ntmps22
    go_wp2_with fail
    go_ret
    exact ⟨rfl, Below.refl _ _⟩
  · have hz : ((ll : Int) == 0) = false := beq_eq_false_iff_ne.2 (by omega)
    clear h0
    go_enter Tryd.func22, Tryd.ntmps22
    go_wp2_with fail
    go_loopw [6, 5] (fun i o wr => ∃ (j : Nat) (O : List UInt8), j ≤ ll ∧ i = .int .i64 j ∧ o = .string ⟨O.toArray⟩ ∧ O = (if j = 0 then [] else spT (listT nm (l.take j))) ∧ O.length ≤ 3000010 * j ∧ Below w.heap.size w wr) (fun i _ _ => ll - (intOf i).toNat)
    case atStart => exact ⟨0, [], by omega, rfl, rfl, by simp, by simp, Below.refl _ _⟩
    case round =>
      obtain ⟨j, O, hj, rfl, rfl, hO, hOl, hB⟩ := hrel
      have HB := Lib.hid hB
      by_cases hlt : j < ll
      · obtain ⟨c, u1, u2, u3, e1, z0, z1, z2, z3, z4, z5, hr⟩ := rcon_at (H.out.below rCon_stays hB) hlt
        have hcm := hc c (List.mem_of_getElem? e1)
        have CX := Lib.hid (rcon_any (cn := cn) hr (HN.out.below rDecl_stays hB) hd hcm)
        have hlong := con_long hcm hd
        obtain rfl := H.out.at_ (by omega)
        have htk : l.take (j + 1) = l.take j ++ [c] := by rw [List.take_add_one, e1]; rfl
        obtain ⟨k1, k2, k3, k4, k5, k6⟩ := c
        simp only at z0 z3 z4 CX
        obtain ⟨A, hA⟩ : ∃ A, A = spT (conT nm ⟨k1, k2, k3, k4, k5, k6⟩) := ⟨_, rfl⟩
        rw [← hA] at CX hlong
        by_cases hj0 : j = 0
        · have hnew : spT (listT nm (l.take (j + 1))) = O ++ A := by
            rw [htk, hO, if_pos hj0, hj0, List.take_zero, hA]
            simp [listT]
          have c1 := cat_str O A (by omega)
          obtain ⟨O1, o1⟩ : ∃ x, x = O ++ A := ⟨_, rfl⟩
          rw [← o1] at c1
          have HLN := Lib.hid (show O1.length ≤ 3000010 * (j + 1) by rw [o1, List.length_append]; omega)
          have HEQ := Lib.hid (show O1 = (if j + 1 = 0 then [] else spT (listT nm (l.take (j + 1)))) by rw [if_neg (by omega), hnew, o1])
          have hj1 : ¬ (0 : Int) < (j : Int) := by omega
          have hj2 : (j : Int) ≤ 0 := by omega
          clear hnew o1 hO hOl hB e1 hcm hlong htk hA hj0 hr
          go_wp2_with fail
          refine CX.out.mono ?_
          rintro e w3 ⟨rfl, hB3⟩
          have HB3 := Lib.hid (below_two HB.out hB3)
          clear hB3
          go_wp2_with fail
          go_roundw
          case rel => exact ⟨j + 1, O1, by omega, by go_num, rfl, HEQ.out, HLN.out, HB3.out⟩
          case measure => simp [intOf]; omega
        · have hne : l.take j ≠ [] := by
            rw [Ne, List.take_eq_nil_iff]
            rintro (q | q)
            · exact hj0 q
            · rw [q] at e1; simp at e1
          have hnew : spT (listT nm (l.take (j + 1))) = (O ++ [32, 97, 110, 100]) ++ A := by
            rw [htk, list_snoc _ _ hne, sp_app, hO, if_neg hj0, hA]
            simp [spT, tW, Pa.tAnd]
          have c0 := cat_str O [32, 97, 110, 100] (by simp; omega)
          obtain ⟨O0, o0⟩ : ∃ x, x = O ++ [32, 97, 110, 100] := ⟨_, rfl⟩
          have l0 : O0.length = O.length + 4 := by rw [o0, List.length_append]; rfl
          rw [← o0] at c0 hnew
          have c1 := cat_str O0 A (by omega)
          obtain ⟨O1, o1⟩ : ∃ x, x = O0 ++ A := ⟨_, rfl⟩
          rw [← o1] at c1
          have HLN := Lib.hid (show O1.length ≤ 3000010 * (j + 1) by rw [o1, List.length_append]; omega)
          have HEQ := Lib.hid (show O1 = (if j + 1 = 0 then [] else spT (listT nm (l.take (j + 1)))) by rw [if_neg (by omega), hnew, o1])
          have hj1 : (0 : Int) < (j : Int) := by omega
          clear hnew o0 o1 l0 hO hOl hB e1 hcm hlong htk hA hj0 hr hne
          go_wp2_with fail
          refine CX.out.mono ?_
          rintro e w3 ⟨rfl, hB3⟩
          have HB3 := Lib.hid (below_two HB.out hB3)
          clear hB3
          go_wp2_with fail
          go_roundw
          case rel => exact ⟨j + 1, O1, by omega, by go_num, rfl, HEQ.out, HLN.out, HB3.out⟩
          case measure => simp [intOf]; omega
      · obtain rfl : j = ll := by omega
        have hj0 : j ≠ 0 := fun e => by rw [e] at hz; simp at hz
        have hfull : l.take j = l := List.take_of_length_le (by have := HLL.out; omega)
        rw [if_neg hj0, hfull] at hO
        have HO := Lib.hid hO
        clear hO hB hfull hj0 hOl
        go_wp2_with fail
        go_ret
        rw [← HO.out]
        exact ⟨rfl, HB.out⟩
end
end Go.Proofs.YtkgieaoahijheaaDoor.Wt
namespace Go.Proofs.YtkgieaoahijheaaDoor.Wt
open Sc (Tok)
open Pa

theorem line_eq (t : Tok) (ts : List Tok) : lineL (t :: ts) = t.text ++ (spT ts ++ [32, 59, 10]) := by
  unfold lineL
  induction ts generalizing t with
  | nil => simp [lineP, sepL, spT, tM, tSemi]
  | cons u ts ih =>
    have e : sepL (lineP (t :: u :: ts)) = t.text ++ 32 :: sepL (lineP (u :: ts)) := by simp [lineP, sepL]
    rw [e, ih u]
    simp [spT]
/-- a block's text -/
def blockL (nm : Int → Tok) (b : PBlock) : List UInt8 := (if b.all = true then tForall else tExists) ++ (spT (declsT b.vars) ++ ((if b.cons = [] then [] else [32, 119, 104, 101, 114, 101] ++ spT (listT nm b.cons)) ++ [32, 59, 10]))
theorem block_eq (nm : Int → Tok) (b : PBlock) : lineL (blockH nm b) = blockL nm b := by
  unfold blockH blockL
  rw [line_eq]
  by_cases h : b.cons = []
  · simp [h, tW]
  · simp [h, tW, spT, tWhere]
theorem text_eq (nm : Int → Tok) (m : PModel) : textL nm m = m.blocks.flatMap (blockL nm) ++ ([103, 111, 97, 108] ++ (spT (listT nm m.goal) ++ [32, 59, 10])) := by
  unfold textL pairsM goalH
  rw [sep_app]
  have e : sepL (lineP (tW tGoal :: listT nm m.goal)) = lineL (tW tGoal :: listT nm m.goal) := rfl
  rw [e, line_eq]
  congr 1
  show sepL (m.blocks.flatMap fun b => lineP (blockH nm b)) = _
  induction m.blocks with
  | nil => rfl
  | cons b l ih =>
    rw [List.flatMap_cons, List.flatMap_cons, sep_app, ih]
    congr 1
    exact block_eq nm b
theorem decls_snoc (l : List PDecl) (d : PDecl) (h : l ≠ []) : declsT (l ++ [d]) = declsT l ++ (tM tComma :: declT d) := by
  cases l with
  | nil => exact absurd rfl h
  | cons e l => simp [declsT]
/-- each constraint may be of so many variables as the model has -/
theorem some_right : ∀ (l : List PBlock) (n : Nat), conF n l = false → ∀ b ∈ l, ∀ c ∈ b.cons, ∃ k : Nat, k ≤ n + (varsL l).length ∧ rightC c (k : Int) = true
  | [], _, _, b, hb, _, _ => by cases hb
  | x :: l, n, h, b, hb, c, hc => by
    unfold conF at h
    rw [Bool.or_eq_false_iff] at h
    have e : (varsL (x :: l)).length = x.vars.length + (varsL l).length := by simp [varsL]
    rcases List.mem_cons.1 hb with rfl | q
    · have := List.any_eq_false.1 h.1 c hc
      exact ⟨n + b.vars.length, by omega, by simpa using this⟩
    · obtain ⟨k, k1, k2⟩ := some_right l _ h.2 b q c hc
      exact ⟨k, by omega, k2⟩
theorem getD_name (l : List PDecl) (i : Nat) : (names l).getD i [] = (l.getD i ⟨[], []⟩).name := by
  simp only [List.getD_eq_getElem?_getD, names, List.getElem?_map]
  cases l[i]? <;> rfl
theorem con_may {m : PModel} {c : PCon} {k : Nat} (hk : k ≤ (varsL m.blocks).length) (h : rightC c (k : Int) = true) : ConM (nmT (namesM m)) (varsL m.blocks) c := by
  obtain ⟨h1, h2, h3, h4, h5, h6, h7⟩ := right_shape h
  have hn : ∀ {z : Int}, Num z → z.natAbs ≤ 1000000000000000000 := fun hz => by unfold Num Sc.mostV at hz; omega
  refine ⟨h1, by omega, by omega, fun v hv => ⟨(h2 v hv).1, by have := h2 v hv; omega⟩, fun v _ => ?_, fun k hk => hn (h3 k hk), hn h4, fun k hk => hn (h5 k hk)⟩
  show (namesM m).getD v.toNat [] = _
  unfold namesM
  rw [← names_eq, getD_name]
/-- what Text of the document's answers needs to know of a model that may be -/
structure TextM (m : PModel) : Prop where
  cons : ∀ b ∈ m.blocks, ∀ c ∈ b.cons, ConM (nmT (namesM m)) (varsL m.blocks) c
  goal : ∀ c ∈ m.goal, ConM (nmT (namesM m)) (varsL m.blocks) c
  name : ∀ d ∈ varsL m.blocks, d.name.length ≤ 12
  doms : ∀ b ∈ m.blocks, ∀ d ∈ b.vars, (∀ p ∈ d.dom, Num p.1 ∧ Num p.2) ∧ d.dom.length ≤ 64
  fewb : m.blocks.length ≤ 8
  fewv : ∀ b ∈ m.blocks, b.vars.length ≤ 16
  fewc : ∀ b ∈ m.blocks, b.cons.length ≤ 16
  fewg : m.goal.length ≤ 16
theorem text_may {m : PModel} (h : checkM m = 0) : TextM m := by
  obtain ⟨h1, h2, h3, h4, h5, h6⟩ := check_parts h
  unfold bigM at h1
  unfold nameM at h3
  unfold domM at h5
  unfold conM at h6
  simp only [Bool.or_eq_false_iff, decide_eq_false_iff_not] at h1 h6
  obtain ⟨b1, b2, b3, b4⟩ := h1
  have hle : ∀ b ∈ m.blocks, b.vars.length ≤ (varsL m.blocks).length := fun b hb => by
    obtain ⟨x, y, e⟩ := List.append_of_mem hb
    rw [e]
    simp [varsL]
    omega
  refine ⟨fun b hb c hc => ?_, fun c hc => ?_, fun d hd => ?_, fun b hb d hd => ?_, by omega, fun b hb => ?_, fun b hb => ?_, by omega⟩
  · obtain ⟨k, k1, k2⟩ := some_right m.blocks 0 h6.1 b hb c hc
    exact con_may (by omega) k2
  · have := List.any_eq_false.1 h6.2 c hc
    exact con_may (Nat.le_refl _) (by simpa using this)
  · have hn : nameL d.name = true := by simpa using List.any_eq_false.1 h3 d hd
    unfold nameL at hn
    simp only [Bool.and_eq_true, decide_eq_true_eq] at hn
    exact hn.2.2.2
  · have hm : d ∈ varsL m.blocks := List.mem_flatMap.2 ⟨b, hb, hd⟩
    have hdd : domD d = false := by simpa using List.any_eq_false.1 h5 d hm
    have hn : nameL d.name = true := by simpa using List.any_eq_false.1 h3 d hm
    refine ⟨(dom_ok hn hdd).1.nums, ?_⟩
    unfold domD at hdd
    simp only [Bool.or_eq_false_iff, decide_eq_false_iff_not] at hdd
    have hr : rightL d.dom = true := by
      cases q : rightL d.dom
      · have : szL d.dom = 0 := by
          unfold szL
          rw [q]
          rfl
        omega
      · rfl
    have hs : szL d.dom = sizeL d.dom := by
      unfold szL
      rw [if_pos hr]
    have := (right_in d.dom (-1048576) (by decide) hr).2
    omega
  · have := hle b hb
    omega
  · have := List.any_eq_false.1 b3 b hb
    simp only [decide_eq_true_eq] at this
    omega
end Go.Proofs.YtkgieaoahijheaaDoor.Wt
namespace Go.Proofs.YtkgieaoahijheaaDoor
open Go.RowKit
set_option maxRecDepth 100000

set_option maxRecDepth 100000 in
set_option maxHeartbeats 2000000 in
theorem pdecls_cells (pb : Option Addr) (bb ob cb lb : Nat) (gv : Value) (m : PModel) (w : World) (h : Mod w pb bb ob cb lb gv m) (hl : lb ≤ 1000) (hv : ∀ x ∈ m.blocks, x.vars.length ≤ 1000) (ht : (varsL m.blocks).length ≤ 100000) :
    Calls Tryd.prog 31 #[.agg #[.slice pb lb cb, gv]] w fun e w' => ∃ v, e = .returned v ∧ OwnsOf rDecl 2 47 w w' v (varsL m.blocks) ∧ Below w.heap.size w w' := by
  obtain ⟨i0, hi, hz0, hz1, hz2⟩ := info_parts info48
  have I := Lib.hid (And.intro hi (And.intro hz0 (And.intro hz1 hz2)))
  have HM := Lib.hid h
  have HV := Lib.hid hv
  have HT := Lib.hid ht
  have hp := h.blocks.at_
  have hlb : lb = m.blocks.length := h.blocks.long
  have HLB := Lib.hid hlb
  clear h hv ht hi hz0 hz1 hz2 hlb
  go_enter Tryd.func31, Tryd.ntmps31
  go_upto_region 1 with fail
  obtain ⟨W0, hW0⟩ : ∃ W0, W0 = w.alloc (.cells #[.slice pb lb cb, gv] 25) := ⟨_, rfl⟩
  rw [← hW0]
  have hB0 : Below w.heap.size w W0 := by rw [hW0]; exact (Below.refl _ w).alloc (Nat.le_refl _) _
  have hb0 : W0.cell? ⟨w.heap.size, 0, none⟩ = some (.slice pb lb cb) := by rw [hW0]; go_simp
  have HB0 := Lib.hid hB0
  clear hW0 hB0
  go_wp2_with fail
  go_loopw [3, 9] (fun o i wr => ∃ k : Nat, k ≤ lb ∧ i = .int .i64 k ∧ OwnsOf rDecl 2 47 w wr o (varsL (m.blocks.take k)) ∧ Below w.heap.size w wr) (fun _ i _ => lb - (intOf i).toNat)
  case atStart => exact ⟨0, by omega, rfl, ownsOf_nil rDecl 2 47 w W0, HB0.out⟩
  case round =>
    obtain ⟨k, hk, rfl, hown, hB⟩ := hrel
    obtain ⟨A, eA⟩ : ∃ A, A = varsL (m.blocks.take k) := ⟨_, rfl⟩
    rw [← eA] at hown
    obtain ⟨po, co, rfl⟩ := hown.shape
    by_cases hlt : k < lb
    · obtain rfl := hp (by omega)
      obtain ⟨x, v1, v2, ex, ed, a0, a1, a2, sv, sc⟩ := block_at HM.out.blocks hlt
      have a0 := cell_stays hB a0
      have a1 := cell_stays hB a1
      have a2 := cell_stays hB a2
      obtain ⟨p1, b1, o1, c1, l1, rfl, hnl, hs⟩ := sv
      obtain ⟨p2, l2, c2, rfl⟩ := slc_shape sc
      have hnl := hnl.1
      have hxv := HV.out x (List.mem_of_getElem? ex)
      have hnx := vars_drop ed
      have hA : A.length ≤ 100000 := by
        rw [eA]
        have h2 := vars_to m.blocks k
        have h3 := HT.out
        omega
      rw [← hs.long] at hxv
      rw [← eA] at hnx
      generalize x.all = xa at a0
      obtain ⟨W1, hW1⟩ : ∃ W1, W1 = wr.alloc (.cells #[.bool xa, .slice p1 l1 c1, .slice p2 l2 c2] 44) := ⟨_, rfl⟩
      have hBa : Below wr.heap.size wr W1 := by rw [hW1]; exact (Below.refl _ wr).alloc (Nat.le_refl _) _
      have q1 : W1.cell? ⟨wr.heap.size, 1, none⟩ = some (.slice p1 l1 c1) := by rw [hW1]; go_simp
      have HO := Lib.hid (hown.below hBa)
      have HB := Lib.hid (hB.trans (hBa.mono hB.size))
      have NX := Lib.hid hnx
      have HSL := Lib.hid hs
      have HNL := Lib.hid hnl
      have HW1 := Lib.hid hW1
      have hsz : w.heap.size ≤ W1.heap.size := HB.out.size
      have hi := I.out.1
      have hz0 := I.out.2.1
      have hz1 := I.out.2.2.1
      have hz2 := I.out.2.2.2
      clear hown hB ex ed hs hnx eA hnl sc hW1 hBa
      go_upto_region 5 with fail
      rw [← HW1.out]
      clear a0 a1 a2
      go_wp2_with (at_builtin; refine append_of rDecl_one rfl _ _ 37 47 2 40 i0 _ Tryd.underlying37 hi hz0 hz1 hz2 rfl (by decide) (by decide) rfl _ p1 b1 o1 c1 l1 A x.vars rfl rfl HO.out HSL.out HNL.out HB.out (by omega) hsz ?_; intro v' w1 hown' hgrow)
      go_roundw
      case rel =>
        refine ⟨k + 1, by omega, by go_num, ?_, ?_⟩
        · rw [NX.out]
          exact hown'
        · exact HB.out.grown hgrow hsz (fun j e => (HO.out.lt j e).1)
      case measure => simp [intOf]; omega
    · have hf : A = varsL m.blocks := by
        rw [eA, List.take_of_length_le (by rw [← HLB.out]; omega)]
      have HF := Lib.hid hf
      have HB := Lib.hid hB
      have HO := Lib.hid hown
      clear hown hB hf eA
      go_wp2_with fail
      go_ret
      exact ⟨_, rfl, HF.out ▸ HO.out, HB.out⟩
theorem pdecls_any {w : World} {bv gv : Value} {m : PModel} (h : rModel w [bv, gv] m) (hf : Few m) :
    Calls Tryd.prog 31 #[.agg #[bv, gv]] w fun e w' => ∃ v, e = .returned v ∧ OwnsOf rDecl 2 47 w w' v (varsL m.blocks) ∧ Below w.heap.size w w' := by
  obtain ⟨pb, bb, ob, cb, lb, rfl, hm⟩ := mod_of h
  exact pdecls_cells pb bb ob cb lb gv m w hm (by rw [hm.blocks.long]; exact hf.blocks) hf.vars (by have := hf.few; omega)
end Go.Proofs.YtkgieaoahijheaaDoor
