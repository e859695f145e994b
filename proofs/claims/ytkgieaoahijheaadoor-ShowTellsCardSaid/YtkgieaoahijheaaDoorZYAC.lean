/-
  What Vars of the document's answers answers, at every model that can be read.
  What Name of the document's answers answers, at every text.
-/
import Derived.Test.YtkgieaoahijheaaDoorZYAB
import Derived.Lib.Strings
namespace Go.Proofs.YtkgieaoahijheaaDoor
open Go.RowKit
set_option maxRecDepth 100000

theorem rDecl_one : rDecl.One := fun w cs a ⟨s, v, h1, _, p, b, off, c, len, h3, _, _⟩ u hu => by
  subst h1 h3
  simp at hu
  rcases hu with rfl | rfl <;> rfl
theorem info48 : (Tryd.prog.info? 47).map (fun i => (i.zero, i.size, i.bytes)) = some (some (.agg #[.string ⟨#[]⟩, .slice none 0 0]), 2, 40) := by kernel_rfl

theorem vars_drop {bs : List PBlock} {k : Nat} {x : PBlock} (e : bs.drop k = x :: bs.drop (k + 1)) : varsL (bs.take (k + 1)) = varsL (bs.take k) ++ x.vars := by
  have hk : k < bs.length := by
    have := congrArg List.length e
    rw [List.length_drop, List.length_cons] at this
    omega
  rw [List.drop_eq_getElem_cons hk] at e
  simp only [List.cons.injEq, and_true] at e
  rw [List.take_add_one, List.getElem?_eq_getElem hk, e]
  simp [varsL]
theorem vars_few (bs : List PBlock) (h : ∀ x ∈ bs, x.vars.length ≤ 1000) : (varsL bs).length ≤ bs.length * 1000 := by
  induction bs with
  | nil => simp [varsL]
  | cons x r ih =>
    have h1 := h x (by simp)
    have h2 := ih fun y hy => h y (by simp [hy])
    have e : varsL (x :: r) = x.vars ++ varsL r := by simp [varsL]
    rw [e, List.length_append, List.length_cons]
    omega

theorem vars_to (bs : List PBlock) (k : Nat) : (varsL (bs.take k)).length ≤ (varsL bs).length := by
  have e : varsL bs = varsL (bs.take k) ++ varsL (bs.drop k) := by
    unfold varsL
    rw [← List.flatMap_append, List.take_append_drop]
  rw [e, List.length_append]
  omega
set_option maxRecDepth 100000 in
set_option maxHeartbeats 2000000 in
theorem vars_cells (pb : Option Addr) (bb ob cb lb : Nat) (gv : Value) (m : PModel) (w : World) (h : Mod w pb bb ob cb lb gv m) (hl : lb ≤ 1000) (hv : ∀ x ∈ m.blocks, x.vars.length ≤ 1000) (ht : (varsL m.blocks).length ≤ 100000) :
    Calls Tryd.prog 11 #[.agg #[.slice pb lb cb, gv]] w fun e w' => ∃ v, e = .returned v ∧ Slc rDecl 2 w' v (varsL m.blocks) ∧ Below w.heap.size w w' := by
  obtain ⟨i0, hi, hz0, hz1, hz2⟩ := info_parts info48
  have I := Lib.hid (And.intro hi (And.intro hz0 (And.intro hz1 hz2)))
  have HM1 := Lib.hid h
  have HV := Lib.hid hv
  have HT := Lib.hid ht
  have hp := h.blocks.at_
  have hlb : lb = m.blocks.length := h.blocks.long
  have HLB := Lib.hid hlb
  clear h hv ht hi hz0 hz1 hz2 hlb
  go_enter Tryd.func11, Tryd.ntmps11
  go_upto_region 1 with fail
  obtain ⟨W0, hW0⟩ : ∃ W0, W0 = w.alloc (.cells #[.slice pb lb cb, gv] 25) := ⟨_, rfl⟩
  rw [← hW0]
  have hB0 : Below w.heap.size w W0 := by rw [hW0]; exact (Below.refl _ w).alloc (Nat.le_refl _) _
  have hb0 : W0.cell? ⟨w.heap.size, 0, none⟩ = some (.slice pb lb cb) := by rw [hW0]; go_simp
  have HB0 := Lib.hid hB0
  have HC0 := Lib.hid hb0
  have HM := Lib.hid (HM1.out.below hB0)
  clear hW0 hB0 hb0
  go_wp2_with fail
  go_loopw [3, 4] (fun o i wr => ∃ k : Nat, k ≤ lb ∧ i = .int .i64 k ∧ OwnsOf rDecl 2 47 W0 wr o (varsL (m.blocks.take k)) ∧ Below W0.heap.size W0 wr) (fun _ i _ => lb - (intOf i).toNat)
  case atStart => exact ⟨0, by omega, rfl, ownsOf_made rDecl 2 47 W0 W0 (Nat.le_refl _), (Below.refl _ W0).alloc (Nat.le_refl _) _⟩
  case round =>
    obtain ⟨k, hk, rfl, hown, hB⟩ := hrel
    obtain ⟨A, eA⟩ : ∃ A, A = varsL (m.blocks.take k) := ⟨_, rfl⟩
    rw [← eA] at hown
    obtain ⟨po, co, rfl⟩ := hown.shape
    have hb := cell_stays hB HC0.out
    have HB := Lib.hid hB
    have HO := Lib.hid hown
    have HA := Lib.hid eA
    by_cases hlt : k < lb
    · obtain rfl := hp (by omega)
      obtain ⟨x, v1, v2, ex, ed, a0, a1, a2, sv, _⟩ := block_at HM.out.blocks hlt
      have a1 := cell_stays hB a1
      obtain ⟨p1, b1, o1, c1, l1, rfl, hnl, hs⟩ := sv
      have hnl := hnl.1
      have hxv := HV.out x (List.mem_of_getElem? ex)
      have hnx := vars_drop ed
      have hA : A.length ≤ 100000 := by
        rw [eA]
        have h2 := vars_to m.blocks k
        have h3 := HT.out
        omega
      rw [← hs.long] at hxv
      rw [← eA] at hnx
      have NX := Lib.hid hnx
      have HSL := Lib.hid hs
      have HNL := Lib.hid hnl
      have hsz := HB.out.size
      have hi := I.out.1
      have hz0 := I.out.2.1
      have hz1 := I.out.2.2.1
      have hz2 := I.out.2.2.2
      clear hown hB ex ed hs hnx a0 a2 eA hnl
      go_wp2_with (at_builtin; refine append_of rDecl_one rfl _ _ 37 47 2 40 i0 _ Tryd.underlying37 hi hz0 hz1 hz2 rfl (by decide) (by decide) rfl _ p1 b1 o1 c1 l1 A x.vars rfl rfl HO.out HSL.out HNL.out HB.out (by omega) hsz ?_; intro v' w1 hown' hgrow)
      go_roundw
      case rel =>
        refine ⟨k + 1, by omega, by go_num, ?_, ?_⟩
        · rw [NX.out]
          exact hown'
        · exact HB.out.grown hgrow hsz (fun j e => (HO.out.lt j e).1)
      case measure => simp [intOf]; omega
    · have hf : A = varsL m.blocks := by
        rw [eA, List.take_of_length_le (by rw [← HLB.out]; omega)]
      have HF := Lib.hid hf
      clear hown hB hf
      go_wp2_with fail
      go_ret
      exact ⟨_, rfl, HF.out ▸ HO.out.slc rDecl_stays HB.out, HB0.out.trans (HB.out.mono HB0.out.size)⟩
theorem vars_any {w : World} {bv gv : Value} {m : PModel} (h : rModel w [bv, gv] m) (hl : m.blocks.length ≤ 1000) (hv : ∀ x ∈ m.blocks, x.vars.length ≤ 1000) (ht : (varsL m.blocks).length ≤ 100000) :
    Calls Tryd.prog 11 #[.agg #[bv, gv]] w fun e w' => ∃ v, e = .returned v ∧ Slc rDecl 2 w' v (varsL m.blocks) ∧ Below w.heap.size w w' := by
  obtain ⟨pb, bb, ob, cb, lb, rfl, hm⟩ := mod_of h
  exact vars_cells pb bb ob cb lb gv m w hm (by rw [hm.blocks.long]; exact hl) hv ht

theorem slc_of_ints {w : World} {base : Nat} {v : Value} {xs : List Int} (h : OwnsI w base v xs) (hf : ∀ x ∈ xs, Fit x) : Slc rNum 1 w v xs := by
  have h0 := h
  rcases h.2 with ⟨rfl, hl⟩ | ⟨g, cap, cur, rfl, hb, hg, hn, hc, hs, ht⟩
  · exact ⟨none, 0, 0, 0, 0, rfl, ⟨fun _ => rfl, Nat.le_refl _⟩, hl.symm, fun h => by omega, fun k a ha => by
      have := (List.getElem?_eq_some_iff.1 ha).1
      omega⟩
  · refine ⟨_, g, 0, cap, xs.length, rfl, ⟨(fun h => by cases h), hn⟩, rfl, fun _ => rfl, fun k a ha => ?_⟩
    have hk := (List.getElem?_eq_some_iff.1 ha).1
    refine ⟨[.int .i64 a], rfl, fun j hj => ?_, rfl, hf a (List.mem_of_getElem? ha)⟩
    obtain rfl : j = 0 := by omega
    rw [Nat.zero_add, Nat.mul_one, Nat.add_zero, h0.cellAt k (by omega)]
    simp [ha]
theorem ends_fit : ∀ (bs : List PBlock) (n : Nat), n + bs.length * 1000 ≤ 1000000 → (∀ x ∈ bs, x.vars.length ≤ 1000) → ∀ z ∈ endsF n bs, Fit z
  | [], _, _, _, z, hz => by simp [endsF] at hz
  | x :: r, n, h, hv, z, hz => by
    have hx := hv x (by simp)
    rw [List.length_cons] at h
    rw [endsF, List.mem_cons] at hz
    rcases hz with rfl | hz
    · unfold Fit; omega
    · exact ends_fit r (n + x.vars.length) (by omega) (fun y hy => hv y (by simp [hy])) z hz
theorem ends_any {w : World} {bv gv : Value} {m : PModel} (h : rModel w [bv, gv] m) (hl : m.blocks.length ≤ 1000) (hv : ∀ x ∈ m.blocks, x.vars.length ≤ 1000) :
    Calls Tryd.prog 25 #[.agg #[bv, gv]] w fun e w' => ∃ v, e = .returned v ∧ Slc rNum 1 w' v (endsF 0 m.blocks) ∧ Below w.heap.size w w' := by
  obtain ⟨pb, bb, ob, cb, lb, rfl, hm⟩ := mod_of h
  refine (ends_cells pb bb ob cb lb gv m w hm (by rw [hm.blocks.long]; exact hl) hv).mono ?_
  rintro e w' ⟨v, rfl, ho, hB⟩
  exact ⟨v, rfl, slc_of_ints ho (ends_fit m.blocks 0 (by omega) hv), hB⟩
end Go.Proofs.YtkgieaoahijheaaDoor
namespace Go.Proofs.YtkgieaoahijheaaDoor
open Go.RowKit
set_option maxRecDepth 100000

abbrev txt (s : ByteArray) : List UInt8 := s.data.toList
theorem txt_size (s : ByteArray) : s.size = (txt s).length := Lib.size_eq s
theorem idx {s : ByteArray} {k : Nat} {c : UInt8} (h : (txt s)[k]? = some c) : ∀ W, (Instr.index 9 (.string s) (.int .i64 (k : Int))).run Tryd.prog W = .ok (.int .u8 (c.toNat : Int)) W := by
  intro W
  obtain ⟨hk, e⟩ := List.getElem?_eq_some_iff.1 h
  have hk2 : k < s.size := by rw [txt_size]; exact hk
  rw [run_index_string W 9 s .i64 (k : Int) Tryd.underlying9, dif_pos ⟨by omega, by omega⟩]
  have e2 : s[(k : Int).toNat]'(by omega) = c := by
    rw [← e]
    rfl
  rw [e2]

def wordsL : List (List UInt8) := [[101, 120, 105, 115, 116, 115], [102, 111, 114, 97, 108, 108], [105, 110], [119, 104, 101, 114, 101], [97, 110, 100], [103, 111, 97, 108], [116, 114, 117, 101], [112, 114, 111, 100, 117, 99, 116], [105, 102, 102], [101, 108, 101, 109, 101, 110, 116], [100, 105, 102, 102, 101, 114, 101, 110, 116], [116, 97, 98, 108, 101]]
/-- may a byte stand at a place of a name? -/
def okAt (i : Nat) (c : UInt8) : Bool := (decide (97 ≤ c.toNat) && decide (c.toNat ≤ 122)) || (!decide (i = 0) && (decide (c.toNat = 95) || (decide (48 ≤ c.toNat) && decide (c.toNat ≤ 57))))
def okFrom (i : Nat) : List UInt8 → Bool
  | [] => true
  | c :: r => okAt i c && okFrom (i + 1) r
def nameL (s : List UInt8) : Bool := !wordsL.contains s && (okFrom 0 s && (decide (1 ≤ s.length) && decide (s.length ≤ 12)))

structure WordsAt (w wr : World) : Prop where
  below : Below w.heap.size w wr
  cell : ∀ k, k < 12 → ∃ q : ByteArray, wr.cell? ⟨w.heap.size, k, none⟩ = some (.string q) ∧ txt q = wordsL.getD k []
theorem words_at (w : World) : WordsAt w (w.alloc (.cells #[.string ⟨#[101, 120, 105, 115, 116, 115]⟩, .string ⟨#[102, 111, 114, 97, 108, 108]⟩, .string ⟨#[105, 110]⟩, .string ⟨#[119, 104, 101, 114, 101]⟩, .string ⟨#[97, 110, 100]⟩, .string ⟨#[103, 111, 97, 108]⟩, .string ⟨#[116, 114, 117, 101]⟩, .string ⟨#[112, 114, 111, 100, 117, 99, 116]⟩, .string ⟨#[105, 102, 102]⟩, .string ⟨#[101, 108, 101, 109, 101, 110, 116]⟩, .string ⟨#[100, 105, 102, 102, 101, 114, 101, 110, 116]⟩, .string ⟨#[116, 97, 98, 108, 101]⟩] 9)) :=
  ⟨(Below.refl _ w).alloc (Nat.le_refl _) _, fun k hk => by
    rw [World.cell?_alloc_mark]
    match k, hk with
    | 0, _ => exact ⟨_, rfl, rfl⟩
    | 1, _ => exact ⟨_, rfl, rfl⟩
    | 2, _ => exact ⟨_, rfl, rfl⟩
    | 3, _ => exact ⟨_, rfl, rfl⟩
    | 4, _ => exact ⟨_, rfl, rfl⟩
    | 5, _ => exact ⟨_, rfl, rfl⟩
    | 6, _ => exact ⟨_, rfl, rfl⟩
    | 7, _ => exact ⟨_, rfl, rfl⟩
    | 8, _ => exact ⟨_, rfl, rfl⟩
    | 9, _ => exact ⟨_, rfl, rfl⟩
    | 10, _ => exact ⟨_, rfl, rfl⟩
    | 11, _ => exact ⟨_, rfl, rfl⟩⟩
theorem words_hit {s : List UInt8} {k : Nat} (hk : k < 12) (h : s = wordsL.getD k []) : wordsL.contains s = true := by
  rw [List.contains_iff_mem, h, List.getD_eq_getElem?_getD, List.getElem?_eq_getElem (show k < wordsL.length from hk)]
  exact List.getElem_mem _
theorem words_miss {s : List UInt8} (h : ∀ j, j < 12 → s ≠ wordsL.getD j []) : wordsL.contains s = false := by
  cases e : wordsL.contains s
  · rfl
  · obtain ⟨j, hj, e⟩ := List.getElem_of_mem (List.contains_iff_mem.1 e)
    have hj2 : j < 12 := hj
    exact absurd (by simp [hj, e]) (h j hj2)
theorem eql_txt (s q : ByteArray) : binOp .eql 9 (.string s) (.string q) = pure (.bool (decide (txt s = txt q))) := by
  rw [binOp_string_eql]
  congr 2
  rw [Lib.toList_data, Lib.toList_data, Bool.eq_iff_iff]
  simp

set_option maxRecDepth 100000 in
set_option maxHeartbeats 2000000 in
theorem name_any (s : ByteArray) (w : World) (hm : s.size ≤ 1000) : Calls Tryd.prog 26 #[.string s] w fun e w' => e = .returned (.bool (nameL (txt s))) ∧ Below w.heap.size w w' := by
  obtain ⟨R, hR⟩ : ∃ R, R = nameL (txt s) := ⟨_, rfl⟩
  rw [← hR]
  have HR := Lib.hid hR
  obtain ⟨n, hn⟩ : ∃ n, n = s.size := ⟨_, rfl⟩
  have hsz : ((s.size : Nat) : Int) = (n : Int) := by rw [hn]
  rw [← hn] at hm
  have HL := Lib.hid (show n = (txt s).length by rw [hn, txt_size])
  have HO := Lib.hid (words_at w)
  have HZ := Lib.hid (show ∀ j, j < 0 → txt s ≠ wordsL.getD j [] from fun j h => by omega)
  clear hR hn
  go_enter Tryd.func26, Tryd.ntmps26
  go_wp2_with fail
  go_loopw [4] (fun i wr => ∃ k : Nat, k ≤ 12 ∧ i = .int .i64 k ∧ (∀ j, j < k → txt s ≠ wordsL.getD j []) ∧ WordsAt w wr) (fun i _ => 12 - (intOf i).toNat)
  case atStart => exact ⟨0, by omega, rfl, HZ.out, HO.out⟩
  case round =>
    obtain ⟨k, hk, rfl, hne, hat⟩ := hrel
    have HB := Lib.hid hat.below
    have HA := Lib.hid hat
    have HE := Lib.hid hne
    by_cases hlt : k < 12
    · obtain ⟨q, c0, hq⟩ := hat.cell k hlt
      have he := eql_txt s q
      rw [hq] at he
      clear hat hne
      by_cases hx : txt s = wordsL.getD k []
      · have key : R = false := by rw [HR.out, nameL, words_hit hlt hx]; rfl
        subst key
        rw [decide_eq_true hx] at he
        clear hx hq
        go_wp2_with fail
        go_ret
        exact ⟨rfl, HB.out⟩
      · have NX := Lib.hid (show ∀ j, j < k + 1 → txt s ≠ wordsL.getD j [] from fun j hj => by
          by_cases h : j < k
          · exact HE.out j h
          · obtain rfl : j = k := by omega
            exact hx)
        rw [decide_eq_false hx] at he
        clear hx hq
        go_wp2_with fail
        go_roundw
        case rel => exact ⟨k + 1, by omega, by go_num, NX.out, HA.out⟩
        case measure => simp [intOf]; omega
    · obtain rfl : k = 12 := by omega
      have HW := Lib.hid (words_miss HE.out)
      clear hat hne HA HE
      obtain ⟨W1, hW1⟩ : ∃ W1, W1 = wr := ⟨_, rfl⟩
      rw [← hW1] at HB ⊢
      clear hW1
      have HS2 := Lib.hid (show okFrom 0 (txt s) = okFrom 0 ((txt s).drop 0) by simp)
      go_wp2_with fail
      go_loopw [5] (fun i wr => (∃ k : Nat, k ≤ n ∧ i = .int .i64 k ∧ okFrom 0 (txt s) = okFrom k ((txt s).drop k)) ∧ wr = W1) (fun i _ => n - (intOf i).toNat)
      case atStart => exact ⟨⟨0, by omega, rfl, HS2.out⟩, rfl⟩
      case round =>
        obtain ⟨⟨k, hk2, rfl, hrel⟩, rfl⟩ := hrel
        by_cases hlt2 : k < n
        · have hkl : k < (txt s).length := by rw [← HL.out]; exact hlt2
          have ec : (txt s)[k]? = some (txt s)[k] := List.getElem?_eq_getElem hkl
          have ed := List.drop_eq_getElem_cons hkl
          generalize (txt s)[k] = c at ec ed
          have hx := idx ec
          have hstep : okFrom 0 (txt s) = (okAt k c && okFrom (k + 1) ((txt s).drop (k + 1))) := by rw [hrel, ed, okFrom]
          have HST := Lib.hid hstep
          have bad : okAt k c = false → R = false := fun h => by rw [HR.out, nameL, HST.out, h]; simp
          have good : okAt k c = true → okFrom 0 (txt s) = okFrom (k + 1) ((txt s).drop (k + 1)) := fun h => by rw [HST.out, h, Bool.true_and]
          have HG := Lib.hid good
          have HBD := Lib.hid bad
          clear hrel ec ed hkl hstep bad good
          have eok : okAt k c = ((decide (97 ≤ c.toNat) && decide (c.toNat ≤ 122)) || (!decide (k = 0) && (decide (c.toNat = 95) || (decide (48 ≤ c.toNat) && decide (c.toNat ≤ 57))))) := rfl
          by_cases a1 : 97 ≤ c.toNat ∧ c.toNat ≤ 122
          · have NX := Lib.hid (HG.out (by rw [eok, decide_eq_true a1.1, decide_eq_true a1.2]; rfl))
            clear eok
            have d97 : decide ((97 : Int) ≤ (c.toNat : Int)) = true := decide_eq_true (by omega)
            have d122 : decide ((c.toNat : Int) ≤ 122) = true := decide_eq_true (by omega)
            go_wp2_with fail
            go_roundw
            case rel => exact ⟨⟨k + 1, by omega, by go_num, NX.out⟩, trivial⟩
            case measure => simp [intOf]; omega
          · have el : (decide (97 ≤ c.toNat) && decide (c.toNat ≤ 122)) = false := by
              rw [Bool.eq_false_iff]
              simp
              omega
            rw [el, Bool.false_or] at eok
            by_cases k0 : k = 0
            · have key : R = false := HBD.out (by rw [eok, decide_eq_true k0]; rfl)
              subst key
              have k1 : ((k : Int) == 0) = true := by rw [k0]; rfl
              clear eok el k0
              by_cases a2 : 97 ≤ c.toNat
              · skip
                have d97 : decide ((97 : Int) ≤ (c.toNat : Int)) = true := decide_eq_true (by omega)
                have d122 : decide ((c.toNat : Int) ≤ 122) = false := decide_eq_false (by omega)
                go_wp2_with fail
                go_ret
                exact ⟨rfl, HB.out⟩
              · skip
                have d97 : decide ((97 : Int) ≤ (c.toNat : Int)) = false := decide_eq_false (by omega)
                go_wp2_with fail
                go_ret
                exact ⟨rfl, HB.out⟩
            · rw [decide_eq_false k0] at eok
              have k1 : ((k : Int) == 0) = false := beq_eq_false_iff_ne.2 (by omega)
              by_cases a3 : c.toNat = 95 ∨ 48 ≤ c.toNat ∧ c.toNat ≤ 57
              · have NX := Lib.hid (HG.out (by
                  rw [eok]
                  simp
                  omega))
                clear eok el
                rcases a3 with a4 | a4
                · have e95 : ((c.toNat : Int) == 95) = true := by rw [a4]; rfl
                  have d97 : decide ((97 : Int) ≤ (c.toNat : Int)) = false := decide_eq_false (by omega)
                  clear a4 a1
                  go_wp2_with fail
                  all_goals try (exfalso; have e96 := beq_iff_eq.1 e95; omega)
                  go_roundw
                  case rel => exact ⟨⟨k + 1, by omega, by go_num, NX.out⟩, trivial⟩
                  case measure => simp [intOf]; omega
                · have n95 : ¬ (c.toNat : Int) = 95 := by omega
                  have e95 : ((c.toNat : Int) == 95) = false := beq_eq_false_iff_ne.2 n95
                  have d97 : decide ((97 : Int) ≤ (c.toNat : Int)) = false := decide_eq_false (by omega)
                  have d48 : decide ((c.toNat : Int) < 48) = false := decide_eq_false (by omega)
                  have d57 : decide ((57 : Int) < (c.toNat : Int)) = false := decide_eq_false (by omega)
                  go_wp2_with fail
                  go_roundw
                  case rel => exact ⟨⟨k + 1, by omega, by go_num, NX.out⟩, trivial⟩
                  case measure => simp [intOf]; omega
              · have key : R = false := HBD.out (by
                  rw [eok]
                  simp
                  omega)
                subst key
                clear eok el
                have n95 : ¬ (c.toNat : Int) = 95 := by omega
                have e95 : ((c.toNat : Int) == 95) = false := beq_eq_false_iff_ne.2 n95
                by_cases a5 : 97 ≤ c.toNat
                · skip
                  have d97 : decide ((97 : Int) ≤ (c.toNat : Int)) = true := decide_eq_true (by omega)
                  have d122 : decide ((c.toNat : Int) ≤ 122) = false := decide_eq_false (by omega)
                  have d48 : decide ((c.toNat : Int) < 48) = false := decide_eq_false (by omega)
                  have d57 : decide ((57 : Int) < (c.toNat : Int)) = true := decide_eq_true (by omega)
                  go_wp2_with fail
                  go_ret
                  exact ⟨rfl, HB.out⟩
                · by_cases a6 : c.toNat < 48
                  · skip
                    have d97 : decide ((97 : Int) ≤ (c.toNat : Int)) = false := decide_eq_false (by omega)
                    have d48 : decide ((c.toNat : Int) < 48) = true := decide_eq_true (by omega)
                    go_wp2_with fail
                    go_ret
                    exact ⟨rfl, HB.out⟩
                  · skip
                    have d97 : decide ((97 : Int) ≤ (c.toNat : Int)) = false := decide_eq_false (by omega)
                    have d48 : decide ((c.toNat : Int) < 48) = false := decide_eq_false (by omega)
                    have d57 : decide ((57 : Int) < (c.toNat : Int)) = true := decide_eq_true (by omega)
                    go_wp2_with fail
                    go_ret
                    exact ⟨rfl, HB.out⟩
        · have hend : okFrom 0 (txt s) = true := by rw [hrel, List.drop_of_length_le (by rw [← HL.out]; omega), okFrom]
          have key : R = (decide (1 ≤ n) && decide (n ≤ 12)) := by rw [HR.out, nameL, HW.out, hend, ← HL.out]; rfl
          clear hrel hend
          by_cases b1 : 1 ≤ n
          · have f1 : decide ((1 : Int) ≤ (n : Int)) = true := decide_eq_true (by omega)
            by_cases b2 : n ≤ 12
            · have f2 : decide ((n : Int) ≤ 12) = true := decide_eq_true (by omega)
              rw [decide_eq_true b1, decide_eq_true b2] at key
              subst key
              go_wp2_with fail
              go_ret
              exact ⟨rfl, HB.out⟩
            · have f2 : decide ((n : Int) ≤ 12) = false := decide_eq_false (by omega)
              rw [decide_eq_true b1, decide_eq_false b2] at key
              subst key
              go_wp2_with fail
              go_ret
              exact ⟨rfl, HB.out⟩
          · have f1 : decide ((1 : Int) ≤ (n : Int)) = false := decide_eq_false (by omega)
            rw [decide_eq_false b1, Bool.false_and] at key
            subst key
            go_wp2_with fail
            go_ret
            exact ⟨rfl, HB.out⟩
end Go.Proofs.YtkgieaoahijheaaDoor
