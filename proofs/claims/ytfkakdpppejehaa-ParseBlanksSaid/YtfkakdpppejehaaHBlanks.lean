/-
  The law ParseBlanks, at every text.
-/
import Derived.Test.YtfkakdpppejehaaZHMay
import Derived.Test.YtfkakdpppejehaaCRef
namespace Go.Proofs.Ytfkakdpppejehaa.Pp
open Go.RowKit
open Sc (Tok Cells str noTok scanL joined)
open Pa
set_option maxRecDepth 100000

theorem cat_any (a b : ByteArray) (h : a.size + b.size ≤ 100000) : binOp .add 9 (.string a) (.string b) = pure (.string (a ++ b)) := by
  rw [binOp_string_add]
  simp [Op.stringOp]
  omega
theorem cat_txt (a b : ByteArray) : txt (a ++ b) = txt a ++ txt b := by
  show (a ++ b).data.toList = _
  rw [ByteArray.data_append, Array.toList_append]
/-- the tokens of a text, parted by a line end and a space, are no more than three times as long -/
theorem joined_few (a : Nat) (l : List UInt8) : ∀ T, scanL a l = .ok T → (joined T).length ≤ 3 * l.length := by
  refine Sc.scan_ind (Q := fun a l => ∀ T, scanL a l = .ok T → (joined T).length ≤ 3 * l.length) (fun a T h => ?_) (fun a c r hs ih T h => ?_) (fun a c r e hs T h => ?_) (fun a c r k m v hs ih T h => ?_) l.length a l (Nat.le_refl _)
  · rw [Sc.scan_nil] at h
    cases h
    simp [joined]
  · rw [Sc.scan_skip a hs] at h
    have := ih T h
    simp
    omega
  · rw [Sc.scan_bad a hs] at h
    cases h
  · rw [Sc.scan_tok a hs] at h
    obtain ⟨T', h1, rfl⟩ := Sc.cons_ok h
    have hm := Sc.step_size hs
    have := ih T' h1
    rw [List.length_drop] at this
    have e : joined (⟨k, (c :: r).take m, v, a⟩ :: T') = Sc.nl :: 32 :: (c :: r).take m ++ joined T' := rfl
    have hl : ((c :: r).take m).length = m := by rw [List.length_take]; omega
    rw [e]
    simp only [List.cons_append, List.length_cons, List.length_append, hl] at this hm ⊢
    omega
theorem joined_snoc (A : List Tok) (t : Tok) : joined (A ++ [t]) = joined A ++ (Sc.nl :: 32 :: t.text) := by simp [joined]
theorem joined_pre (A B : List Tok) : (joined A).length ≤ (joined (A ++ B)).length := by simp [joined]
/-- what is the same in all but places comes out alike -/
theorem like_parts {R S : Out} (h : R.like S) : (∃ m, R = .model m ∧ S = .model m) ∨ ∃ p q e, R = .err p e ∧ S = .err q e := by
  cases R with
  | model m =>
    cases S with
    | model n => exact .inl ⟨m, rfl, by rw [show m = n from h]⟩
    | err q f => exact absurd h (by simp [Out.like])
  | err p e =>
    cases S with
    | model n => exact absurd h (by simp [Out.like])
    | err q f => exact .inr ⟨p, q, e, rfl, by rw [show e = f from h]⟩
theorem own_of_scan {s : List UInt8} {T : List Tok} (h : scanL 0 s = .ok T) : ∀ t ∈ T, Sc.Own t := fun t ht => by
  obtain ⟨i, hi⟩ := List.getElem?_of_mem ht
  exact ((Sc.known 0 s T h).2 i t hi).2.2.2.1
theorem parse_form' {S : List UInt8} {T : List Tok} (hs : scanL 0 S = .ok T) : parseL 10000 S = parseT 10000 T S.length := by
  unfold parseL
  rw [hs]
theorem key_texts {T U : List Tok} (h : U.map Pa.key = T.map Pa.key) : U.length = T.length ∧ ∀ (B : Nat), (∀ t ∈ T, t.text.length ≤ B) → ∀ u ∈ U, u.text.length ≤ B := by
  refine ⟨by have := congrArg List.length h; simpa using this, fun B hB u hu => ?_⟩
  have : Pa.key u ∈ T.map Pa.key := by rw [← h]; exact List.mem_map_of_mem hu
  obtain ⟨t, ht, e⟩ := List.mem_map.1 this
  simp only [Pa.key, Prod.mk.injEq] at e
  rw [← e.2.1]
  exact hB t ht
/-- what the two calls of Parse hand back -/
theorem blanks_know {s a : ByteArray} {T : List Tok} (hm : s.size ≤ 1000) (hs : scanL 0 (txt s) = .ok T) (ha : txt a = joined T) :
    a.size ≤ 3000 ∧ (∀ U, scanL 0 (txt a) = .ok U → U.length ≤ 1000 ∧ ∀ t ∈ U, t.text.length ≤ 1000) ∧ (parseL 10000 (txt s)).like (parseL 10000 (txt a)) := by
  obtain ⟨U, h1, h2⟩ := Sc.scan_joined T (own_of_scan hs) 0
  obtain ⟨k1, k2⟩ := known_few s hm T hs
  obtain ⟨k3, k4⟩ := key_texts h2
  have hl := joined_few 0 _ T hs
  have hl2 : (txt s).length = s.size := by rw [txt_size]
  rw [← ha] at h1 hl
  refine ⟨by rw [txt_size]; omega, fun V hV => ?_, ?_⟩
  · rw [h1] at hV
    cases hV
    exact ⟨by omega, k4 _ k2⟩
  · rw [parse_form' hs, parse_form' h1]
    exact like_out h2.symm
theorem list_refl {α : Type} {eq : α → α → Bool} (h : ∀ a, eq a a = true) : ∀ l : List α, listB eq l l = true
  | [] => rfl
  | a :: r => by simp [listB, h a, list_refl h r]
theorem same_refl (m : PModel) : sameM m m = true := by
  have hc : ∀ c, sameC c c = true := fun c => (sameC_iff c c).2 rfl
  have hd : ∀ d, sameD d d = true := fun d => (sameD_iff d d).2 rfl
  have hb : ∀ b, sameB b b = true := fun b => by simp [sameB, list_refl hc, list_refl hd]
  simp [sameM, list_refl hc, list_refl hb]
theorem nil_read {α : Type} {R : Reader α} {k : Nat} (w : World) : Slc R k w (.slice none 0 0) [] := ⟨none, 0, 0, 0, 0, rfl, ⟨fun _ => rfl, Nat.le_refl _⟩, rfl, fun h => by omega, fun k a h => by simp at h⟩
theorem none_read (w : World) : rModel w [.slice none 0 0, .slice none 0 0] ⟨[], []⟩ := ⟨_, _, rfl, nil_read w, nil_read w⟩
theorem few_none : Few ⟨[], []⟩ := by
  refine ⟨?_, ?_, ?_, ?_, ?_, ?_⟩ <;> simp [varsL]
/-- the texts that are put together -/
theorem cat_step {a : ByteArray} {A : List Tok} {t : Tok} {q : ByteArray} (ha : txt a = joined A) (ht : str t.text = .string q) (hb : a.size + t.text.length + 2 ≤ 50000) :
    ∃ b c : ByteArray, binOp .add 9 (.string ⟨#[10, 32]⟩) (.string q) = pure (.string b) ∧ binOp .add 9 (.string a) (.string b) = pure (.string c) ∧ txt c = joined (A ++ [t]) := by
  have hq : txt q = t.text := by
    have e : q = ⟨t.text.toArray⟩ := by
      simp only [str, Value.string.injEq] at ht
      exact ht.symm
    rw [e]
  have hq2 : q.size = t.text.length := by rw [txt_size, hq]
  have h2 : (⟨#[10, 32]⟩ : ByteArray).size = 2 := rfl
  have hc : ((⟨#[10, 32]⟩ : ByteArray) ++ q).size = 2 + q.size := by rw [txt_size, cat_txt, List.length_append, ← txt_size, ← txt_size, h2]
  refine ⟨⟨#[10, 32]⟩ ++ q, a ++ (⟨#[10, 32]⟩ ++ q), cat_any _ _ (by rw [h2]; omega), cat_any _ _ (by omega), ?_⟩
  rw [cat_txt, cat_txt, hq, ha, joined_snoc]
  rfl
set_option maxHeartbeats 4000000 in
theorem blanks_ok (s : ByteArray) (ns n : Nat) (T : List Tok) (w : World) (hns : ((s.size : Nat) : Int) = (ns : Int)) (ms : ns ≤ 1000) (hnT : Hid (n = T.length)) (hn1000 : n ≤ 1000) (hsc : Hid (scanL 0 (txt s) = .ok T)) (RX : Hid (∀ w : World, Calls Try.prog 9 #[.string s] w fun e w' => ∃ (p : Option Addr) (b off c : Nat), e = .returned (.tuple #[.slice p n c, .int .i64 0, .int .i64 0]) ∧ (0 < n → p = some ⟨b, off, none⟩) ∧ Sc.Cells w' b off T ∧ Below w.heap.size w w')) : Calls Try.prog 5 #[.string s] w fun e w' => e = .returned (.bool true) ∧ Below w.heap.size w w' := by
  have AW := Lib.hid (fun W => awake_any W)
  have m1 : ¬ (1000 : Int) < (ns : Int) := by omega
  have m2 : decide ((1000 : Int) < (ns : Int)) = false := decide_eq_false m1
  go_enter Try.func5, Try.ntmps5
  go_wp2_with fail
  refine (AW.out _).mono ?_
  rintro e w1 ⟨rfl, hB1⟩
  have B1 := Lib.hid hB1
  clear hB1
  go_wp2_with fail
  refine (RX.out _).mono ?_
  rintro e w2 ⟨pl, bl, ol, cl, rfl, hpl, hcl, hB2⟩
  have B2 := Lib.hid (B1.out.trans (hB2.mono B1.out.size))
  have HPL := Lib.hid hpl
  have HCL := Lib.hid hcl
  clear hB2 hcl hpl
  go_wp2_with fail
  go_loopw [30, 6] (fun i a wr => ∃ (k : Nat) (A : ByteArray), k ≤ n ∧ i = .int .i64 k ∧ a = .string A ∧ txt A = joined (T.take k) ∧ Below w2.heap.size w2 wr) (fun i _ _ => n - (intOf i).toNat)
  case atStart => exact ⟨0, ⟨#[]⟩, by omega, rfl, rfl, by rw [List.take_zero]; rfl, Below.refl _ _⟩
  case round =>
    obtain ⟨k, A, hk, rfl, rfl, hA, hB⟩ := hrel
    have HB := Lib.hid hB
    by_cases hlt : k < n
    · obtain rfl := HPL.out (by omega)
      obtain ⟨d0, d1, d2, d3⟩ := (Sc.cells_below HCL.out hB) k (by have := hnT.out; omega)
      obtain ⟨t, et⟩ : ∃ t, t = T.getD k Sc.noTok := ⟨_, rfl⟩
      have hT : T[k]? = some t := by
        rw [et, List.getD_eq_getElem?_getD, List.getElem?_eq_getElem (by have := hnT.out; omega)]
        rfl
      rw [← et] at d0 d1 d2 d3
      have hAs : A.size + t.text.length + 2 ≤ 50000 := by
        have h1 := joined_few 0 _ T hsc.out
        have h2 := joined_pre (T.take k) (T.drop k)
        rw [List.take_append_drop, ← hA] at h2
        have h3 := (known_few s (by omega) T hsc.out).2 t (List.mem_of_getElem? hT)
        have h4 : (txt s).length = s.size := by rw [txt_size]
        rw [txt_size]
        omega
      obtain ⟨q, eq⟩ : ∃ q, str t.text = .string q := ⟨_, rfl⟩
      obtain ⟨b, c, hb, hc, hC⟩ := cat_step hA eq hAs
      have htk : T.take (k + 1) = T.take k ++ [t] := by
        rw [List.take_add_one, hT]
        rfl
      rw [← htk] at hC
      have HC := Lib.hid hC
      rw [eq] at d1
      have hb1 : bl < wr.heap.size := World.block_lt_of_cell? _ _ d0
      have hb2 : bl < wr.heap.size + 1 := by omega
      clear et hB eq hAs hT hA hC htk
      go_wp2_with fail
      go_roundw
      case rel => exact ⟨k + 1, c, by omega, by go_num, rfl, HC.out, HB.out.alloc HB.out.size _⟩
      case measure => simp [intOf]; omega
    · obtain rfl : k = n := by omega
      have hA2 : txt A = joined T := by rw [hA, hnT.out, List.take_length]
      obtain ⟨k1, k2, k3⟩ := blanks_know (by omega) hsc.out hA2
      have P1 := Lib.hid (fun W => parse_any s (by omega) (known_few s (by omega)) W)
      have P2 := Lib.hid (fun W => parse_any A (by omega) k2 W)
      have B3 := Lib.hid (B2.out.trans (HB.out.mono B2.out.size))
      rcases like_parts k3 with ⟨m, e1, e2⟩ | ⟨p, q, e, e1, e2⟩
      · rw [e1] at P1
        rw [e2] at P2
        clear hA hB hlt hA2 k1 k2 k3 e1 e2 HB
        go_wp2_with fail
        refine (P1.out _).mono ?_
        rintro e w3 ⟨hB3, p1, l1, c1, p2, l2, c2, rfl, hm1, hf1⟩
        have k4 := (Below.refl _ w3).alloc (Nat.le_refl _) (.cells #[.slice p1 l1 c1, .slice p2 l2 c2] 26)
        have y4 := heap_alloc_new w3 (.cells #[.slice p1 l1 c1, .slice p2 l2 c2] 26)
        have B4 := Lib.hid (B3.out.trans (hB3.mono B3.out.size))
        obtain ⟨W4, hW4⟩ : ∃ W4, W4 = w3.alloc (.cells #[.slice p1 l1 c1, .slice p2 l2 c2] 26) := ⟨_, rfl⟩
        have HW4 := Lib.hid hW4
        rw [← hW4] at k4 y4
        have M4 := Lib.hid hm1
        have F4 := Lib.hid hf1
        have S4 := Lib.hid (show w3.heap.size < W4.heap.size by rw [hW4]; simp)
        have K4 := Lib.hid k4
        have Y4 := Lib.hid y4
        clear hB3 hm1 hf1 hW4 k4 y4
        go_wp2_with fail
        rw [← HW4.out]
        refine (P2.out _).mono ?_
        rintro e w5 ⟨hB5, q1, n1, d1, q2, n2, d2, rfl, hm2, hf2⟩
        have k5 := K4.out.trans (hB5.mono K4.out.size)
        have y5 := (hB5.block w3.heap.size S4.out).trans Y4.out
        have k6 := (Below.refl _ w5).alloc (Nat.le_refl _) (.cells #[.slice q1 n1 d1, .slice q2 n2 d2] 26)
        have y6 := heap_alloc_new w5 (.cells #[.slice q1 n1 d1, .slice q2 n2 d2] 26)
        have hlt := Nat.lt_of_lt_of_le S4.out hB5.size
        have y7 := (k6.block w3.heap.size hlt).trans y5
        have SX := Lib.hid (rsame_any (rModel_stays _ _ _ _ k6 (rModel_stays _ _ _ _ k5 M4.out)) (rModel_stays _ _ _ _ k6 hm2) F4.out hf2)
        rw [same_refl] at SX
        have B6 := Lib.hid ((B4.out.trans (k5.mono B4.out.size)).trans (k6.mono (Nat.le_trans B4.out.size k5.size)))
        have a0 : (w5.alloc (.cells #[.slice q1 n1 d1, .slice q2 n2 d2] 26)).cell? ⟨w3.heap.size, 0, none⟩ = some (.slice p1 l1 c1) := row_cell y7 0
        have a1 : (w5.alloc (.cells #[.slice q1 n1 d1, .slice q2 n2 d2] 26)).cell? ⟨w3.heap.size, 1, none⟩ = some (.slice p2 l2 c2) := row_cell y7 1
        have b0 : (w5.alloc (.cells #[.slice q1 n1 d1, .slice q2 n2 d2] 26)).cell? ⟨w5.heap.size, 0, none⟩ = some (.slice q1 n1 d1) := row_cell y6 0
        have b1 : (w5.alloc (.cells #[.slice q1 n1 d1, .slice q2 n2 d2] 26)).cell? ⟨w5.heap.size, 1, none⟩ = some (.slice q2 n2 d2) := row_cell y6 1
        have hne : w3.heap.size ≠ w5.heap.size := Nat.ne_of_lt hlt
        have hne1 : w3.heap.size < w5.heap.size := hlt
        have hne2 : w3.heap.size < w5.heap.size + 1 := Nat.lt_succ_of_lt hlt
        clear hB5 hm2 hf2 k5 y5 k6 y6 hlt y7
        go_wp2_with fail
        refine SX.out.mono ?_
        rintro e w7 ⟨rfl, hB7⟩
        have B7 := Lib.hid (B6.out.trans (hB7.mono B6.out.size))
        clear hB7
        go_wp2_with fail
        go_ret
        exact ⟨rfl, B7.out⟩
      · rw [e1] at P1
        rw [e2] at P2
        have hee : (e == e) = true := beq_self_eq_true _
        clear hA hB hlt hA2 k1 k2 k3 e1 e2 HB
        go_wp2_with fail
        refine (P1.out _).mono ?_
        rintro e w3 ⟨hB3, rfl⟩
        have hm1 := none_read w3
        have hf1 := few_none
        have k4 := (Below.refl _ w3).alloc (Nat.le_refl _) (.cells #[.slice none 0 0, .slice none 0 0] 26)
        have y4 := heap_alloc_new w3 (.cells #[.slice none 0 0, .slice none 0 0] 26)
        have B4 := Lib.hid (B3.out.trans (hB3.mono B3.out.size))
        obtain ⟨W4, hW4⟩ : ∃ W4, W4 = w3.alloc (.cells #[.slice none 0 0, .slice none 0 0] 26) := ⟨_, rfl⟩
        have HW4 := Lib.hid hW4
        rw [← hW4] at k4 y4
        have M4 := Lib.hid hm1
        have F4 := Lib.hid hf1
        have S4 := Lib.hid (show w3.heap.size < W4.heap.size by rw [hW4]; simp)
        have K4 := Lib.hid k4
        have Y4 := Lib.hid y4
        clear hB3 hm1 hf1 hW4 k4 y4
        go_wp2_with fail
        rw [← HW4.out]
        refine (P2.out _).mono ?_
        rintro e w5 ⟨hB5, rfl⟩
        have hm2 := none_read w5
        have hf2 := few_none
        have k5 := K4.out.trans (hB5.mono K4.out.size)
        have y5 := (hB5.block w3.heap.size S4.out).trans Y4.out
        have k6 := (Below.refl _ w5).alloc (Nat.le_refl _) (.cells #[.slice none 0 0, .slice none 0 0] 26)
        have y6 := heap_alloc_new w5 (.cells #[.slice none 0 0, .slice none 0 0] 26)
        have hlt := Nat.lt_of_lt_of_le S4.out hB5.size
        have y7 := (k6.block w3.heap.size hlt).trans y5
        have SX := Lib.hid (rsame_any (rModel_stays _ _ _ _ k6 (rModel_stays _ _ _ _ k5 M4.out)) (rModel_stays _ _ _ _ k6 hm2) F4.out hf2)
        rw [same_refl] at SX
        have B6 := Lib.hid ((B4.out.trans (k5.mono B4.out.size)).trans (k6.mono (Nat.le_trans B4.out.size k5.size)))
        have a0 : (w5.alloc (.cells #[.slice none 0 0, .slice none 0 0] 26)).cell? ⟨w3.heap.size, 0, none⟩ = some (.slice none 0 0) := row_cell y7 0
        have a1 : (w5.alloc (.cells #[.slice none 0 0, .slice none 0 0] 26)).cell? ⟨w3.heap.size, 1, none⟩ = some (.slice none 0 0) := row_cell y7 1
        have b0 : (w5.alloc (.cells #[.slice none 0 0, .slice none 0 0] 26)).cell? ⟨w5.heap.size, 0, none⟩ = some (.slice none 0 0) := row_cell y6 0
        have b1 : (w5.alloc (.cells #[.slice none 0 0, .slice none 0 0] 26)).cell? ⟨w5.heap.size, 1, none⟩ = some (.slice none 0 0) := row_cell y6 1
        have hne : w3.heap.size ≠ w5.heap.size := Nat.ne_of_lt hlt
        have hne1 : w3.heap.size < w5.heap.size := hlt
        have hne2 : w3.heap.size < w5.heap.size + 1 := Nat.lt_succ_of_lt hlt
        clear hB5 hm2 hf2 k5 y5 k6 y6 hlt y7
        go_wp2_with fail
        refine SX.out.mono ?_
        rintro e w7 ⟨rfl, hB7⟩
        have B7 := Lib.hid (B6.out.trans (hB7.mono B6.out.size))
        clear hB7
        go_wp2_with fail
        go_ret
        exact ⟨rfl, B7.out⟩
set_option maxHeartbeats 4000000 in
theorem blanks_long (s : ByteArray) (ns : Nat) (w : World) (hns : ((s.size : Nat) : Int) = (ns : Int)) (hl : 1000 < ns) : Calls Try.prog 5 #[.string s] w fun e w' => e = .returned (.bool true) ∧ Below w.heap.size w w' := by
  have AW := Lib.hid (fun W => awake_any W)
  have m1 : (1000 : Int) < (ns : Int) := by omega
  have m2 : decide ((1000 : Int) < (ns : Int)) = true := decide_eq_true m1
  go_enter Try.func5, Try.ntmps5
  go_wp2_with fail
  refine (AW.out _).mono ?_
  rintro e w1 ⟨rfl, hB1⟩
  have B1 := Lib.hid hB1
  clear hB1
  go_wp2_with fail
  go_ret
  exact ⟨rfl, B1.out⟩
set_option maxHeartbeats 4000000 in
theorem blanks_bad (s : ByteArray) (ns p : Nat) (x : Nat) (w : World) (hns : ((s.size : Nat) : Int) = (ns : Int)) (ms : ns ≤ 1000) (hx : x = 2 ∨ x = 5) (RX : Hid (∀ w : World, Calls Try.prog 9 #[.string s] w fun e w' => e = .returned (.tuple #[.slice none 0 0, .int .i64 (p : Nat), .int .i64 (x : Nat)]) ∧ Below w.heap.size w w')) : Calls Try.prog 5 #[.string s] w fun e w' => e = .returned (.bool true) ∧ Below w.heap.size w w' := by
  have AW := Lib.hid (fun W => awake_any W)
  have m1 : ¬ (1000 : Int) < (ns : Int) := by omega
  have m2 : decide ((1000 : Int) < (ns : Int)) = false := decide_eq_false m1
  have hx0 : ((x : Int) == 0) = false := beq_eq_false_iff_ne.2 (by omega)
  have hx1 : ((x : Int) != 0) = true := by rw [bne, hx0]; rfl
  clear hx
  go_enter Try.func5, Try.ntmps5
  go_wp2_with fail
  refine (AW.out _).mono ?_
  rintro e w1 ⟨rfl, hB1⟩
  have B1 := Lib.hid hB1
  clear hB1
  go_wp2_with fail
  refine (RX.out _).mono ?_
  rintro e w2 ⟨rfl, hB2⟩
  have B2 := Lib.hid (B1.out.trans (hB2.mono B1.out.size))
  clear hB2
  go_wp2_with fail
  go_ret
  exact ⟨rfl, B2.out⟩
theorem blanks_any (s : ByteArray) (w : World) : Calls Try.prog 5 #[.string s] w fun e w' => e = .returned (.bool true) ∧ Below w.heap.size w w' := by
  by_cases hs : s.size ≤ 1000
  · have hlen : (txt s).length = s.size := by rw [txt_size]
    have RX := fun W => Sc.rscan_any s W (by omega)
    rw [show Sc.txt s = txt s from rfl] at RX
    cases hsc : scanL 0 (txt s) with
    | bad p x =>
      have hx := Sc.scan_err hsc
      rw [hsc] at RX
      exact blanks_bad s _ p x w rfl (by omega) hx (Lib.hid RX)
    | ok T =>
      rw [hsc] at RX
      refine blanks_ok s _ _ T w rfl (by omega) (Lib.hid rfl) (known_few s hs T hsc).1 (Lib.hid hsc) (Lib.hid fun W => (RX W).mono fun e w' ⟨⟨v, he, ho⟩, hB⟩ => ?_)
      obtain ⟨pl, bl, ol, cl, hv, hpl, hcl⟩ := Sc.sees_of_owns ho
      exact ⟨pl, bl, ol, cl, by rw [he, hv], hpl, hcl, hB⟩
  · exact blanks_long s _ w rfl (by omega)
end Go.Proofs.Ytfkakdpppejehaa.Pp
