/-
  The law ScanCut, at every two texts.
-/
import Derived.Test.YthdchifahgcjnaaCTellsLaw
namespace Go.Proofs.Ythdchifahgcjnaa
open Go.RowKit

theorem cat_two (a b : ByteArray) (h : a.size + b.size ≤ 100000) : binOp .add 9 (.string a) (.string b) = pure (.string (a ++ b)) := by
  rw [binOp_string_add]
  simp [Op.stringOp]
  omega
theorem txt_cat (a b : ByteArray) : txt (a ++ b) = txt a ++ txt b := by
  show (a ++ b).data.toList = _
  rw [ByteArray.data_append, Array.toList_append]
theorem scan_two0 (x b : List UInt8) : scanL 0 (x ++ nl :: b) = match scanL 0 x with | .bad p e => .bad p e | .ok l => ((scanL 0 b).shift (x.length + 1)).app l := by
  rw [scan_two, ← scan_shift]
  have e : 0 + x.length + 1 = 0 + (x.length + 1) := by omega
  rw [e]
  cases scanL 0 x <;> rfl
theorem scan_at (a : Nat) (x : List UInt8) : ∀ L, scanL a x = .ok L → ∀ t ∈ L, t.at_ < a + x.length := by
  refine scan_ind (Q := fun a x => ∀ L, scanL a x = .ok L → ∀ t ∈ L, t.at_ < a + x.length)
    (fun a L h t ht => by cases h; cases ht) (fun a c r h ih L hL t ht => ?_) (fun a c r e h L hL => ?_) (fun a c r k m v h ih L hL t ht => ?_) x.length a x (Nat.le_refl _)
  · rw [scan_skip a h] at hL
    have := ih L hL t ht
    rw [List.length_cons]; omega
  · rw [scan_bad a h] at hL
    cases hL
  · have hm := step_size h
    rw [scan_tok a h] at hL
    cases hq : scanL (a + m) ((c :: r).drop m) with
    | bad p e => rw [hq] at hL; cases hL
    | ok M =>
      rw [hq] at hL
      cases hL
      rcases List.mem_cons.1 ht with rfl | ht
      · show a < _
        omega
      · have := ih M hq t ht
        rw [List.length_drop] at this
        omega
theorem neq_self (kd v at_ : Int) (q : ByteArray) (W : World) : Sem.run Try.prog (binOp .neq 34 (.agg #[.int .i64 kd, .string q, .int .i64 v, .int .i64 at_]) (.agg #[.int .i64 kd, .string q, .int .i64 v, .int .i64 at_])) W = .ok (.bool false) W := by
  go_simp

/-- what a call of Scan hands back, whatever it is -/
theorem scan_some (s : ByteArray) (w : World) (hm : s.size ≤ 4000) : Calls Try.prog 6 #[.string s] w fun e w' => (∃ (v : Value) (q x : Nat), e = .returned (.tuple #[v, .int .i64 (q : Nat), .int .i64 (x : Nat)])) ∧ Below w.heap.size w w' := by
  refine (scan_any s w hm).mono ?_
  rintro e w' ⟨h, hB⟩
  refine ⟨?_, hB⟩
  cases hr : scanL 0 (txt s) with
  | ok L =>
    rw [hr] at h
    obtain ⟨v, rfl, _⟩ := h
    exact ⟨v, 0, 0, rfl⟩
  | bad p x =>
    rw [hr] at h
    obtain rfl : e = _ := h
    exact ⟨_, p, x, rfl⟩
theorem scan_wrong (s : ByteArray) (p x : Nat) (w : World) (hm : s.size ≤ 4000) (h : scanL 0 (txt s) = .bad p x) : Calls Try.prog 6 #[.string s] w fun e w' => e = .returned (.tuple #[.slice none 0 0, .int .i64 (p : Nat), .int .i64 (x : Nat)]) ∧ Below w.heap.size w w' := by
  refine (scan_any s w hm).mono ?_
  rintro e w' ⟨h1, hB⟩
  rw [h] at h1
  exact ⟨h1, hB⟩
theorem scan_right (s : ByteArray) (L : List Tok) (w : World) (hm : s.size ≤ 4000) (h : scanL 0 (txt s) = .ok L) : Calls Try.prog 6 #[.string s] w fun e w' => ∃ (p : Option Addr) (b off c n : Nat), n = L.length ∧ e = .returned (.tuple #[.slice p n c, .int .i64 0, .int .i64 0]) ∧ (0 < n → p = some ⟨b, off, none⟩) ∧ Cells w' b off L ∧ Below w.heap.size w w' := by
  refine (scan_any s w hm).mono ?_
  rintro e w' ⟨h1, hB⟩
  rw [h] at h1
  obtain ⟨v, rfl, ho⟩ := h1
  obtain ⟨p, b, off, c, rfl, hp, hc⟩ := sees_of_owns ho
  exact ⟨p, b, off, c, L.length, rfl, rfl, hp, hc, hB⟩

theorem below_six {w w1 w2 w3 w4 w5 : World} (h1 : Below w.heap.size w w1) (h2 : Below w1.heap.size w1 w2) (h3 : Below w2.heap.size w2 w3) (h4 : Below w3.heap.size w3 w4) (h5 : Below w4.heap.size w4 w5) : Below w.heap.size w w5 :=
  below_two (below_two (below_two (below_two h1 h2) h3) h4) h5

set_option maxRecDepth 100000 in
set_option maxHeartbeats 2000000 in
/-- the first text is wrong -/
theorem cut_one (a b ac abc ap : ByteArray) (na nb p x : Nat) (L : List Tok) (w : World) (ha : ((a.size : Nat) : Int) = (na : Int)) (hb : ((b.size : Nat) : Int) = (nb : Int)) (ma : na ≤ 1000) (mb : nb ≤ 1000)
    (hx : x = 2 ∨ x = 5) (hp : p ≤ na)
    (f1 : binOp .add 9 (.string a) (.string ⟨#[10]⟩) = pure (.string ac)) (f2 : binOp .add 9 (.string ac) (.string b) = pure (.string abc))
    (f3 : ∀ W, (Instr.slice 9 (.string a) none (some (.int .i64 (p : Int))) none).run Try.prog W = .ok (.string ap) W)
    (SA : Hid (∀ W, Calls Try.prog 6 #[.string a] W fun e w' => e = .returned (.tuple #[.slice none 0 0, .int .i64 (p : Nat), .int .i64 (x : Nat)]) ∧ Below W.heap.size W w'))
    (SB : Hid (∀ W, Calls Try.prog 6 #[.string b] W fun e w' => (∃ (v : Value) (q x : Nat), e = .returned (.tuple #[v, .int .i64 (q : Nat), .int .i64 (x : Nat)])) ∧ Below W.heap.size W w'))
    (SC : Hid (∀ W, Calls Try.prog 6 #[.string abc] W fun e w' => e = .returned (.tuple #[.slice none 0 0, .int .i64 (p : Nat), .int .i64 (x : Nat)]) ∧ Below W.heap.size W w'))
    (SP : Hid (∀ W, Calls Try.prog 6 #[.string ap] W fun e w' => ∃ (p : Option Addr) (b off c n : Nat), n = L.length ∧ e = .returned (.tuple #[.slice p n c, .int .i64 0, .int .i64 0]) ∧ (0 < n → p = some ⟨b, off, none⟩) ∧ Cells w' b off L ∧ Below W.heap.size W w')) :
    Calls Try.prog 4 #[.string a, .string b] w fun e w' => e = .returned (.bool true) ∧ Below w.heap.size w w' := by
  have AW := Lib.hid (awake_any w)
  have hx0 : ((x : Int) == 0) = false := beq_eq_false_iff_ne.2 (by omega)
  clear hx
  go_enter Try.func4, Try.ntmps4
  have m1 : ¬ (1000 : Int) < (na : Int) := by omega
  have m2 : ¬ (1000 : Int) < (nb : Int) := by omega
  have m3 : decide ((1000 : Int) < (na : Int)) = false := decide_eq_false m1
  have m4 : decide ((1000 : Int) < (nb : Int)) = false := decide_eq_false m2
  go_wp2_with fail
  refine AW.out.mono ?_
  rintro e w1 ⟨rfl, hB1⟩
  have HB1 := Lib.hid hB1
  clear hB1
  go_wp2_with fail
  refine (SA.out _).mono ?_
  rintro e w2 ⟨rfl, hB2⟩
  have HB2 := Lib.hid hB2
  clear hB2
  go_wp2_with fail
  refine (SB.out _).mono ?_
  rintro e w3 ⟨⟨v, q, y, rfl⟩, hB3⟩
  have HB3 := Lib.hid hB3
  clear hB3
  go_wp2_with fail
  refine (SC.out _).mono ?_
  rintro e w4 ⟨rfl, hB4⟩
  have HB4 := Lib.hid hB4
  clear hB4
  go_wp2_with fail
  refine (SP.out _).mono ?_
  rintro e w5 ⟨p5, b5, o5, c5, n5, _, rfl, _, _, hB5⟩
  have HB5 := Lib.hid hB5
  clear hB5
  go_wp2_with fail
  go_ret
  exact ⟨rfl, below_six HB1.out HB2.out HB3.out HB4.out HB5.out⟩

set_option maxRecDepth 100000 in
set_option maxHeartbeats 2000000 in
/-- the second text is wrong -/
theorem cut_other (a b ac abc : ByteArray) (na nb q x : Nat) (L : List Tok) (w : World) (ha : ((a.size : Nat) : Int) = (na : Int)) (hb : ((b.size : Nat) : Int) = (nb : Int)) (ma : na ≤ 1000) (mb : nb ≤ 1000)
    (hx : x = 2 ∨ x = 5) (hq : q ≤ nb)
    (f1 : binOp .add 9 (.string a) (.string ⟨#[10]⟩) = pure (.string ac)) (f2 : binOp .add 9 (.string ac) (.string b) = pure (.string abc))
    (SA : Hid (∀ W, Calls Try.prog 6 #[.string a] W fun e w' => ∃ (p : Option Addr) (b off c n : Nat), n = L.length ∧ e = .returned (.tuple #[.slice p n c, .int .i64 0, .int .i64 0]) ∧ (0 < n → p = some ⟨b, off, none⟩) ∧ Cells w' b off L ∧ Below W.heap.size W w'))
    (SB : Hid (∀ W, Calls Try.prog 6 #[.string b] W fun e w' => e = .returned (.tuple #[.slice none 0 0, .int .i64 (q : Nat), .int .i64 (x : Nat)]) ∧ Below W.heap.size W w'))
    (SC : Hid (∀ W, Calls Try.prog 6 #[.string abc] W fun e w' => e = .returned (.tuple #[.slice none 0 0, .int .i64 ((na : Int) + 1 + (q : Int)), .int .i64 (x : Nat)]) ∧ Below W.heap.size W w')) :
    Calls Try.prog 4 #[.string a, .string b] w fun e w' => e = .returned (.bool true) ∧ Below w.heap.size w w' := by
  have AW := Lib.hid (awake_any w)
  have hx0 : ((x : Int) == 0) = false := beq_eq_false_iff_ne.2 (by omega)
  clear hx
  go_enter Try.func4, Try.ntmps4
  have m1 : ¬ (1000 : Int) < (na : Int) := by omega
  have m2 : ¬ (1000 : Int) < (nb : Int) := by omega
  have m3 : decide ((1000 : Int) < (na : Int)) = false := decide_eq_false m1
  have m4 : decide ((1000 : Int) < (nb : Int)) = false := decide_eq_false m2
  go_wp2_with fail
  refine AW.out.mono ?_
  rintro e w1 ⟨rfl, hB1⟩
  have HB1 := Lib.hid hB1
  clear hB1
  go_wp2_with fail
  refine (SA.out _).mono ?_
  rintro e w2 ⟨p5, b5, o5, c5, n5, _, rfl, _, _, hB2⟩
  have HB2 := Lib.hid hB2
  clear hB2
  go_wp2_with fail
  refine (SB.out _).mono ?_
  rintro e w3 ⟨rfl, hB3⟩
  have HB3 := Lib.hid hB3
  clear hB3
  go_wp2_with fail
  refine (SC.out _).mono ?_
  rintro e w4 ⟨rfl, hB4⟩
  have HB4 := Lib.hid hB4
  clear hB4
  go_wp2_with fail
  go_ret
  exact ⟨rfl, below_two (below_two (below_two HB1.out HB2.out) HB3.out) HB4.out⟩


/-- the tokens of both texts, the second one's behind the first one's -/
theorem both_left {L M : List Tok} {d k : Nat} (h : k < L.length) : (L ++ M.map (shift d)).getD k noTok = L.getD k noTok := by
  rw [List.getD_eq_getElem?_getD, List.getElem?_append_left h, List.getD_eq_getElem?_getD]
theorem both_right {L M : List Tok} {d j : Nat} (h : j < M.length) : (L ++ M.map (shift d)).getD (L.length + j) noTok = shift d (M.getD j noTok) := by
  rw [List.getD_eq_getElem?_getD, List.getElem?_append_right (by omega), Nat.add_sub_cancel_left, List.getElem?_map, List.getElem?_eq_getElem h]
  simp [h]

set_option maxRecDepth 100000 in
set_option maxHeartbeats 4000000 in
/-- both texts are right -/
theorem cut_both (a b ac abc : ByteArray) (na nb : Nat) (L M : List Tok) (w : World) (ha : ((a.size : Nat) : Int) = (na : Int)) (hb : ((b.size : Nat) : Int) = (nb : Int)) (ma : na ≤ 1000) (mb : nb ≤ 1000)
    (fL : L.length ≤ na) (fM : M.length ≤ nb) (hat : ∀ t ∈ M, t.at_ < nb)
    (f1 : binOp .add 9 (.string a) (.string ⟨#[10]⟩) = pure (.string ac)) (f2 : binOp .add 9 (.string ac) (.string b) = pure (.string abc))
    (SA : Hid (∀ W, Calls Try.prog 6 #[.string a] W fun e w' => ∃ (p : Option Addr) (b off c n : Nat), n = L.length ∧ e = .returned (.tuple #[.slice p n c, .int .i64 0, .int .i64 0]) ∧ (0 < n → p = some ⟨b, off, none⟩) ∧ Cells w' b off L ∧ Below W.heap.size W w'))
    (SB : Hid (∀ W, Calls Try.prog 6 #[.string b] W fun e w' => ∃ (p : Option Addr) (b off c n : Nat), n = M.length ∧ e = .returned (.tuple #[.slice p n c, .int .i64 0, .int .i64 0]) ∧ (0 < n → p = some ⟨b, off, none⟩) ∧ Cells w' b off M ∧ Below W.heap.size W w'))
    (SC : Hid (∀ W, Calls Try.prog 6 #[.string abc] W fun e w' => ∃ (p : Option Addr) (b off c n : Nat), n = (L ++ M.map (shift (na + 1))).length ∧ e = .returned (.tuple #[.slice p n c, .int .i64 0, .int .i64 0]) ∧ (0 < n → p = some ⟨b, off, none⟩) ∧ Cells w' b off (L ++ M.map (shift (na + 1))) ∧ Below W.heap.size W w')) :
    Calls Try.prog 4 #[.string a, .string b] w fun e w' => e = .returned (.bool true) ∧ Below w.heap.size w w' := by
  have AW := Lib.hid (awake_any w)
  have HAT := Lib.hid hat
  clear hat
  go_enter Try.func4, Try.ntmps4
  have m1 : ¬ (1000 : Int) < (na : Int) := by omega
  have m2 : ¬ (1000 : Int) < (nb : Int) := by omega
  have m3 : decide ((1000 : Int) < (na : Int)) = false := decide_eq_false m1
  have m4 : decide ((1000 : Int) < (nb : Int)) = false := decide_eq_false m2
  go_wp2_with fail
  refine AW.out.mono ?_
  rintro e w1 ⟨rfl, hB1⟩
  have HB1 := Lib.hid hB1
  clear hB1
  go_wp2_with fail
  refine (SA.out _).mono ?_
  rintro e w2 ⟨pl, bl, ol, cl, nl, hnl, rfl, hpl, hcl, hB2⟩
  have HB2 := Lib.hid hB2
  have HNL := Lib.hid hnl
  have HCL := Lib.hid hcl
  have bnl : nl ≤ 1000 := by omega
  clear hB2 hnl hcl
  go_wp2_with fail
  refine (SB.out _).mono ?_
  rintro e w3 ⟨pm, bm, om, cm, nm, hnm, rfl, hpm, hcm, hB3⟩
  have HB3 := Lib.hid hB3
  have HNM := Lib.hid hnm
  have HCL := Lib.hid (cells_below HCL.out hB3)
  have HCM := Lib.hid hcm
  have bnm : nm ≤ 1000 := by omega
  clear hB3 hnm hcm
  go_wp2_with fail
  refine (SC.out _).mono ?_
  rintro e w4 ⟨pn, bn, on, cn, nn, hnn, rfl, hpn, hcn, hB4⟩
  have hsm : nn = nl + nm := by rw [hnn, List.length_append, List.length_map, ← HNL.out, ← HNM.out]
  have HSM := Lib.hid hsm
  have hsum : ((nn : Int) == (nl : Int) + (nm : Int)) = true := by rw [beq_iff_eq]; omega
  have HB4 := Lib.hid hB4
  have HCL := Lib.hid (cells_below HCL.out hB4)
  have HCM := Lib.hid (cells_below HCM.out hB4)
  have HCN := Lib.hid hcn
  have bnn : nn ≤ 2000 := by omega
  clear hB4 hnn hcn hsm
  go_wp2_with fail
  go_loopw [119] (fun i wr => ∃ k : Nat, k ≤ nn ∧ i = .int .i64 k ∧ Below w4.heap.size w4 wr) (fun i _ => nn - (intOf i).toNat)
  case atStart => exact ⟨0, by omega, rfl, Below.refl _ _⟩
  case round =>
    obtain ⟨k, hk, rfl, hB⟩ := hrel
    have HB := Lib.hid hB
    by_cases hlt : k < nn
    · obtain rfl := hpn (by omega)
      obtain ⟨c0, c1, c2, c3⟩ := (cells_below HCN.out hB) k (by rw [List.length_append, List.length_map, ← HNL.out, ← HNM.out, ← HSM.out]; exact hlt)
      have hns := neq_self
      by_cases hl : k < nl
      · obtain rfl := hpl (by omega)
        rw [both_left (by rw [← HNL.out]; exact hl)] at c0 c1 c2 c3
        obtain ⟨d0, d1, d2, d3⟩ := (cells_below HCL.out hB) k (by rw [← HNL.out]; exact hl)
        obtain ⟨t, et⟩ : ∃ t, t = L.getD k noTok := ⟨_, rfl⟩
        rw [← et] at c0 c1 c2 c3 d0 d1 d2 d3
        obtain ⟨q, eq⟩ := str_is t.text
        rw [eq] at c1 d1
        have hb1 : bl < wr.heap.size := World.block_lt_of_cell? _ _ d0
        have hb2 : bl < wr.heap.size + 1 := by omega
        clear et hB eq hpm
        go_wp2_with fail
        go_roundw
        case rel => exact ⟨k + 1, by omega, by go_num, (HB.out.alloc HB.out.size _).alloc (by have := HB.out.size; simp; omega) _⟩
        case measure => simp [intOf]; omega
      · obtain ⟨j, hj⟩ : ∃ j, k = nl + j := ⟨k - nl, by omega⟩
        have hjm : j < nm := by have := HSM.out; omega
        obtain rfl := hpm (by omega)
        have hjM : j < M.length := by rw [← HNM.out]; exact hjm
        have e0 : (L ++ M.map (shift (na + 1))).getD k noTok = shift (na + 1) (M.getD j noTok) := by rw [hj, HNL.out]; exact both_right hjM
        rw [e0] at c0 c1 c2 c3
        obtain ⟨d0, d1, d2, d3⟩ := (cells_below HCM.out hB) j hjM
        have hatj : (M.getD j noTok).at_ < nb := HAT.out _ (by rw [List.getD_eq_getElem?_getD, List.getElem?_eq_getElem hjM]; exact List.getElem_mem _)
        obtain ⟨t, et⟩ : ∃ t, t = M.getD j noTok := ⟨_, rfl⟩
        rw [← et] at c0 c1 c2 c3 d0 d1 d2 d3 hatj
        have k0 : wr.cell? ⟨bn, on + k * 4, none⟩ = some (.int .i64 (t.kind : Int)) := c0
        have k1 : wr.cell? ⟨bn, on + k * 4 + 1, none⟩ = some (str t.text) := c1
        have k2 : wr.cell? ⟨bn, on + k * 4 + 2, none⟩ = some (.int .i64 (t.value : Int)) := c2
        have k3 : wr.cell? ⟨bn, on + k * 4 + 3, none⟩ = some (.int .i64 ((t.at_ : Int) + ((na : Int) + 1))) := by
          rw [c3]
          rfl
        obtain ⟨q, eq⟩ := str_is t.text
        rw [eq] at k1 d1
        have hb1 : bm < wr.heap.size := World.block_lt_of_cell? _ _ d0
        have hb2 : bm < wr.heap.size + 1 := by omega
        have hsub : (k : Int) - (nl : Int) = (j : Int) := by omega
        clear et hB eq hpl c0 c1 c2 c3 e0 hjM hj
        go_wp2_with fail
        go_roundw
        case rel => exact ⟨k + 1, by omega, by go_num, (HB.out.alloc HB.out.size _).alloc (by have := HB.out.size; simp; omega) _⟩
        case measure => simp [intOf]; omega
    · clear hB hpl hpm hpn
      go_wp2_with fail
      go_ret
      exact ⟨rfl, (below_two (below_two (below_two HB1.out HB2.out) HB3.out) HB4.out).trans (HB.out.mono (below_two (below_two (below_two HB1.out HB2.out) HB3.out) HB4.out).size)⟩

theorem scan_place {x : List UInt8} {p e : Nat} (h : scanL 0 x = .bad p e) : p ≤ x.length ∧ ∃ l, scanL 0 (x.take p) = .ok l := by
  have := scan_ahead 0 x p e h
  simpa using this
theorem size_cat (a b : ByteArray) : (a ++ b).size = a.size + b.size := by
  rw [txt_size, txt_cat, List.length_append, ← txt_size, ← txt_size]
theorem txt_to (s : ByteArray) (p : Nat) : txt (s.extract 0 p) = (txt s).take p := by
  show (s.extract 0 p).data.toList = _
  rw [Lib.extract_data, List.drop_zero, Nat.sub_zero]

set_option maxRecDepth 100000 in
set_option maxHeartbeats 1000000 in
theorem cut_long (a b : ByteArray) (na nb : Nat) (w : World) (ha : ((a.size : Nat) : Int) = (na : Int)) (hb : ((b.size : Nat) : Int) = (nb : Int)) (h : 1000 < na ∨ 1000 < nb) :
    Calls Try.prog 4 #[.string a, .string b] w fun e w' => e = .returned (.bool true) ∧ Below w.heap.size w w' := by
  have AW := Lib.hid (awake_any w)
  by_cases h1 : 1000 < na
  · have m1 : (1000 : Int) < (na : Int) := by omega
    have m3 : decide ((1000 : Int) < (na : Int)) = true := decide_eq_true m1
    clear h h1
    go_enter Try.func4, Try.ntmps4
    go_wp2_with fail
    refine AW.out.mono ?_
    rintro e w1 ⟨rfl, hB1⟩
    have HB1 := Lib.hid hB1
    clear hB1
    go_wp2_with fail
    all_goals go_ret
    all_goals exact ⟨rfl, HB1.out⟩
  · have m1 : ¬ (1000 : Int) < (na : Int) := by omega
    have m3 : decide ((1000 : Int) < (na : Int)) = false := decide_eq_false m1
    have m2 : (1000 : Int) < (nb : Int) := by omega
    have m4 : decide ((1000 : Int) < (nb : Int)) = true := decide_eq_true m2
    clear h h1
    go_enter Try.func4, Try.ntmps4
    go_wp2_with fail
    refine AW.out.mono ?_
    rintro e w1 ⟨rfl, hB1⟩
    have HB1 := Lib.hid hB1
    clear hB1
    go_wp2_with fail
    all_goals go_ret
    all_goals exact ⟨rfl, HB1.out⟩

theorem cut_law (a b : ByteArray) (w : World) : Calls Try.prog 4 #[.string a, .string b] w fun e w' => e = .returned (.bool true) ∧ Below w.heap.size w w' := by
  by_cases hs : 1000 < a.size ∨ 1000 < b.size
  · exact cut_long a b _ _ w rfl rfl hs
  · have ma : a.size ≤ 1000 := by omega
    have mb : b.size ≤ 1000 := by omega
    have s1 : (⟨#[10]⟩ : ByteArray).size = 1 := rfl
    have f1 := cat_two a ⟨#[10]⟩ (by rw [s1]; omega)
    have z1 : (a ++ (⟨#[10]⟩ : ByteArray)).size = a.size + 1 := by rw [size_cat, s1]
    have f2 := cat_two (a ++ ⟨#[10]⟩) b (by rw [z1]; omega)
    have z2 : ((a ++ (⟨#[10]⟩ : ByteArray)) ++ b).size ≤ 4000 := by rw [size_cat, z1]; omega
    have t2 : txt ((a ++ (⟨#[10]⟩ : ByteArray)) ++ b) = txt a ++ nl :: txt b := by
      rw [txt_cat, txt_cat, List.append_assoc]
      rfl
    have hC := scan_two0 (txt a) (txt b)
    rw [← t2] at hC
    have la : (txt a).length = a.size := (txt_size a).symm
    have lb : (txt b).length = b.size := (txt_size b).symm
    cases hA : scanL 0 (txt a) with
    | bad p x =>
      rw [hA] at hC
      obtain ⟨hp, L, hL⟩ := scan_place hA
      rw [la] at hp
      exact cut_one a b _ _ (a.extract 0 p) _ _ p x L w rfl rfl ma mb (scan_err hA) hp f1 f2 (cut_to a p hp)
        (Lib.hid fun W => scan_wrong a p x W (by omega) hA) (Lib.hid fun W => scan_some b W (by omega)) (Lib.hid fun W => scan_wrong _ p x W z2 hC)
        (Lib.hid fun W => scan_right _ L W (by rw [size_cut hp]; omega) (by rw [txt_to]; exact hL))
    | ok L =>
      rw [hA] at hC
      cases hB : scanL 0 (txt b) with
      | bad q x =>
        rw [hB] at hC
        obtain ⟨hq, _⟩ := scan_place hB
        rw [lb] at hq
        have hC2 : scanL 0 (txt ((a ++ (⟨#[10]⟩ : ByteArray)) ++ b)) = .bad (q + (a.size + 1)) x := by rw [hC, ← la]; rfl
        have ei : ((q + (a.size + 1) : Nat) : Int) = (a.size : Int) + 1 + (q : Int) := by omega
        exact cut_other a b _ _ _ _ q x L w rfl rfl ma mb (scan_err hB) hq f1 f2
          (Lib.hid fun W => scan_right a L W (by omega) hA) (Lib.hid fun W => scan_wrong b q x W (by omega) hB)
          (Lib.hid fun W => by rw [← ei]; exact scan_wrong _ _ x W z2 hC2)
      | ok M =>
        rw [hB] at hC
        have hC2 : scanL 0 (txt ((a ++ (⟨#[10]⟩ : ByteArray)) ++ b)) = .ok (L ++ M.map (shift (a.size + 1))) := by rw [hC, ← la]; rfl
        have fL := scan_few _ _ _ hA
        have fM := scan_few _ _ _ hB
        have hat := scan_at _ _ _ hB
        rw [la] at fL
        rw [lb] at fM
        exact cut_both a b _ _ _ _ L M w rfl rfl ma mb fL fM (fun t ht => by have := hat t ht; rw [lb] at this; omega) f1 f2
          (Lib.hid fun W => scan_right a L W (by omega) hA) (Lib.hid fun W => scan_right b M W (by omega) hB) (Lib.hid fun W => scan_right _ _ W z2 hC2)
end Go.Proofs.Ythdchifahgcjnaa
