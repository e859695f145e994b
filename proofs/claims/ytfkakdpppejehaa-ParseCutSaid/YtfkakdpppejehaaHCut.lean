/-
  The law ParseCut, at every text.
-/
import Derived.Test.YtfkakdpppejehaaZHMay
import Derived.Test.YtfkakdpppejehaaCRef
namespace Go.Proofs.Ytfkakdpppejehaa.Pp
open Go.RowKit
open Sc (Tok Cells str noTok scanL)
open Pa
set_option maxRecDepth 100000

theorem txt_to (s : ByteArray) (p : Nat) : txt (s.extract 0 p) = (txt s).take p := by
  show (s.extract 0 p).data.toList = _
  rw [Lib.extract_data, List.drop_zero, Nat.sub_zero]
theorem size_to (s : ByteArray) {p : Nat} (h : p ≤ s.size) : (s.extract 0 p).size = p := by
  rw [txt_size, txt_to, List.length_take, ← txt_size]
  omega
theorem parse_form {S : List UInt8} {T : List Tok} (hs : scanL 0 S = .ok T) : parseL 10000 S = parseT 10000 T S.length := by
  unfold parseL
  rw [hs]
/-- the text cut off ahead of a token -/
theorem cut_scan {S : List UInt8} {T : List Tok} {i : Nat} {t : Tok} (hs : scanL 0 S = .ok T) (ht : T[i]? = some t) : scanL 0 (S.take t.at_) = .ok (T.take i) ∧ t.at_ < S.length := by
  obtain ⟨_, h2⟩ := Sc.known 0 S T hs
  obtain ⟨_, g2, _, _, g5⟩ := h2 i t ht
  rw [Nat.sub_zero] at g5
  exact ⟨g5, by omega⟩
/-- where a text is wrong -/
theorem wrong_at {S : List UInt8} {T : List Tok} {p : Nat} (hr : parseT 10000 T S.length = .err p 2) : p = placeT T S.length (bodyR 10000 T Pa.start).2.at_ := by
  unfold parseT outT at hr
  split at hr
  · simp only [Out.err.injEq] at hr
    exact hr.1.symm
  · split at hr
    · simp only [Out.err.injEq] at hr
      omega
    · split at hr
      · cases hr
      · rename_i hn
        simp only [Out.err.injEq] at hr
        exfalso
        rename_i hw _ _
        have hb := rs_body (K := 10000) (by decide) T Pa.start
        exact check_form hb.1 hb.2 hr.2
theorem wrong_not {S : List UInt8} {T : List Tok} (hr : ∀ p, parseT 10000 T S.length ≠ .err p 2) : (bodyR 10000 T Pa.start).2.wrong = false ∧ (bodyR 10000 T Pa.start).2.at_ = T.length := by
  have ht := body_top 10000 T
  unfold parseT outT at hr
  cases hw : (bodyR 10000 T Pa.start).2.wrong
  · refine ⟨rfl, ?_⟩
    apply Classical.byContradiction
    intro hne
    exact hr _ (if_pos (.inr (by omega)))
  · exact absurd (if_pos (.inl hw)) (hr _)
/-- cut off at the place that is wrong -/
theorem cut_there {S : List UInt8} {T : List Tok} {p k : Nat} (hs : scanL 0 S = .ok T) (hr : parseT 10000 T S.length = .err p 2) (h2 : parseL 10000 (S.take p) = .err k 2) : k = p := by
  have hp := wrong_at hr
  have htop := body_top 10000 T
  have hsc : ∃ n, n = (bodyR 10000 T Pa.start).2.at_ ∧ scanL 0 (S.take p) = .ok (T.take n) ∧ (S.take p).length = p := by
    refine ⟨_, rfl, ?_⟩
    by_cases hn : (bodyR 10000 T Pa.start).2.at_ < T.length
    · have e : placeT T S.length (bodyR 10000 T Pa.start).2.at_ = (T[(bodyR 10000 T Pa.start).2.at_]).at_ := by
        unfold placeT
        rw [List.getElem?_eq_getElem hn]
      rw [e] at hp
      obtain ⟨g1, g2⟩ := cut_scan hs (List.getElem?_eq_getElem hn)
      rw [← hp] at g1 g2
      exact ⟨g1, by rw [List.length_take]; omega⟩
    · have e : placeT T S.length (bodyR 10000 T Pa.start).2.at_ = S.length := by
        unfold placeT
        rw [List.getElem?_eq_none_iff.2 (by omega)]
      rw [e] at hp
      rw [hp, List.take_length, show T.take (bodyR 10000 T Pa.start).2.at_ = T from List.take_of_length_le (by omega)]
      exact ⟨hs, rfl⟩
  obtain ⟨n, hn, hsn, hl⟩ := hsc
  rw [parse_form hsn, hl] at h2
  have hat := cut_at (K := 10000) (T := T) (n := n) (by omega)
  cases hw : (bodyR 10000 (T.take n) Pa.start).2.wrong
  · exact absurd h2 (out_whole (by decide) hw (by rw [hat, List.length_take]; omega))
  · rw [cut_out (by omega) hw] at h2
    simp only [Out.err.injEq] at h2
    exact h2.1.symm
/-- cut off ahead of a token ahead of that -/
theorem cut_ahead {S : List UInt8} {T : List Tok} {i at_ : Nat} {t : Tok} (hs : scanL 0 S = .ok T) (ht : T[i]? = some t) (hlt : t.at_ < at_) (hat : (∃ x, parseT 10000 T S.length = .err at_ x ∧ x = 2) ∨ (∀ p, parseT 10000 T S.length ≠ .err p 2)) : parseL 10000 (S.take t.at_) = .err t.at_ 2 := by
  obtain ⟨g1, g2⟩ := cut_scan hs ht
  have hi := (List.getElem?_eq_some_iff.1 ht).1
  have hin : i < (bodyR 10000 T Pa.start).2.at_ := by
    rcases hat with ⟨x, hr, rfl⟩ | hn
    · have hp := wrong_at hr
      apply Classical.byContradiction
      intro hge
      have hn : (bodyR 10000 T Pa.start).2.at_ < T.length := by omega
      have e : placeT T S.length (bodyR 10000 T Pa.start).2.at_ = (T[(bodyR 10000 T Pa.start).2.at_]).at_ := by
        unfold placeT
        rw [List.getElem?_eq_getElem hn]
      have := Sc.places_rise hs (List.getElem?_eq_getElem hn) ht (by omega)
      omega
    · rw [(wrong_not hn).2]
      exact hi
  rw [parse_form g1, show (S.take t.at_).length = t.at_ by rw [List.length_take]; omega]
  exact cut_out (Nat.le_of_lt hin) (cut_wrong hin)
theorem cut_none (n : Nat) : parseT 10000 [] n = .err n 2 := by
  have hb : ∀ U, bodyR 10000 U Pa.start = ((mostR 10000 U Pa.start).1, (mustF tSemi (mostR 10000 U Pa.start).2 (next U (mostR 10000 U Pa.start).2)).2) := fun U => rfl
  have hw : (bodyR 10000 [] Pa.start).2.wrong = true := by
    rw [hb]
    have e : next [] (mostR 10000 [] Pa.start).2 = none := by
      unfold next
      split
      · rfl
      · rfl
    rw [e]
    rfl
  have h := cut_out (K := 10000) (T := ([] : List Tok)) (n := 0) (len := n) (Nat.zero_le _) hw
  exact h
def outG : Out → Int
  | .model _ => 0
  | .err _ e => e
def outP : Out → Nat
  | .model _ => 0
  | .err p _ => p
theorem out_err {R : Out} (h : outG R = 2) : R = .err (outP R) 2 := by
  cases R with
  | model q => simp [outG] at h
  | err p e =>
    simp only [outG] at h
    rw [h]
    rfl
theorem wrong_le {S : List UInt8} {T : List Tok} {p : Nat} (hs : scanL 0 S = .ok T) (hr : parseT 10000 T S.length = .err p 2) : p ≤ S.length := by
  rw [wrong_at hr]
  unfold placeT
  split
  · rename_i t ht
    obtain ⟨_, h2⟩ := Sc.known 0 S T hs
    obtain ⟨_, g2, _, _, _⟩ := h2 _ t ht
    omega
  · exact Nat.le_refl _
/-- what the law asks of the calls -/
theorem cut_know {S : List UInt8} {T : List Tok} (hs : scanL 0 S = .ok T) : ∃ q, q ≤ S.length ∧ (outG (parseL 10000 S) = 2 → outP (parseL 10000 S) = q ∧ (outG (parseL 10000 (S.take q)) = 2 → outP (parseL 10000 (S.take q)) = q)) ∧ (outG (parseL 10000 S) ≠ 2 → q = S.length) ∧
    (T = [] → outG (parseL 10000 S) = 2 ∧ q = S.length) ∧ ∀ (i : Nat) (t : Tok), T[i]? = some t → t.at_ < q → outG (parseL 10000 (S.take t.at_)) = 2 ∧ outP (parseL 10000 (S.take t.at_)) = t.at_ := by
  rw [parse_form hs]
  by_cases hf : outG (parseT 10000 T S.length) = 2
  · have hr := out_err hf
    refine ⟨outP (parseT 10000 T S.length), wrong_le hs hr, fun _ => ⟨rfl, fun h2 => cut_there hs hr (out_err h2)⟩, fun h => absurd hf h, fun hT => ⟨hf, ?_⟩, fun i t ht hlt => ?_⟩
    · subst hT
      rw [cut_none]
      rfl
    · have h := cut_ahead hs ht hlt (.inl ⟨2, hr, rfl⟩)
      rw [h]
      exact ⟨rfl, rfl⟩
  · refine ⟨S.length, Nat.le_refl _, fun h => absurd h hf, fun _ => rfl, fun hT => ?_, fun i t ht hlt => ?_⟩
    · subst hT
      rw [cut_none] at hf
      exact absurd rfl hf
    · have h := cut_ahead hs ht hlt (.inr (fun p hp => hf (by rw [hp]; rfl)))
      rw [h]
      exact ⟨rfl, rfl⟩
/-- a call of Parse: the place and the error that it hands back -/
def PairC (s : ByteArray) (p : Nat) (x : Int) : Prop := ∀ w : World, Calls Try.prog 7 #[.string s] w fun e w' => Below w.heap.size w w' ∧ ∃ (p1 : Option Addr) (l1 c1 : Nat) (p2 : Option Addr) (l2 c2 : Nat), e = .returned (.tuple #[.agg #[.slice p1 l1 c1, .slice p2 l2 c2], .int .i64 (p : Nat), .int .i64 x])
theorem parse_pair (s : ByteArray) (hs : s.size ≤ 1000) : PairC s (outP (parseL 10000 (txt s))) (outG (parseL 10000 (txt s))) := fun w => by
  refine (parse_any s (by omega) (known_few s hs) w).mono ?_
  rintro e w' ⟨hB, h⟩
  refine ⟨hB, ?_⟩
  cases hr : parseL 10000 (txt s) with
  | model q =>
    rw [hr] at h
    obtain ⟨p1, l1, c1, p2, l2, c2, rfl, _⟩ := h
    exact ⟨p1, l1, c1, p2, l2, c2, rfl⟩
  | err p x =>
    rw [hr] at h
    exact ⟨none, 0, 0, none, 0, 0, h⟩
/-- a text is cut off -/
def CutC (s sp : ByteArray) (q : Nat) : Prop := ∀ W : World, (Instr.slice 9 (.string s) none (some (.int .i64 (q : Int))) none).run Try.prog W = .ok (.string sp) W
/-- the document's tokens -/
def ScanC (s : ByteArray) (n : Nat) (T : List Tok) : Prop := ∀ w : World, Calls Try.prog 9 #[.string s] w fun e w' => ∃ (p : Option Addr) (b off c : Nat), e = .returned (.tuple #[.slice p n c, .int .i64 0, .int .i64 0]) ∧ (0 < n → p = some ⟨b, off, none⟩) ∧ Sc.Cells w' b off T ∧ Below w.heap.size w w'
/-- the tokens stay -/
structure CutS (w : World) (b off : Nat) (T : List Tok) (u : World) : Prop where
  cells : Sc.Cells u b off T
  low : Below w.heap.size w u
theorem CutS.on {w u u' : World} {b off : Nat} {T : List Tok} (h : CutS w b off T u) (hB : Below u.heap.size u u') : CutS w b off T u' := ⟨Sc.cells_below h.cells hB, h.low.trans (hB.mono h.low.size)⟩
theorem CutS.al {w u u' : World} {o : Obj} {b off : Nat} {T : List Tok} (h : CutS w b off T u) (hB : Below (u.alloc o).heap.size (u.alloc o) u') : CutS w b off T u' := (h.on ((Below.refl _ u).alloc (Nat.le_refl _) o)).on hB
theorem text_is (l : List UInt8) : ∃ q : ByteArray, str l = .string q := ⟨_, rfl⟩
set_option maxHeartbeats 4000000 in
theorem cut_ff (s sp : ByteArray) (z : Int) (ns q n : Nat) (T : List Tok) (w : World) (hz : 0 ≤ z ∧ z < 65536) (hns : ((s.size : Nat) : Int) = (ns : Int)) (ms : ns ≤ 1000) (hq : q ≤ ns) (hnT : n = T.length) (hn1000 : n ≤ 1000) (f1 : CutC s sp q) (RX : Hid (ScanC s n T)) (PX : Hid (PairC s q 2)) (P2 : Hid (PairC sp q 2)) (hn0 : n ≠ 0) (TX : Hid (∀ (i : Nat) (t : Tok), T[i]? = some t → t.at_ < q → ∃ st, CutC s st t.at_ ∧ PairC st t.at_ 2)) : Calls Try.prog 4 #[.string s, .int .u16 z] w fun e w' => e = .returned (.bool true) ∧ Below w.heap.size w w' := by
  have HNT := Lib.hid hnT
  clear hnT
  have AW := Lib.hid (fun W => awake_any W)
  have m1 : ¬ (1000 : Int) < (ns : Int) := by omega
  have m2 : decide ((1000 : Int) < (ns : Int)) = false := decide_eq_false m1
  have q0 : (0 : Int) ≤ ((q : Nat) : Int) := by omega
  have q1 : ¬ (ns : Int) < ((q : Nat) : Int) := by omega
  have q2 : ¬ ((q : Nat) : Int) < 0 := by omega
  have q3 : decide ((ns : Int) < ((q : Nat) : Int)) = false := decide_eq_false q1
  have q4 : decide (((q : Nat) : Int) < 0) = false := decide_eq_false q2
  have F1 := f1
  unfold CutC at F1
  go_enter Try.func4, Try.ntmps4
  go_wp2_with fail
  refine (AW.out _).mono ?_
  rintro e w1 ⟨rfl, hB1⟩
  have B1 := Lib.hid hB1
  clear hB1
  go_wp2_with fail
  refine (RX.out _).mono ?_
  rintro e w2 ⟨pl, bl, ol, cl, rfl, hpl, hcl, hB2⟩
  have B2 := Lib.hid (CutS.mk hcl (B1.out.trans (hB2.mono B1.out.size)))
  have HPL := Lib.hid hpl
  clear hB2 hcl hpl
  go_wp2_with fail
  refine (PX.out _).mono ?_
  rintro e w3 ⟨hB3, p1, l1, c1, p2, l2, c2, rfl⟩
  have B3 := Lib.hid (B2.out.on hB3)
  clear hB3
  go_wp2_with fail
  refine (P2.out _).mono ?_
  rintro e w4 ⟨hB4, p3, l3, c3, p4, l4, c4, rfl⟩
  have B4 := Lib.hid (B3.out.al hB4)
  clear hB4
  obtain ⟨i, hi⟩ : ∃ i, i = z.toNat % n := ⟨_, rfl⟩
  have hin : i < n := by rw [hi]; exact Nat.mod_lt _ (by omega)
  have hzi : ((z.toNat : Nat) : Int) = z := by omega
  have hrem : Int.tmod z (n : Int) = (i : Int) := by
    rw [hi, ← hzi, Int.ofNat_tmod]
    rfl
  have hT : T[i]? = some (T.getD i Sc.noTok) := by
    rw [List.getD_eq_getElem?_getD, List.getElem?_eq_getElem (by have := HNT.out; omega)]
    rfl
  obtain ⟨d0, d1, d2, d3⟩ := B4.out.cells i (by have := HNT.out; omega)
  obtain ⟨t, et⟩ : ∃ t, t = T.getD i Sc.noTok := ⟨_, rfl⟩
  rw [← et] at d0 d1 d2 d3 hT
  obtain ⟨tq, etq⟩ := text_is t.text
  rw [etq] at d1
  obtain rfl := HPL.out (by omega)
  have hbl : bl < w4.heap.size := World.block_lt_of_cell? _ _ d0
  have hbl2 : bl < w4.heap.size + 1 := by omega
  have hbl3 : bl ≠ w4.heap.size := by omega
  have hn1 : ((n : Int) == 0) = false := beq_eq_false_iff_ne.2 (by omega)
  have hin2 : (i : Int) < (n : Int) := by omega
  have hin3 : (0 : Int) ≤ (i : Int) := by omega
  by_cases hge : q ≤ t.at_
  · have hge2 : ((q : Nat) : Int) ≤ ((t.at_ : Nat) : Int) := by omega
    have hge3 : decide (((q : Nat) : Int) ≤ ((t.at_ : Nat) : Int)) = true := decide_eq_true hge2
    clear hge et etq hT hi hzi
    go_wp2_with fail
    go_ret
    exact ⟨rfl, (B4.out.low.alloc (by have := B4.out.low.size; omega) _).alloc (by have := B4.out.low.size; simp; omega) _⟩
  · have hge2 : ¬ ((q : Nat) : Int) ≤ ((t.at_ : Nat) : Int) := by omega
    have hge3 : decide (((q : Nat) : Int) ≤ ((t.at_ : Nat) : Int)) = false := decide_eq_false hge2
    obtain ⟨st, hst, hp3⟩ := TX.out i t hT (by omega)
    have P3 := Lib.hid hp3
    have t0 : (0 : Int) ≤ ((t.at_ : Nat) : Int) := by omega
    have t1 : ¬ (ns : Int) < ((t.at_ : Nat) : Int) := by omega
    have t2 : ¬ ((t.at_ : Nat) : Int) < 0 := by omega
    have F3 := hst
    unfold CutC at F3
    clear hge et etq hT hi hzi hp3 hst
    go_wp2_with fail
    refine (P3.out _).mono ?_
    rintro e w5 ⟨hB5, p5, l5, c5, p6, l6, c6, rfl⟩
    have B5 := Lib.hid ((B4.out.on ((Below.refl _ w4).alloc (Nat.le_refl _) _)).al hB5)
    have y5 := (hB5.block (w4.heap.size + 1) (by simp)).trans ((show (w4.alloc _).heap.size = w4.heap.size + 1 by simp) ▸ heap_alloc_new (w4.alloc _) _)
    have g3 : w5.cell? ⟨w4.heap.size + 1, 3, none⟩ = some (.int .i64 (t.at_ : Nat)) := cell_of_row w5 (w4.heap.size + 1) 3 _ 37 (0, 0) y5
    have eqt : ((t.at_ : Nat) : Int) == ((t.at_ : Nat) : Int) := beq_self_eq_true _
    clear hB5 y5
    go_wp2_with fail
    go_ret
    exact ⟨rfl, B5.out.low⟩
set_option maxHeartbeats 4000000 in
theorem cut_fg (s sp : ByteArray) (z : Int) (ns q n : Nat) (T : List Tok) (w : World) (hz : 0 ≤ z ∧ z < 65536) (hns : ((s.size : Nat) : Int) = (ns : Int)) (ms : ns ≤ 1000) (hq : q ≤ ns) (hnT : n = T.length) (hn1000 : n ≤ 1000) (f1 : CutC s sp q) (RX : Hid (ScanC s n T)) (g : Int) (k2 : Nat) (hg : (g == 2) = false) (PX : Hid (PairC s q 2)) (P2 : Hid (PairC sp k2 g)) (hn0 : n ≠ 0) (TX : Hid (∀ (i : Nat) (t : Tok), T[i]? = some t → t.at_ < q → ∃ st, CutC s st t.at_ ∧ PairC st t.at_ 2)) : Calls Try.prog 4 #[.string s, .int .u16 z] w fun e w' => e = .returned (.bool true) ∧ Below w.heap.size w w' := by
  have HNT := Lib.hid hnT
  clear hnT
  have AW := Lib.hid (fun W => awake_any W)
  have m1 : ¬ (1000 : Int) < (ns : Int) := by omega
  have m2 : decide ((1000 : Int) < (ns : Int)) = false := decide_eq_false m1
  have q0 : (0 : Int) ≤ ((q : Nat) : Int) := by omega
  have q1 : ¬ (ns : Int) < ((q : Nat) : Int) := by omega
  have q2 : ¬ ((q : Nat) : Int) < 0 := by omega
  have q3 : decide ((ns : Int) < ((q : Nat) : Int)) = false := decide_eq_false q1
  have q4 : decide (((q : Nat) : Int) < 0) = false := decide_eq_false q2
  have F1 := f1
  unfold CutC at F1
  go_enter Try.func4, Try.ntmps4
  go_wp2_with fail
  refine (AW.out _).mono ?_
  rintro e w1 ⟨rfl, hB1⟩
  have B1 := Lib.hid hB1
  clear hB1
  go_wp2_with fail
  refine (RX.out _).mono ?_
  rintro e w2 ⟨pl, bl, ol, cl, rfl, hpl, hcl, hB2⟩
  have B2 := Lib.hid (CutS.mk hcl (B1.out.trans (hB2.mono B1.out.size)))
  have HPL := Lib.hid hpl
  clear hB2 hcl hpl
  go_wp2_with fail
  refine (PX.out _).mono ?_
  rintro e w3 ⟨hB3, p1, l1, c1, p2, l2, c2, rfl⟩
  have B3 := Lib.hid (B2.out.on hB3)
  clear hB3
  go_wp2_with fail
  refine (P2.out _).mono ?_
  rintro e w4 ⟨hB4, p3, l3, c3, p4, l4, c4, rfl⟩
  have B4 := Lib.hid (B3.out.al hB4)
  clear hB4
  obtain ⟨i, hi⟩ : ∃ i, i = z.toNat % n := ⟨_, rfl⟩
  have hin : i < n := by rw [hi]; exact Nat.mod_lt _ (by omega)
  have hzi : ((z.toNat : Nat) : Int) = z := by omega
  have hrem : Int.tmod z (n : Int) = (i : Int) := by
    rw [hi, ← hzi, Int.ofNat_tmod]
    rfl
  have hT : T[i]? = some (T.getD i Sc.noTok) := by
    rw [List.getD_eq_getElem?_getD, List.getElem?_eq_getElem (by have := HNT.out; omega)]
    rfl
  obtain ⟨d0, d1, d2, d3⟩ := B4.out.cells i (by have := HNT.out; omega)
  obtain ⟨t, et⟩ : ∃ t, t = T.getD i Sc.noTok := ⟨_, rfl⟩
  rw [← et] at d0 d1 d2 d3 hT
  obtain ⟨tq, etq⟩ := text_is t.text
  rw [etq] at d1
  obtain rfl := HPL.out (by omega)
  have hbl : bl < w4.heap.size := World.block_lt_of_cell? _ _ d0
  have hbl2 : bl < w4.heap.size + 1 := by omega
  have hbl3 : bl ≠ w4.heap.size := by omega
  have hn1 : ((n : Int) == 0) = false := beq_eq_false_iff_ne.2 (by omega)
  have hin2 : (i : Int) < (n : Int) := by omega
  have hin3 : (0 : Int) ≤ (i : Int) := by omega
  by_cases hge : q ≤ t.at_
  · have hge2 : ((q : Nat) : Int) ≤ ((t.at_ : Nat) : Int) := by omega
    have hge3 : decide (((q : Nat) : Int) ≤ ((t.at_ : Nat) : Int)) = true := decide_eq_true hge2
    clear hge et etq hT hi hzi
    go_wp2_with fail
    go_ret
    exact ⟨rfl, (B4.out.low.alloc (by have := B4.out.low.size; omega) _).alloc (by have := B4.out.low.size; simp; omega) _⟩
  · have hge2 : ¬ ((q : Nat) : Int) ≤ ((t.at_ : Nat) : Int) := by omega
    have hge3 : decide (((q : Nat) : Int) ≤ ((t.at_ : Nat) : Int)) = false := decide_eq_false hge2
    obtain ⟨st, hst, hp3⟩ := TX.out i t hT (by omega)
    have P3 := Lib.hid hp3
    have t0 : (0 : Int) ≤ ((t.at_ : Nat) : Int) := by omega
    have t1 : ¬ (ns : Int) < ((t.at_ : Nat) : Int) := by omega
    have t2 : ¬ ((t.at_ : Nat) : Int) < 0 := by omega
    have F3 := hst
    unfold CutC at F3
    clear hge et etq hT hi hzi hp3 hst
    go_wp2_with fail
    refine (P3.out _).mono ?_
    rintro e w5 ⟨hB5, p5, l5, c5, p6, l6, c6, rfl⟩
    have B5 := Lib.hid ((B4.out.on ((Below.refl _ w4).alloc (Nat.le_refl _) _)).al hB5)
    have y5 := (hB5.block (w4.heap.size + 1) (by simp)).trans ((show (w4.alloc _).heap.size = w4.heap.size + 1 by simp) ▸ heap_alloc_new (w4.alloc _) _)
    have g3 : w5.cell? ⟨w4.heap.size + 1, 3, none⟩ = some (.int .i64 (t.at_ : Nat)) := cell_of_row w5 (w4.heap.size + 1) 3 _ 37 (0, 0) y5
    have eqt : ((t.at_ : Nat) : Int) == ((t.at_ : Nat) : Int) := beq_self_eq_true _
    clear hB5 y5
    go_wp2_with fail
    go_ret
    exact ⟨rfl, B5.out.low⟩
set_option maxHeartbeats 4000000 in
theorem cut_x (s sp : ByteArray) (z : Int) (ns q n : Nat) (T : List Tok) (w : World) (hz : 0 ≤ z ∧ z < 65536) (hns : ((s.size : Nat) : Int) = (ns : Int)) (ms : ns ≤ 1000) (hq : q ≤ ns) (hnT : n = T.length) (hn1000 : n ≤ 1000) (f1 : CutC s sp q) (RX : Hid (ScanC s n T)) (f g : Int) (P k2 : Nat) (hqn : q = ns) (hf : (f == 2) = false) (PX : Hid (PairC s P f)) (P2 : Hid (PairC sp k2 g)) (hn0 : n ≠ 0) (TX : Hid (∀ (i : Nat) (t : Tok), T[i]? = some t → t.at_ < q → ∃ st, CutC s st t.at_ ∧ PairC st t.at_ 2)) : Calls Try.prog 4 #[.string s, .int .u16 z] w fun e w' => e = .returned (.bool true) ∧ Below w.heap.size w w' := by
  have hqq := hqn.symm
  subst hqq
  have hf2 : (f != 2) = true := by rw [bne, hf]; rfl
  have HNT := Lib.hid hnT
  clear hnT
  have AW := Lib.hid (fun W => awake_any W)
  have m1 : ¬ (1000 : Int) < (ns : Int) := by omega
  have m2 : decide ((1000 : Int) < (ns : Int)) = false := decide_eq_false m1
  have q0 : (0 : Int) ≤ ((ns : Nat) : Int) := by omega
  have q1 : ¬ (ns : Int) < ((ns : Nat) : Int) := by omega
  have q2 : ¬ ((ns : Nat) : Int) < 0 := by omega
  have q3 : decide ((ns : Int) < ((ns : Nat) : Int)) = false := decide_eq_false q1
  have q4 : decide (((ns : Nat) : Int) < 0) = false := decide_eq_false q2
  have F1 := f1
  unfold CutC at F1
  go_enter Try.func4, Try.ntmps4
  go_wp2_with fail
  refine (AW.out _).mono ?_
  rintro e w1 ⟨rfl, hB1⟩
  have B1 := Lib.hid hB1
  clear hB1
  go_wp2_with fail
  refine (RX.out _).mono ?_
  rintro e w2 ⟨pl, bl, ol, cl, rfl, hpl, hcl, hB2⟩
  have B2 := Lib.hid (CutS.mk hcl (B1.out.trans (hB2.mono B1.out.size)))
  have HPL := Lib.hid hpl
  clear hB2 hcl hpl
  go_wp2_with fail
  refine (PX.out _).mono ?_
  rintro e w3 ⟨hB3, p1, l1, c1, p2, l2, c2, rfl⟩
  have B3 := Lib.hid (B2.out.on hB3)
  clear hB3
  go_wp2_with fail
  refine (P2.out _).mono ?_
  rintro e w4 ⟨hB4, p3, l3, c3, p4, l4, c4, rfl⟩
  have B4 := Lib.hid (B3.out.al hB4)
  clear hB4
  obtain ⟨i, hi⟩ : ∃ i, i = z.toNat % n := ⟨_, rfl⟩
  have hin : i < n := by rw [hi]; exact Nat.mod_lt _ (by omega)
  have hzi : ((z.toNat : Nat) : Int) = z := by omega
  have hrem : Int.tmod z (n : Int) = (i : Int) := by
    rw [hi, ← hzi, Int.ofNat_tmod]
    rfl
  have hT : T[i]? = some (T.getD i Sc.noTok) := by
    rw [List.getD_eq_getElem?_getD, List.getElem?_eq_getElem (by have := HNT.out; omega)]
    rfl
  obtain ⟨d0, d1, d2, d3⟩ := B4.out.cells i (by have := HNT.out; omega)
  obtain ⟨t, et⟩ : ∃ t, t = T.getD i Sc.noTok := ⟨_, rfl⟩
  rw [← et] at d0 d1 d2 d3 hT
  obtain ⟨tq, etq⟩ := text_is t.text
  rw [etq] at d1
  obtain rfl := HPL.out (by omega)
  have hbl : bl < w4.heap.size := World.block_lt_of_cell? _ _ d0
  have hbl2 : bl < w4.heap.size + 1 := by omega
  have hbl3 : bl ≠ w4.heap.size := by omega
  have hn1 : ((n : Int) == 0) = false := beq_eq_false_iff_ne.2 (by omega)
  have hin2 : (i : Int) < (n : Int) := by omega
  have hin3 : (0 : Int) ≤ (i : Int) := by omega
  by_cases hge : ns ≤ t.at_
  · have hge2 : ((ns : Nat) : Int) ≤ ((t.at_ : Nat) : Int) := by omega
    have hge3 : decide (((ns : Nat) : Int) ≤ ((t.at_ : Nat) : Int)) = true := decide_eq_true hge2
    clear hge et etq hT hi hzi
    go_wp2_with fail
    go_ret
    exact ⟨rfl, (B4.out.low.alloc (by have := B4.out.low.size; omega) _).alloc (by have := B4.out.low.size; simp; omega) _⟩
  · have hge2 : ¬ ((ns : Nat) : Int) ≤ ((t.at_ : Nat) : Int) := by omega
    have hge3 : decide (((ns : Nat) : Int) ≤ ((t.at_ : Nat) : Int)) = false := decide_eq_false hge2
    obtain ⟨st, hst, hp3⟩ := TX.out i t hT (by omega)
    have P3 := Lib.hid hp3
    have t0 : (0 : Int) ≤ ((t.at_ : Nat) : Int) := by omega
    have t1 : ¬ (ns : Int) < ((t.at_ : Nat) : Int) := by omega
    have t2 : ¬ ((t.at_ : Nat) : Int) < 0 := by omega
    have F3 := hst
    unfold CutC at F3
    clear hge et etq hT hi hzi hp3 hst
    go_wp2_with fail
    refine (P3.out _).mono ?_
    rintro e w5 ⟨hB5, p5, l5, c5, p6, l6, c6, rfl⟩
    have B5 := Lib.hid ((B4.out.on ((Below.refl _ w4).alloc (Nat.le_refl _) _)).al hB5)
    have y5 := (hB5.block (w4.heap.size + 1) (by simp)).trans ((show (w4.alloc _).heap.size = w4.heap.size + 1 by simp) ▸ heap_alloc_new (w4.alloc _) _)
    have g3 : w5.cell? ⟨w4.heap.size + 1, 3, none⟩ = some (.int .i64 (t.at_ : Nat)) := cell_of_row w5 (w4.heap.size + 1) 3 _ 37 (0, 0) y5
    have eqt : ((t.at_ : Nat) : Int) == ((t.at_ : Nat) : Int) := beq_self_eq_true _
    clear hB5 y5
    go_wp2_with fail
    go_ret
    exact ⟨rfl, B5.out.low⟩
set_option maxHeartbeats 4000000 in
theorem cut_nf (s sp : ByteArray) (z : Int) (ns q n : Nat) (T : List Tok) (w : World) (_ : 0 ≤ z ∧ z < 65536) (hns : ((s.size : Nat) : Int) = (ns : Int)) (ms : ns ≤ 1000) (hq : q ≤ ns) (hnT : n = T.length) (hn1000 : n ≤ 1000) (f1 : CutC s sp q) (RX : Hid (ScanC s n T)) (hqn : q = ns) (hn0 : n = 0) (PX : Hid (PairC s q 2)) (P2 : Hid (PairC sp q 2)) : Calls Try.prog 4 #[.string s, .int .u16 z] w fun e w' => e = .returned (.bool true) ∧ Below w.heap.size w w' := by
  have hqq := hqn.symm
  subst hqq
  subst hn0
  have HNT := Lib.hid hnT
  clear hnT
  have AW := Lib.hid (fun W => awake_any W)
  have m1 : ¬ (1000 : Int) < (ns : Int) := by omega
  have m2 : decide ((1000 : Int) < (ns : Int)) = false := decide_eq_false m1
  have q0 : (0 : Int) ≤ ((ns : Nat) : Int) := by omega
  have q1 : ¬ (ns : Int) < ((ns : Nat) : Int) := by omega
  have q2 : ¬ ((ns : Nat) : Int) < 0 := by omega
  have q3 : decide ((ns : Int) < ((ns : Nat) : Int)) = false := decide_eq_false q1
  have q4 : decide (((ns : Nat) : Int) < 0) = false := decide_eq_false q2
  have F1 := f1
  unfold CutC at F1
  go_enter Try.func4, Try.ntmps4
  go_wp2_with fail
  refine (AW.out _).mono ?_
  rintro e w1 ⟨rfl, hB1⟩
  have B1 := Lib.hid hB1
  clear hB1
  go_wp2_with fail
  refine (RX.out _).mono ?_
  rintro e w2 ⟨pl, bl, ol, cl, rfl, hpl, hcl, hB2⟩
  have B2 := Lib.hid (CutS.mk hcl (B1.out.trans (hB2.mono B1.out.size)))
  have HPL := Lib.hid hpl
  clear hB2 hcl hpl
  go_wp2_with fail
  refine (PX.out _).mono ?_
  rintro e w3 ⟨hB3, p1, l1, c1, p2, l2, c2, rfl⟩
  have B3 := Lib.hid (B2.out.on hB3)
  clear hB3
  go_wp2_with fail
  refine (P2.out _).mono ?_
  rintro e w4 ⟨hB4, p3, l3, c3, p4, l4, c4, rfl⟩
  have B4 := Lib.hid (B3.out.al hB4)
  clear hB4
  go_wp2_with fail
  go_ret
  exact ⟨rfl, (B4.out.low).alloc (by have := B4.out.low.size; omega) _⟩
set_option maxHeartbeats 4000000 in
theorem cut_ng (s sp : ByteArray) (z : Int) (ns q n : Nat) (T : List Tok) (w : World) (_ : 0 ≤ z ∧ z < 65536) (hns : ((s.size : Nat) : Int) = (ns : Int)) (ms : ns ≤ 1000) (hq : q ≤ ns) (hnT : n = T.length) (hn1000 : n ≤ 1000) (f1 : CutC s sp q) (RX : Hid (ScanC s n T)) (g : Int) (k2 : Nat) (hg : (g == 2) = false) (hqn : q = ns) (hn0 : n = 0) (PX : Hid (PairC s q 2)) (P2 : Hid (PairC sp k2 g)) : Calls Try.prog 4 #[.string s, .int .u16 z] w fun e w' => e = .returned (.bool true) ∧ Below w.heap.size w w' := by
  have hqq := hqn.symm
  subst hqq
  subst hn0
  have HNT := Lib.hid hnT
  clear hnT
  have AW := Lib.hid (fun W => awake_any W)
  have m1 : ¬ (1000 : Int) < (ns : Int) := by omega
  have m2 : decide ((1000 : Int) < (ns : Int)) = false := decide_eq_false m1
  have q0 : (0 : Int) ≤ ((ns : Nat) : Int) := by omega
  have q1 : ¬ (ns : Int) < ((ns : Nat) : Int) := by omega
  have q2 : ¬ ((ns : Nat) : Int) < 0 := by omega
  have q3 : decide ((ns : Int) < ((ns : Nat) : Int)) = false := decide_eq_false q1
  have q4 : decide (((ns : Nat) : Int) < 0) = false := decide_eq_false q2
  have F1 := f1
  unfold CutC at F1
  go_enter Try.func4, Try.ntmps4
  go_wp2_with fail
  refine (AW.out _).mono ?_
  rintro e w1 ⟨rfl, hB1⟩
  have B1 := Lib.hid hB1
  clear hB1
  go_wp2_with fail
  refine (RX.out _).mono ?_
  rintro e w2 ⟨pl, bl, ol, cl, rfl, hpl, hcl, hB2⟩
  have B2 := Lib.hid (CutS.mk hcl (B1.out.trans (hB2.mono B1.out.size)))
  have HPL := Lib.hid hpl
  clear hB2 hcl hpl
  go_wp2_with fail
  refine (PX.out _).mono ?_
  rintro e w3 ⟨hB3, p1, l1, c1, p2, l2, c2, rfl⟩
  have B3 := Lib.hid (B2.out.on hB3)
  clear hB3
  go_wp2_with fail
  refine (P2.out _).mono ?_
  rintro e w4 ⟨hB4, p3, l3, c3, p4, l4, c4, rfl⟩
  have B4 := Lib.hid (B3.out.al hB4)
  clear hB4
  go_wp2_with fail
  go_ret
  exact ⟨rfl, (B4.out.low).alloc (by have := B4.out.low.size; omega) _⟩
set_option maxHeartbeats 4000000 in
theorem cut_long (s : ByteArray) (z : Int) (ns : Nat) (w : World) (hns : ((s.size : Nat) : Int) = (ns : Int)) (hl : 1000 < ns) : Calls Try.prog 4 #[.string s, .int .u16 z] w fun e w' => e = .returned (.bool true) ∧ Below w.heap.size w w' := by
  have AW := Lib.hid (fun W => awake_any W)
  have m1 : (1000 : Int) < (ns : Int) := by omega
  have m2 : decide ((1000 : Int) < (ns : Int)) = true := decide_eq_true m1
  go_enter Try.func4, Try.ntmps4
  go_wp2_with fail
  refine (AW.out _).mono ?_
  rintro e w1 ⟨rfl, hB1⟩
  have B1 := Lib.hid hB1
  clear hB1
  go_wp2_with fail
  go_ret
  exact ⟨rfl, B1.out⟩
set_option maxHeartbeats 4000000 in
theorem cut_bad (s : ByteArray) (z : Int) (ns p : Nat) (x : Nat) (w : World) (hns : ((s.size : Nat) : Int) = (ns : Int)) (ms : ns ≤ 1000) (hx : x = 2 ∨ x = 5) (PX : Hid (PairC s p x)) (RX : Hid (∀ w : World, Calls Try.prog 9 #[.string s] w fun e w' => e = .returned (.tuple #[.slice none 0 0, .int .i64 (p : Nat), .int .i64 (x : Nat)]) ∧ Below w.heap.size w w')) : Calls Try.prog 4 #[.string s, .int .u16 z] w fun e w' => e = .returned (.bool true) ∧ Below w.heap.size w w' := by
  have AW := Lib.hid (fun W => awake_any W)
  have m1 : ¬ (1000 : Int) < (ns : Int) := by omega
  have m2 : decide ((1000 : Int) < (ns : Int)) = false := decide_eq_false m1
  have hx0 : ((x : Int) == 0) = false := beq_eq_false_iff_ne.2 (by omega)
  have hx1 : ((x : Int) != 0) = true := by rw [bne, hx0]; rfl
  have hxx : ((x : Int) == (x : Int)) = true := beq_self_eq_true _
  clear hx
  go_enter Try.func4, Try.ntmps4
  go_wp2_with fail
  refine (AW.out _).mono ?_
  rintro e w1 ⟨rfl, hB1⟩
  have B1 := Lib.hid hB1
  clear hB1
  go_wp2_with fail
  refine (RX.out _).mono ?_
  rintro e w2 ⟨rfl, hB2⟩
  have B2 := Lib.hid (B1.out.trans (hB2.mono B1.out.size))
  clear hB2
  go_wp2_with fail
  refine (PX.out _).mono ?_
  rintro e w3 ⟨hB3, p1, l1, c1, p2, l2, c2, rfl⟩
  have B3 := Lib.hid (B2.out.trans (hB3.mono B2.out.size))
  clear hB3
  go_wp2_with fail
  go_ret
  exact ⟨rfl, B3.out.alloc (by have := B3.out.size; omega) _⟩
theorem cut_any (s : ByteArray) (z : Int) (hz : 0 ≤ z ∧ z < 65536) (w : World) : Calls Try.prog 4 #[.string s, .int .u16 z] w fun e w' => e = .returned (.bool true) ∧ Below w.heap.size w w' := by
  by_cases hs : s.size ≤ 1000
  · have hlen : (txt s).length = s.size := by rw [txt_size]
    have hns : ((s.size : Nat) : Int) = (((txt s).length : Nat) : Int) := by rw [hlen]
    have PX := parse_pair s hs
    have RX := fun W => Sc.rscan_any s W (by omega)
    rw [show Sc.txt s = txt s from rfl] at RX
    cases hsc : scanL 0 (txt s) with
    | bad p x =>
      have hx := Sc.scan_err hsc
      rw [hsc] at RX
      rw [show parseL 10000 (txt s) = .err p x by unfold parseL; rw [hsc]] at PX
      exact cut_bad s z _ p x w hns (by omega) hx (Lib.hid PX) (Lib.hid RX)
    | ok T =>
      rw [hsc] at RX
      obtain ⟨q, hq, hf2, hfn, hnil, hlt3⟩ := cut_know hsc
      have hfew := (known_few s hs T hsc).1
      have P2 := parse_pair (s.extract 0 q) (by rw [size_to s (by omega)]; omega)
      rw [txt_to s q] at P2
      have f1 : CutC s (s.extract 0 q) q := Sc.cut_to s q (by omega)
      have RS : ScanC s T.length T := fun W => (RX W).mono fun e w' ⟨⟨v, he, ho⟩, hB⟩ => by
        obtain ⟨pl, bl, ol, cl, hv, hpl, hcl⟩ := Sc.sees_of_owns ho
        exact ⟨pl, bl, ol, cl, by rw [he, hv], hpl, hcl, hB⟩
      have TX : ∀ (i : Nat) (t : Tok), T[i]? = some t → t.at_ < q → ∃ st, CutC s st t.at_ ∧ PairC st t.at_ 2 := fun i t ht hlt => by
        obtain ⟨h3, h4⟩ := hlt3 i t ht hlt
        refine ⟨s.extract 0 t.at_, Sc.cut_to s t.at_ (by omega), ?_⟩
        have P3 := parse_pair (s.extract 0 t.at_) (by rw [size_to s (by omega)]; omega)
        rw [txt_to, h3, h4] at P3
        exact P3
      by_cases hn0 : T.length = 0
      · obtain ⟨k1, k2⟩ := hnil (List.eq_nil_of_length_eq_zero hn0)
        obtain ⟨k3, k4⟩ := hf2 k1
        rw [k1, k3] at PX
        by_cases hg : outG (parseL 10000 ((txt s).take q)) = 2
        · rw [hg, k4 hg] at P2
          exact cut_nf s _ z _ q _ T w hz hns (by omega) (by omega) rfl (by omega) f1 (Lib.hid RS) k2 hn0 (Lib.hid PX) (Lib.hid P2)
        · exact cut_ng s _ z _ q _ T w hz hns (by omega) (by omega) rfl (by omega) f1 (Lib.hid RS) _ _ (beq_eq_false_iff_ne.2 hg) k2 hn0 (Lib.hid PX) (Lib.hid P2)
      · by_cases hf : outG (parseL 10000 (txt s)) = 2
        · obtain ⟨k3, k4⟩ := hf2 hf
          rw [hf, k3] at PX
          by_cases hg : outG (parseL 10000 ((txt s).take q)) = 2
          · rw [hg, k4 hg] at P2
            exact cut_ff s _ z _ q _ T w hz hns (by omega) (by omega) rfl (by omega) f1 (Lib.hid RS) (Lib.hid PX) (Lib.hid P2) hn0 (Lib.hid TX)
          · exact cut_fg s _ z _ q _ T w hz hns (by omega) (by omega) rfl (by omega) f1 (Lib.hid RS) _ _ (beq_eq_false_iff_ne.2 hg) (Lib.hid PX) (Lib.hid P2) hn0 (Lib.hid TX)
        · exact cut_x s _ z _ q _ T w hz hns (by omega) (by omega) rfl (by omega) f1 (Lib.hid RS) _ _ _ _ (hfn hf) (beq_eq_false_iff_ne.2 hf) (Lib.hid PX) (Lib.hid P2) hn0 (Lib.hid TX)
  · exact cut_long s z _ w rfl (by omega)
end Go.Proofs.Ytfkakdpppejehaa.Pp
