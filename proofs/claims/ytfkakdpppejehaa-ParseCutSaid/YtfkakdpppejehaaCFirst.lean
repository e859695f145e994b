/-
  What first of the program answers: the token with which a text begins, or what is wrong.
-/
import Derived.Test.YtfkakdpppejehaaCMark
import Derived.Laws.ResultCell
namespace Go.Proofs.Ytfkakdpppejehaa.Sc
open Go.RowKit

theorem cell_below {w wr : World} {p : Addr} {v : Value} (hB : Below w.heap.size w wr) (h : w.cell? p = some v) : wr.cell? p = some v := by
  have hlt : p.block < w.heap.size := by
    unfold World.cell? at h
    cases hh : w.heap[p.block]? with
    | none => simp [hh] at h
    | some q => exact (Array.getElem?_eq_some_iff.1 hh).1
  exact (hB.cell hlt).trans h
theorem frozen_below {w wr : World} {p : Addr} {v : Value} {b : Bool} (hB : Below w.heap.size w wr) (hc : w.cell? p = some v) (h : w.frozen? p = b) : wr.frozen? p = b := by
  have hlt : p.block < w.heap.size := by
    unfold World.cell? at hc
    cases hh : w.heap[p.block]? with
    | none => simp [hh] at hc
    | some q => exact (Array.getElem?_eq_some_iff.1 hh).1
  exact (hB.frozen hlt).trans h
theorem below_two {w w1 w2 : World} (h1 : Below w.heap.size w w1) (h2 : Below w1.heap.size w1 w2) : Below w.heap.size w w2 := h1.trans (h2.mono h1.size)

/-- what a call hands back out of a variable of four cells, and a number -/
theorem results_tok2 {fn : Func} {p q : Tmp} (h : fn.results = #[.cell p 54, .tmp q]) (tmps : Array Value) (w : World) (b : Nat) (v0 v1 v2 v3 r : Value) (hp : tmps.getD p undef = .pointer (some ⟨b, 0, none⟩)) (hq : tmps.getD q undef = r)
    (c0 : w.cell? ⟨b, 0, none⟩ = some v0) (c1 : w.cell? ⟨b, 1, none⟩ = some v1) (c2 : w.cell? ⟨b, 2, none⟩ = some v2) (c3 : w.cell? ⟨b, 3, none⟩ = some v3) :
    (results fn tmps).run Try.prog w = .ok (.tuple #[.agg #[v0, v1, v2, v3], r]) w := by
  rw [results_cell_tmp h, hp, hq]
  simp [asAddr]
  go_simp

/-- the four cells of a token at the head of a block -/
structure At4 (w : World) (b : Nat) (v0 v1 v2 v3 : Value) : Prop where
  c0 : w.cell? ⟨b, 0, none⟩ = some v0
  c1 : w.cell? ⟨b, 1, none⟩ = some v1
  c2 : w.cell? ⟨b, 2, none⟩ = some v2
  c3 : w.cell? ⟨b, 3, none⟩ = some v3
  f0 : w.frozen? ⟨b, 0, none⟩ = false
  f1 : w.frozen? ⟨b, 1, none⟩ = false
  f2 : w.frozen? ⟨b, 2, none⟩ = false
  f3 : w.frozen? ⟨b, 3, none⟩ = false
theorem At4.below {w wr : World} {b : Nat} {v0 v1 v2 v3 : Value} (h : At4 w b v0 v1 v2 v3) (hB : Below w.heap.size w wr) : At4 wr b v0 v1 v2 v3 :=
  ⟨cell_below hB h.c0, cell_below hB h.c1, cell_below hB h.c2, cell_below hB h.c3, frozen_below hB h.c0 h.f0, frozen_below hB h.c1 h.f1, frozen_below hB h.c2 h.f2, frozen_below hB h.c3 h.f3⟩

/-- what first hands back -/
def ans (s : ByteArray) : Step → Value
  | .skip => .int .i64 0
  | .bad x => .tuple #[.agg #[.int .i64 0, .string ⟨#[]⟩, .int .i64 0, .int .i64 0], .int .i64 (x : Nat)]
  | .tok k m v => .tuple #[.agg #[.int .i64 (k : Nat), .string (s.extract 0 m), .int .i64 (v : Nat), .int .i64 0], .int .i64 0]

theorem after_clone {w w1 : World} (k v : Int)
    (hB : Below ((w.alloc (.cells #[.int .i64 0, .string ⟨#[]⟩, .int .i64 0, .int .i64 0] 54)).alloc (.cells #[.int .i64 k, .string ⟨#[]⟩, .int .i64 v, .int .i64 0] 54)).heap.size
      ((w.alloc (.cells #[.int .i64 0, .string ⟨#[]⟩, .int .i64 0, .int .i64 0] 54)).alloc (.cells #[.int .i64 k, .string ⟨#[]⟩, .int .i64 v, .int .i64 0] 54)) w1) :
    At4 w1 w.heap.size (.int .i64 0) (.string ⟨#[]⟩) (.int .i64 0) (.int .i64 0) ∧ At4 w1 (w.heap.size + 1) (.int .i64 k) (.string ⟨#[]⟩) (.int .i64 v) (.int .i64 0) ∧ Below w.heap.size w w1 := by
  refine ⟨At4.below ⟨by go_simp, by go_simp, by go_simp, by go_simp, by go_simp, by go_simp, by go_simp, by go_simp⟩ hB,
    At4.below ⟨by go_simp, by go_simp, by go_simp, by go_simp, by go_simp, by go_simp, by go_simp, by go_simp⟩ hB, ?_⟩
  exact ((((Below.refl _ w).alloc (Nat.le_refl _) _).alloc (by simp) _)).trans (hB.mono (by simp; omega))

set_option maxRecDepth 100000 in
set_option maxHeartbeats 2000000 in
theorem first_word (s : ByteArray) (c : UInt8) (w : World) (n m : Nat) (t : ByteArray) (hms : 0 < m ∧ m ≤ n)
    (hx : ∀ W, (Instr.index 9 (.string s) (.int .i64 0)).run Try.prog W = .ok (.int .u8 (c.toNat : Int)) W)
    (L : Hid (∀ W, Calls Try.prog 32 #[.int .u8 (c.toNat : Int)] W fun e w' => e = .returned (.bool true) ∧ w' = W))
    (W : Hid (∀ W, Calls Try.prog 33 #[.string s] W fun e w' => e = .returned (.int .i64 (m : Nat)) ∧ w' = W))
    (hc : ∀ W, (Instr.slice 9 (.string s) none (some (.int .i64 (m : Int))) none).run Try.prog W = .ok (.string t) W)
    (K : Hid (∀ W, Calls Try.prog 37 #[.string t] W fun e w' => e = .returned (.string t) ∧ Below W.heap.size W w')) :
    Calls Try.prog 21 #[.string s] w fun e w' => e = .returned (.tuple #[.agg #[.int .i64 1, .string t, .int .i64 0, .int .i64 0], .int .i64 0]) ∧ Below w.heap.size w w' := by
  have hm0 : ((m : Int) == 0) = false := beq_eq_false_iff_ne.2 (by omega)
  go_enter Try.func21, Try.ntmps21
  go_wp2_with (first | (go_at_call 32; refine (L.out _).mono ?_; rintro e w' ⟨rfl, rfl⟩) | (go_at_call 33; refine (W.out _).mono ?_; rintro e w' ⟨rfl, rfl⟩))
  refine (K.out _).mono ?_
  rintro e w1 ⟨rfl, hB⟩
  obtain ⟨⟨a0, a1, a2, a3, g0, g1, g2, g3⟩, ⟨b0, b1, b2, b3, l0, l1, l2, l3⟩, hB1⟩ := after_clone 1 0 hB
  have HB := Lib.hid hB1
  clear hB hB1
  go_wp2_with fail
  (try simp only [Exit.inBlock, Exit.then])
  refine bodyPost_ret (results_tok2 rfl _ _ w.heap.size (.int .i64 1) (.string t) (.int .i64 0) (.int .i64 0) (.int .i64 0) rfl rfl ?c0a ?c1a ?c2a ?c3a) rfl ?resta
  case c0a => go_simp
  case c1a => go_simp
  case c2a => go_simp
  case c3a => go_simp
  exact ⟨rfl, ((((HB.out.setCell (by simp) _).setCell (by simp) _).setCell (by simp) _).setCell (by simp) _).setCell (by simp) _⟩

set_option maxRecDepth 100000 in
set_option maxHeartbeats 2000000 in
theorem first_number (s : ByteArray) (c : UInt8) (w : World) (n m : Nat) (v : Nat) (hv : v ≤ 1099511627776) (t : ByteArray) (hms : 0 < m ∧ m ≤ n)
    (hx : ∀ W, (Instr.index 9 (.string s) (.int .i64 0)).run Try.prog W = .ok (.int .u8 (c.toNat : Int)) W)
    (L : Hid (∀ W, Calls Try.prog 32 #[.int .u8 (c.toNat : Int)] W fun e w' => e = .returned (.bool false) ∧ w' = W))
    (D : Hid (∀ W, Calls Try.prog 34 #[.int .u8 (c.toNat : Int)] W fun e w' => e = .returned (.bool true) ∧ w' = W))
    (N : Hid (∀ W, Calls Try.prog 35 #[.string s] W fun e w' => e = .returned (.tuple #[.int .i64 (v : Nat), .int .i64 (m : Nat)]) ∧ w' = W))
    (hc : ∀ W, (Instr.slice 9 (.string s) none (some (.int .i64 (m : Int))) none).run Try.prog W = .ok (.string t) W)
    (K : Hid (∀ W, Calls Try.prog 37 #[.string t] W fun e w' => e = .returned (.string t) ∧ Below W.heap.size W w')) :
    Calls Try.prog 21 #[.string s] w fun e w' => e = .returned (.tuple #[.agg #[.int .i64 2, .string t, .int .i64 (v : Nat), .int .i64 0], .int .i64 0]) ∧ Below w.heap.size w w' := by
  have hm0 : ((m : Int) == 0) = false := beq_eq_false_iff_ne.2 (by omega)
  go_enter Try.func21, Try.ntmps21
  go_wp2_with (first | (go_at_call 32; refine (L.out _).mono ?_; rintro e w' ⟨rfl, rfl⟩) | (go_at_call 34; refine (D.out _).mono ?_; rintro e w' ⟨rfl, rfl⟩) | (go_at_call 35; refine (N.out _).mono ?_; rintro e w' ⟨rfl, rfl⟩))
  refine (K.out _).mono ?_
  rintro e w1 ⟨rfl, hB⟩
  obtain ⟨⟨a0, a1, a2, a3, g0, g1, g2, g3⟩, ⟨b0, b1, b2, b3, l0, l1, l2, l3⟩, hB1⟩ := after_clone 2 (v : Nat) hB
  have HB := Lib.hid hB1
  clear hB hB1
  go_wp2_with fail
  (try simp only [Exit.inBlock, Exit.then])
  refine bodyPost_ret (results_tok2 rfl _ _ w.heap.size (.int .i64 2) (.string t) (.int .i64 (v : Nat)) (.int .i64 0) (.int .i64 0) rfl rfl ?c0a ?c1a ?c2a ?c3a) rfl ?resta
  case c0a => go_simp
  case c1a => go_simp
  case c2a => go_simp
  case c3a => go_simp
  exact ⟨rfl, ((((HB.out.setCell (by simp) _).setCell (by simp) _).setCell (by simp) _).setCell (by simp) _).setCell (by simp) _⟩

set_option maxRecDepth 100000 in
set_option maxHeartbeats 2000000 in
theorem first_mark (s : ByteArray) (c : UInt8) (w : World) (n m : Nat) (t : ByteArray) (hms : 0 < m ∧ m ≤ n)
    (hx : ∀ W, (Instr.index 9 (.string s) (.int .i64 0)).run Try.prog W = .ok (.int .u8 (c.toNat : Int)) W)
    (L : Hid (∀ W, Calls Try.prog 32 #[.int .u8 (c.toNat : Int)] W fun e w' => e = .returned (.bool false) ∧ w' = W))
    (D : Hid (∀ W, Calls Try.prog 34 #[.int .u8 (c.toNat : Int)] W fun e w' => e = .returned (.bool false) ∧ w' = W))
    (M : Hid (∀ W, Calls Try.prog 36 #[.string s] W fun e w' => e = .returned (.int .i64 (m : Nat)) ∧ w' = W))
    (hc : ∀ W, (Instr.slice 9 (.string s) none (some (.int .i64 (m : Int))) none).run Try.prog W = .ok (.string t) W)
    (K : Hid (∀ W, Calls Try.prog 37 #[.string t] W fun e w' => e = .returned (.string t) ∧ Below W.heap.size W w')) :
    Calls Try.prog 21 #[.string s] w fun e w' => e = .returned (.tuple #[.agg #[.int .i64 3, .string t, .int .i64 0, .int .i64 0], .int .i64 0]) ∧ Below w.heap.size w w' := by
  have hm0 : ((m : Int) == 0) = false := beq_eq_false_iff_ne.2 (by omega)
  go_enter Try.func21, Try.ntmps21
  go_wp2_with (first | (go_at_call 32; refine (L.out _).mono ?_; rintro e w' ⟨rfl, rfl⟩) | (go_at_call 34; refine (D.out _).mono ?_; rintro e w' ⟨rfl, rfl⟩) | (go_at_call 36; refine (M.out _).mono ?_; rintro e w' ⟨rfl, rfl⟩))
  refine (K.out _).mono ?_
  rintro e w1 ⟨rfl, hB⟩
  obtain ⟨⟨a0, a1, a2, a3, g0, g1, g2, g3⟩, ⟨b0, b1, b2, b3, l0, l1, l2, l3⟩, hB1⟩ := after_clone 3 0 hB
  have HB := Lib.hid hB1
  clear hB hB1
  go_wp2_with fail
  (try simp only [Exit.inBlock, Exit.then])
  refine bodyPost_ret (results_tok2 rfl _ _ w.heap.size (.int .i64 3) (.string t) (.int .i64 0) (.int .i64 0) (.int .i64 0) rfl rfl ?c0a ?c1a ?c2a ?c3a) rfl ?resta
  case c0a => go_simp
  case c1a => go_simp
  case c2a => go_simp
  case c3a => go_simp
  exact ⟨rfl, ((((HB.out.setCell (by simp) _).setCell (by simp) _).setCell (by simp) _).setCell (by simp) _).setCell (by simp) _⟩

set_option maxRecDepth 100000 in
set_option maxHeartbeats 2000000 in
theorem first_big (s : ByteArray) (c : UInt8) (w : World) (v m : Nat) (hm : 0 < m) (hv : 1099511627776 < v) 
    (hx : ∀ W, (Instr.index 9 (.string s) (.int .i64 0)).run Try.prog W = .ok (.int .u8 (c.toNat : Int)) W)
    (L : Hid (∀ W, Calls Try.prog 32 #[.int .u8 (c.toNat : Int)] W fun e w' => e = .returned (.bool false) ∧ w' = W))
    (D : Hid (∀ W, Calls Try.prog 34 #[.int .u8 (c.toNat : Int)] W fun e w' => e = .returned (.bool true) ∧ w' = W))
    (N : Hid (∀ W, Calls Try.prog 35 #[.string s] W fun e w' => e = .returned (.tuple #[.int .i64 (v : Nat), .int .i64 (m : Nat)]) ∧ w' = W)) :
    Calls Try.prog 21 #[.string s] w fun e w' => e = .returned (.tuple #[.agg #[.int .i64 0, .string ⟨#[]⟩, .int .i64 0, .int .i64 0], .int .i64 5]) ∧ Below w.heap.size w w' := by
  have hm0 : ((m : Int) == 0) = false := beq_eq_false_iff_ne.2 (by omega)
  go_enter Try.func21, Try.ntmps21
  go_wp2_with (first | (go_at_call 32; refine (L.out _).mono ?_; rintro e w' ⟨rfl, rfl⟩) | (go_at_call 34; refine (D.out _).mono ?_; rintro e w' ⟨rfl, rfl⟩) | (go_at_call 35; refine (N.out _).mono ?_; rintro e w' ⟨rfl, rfl⟩))
  (try simp only [Exit.inBlock, Exit.then])
  refine bodyPost_ret (results_tok2 rfl _ _ w.heap.size (.int .i64 0) (.string ⟨#[]⟩) (.int .i64 0) (.int .i64 0) (.int .i64 5) rfl rfl ?c0a ?c1a ?c2a ?c3a) rfl ?resta
  case c0a => go_simp
  case c1a => go_simp
  case c2a => go_simp
  case c3a => go_simp
  refine ⟨rfl, ?_⟩
  first
    | exact ((Below.refl _ w).alloc (Nat.le_refl _) _).alloc (by simp) _
    | exact (((((Below.refl _ w).alloc (Nat.le_refl _) _).alloc (by simp) _).setCell (by simp) _))

set_option maxRecDepth 100000 in
set_option maxHeartbeats 2000000 in
theorem first_none (s : ByteArray) (c : UInt8) (w : World) 
    (hx : ∀ W, (Instr.index 9 (.string s) (.int .i64 0)).run Try.prog W = .ok (.int .u8 (c.toNat : Int)) W)
    (L : Hid (∀ W, Calls Try.prog 32 #[.int .u8 (c.toNat : Int)] W fun e w' => e = .returned (.bool false) ∧ w' = W))
    (D : Hid (∀ W, Calls Try.prog 34 #[.int .u8 (c.toNat : Int)] W fun e w' => e = .returned (.bool false) ∧ w' = W))
    (M : Hid (∀ W, Calls Try.prog 36 #[.string s] W fun e w' => e = .returned (.int .i64 (0)) ∧ w' = W)) :
    Calls Try.prog 21 #[.string s] w fun e w' => e = .returned (.tuple #[.agg #[.int .i64 0, .string ⟨#[]⟩, .int .i64 0, .int .i64 0], .int .i64 2]) ∧ Below w.heap.size w w' := by
  go_enter Try.func21, Try.ntmps21
  go_wp2_with (first | (go_at_call 32; refine (L.out _).mono ?_; rintro e w' ⟨rfl, rfl⟩) | (go_at_call 34; refine (D.out _).mono ?_; rintro e w' ⟨rfl, rfl⟩) | (go_at_call 36; refine (M.out _).mono ?_; rintro e w' ⟨rfl, rfl⟩))
  (try simp only [Exit.inBlock, Exit.then])
  refine bodyPost_ret (results_tok2 rfl _ _ w.heap.size (.int .i64 0) (.string ⟨#[]⟩) (.int .i64 0) (.int .i64 0) (.int .i64 2) rfl rfl ?c0a ?c1a ?c2a ?c3a) rfl ?resta
  case c0a => go_simp
  case c1a => go_simp
  case c2a => go_simp
  case c3a => go_simp
  refine ⟨rfl, ?_⟩
  first
    | exact ((Below.refl _ w).alloc (Nat.le_refl _) _).alloc (by simp) _
    | exact (((((Below.refl _ w).alloc (Nat.le_refl _) _).alloc (by simp) _).setCell (by simp) _))

theorem first_any (s : ByteArray) (c : UInt8) (r : List UInt8) (w : World) (hm : s.size ≤ 100000) (ht : txt s = c :: r) :
    Calls Try.prog 21 #[.string s] w fun e w' => e = .returned (ans s (first c r)) ∧ Below w.heap.size w w' := by
  have hx : ∀ W, (Instr.index 9 (.string s) (.int .i64 0)).run Try.prog W = .ok (.int .u8 (c.toNat : Int)) W := idx (s := s) (k := 0) (c := c) (by rw [ht]; rfl)
  have hl := letter_any c
  have hd := digit_any c
  have hs : s.size = (c :: r).length := by rw [txt_size, ht]
  have hK : ∀ m, m ≤ s.size → ∀ W, Calls Try.prog 37 #[.string (s.extract 0 m)] W fun e w' => e = .returned (.string (s.extract 0 m)) ∧ Below W.heap.size W w' := fun m h W =>
    clone_any _ W (by rw [Lib.size_eq, Lib.extract_data, List.length_take, List.length_drop]; omega)
  unfold first
  cases el : letter c
  · rw [el] at hl
    rw [if_neg (by simp)]
    cases eg : digit c
    · rw [eg] at hd
      rw [if_neg (by simp)]
      have hM := fun W => mark_any s W hm (by rw [hs]; simp)
      rw [ht] at hM
      by_cases h0 : mark (c :: r) = 0
      · rw [h0] at hM
        rw [if_pos h0]
        exact first_none s c w hx (Lib.hid hl) (Lib.hid hd) (Lib.hid hM)
      · rw [if_neg h0]
        have hle := mark_pos_le c r
        exact first_mark s c w s.size (mark (c :: r)) (s.extract 0 (mark (c :: r))) ⟨by omega, by omega⟩ hx (Lib.hid hl) (Lib.hid hd) (Lib.hid hM) (cut_to s _ (by omega)) (Lib.hid (hK _ (by omega)))
    · rw [eg] at hd
      rw [if_pos rfl]
      obtain ⟨h1, h2, h3, h4⟩ := num_post (c :: r) 0 0 (fun h => by omega) (by omega)
      have hN := fun W => number_any s W hm
      rw [ht] at hN
      have hp := takeWhile_pos (r := r) eg
      have hq := takeWhile_le digit (c :: r)
      by_cases hb : numF 0 ((c :: r).takeWhile digit) ≤ mostV
      · rw [if_pos hb]
        have e := h1 hb
        rw [Nat.zero_add] at e
        rw [e] at hN
        exact first_number s c w s.size _ _ hb (s.extract 0 ((c :: r).takeWhile digit).length) ⟨hp, by omega⟩ hx (Lib.hid hl) (Lib.hid hd) (Lib.hid hN) (cut_to s _ (by omega)) (Lib.hid (hK _ (by omega)))
      · rw [if_neg hb]
        have e := h2 (by omega)
        exact first_big s c w _ _ e.2 e.1 hx (Lib.hid hl) (Lib.hid hd) (Lib.hid hN)
  · rw [el] at hl
    rw [if_pos rfl]
    have hW := fun W => word_any s W hm
    rw [ht] at hW
    have h1 := takeWhile_pos (r := r) (letter_inWord el)
    have h2 := takeWhile_le inWord (c :: r)
    exact first_word s c w s.size _ (s.extract 0 ((c :: r).takeWhile inWord).length) ⟨h1, by omega⟩ hx (Lib.hid hl) (Lib.hid hW) (cut_to s _ (by omega)) (Lib.hid (hK _ (by omega)))
end Go.Proofs.Ytfkakdpppejehaa.Sc
