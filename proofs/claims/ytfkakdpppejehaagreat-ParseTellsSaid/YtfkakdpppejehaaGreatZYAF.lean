/-
  What first of the program answers: the token with which a text begins, or what is wrong.
  Tokens in memory: lists that a call makes.
  A reader of tokens in memory; what its looks at the next token answer (the document's answers for texts of models).
-/
import Derived.Test.YtfkakdpppejehaaGreatZYAE
import Derived.Laws.ResultCell
import Derived.Laws.AppendOwnNone
import Derived.Test.YtfkakdpppejehaaGreatZGNum
import Derived.Test.YtfkakdpppejehaaGreatZYAB
import Derived.IntWalk
namespace Go.Proofs.YtfkakdpppejehaaGreat.Sc
open Go.RowKit

theorem cell_below {w wr : World} {p : Addr} {v : Value} (hB : Below w.heap.size w wr) (h : w.cell? p = some v) : wr.cell? p = some v := by
  have hlt : p.block < w.heap.size := by
    unfold World.cell? at h
    cases hh : w.heap[p.block]? with
    | none => simp [hh] at h
    | some q => exact (Array.getElem?_eq_some_iff.1 hh).1
  exact (hB.cell hlt).trans h
theorem frozen_below {w wr : World} {p : Addr} {v : Value} {b : Bool} (hB : Below w.heap.size w wr) (hc : w.cell? p = some v) (h : w.frozen? p = b) : wr.frozen? p = b := by
  have hlt : p.block < w.heap.size := by
    unfold World.cell? at hc
    cases hh : w.heap[p.block]? with
    | none => simp [hh] at hc
    | some q => exact (Array.getElem?_eq_some_iff.1 hh).1
  exact (hB.frozen hlt).trans h
theorem below_two {w w1 w2 : World} (h1 : Below w.heap.size w w1) (h2 : Below w1.heap.size w1 w2) : Below w.heap.size w w2 := h1.trans (h2.mono h1.size)

/-- what a call hands back out of a variable of four cells, and a number -/
theorem results_tok2 {fn : Func} {p q : Tmp} (h : fn.results = #[.cell p 47, .tmp q]) (tmps : Array Value) (w : World) (b : Nat) (v0 v1 v2 v3 r : Value) (hp : tmps.getD p undef = .pointer (some ⟨b, 0, none⟩)) (hq : tmps.getD q undef = r)
    (c0 : w.cell? ⟨b, 0, none⟩ = some v0) (c1 : w.cell? ⟨b, 1, none⟩ = some v1) (c2 : w.cell? ⟨b, 2, none⟩ = some v2) (c3 : w.cell? ⟨b, 3, none⟩ = some v3) :
    (results fn tmps).run Tryz.prog w = .ok (.tuple #[.agg #[v0, v1, v2, v3], r]) w := by
  rw [results_cell_tmp h, hp, hq]
  simp [asAddr]
  go_simp

/-- the four cells of a token at the head of a block -/
structure At4 (w : World) (b : Nat) (v0 v1 v2 v3 : Value) : Prop where
  c0 : w.cell? ⟨b, 0, none⟩ = some v0
  c1 : w.cell? ⟨b, 1, none⟩ = some v1
  c2 : w.cell? ⟨b, 2, none⟩ = some v2
  c3 : w.cell? ⟨b, 3, none⟩ = some v3
  f0 : w.frozen? ⟨b, 0, none⟩ = false
  f1 : w.frozen? ⟨b, 1, none⟩ = false
  f2 : w.frozen? ⟨b, 2, none⟩ = false
  f3 : w.frozen? ⟨b, 3, none⟩ = false
theorem At4.below {w wr : World} {b : Nat} {v0 v1 v2 v3 : Value} (h : At4 w b v0 v1 v2 v3) (hB : Below w.heap.size w wr) : At4 wr b v0 v1 v2 v3 :=
  ⟨cell_below hB h.c0, cell_below hB h.c1, cell_below hB h.c2, cell_below hB h.c3, frozen_below hB h.c0 h.f0, frozen_below hB h.c1 h.f1, frozen_below hB h.c2 h.f2, frozen_below hB h.c3 h.f3⟩

/-- what first hands back -/
def ans (s : ByteArray) : Step → Value
  | .skip => .int .i64 0
  | .bad x => .tuple #[.agg #[.int .i64 0, .string ⟨#[]⟩, .int .i64 0, .int .i64 0], .int .i64 (x : Nat)]
  | .tok k m v => .tuple #[.agg #[.int .i64 (k : Nat), .string (s.extract 0 m), .int .i64 (v : Nat), .int .i64 0], .int .i64 0]

theorem after_clone {w w1 : World} (k v : Int)
    (hB : Below ((w.alloc (.cells #[.int .i64 0, .string ⟨#[]⟩, .int .i64 0, .int .i64 0] 47)).alloc (.cells #[.int .i64 k, .string ⟨#[]⟩, .int .i64 v, .int .i64 0] 47)).heap.size
      ((w.alloc (.cells #[.int .i64 0, .string ⟨#[]⟩, .int .i64 0, .int .i64 0] 47)).alloc (.cells #[.int .i64 k, .string ⟨#[]⟩, .int .i64 v, .int .i64 0] 47)) w1) :
    At4 w1 w.heap.size (.int .i64 0) (.string ⟨#[]⟩) (.int .i64 0) (.int .i64 0) ∧ At4 w1 (w.heap.size + 1) (.int .i64 k) (.string ⟨#[]⟩) (.int .i64 v) (.int .i64 0) ∧ Below w.heap.size w w1 := by
  refine ⟨At4.below ⟨by go_simp, by go_simp, by go_simp, by go_simp, by go_simp, by go_simp, by go_simp, by go_simp⟩ hB,
    At4.below ⟨by go_simp, by go_simp, by go_simp, by go_simp, by go_simp, by go_simp, by go_simp, by go_simp⟩ hB, ?_⟩
  exact ((((Below.refl _ w).alloc (Nat.le_refl _) _).alloc (by simp) _)).trans (hB.mono (by simp; omega))

set_option maxRecDepth 100000 in
set_option maxHeartbeats 2000000 in
theorem first_word (s : ByteArray) (c : UInt8) (w : World) (n m : Nat) (t : ByteArray) (hms : 0 < m ∧ m ≤ n)
    (hx : ∀ W, (Instr.index 9 (.string s) (.int .i64 0)).run Tryz.prog W = .ok (.int .u8 (c.toNat : Int)) W)
    (L : Hid (∀ W, Calls Tryz.prog 40 #[.int .u8 (c.toNat : Int)] W fun e w' => e = .returned (.bool true) ∧ w' = W))
    (W : Hid (∀ W, Calls Tryz.prog 41 #[.string s] W fun e w' => e = .returned (.int .i64 (m : Nat)) ∧ w' = W))
    (hc : ∀ W, (Instr.slice 9 (.string s) none (some (.int .i64 (m : Int))) none).run Tryz.prog W = .ok (.string t) W)
    (K : Hid (∀ W, Calls Tryz.prog 45 #[.string t] W fun e w' => e = .returned (.string t) ∧ Below W.heap.size W w')) :
    Calls Tryz.prog 20 #[.string s] w fun e w' => e = .returned (.tuple #[.agg #[.int .i64 1, .string t, .int .i64 0, .int .i64 0], .int .i64 0]) ∧ Below w.heap.size w w' := by
  have hm0 : ((m : Int) == 0) = false := beq_eq_false_iff_ne.2 (by omega)
  go_enter Tryz.func20, Tryz.ntmps20
  go_wp2_with (first | (go_at_call 40; refine (L.out _).mono ?_; rintro e w' ⟨rfl, rfl⟩) | (go_at_call 41; refine (W.out _).mono ?_; rintro e w' ⟨rfl, rfl⟩))
  refine (K.out _).mono ?_
  rintro e w1 ⟨rfl, hB⟩
  obtain ⟨⟨a0, a1, a2, a3, g0, g1, g2, g3⟩, ⟨b0, b1, b2, b3, l0, l1, l2, l3⟩, hB1⟩ := after_clone 1 0 hB
  have HB := Lib.hid hB1
  clear hB hB1
  go_wp2_with fail
  (try simp only [Exit.inBlock, Exit.then])
  refine bodyPost_ret (results_tok2 rfl _ _ w.heap.size (.int .i64 1) (.string t) (.int .i64 0) (.int .i64 0) (.int .i64 0) rfl rfl ?c0a ?c1a ?c2a ?c3a) rfl ?resta
  case c0a => go_simp
  case c1a => go_simp
  case c2a => go_simp
  case c3a => go_simp
  exact ⟨rfl, ((((HB.out.setCell (by simp) _).setCell (by simp) _).setCell (by simp) _).setCell (by simp) _).setCell (by simp) _⟩

set_option maxRecDepth 100000 in
set_option maxHeartbeats 2000000 in
theorem first_number (s : ByteArray) (c : UInt8) (w : World) (n m : Nat) (v : Nat) (hv : v ≤ 1099511627776) (t : ByteArray) (hms : 0 < m ∧ m ≤ n)
    (hx : ∀ W, (Instr.index 9 (.string s) (.int .i64 0)).run Tryz.prog W = .ok (.int .u8 (c.toNat : Int)) W)
    (L : Hid (∀ W, Calls Tryz.prog 40 #[.int .u8 (c.toNat : Int)] W fun e w' => e = .returned (.bool false) ∧ w' = W))
    (D : Hid (∀ W, Calls Tryz.prog 42 #[.int .u8 (c.toNat : Int)] W fun e w' => e = .returned (.bool true) ∧ w' = W))
    (N : Hid (∀ W, Calls Tryz.prog 43 #[.string s] W fun e w' => e = .returned (.tuple #[.int .i64 (v : Nat), .int .i64 (m : Nat)]) ∧ w' = W))
    (hc : ∀ W, (Instr.slice 9 (.string s) none (some (.int .i64 (m : Int))) none).run Tryz.prog W = .ok (.string t) W)
    (K : Hid (∀ W, Calls Tryz.prog 45 #[.string t] W fun e w' => e = .returned (.string t) ∧ Below W.heap.size W w')) :
    Calls Tryz.prog 20 #[.string s] w fun e w' => e = .returned (.tuple #[.agg #[.int .i64 2, .string t, .int .i64 (v : Nat), .int .i64 0], .int .i64 0]) ∧ Below w.heap.size w w' := by
  have hm0 : ((m : Int) == 0) = false := beq_eq_false_iff_ne.2 (by omega)
  go_enter Tryz.func20, Tryz.ntmps20
  go_wp2_with (first | (go_at_call 40; refine (L.out _).mono ?_; rintro e w' ⟨rfl, rfl⟩) | (go_at_call 42; refine (D.out _).mono ?_; rintro e w' ⟨rfl, rfl⟩) | (go_at_call 43; refine (N.out _).mono ?_; rintro e w' ⟨rfl, rfl⟩))
  refine (K.out _).mono ?_
  rintro e w1 ⟨rfl, hB⟩
  obtain ⟨⟨a0, a1, a2, a3, g0, g1, g2, g3⟩, ⟨b0, b1, b2, b3, l0, l1, l2, l3⟩, hB1⟩ := after_clone 2 (v : Nat) hB
  have HB := Lib.hid hB1
  clear hB hB1
  go_wp2_with fail
  (try simp only [Exit.inBlock, Exit.then])
  refine bodyPost_ret (results_tok2 rfl _ _ w.heap.size (.int .i64 2) (.string t) (.int .i64 (v : Nat)) (.int .i64 0) (.int .i64 0) rfl rfl ?c0a ?c1a ?c2a ?c3a) rfl ?resta
  case c0a => go_simp
  case c1a => go_simp
  case c2a => go_simp
  case c3a => go_simp
  exact ⟨rfl, ((((HB.out.setCell (by simp) _).setCell (by simp) _).setCell (by simp) _).setCell (by simp) _).setCell (by simp) _⟩

set_option maxRecDepth 100000 in
set_option maxHeartbeats 2000000 in
theorem first_mark (s : ByteArray) (c : UInt8) (w : World) (n m : Nat) (t : ByteArray) (hms : 0 < m ∧ m ≤ n)
    (hx : ∀ W, (Instr.index 9 (.string s) (.int .i64 0)).run Tryz.prog W = .ok (.int .u8 (c.toNat : Int)) W)
    (L : Hid (∀ W, Calls Tryz.prog 40 #[.int .u8 (c.toNat : Int)] W fun e w' => e = .returned (.bool false) ∧ w' = W))
    (D : Hid (∀ W, Calls Tryz.prog 42 #[.int .u8 (c.toNat : Int)] W fun e w' => e = .returned (.bool false) ∧ w' = W))
    (M : Hid (∀ W, Calls Tryz.prog 44 #[.string s] W fun e w' => e = .returned (.int .i64 (m : Nat)) ∧ w' = W))
    (hc : ∀ W, (Instr.slice 9 (.string s) none (some (.int .i64 (m : Int))) none).run Tryz.prog W = .ok (.string t) W)
    (K : Hid (∀ W, Calls Tryz.prog 45 #[.string t] W fun e w' => e = .returned (.string t) ∧ Below W.heap.size W w')) :
    Calls Tryz.prog 20 #[.string s] w fun e w' => e = .returned (.tuple #[.agg #[.int .i64 3, .string t, .int .i64 0, .int .i64 0], .int .i64 0]) ∧ Below w.heap.size w w' := by
  have hm0 : ((m : Int) == 0) = false := beq_eq_false_iff_ne.2 (by omega)
  go_enter Tryz.func20, Tryz.ntmps20
  go_wp2_with (first | (go_at_call 40; refine (L.out _).mono ?_; rintro e w' ⟨rfl, rfl⟩) | (go_at_call 42; refine (D.out _).mono ?_; rintro e w' ⟨rfl, rfl⟩) | (go_at_call 44; refine (M.out _).mono ?_; rintro e w' ⟨rfl, rfl⟩))
  refine (K.out _).mono ?_
  rintro e w1 ⟨rfl, hB⟩
  obtain ⟨⟨a0, a1, a2, a3, g0, g1, g2, g3⟩, ⟨b0, b1, b2, b3, l0, l1, l2, l3⟩, hB1⟩ := after_clone 3 0 hB
  have HB := Lib.hid hB1
  clear hB hB1
  go_wp2_with fail
  (try simp only [Exit.inBlock, Exit.then])
  refine bodyPost_ret (results_tok2 rfl _ _ w.heap.size (.int .i64 3) (.string t) (.int .i64 0) (.int .i64 0) (.int .i64 0) rfl rfl ?c0a ?c1a ?c2a ?c3a) rfl ?resta
  case c0a => go_simp
  case c1a => go_simp
  case c2a => go_simp
  case c3a => go_simp
  exact ⟨rfl, ((((HB.out.setCell (by simp) _).setCell (by simp) _).setCell (by simp) _).setCell (by simp) _).setCell (by simp) _⟩

set_option maxRecDepth 100000 in
set_option maxHeartbeats 2000000 in
theorem first_big (s : ByteArray) (c : UInt8) (w : World) (v m : Nat) (hm : 0 < m) (hv : 1099511627776 < v) 
    (hx : ∀ W, (Instr.index 9 (.string s) (.int .i64 0)).run Tryz.prog W = .ok (.int .u8 (c.toNat : Int)) W)
    (L : Hid (∀ W, Calls Tryz.prog 40 #[.int .u8 (c.toNat : Int)] W fun e w' => e = .returned (.bool false) ∧ w' = W))
    (D : Hid (∀ W, Calls Tryz.prog 42 #[.int .u8 (c.toNat : Int)] W fun e w' => e = .returned (.bool true) ∧ w' = W))
    (N : Hid (∀ W, Calls Tryz.prog 43 #[.string s] W fun e w' => e = .returned (.tuple #[.int .i64 (v : Nat), .int .i64 (m : Nat)]) ∧ w' = W)) :
    Calls Tryz.prog 20 #[.string s] w fun e w' => e = .returned (.tuple #[.agg #[.int .i64 0, .string ⟨#[]⟩, .int .i64 0, .int .i64 0], .int .i64 5]) ∧ Below w.heap.size w w' := by
  have hm0 : ((m : Int) == 0) = false := beq_eq_false_iff_ne.2 (by omega)
  go_enter Tryz.func20, Tryz.ntmps20
  go_wp2_with (first | (go_at_call 40; refine (L.out _).mono ?_; rintro e w' ⟨rfl, rfl⟩) | (go_at_call 42; refine (D.out _).mono ?_; rintro e w' ⟨rfl, rfl⟩) | (go_at_call 43; refine (N.out _).mono ?_; rintro e w' ⟨rfl, rfl⟩))
  (try simp only [Exit.inBlock, Exit.then])
  refine bodyPost_ret (results_tok2 rfl _ _ w.heap.size (.int .i64 0) (.string ⟨#[]⟩) (.int .i64 0) (.int .i64 0) (.int .i64 5) rfl rfl ?c0a ?c1a ?c2a ?c3a) rfl ?resta
  case c0a => go_simp
  case c1a => go_simp
  case c2a => go_simp
  case c3a => go_simp
  refine ⟨rfl, ?_⟩
  first
    | exact ((Below.refl _ w).alloc (Nat.le_refl _) _).alloc (by simp) _
    | exact (((((Below.refl _ w).alloc (Nat.le_refl _) _).alloc (by simp) _).setCell (by simp) _))

set_option maxRecDepth 100000 in
set_option maxHeartbeats 2000000 in
theorem first_none (s : ByteArray) (c : UInt8) (w : World) 
    (hx : ∀ W, (Instr.index 9 (.string s) (.int .i64 0)).run Tryz.prog W = .ok (.int .u8 (c.toNat : Int)) W)
    (L : Hid (∀ W, Calls Tryz.prog 40 #[.int .u8 (c.toNat : Int)] W fun e w' => e = .returned (.bool false) ∧ w' = W))
    (D : Hid (∀ W, Calls Tryz.prog 42 #[.int .u8 (c.toNat : Int)] W fun e w' => e = .returned (.bool false) ∧ w' = W))
    (M : Hid (∀ W, Calls Tryz.prog 44 #[.string s] W fun e w' => e = .returned (.int .i64 (0)) ∧ w' = W)) :
    Calls Tryz.prog 20 #[.string s] w fun e w' => e = .returned (.tuple #[.agg #[.int .i64 0, .string ⟨#[]⟩, .int .i64 0, .int .i64 0], .int .i64 2]) ∧ Below w.heap.size w w' := by
  go_enter Tryz.func20, Tryz.ntmps20
  go_wp2_with (first | (go_at_call 40; refine (L.out _).mono ?_; rintro e w' ⟨rfl, rfl⟩) | (go_at_call 42; refine (D.out _).mono ?_; rintro e w' ⟨rfl, rfl⟩) | (go_at_call 44; refine (M.out _).mono ?_; rintro e w' ⟨rfl, rfl⟩))
  (try simp only [Exit.inBlock, Exit.then])
  refine bodyPost_ret (results_tok2 rfl _ _ w.heap.size (.int .i64 0) (.string ⟨#[]⟩) (.int .i64 0) (.int .i64 0) (.int .i64 2) rfl rfl ?c0a ?c1a ?c2a ?c3a) rfl ?resta
  case c0a => go_simp
  case c1a => go_simp
  case c2a => go_simp
  case c3a => go_simp
  refine ⟨rfl, ?_⟩
  first
    | exact ((Below.refl _ w).alloc (Nat.le_refl _) _).alloc (by simp) _
    | exact (((((Below.refl _ w).alloc (Nat.le_refl _) _).alloc (by simp) _).setCell (by simp) _))

theorem first_any (s : ByteArray) (c : UInt8) (r : List UInt8) (w : World) (hm : s.size ≤ 100000) (ht : txt s = c :: r) :
    Calls Tryz.prog 20 #[.string s] w fun e w' => e = .returned (ans s (first c r)) ∧ Below w.heap.size w w' := by
  have hx : ∀ W, (Instr.index 9 (.string s) (.int .i64 0)).run Tryz.prog W = .ok (.int .u8 (c.toNat : Int)) W := idx (s := s) (k := 0) (c := c) (by rw [ht]; rfl)
  have hl := letter_any c
  have hd := digit_any c
  have hs : s.size = (c :: r).length := by rw [txt_size, ht]
  have hK : ∀ m, m ≤ s.size → ∀ W, Calls Tryz.prog 45 #[.string (s.extract 0 m)] W fun e w' => e = .returned (.string (s.extract 0 m)) ∧ Below W.heap.size W w' := fun m h W =>
    clone_any _ W (by rw [Lib.size_eq, Lib.extract_data, List.length_take, List.length_drop]; omega)
  unfold first
  cases el : letter c
  · rw [el] at hl
    rw [if_neg (by simp)]
    cases eg : digit c
    · rw [eg] at hd
      rw [if_neg (by simp)]
      have hM := fun W => mark_any s W hm (by rw [hs]; simp)
      rw [ht] at hM
      by_cases h0 : mark (c :: r) = 0
      · rw [h0] at hM
        rw [if_pos h0]
        exact first_none s c w hx (Lib.hid hl) (Lib.hid hd) (Lib.hid hM)
      · rw [if_neg h0]
        have hle := mark_pos_le c r
        exact first_mark s c w s.size (mark (c :: r)) (s.extract 0 (mark (c :: r))) ⟨by omega, by omega⟩ hx (Lib.hid hl) (Lib.hid hd) (Lib.hid hM) (cut_to s _ (by omega)) (Lib.hid (hK _ (by omega)))
    · rw [eg] at hd
      rw [if_pos rfl]
      obtain ⟨h1, h2, h3, h4⟩ := num_post (c :: r) 0 0 (fun h => by omega) (by omega)
      have hN := fun W => number_any s W hm
      rw [ht] at hN
      have hp := takeWhile_pos (r := r) eg
      have hq := takeWhile_le digit (c :: r)
      by_cases hb : numF 0 ((c :: r).takeWhile digit) ≤ mostV
      · rw [if_pos hb]
        have e := h1 hb
        rw [Nat.zero_add] at e
        rw [e] at hN
        exact first_number s c w s.size _ _ hb (s.extract 0 ((c :: r).takeWhile digit).length) ⟨hp, by omega⟩ hx (Lib.hid hl) (Lib.hid hd) (Lib.hid hN) (cut_to s _ (by omega)) (Lib.hid (hK _ (by omega)))
      · rw [if_neg hb]
        have e := h2 (by omega)
        exact first_big s c w _ _ e.2 e.1 hx (Lib.hid hl) (Lib.hid hd) (Lib.hid hN)
  · rw [el] at hl
    rw [if_pos rfl]
    have hW := fun W => word_any s W hm
    rw [ht] at hW
    have h1 := takeWhile_pos (r := r) (letter_inWord el)
    have h2 := takeWhile_le inWord (c :: r)
    exact first_word s c w s.size _ (s.extract 0 ((c :: r).takeWhile inWord).length) ⟨h1, by omega⟩ hx (Lib.hid hl) (Lib.hid hW) (cut_to s _ (by omega)) (Lib.hid (hK _ (by omega)))
end Go.Proofs.YtfkakdpppejehaaGreat.Sc
namespace Go.Proofs.YtfkakdpppejehaaGreat.Sc
open Go.RowKit

def str (l : List UInt8) : Value := .string ⟨l.toArray⟩
theorem str_txt (s : ByteArray) : Value.string s = str (txt s) := by unfold str; rw [Lib.mk_data]
theorem str_cut (s : ByteArray) (a b : Nat) : Value.string (s.extract a b) = str (((txt s).drop a).take (b - a)) := by unfold str; rw [Lib.extract_eq]
def cells4 (t : Tok) : List Value := [.int .i64 t.kind, str t.text, .int .i64 t.value, .int .i64 t.at_]
def cellsOf : List Tok → List Value
  | [] => []
  | t :: r => cells4 t ++ cellsOf r
def noTok : Tok := ⟨0, [], 0, 0⟩
/-- v is a slice of tokens (their type's number is e) in memory from base on -/
def OwnsT (e : TypeId) (w : World) (base : Nat) (v : Value) (L : List Tok) : Prop := w.ownsRow base e 4 v L.length (cellsOf L)
/-- from an address on lie the tokens L -/
def Cells (w : World) (b off : Nat) (L : List Tok) : Prop :=
  ∀ k, k < L.length → w.cell? ⟨b, off + k * 4, none⟩ = some (.int .i64 (L.getD k noTok).kind) ∧ w.cell? ⟨b, off + k * 4 + 1, none⟩ = some (str (L.getD k noTok).text) ∧
    w.cell? ⟨b, off + k * 4 + 2, none⟩ = some (.int .i64 (L.getD k noTok).value) ∧ w.cell? ⟨b, off + k * 4 + 3, none⟩ = some (.int .i64 (L.getD k noTok).at_)
/-- the slice value v reads as the tokens L -/
def Sees (w : World) (v : Value) (L : List Tok) : Prop :=
  ∃ (p : Option Addr) (b off c : Nat), v = .slice p L.length c ∧ (0 < L.length → p = some ⟨b, off, none⟩) ∧ Cells w b off L

theorem cellsOf_snoc : ∀ (A : List Tok) (t : Tok), cellsOf (A ++ [t]) = cellsOf A ++ cells4 t
  | [], t => by simp [cellsOf]
  | u :: r, t => by rw [List.cons_append, cellsOf, cellsOf_snoc r t, cellsOf, List.append_assoc]
theorem cellsOf_length : ∀ (A : List Tok), (cellsOf A).length = A.length * 4
  | [] => rfl
  | u :: r => by rw [cellsOf, List.length_append, cellsOf_length r, List.length_cons]; simp [cells4]; omega
theorem cellsOf_get : ∀ (A : List Tok) (k j : Nat), k < A.length → j < 4 → (cellsOf A)[k * 4 + j]? = (cells4 (A.getD k noTok))[j]?
  | [], k, j, h, _ => by simp at h
  | t :: r, 0, j, h, hj => by
    rw [cellsOf, List.getElem?_append_left (by simp [cells4]; omega)]
    simp
  | t :: r, k + 1, j, h, hj => by
    rw [cellsOf, List.getElem?_append_right (by simp [cells4]; omega)]
    have e : (k + 1) * 4 + j - (cells4 t).length = k * 4 + j := by simp [cells4]; omega
    rw [e, cellsOf_get r k j (by simpa using h) hj]
    simp
theorem cells_below {w wr : World} {b off : Nat} {L : List Tok} (h : Cells w b off L) (hB : Below w.heap.size w wr) : Cells wr b off L :=
  fun k hk => ⟨cell_below hB (h k hk).1, cell_below hB (h k hk).2.1, cell_below hB (h k hk).2.2.1, cell_below hB (h k hk).2.2.2⟩
theorem sees_below {w wr : World} {v : Value} {L : List Tok} (h : Sees w v L) (hB : Below w.heap.size w wr) : Sees wr v L := by
  obtain ⟨p, b, off, c, h1, h2, h3⟩ := h
  exact ⟨p, b, off, c, h1, h2, cells_below h3 hB⟩
theorem sees_of_owns {e : TypeId} {w : World} {base : Nat} {v : Value} {L : List Tok} (h : OwnsT e w base v L) : Sees w v L := by
  have h0 := h
  rcases h.2 with ⟨rfl, h1⟩ | ⟨g, cap, cur, rfl, hb, hg, hn, hc, hs, ht⟩
  · exact ⟨none, 0, 0, 0, by rw [h1], fun h => by omega, fun k hk => by omega⟩
  · refine ⟨_, g, 0, cap, rfl, fun _ => rfl, fun k hk => ?_⟩
    have hc : ∀ j, j < 4 → w.cell? ⟨g, 0 + k * 4 + j, none⟩ = (cells4 (L.getD k noTok))[j]? := fun j hj => by
      rw [Nat.zero_add, h0.cellAt (k * 4 + j) (by omega), cellsOf_get L k j hk hj]
    exact ⟨hc 0 (by omega), hc 1 (by omega), hc 2 (by omega), hc 3 (by omega)⟩
theorem owns_low {w : World} {base low : Nat} {e : TypeId} {size n : Nat} {v : Value} {xs : List Value} (h : w.ownsRow base e size v n xs) (hl : low ≤ base) : w.ownsRow low e size v n xs := by
  refine ⟨h.1, ?_⟩
  rcases h.2 with h1 | ⟨g, cap, cur, h1, h2, h3⟩
  · exact .inl h1
  · exact .inr ⟨g, cap, cur, h1, by omega, h3⟩
theorem owns_below {w wr : World} {base : Nat} {e : TypeId} {size n : Nat} {v : Value} {xs : List Value} (h : w.ownsRow base e size v n xs) (hb : Below w.heap.size w wr) : wr.ownsRow base e size v n xs := by
  refine ⟨h.1, ?_⟩
  rcases h.2 with h1 | ⟨g, cap, cur, h1, h2, h3, h4⟩
  · exact .inl h1
  · exact .inr ⟨g, cap, cur, h1, h2, (hb.block g (Array.getElem?_eq_some_iff.1 h3).1).trans h3, h4⟩
theorem shape {e : TypeId} {w : World} {base : Nat} {v : Value} {A : List Tok} (h : OwnsT e w base v A) : ∃ (p : Option Addr) (cap : Nat), v = .slice p A.length cap := by
  rcases h.2 with ⟨rfl, h1⟩ | ⟨g, cap, cur, rfl, hb, hg, hn, hc, hs, ht⟩
  · exact ⟨none, 0, by rw [h1]⟩
  · exact ⟨_, cap, rfl⟩
theorem info34 : (Tryz.prog.info? 47).map (fun i => (i.zero, i.size, i.bytes)) = some (some (.agg #[.int .i64 0, .string ⟨#[]⟩, .int .i64 0, .int .i64 0]), 4, 40) := by kernel_rfl
theorem info36 : (Tryz.prog.info? 63).map (fun i => (i.zero, i.size, i.bytes)) = some (some (.agg #[.int .i64 0, .string ⟨#[]⟩, .int .i64 0, .int .i64 0]), 4, 40) := by kernel_rfl
theorem cells_four (w : World) (u v x y : Value) (t : TypeId) : ∀ j z, [u, v, x, y][j]? = some z → (w.alloc (.cells #[u, v, x, y] t)).cell? ((⟨w.heap.size, 0, none⟩ : Addr).add j) = some z := by
  intro j x hj
  match j, hj with
  | 0, hj => simp at hj; subst hj; simp [Addr.add]
  | 1, hj => simp at hj; subst hj; simp [Addr.add]
  | 2, hj => simp at hj; subst hj; simp [Addr.add]
  | 3, hj => simp at hj; subst hj; simp [Addr.add]
theorem cell_grown {w w' : World} {r : Option Nat} {p : Addr} {v : Value} (hg : w.grownBy w' r) (hr : r ≠ some p.block) (h : w.cell? p = some v) : w'.cell? p = some v := by
  have hlt : p.block < w.heap.size := by
    unfold World.cell? at h
    cases hh : w.heap[p.block]? with
    | none => simp [hh] at h
    | some q => exact (Array.getElem?_eq_some_iff.1 hh).1
  exact (World.cell?_of_block (hg.block p.block hlt (fun e => hr e.symm))).trans h

/-- a token behind others, of the program's type -/
theorem append_tok {w : World} {ops : Array Oper} {rest : List Oper} {o : Oper} {a : Act} {Q : Exit → Act → World → Prop} (hgd : o.guard = none) (s x : Operand) (ts e : TypeId) (i0 : TypeInfo)
    (hts : Tryz.prog.underlying ts = some (.slice e)) (hi : Tryz.prog.info? e = some i0) (hz0 : i0.zero = some (.agg #[.int .i64 0, .string ⟨#[]⟩, .int .i64 0, .int .i64 0])) (hz1 : i0.size = 4) (hz2 : i0.bytes = 40)
    (ho : o.op = .call { callee := .builtin .append, args := #[s, x], argTypes := #[ts, ts] }) (base : Nat) (v : Value) (g : Nat) (A : List Tok) (t : Tok) (hs : a.eval s = v) (hx : a.eval x = .slice (some ⟨g, 0, none⟩) 1 1)
    (hown : OwnsT e w base v A) (hc : ∀ j z, (cells4 t)[j]? = some z → w.cell? ((⟨g, 0, none⟩ : Addr).add j) = some z) (hlen : A.length ≤ 100000) (hbase : base ≤ w.heap.size)
    (h : ∀ v' w', OwnsT e w' base v' (A ++ [t]) → w.grownBy w' v.ownBlock → wpList Tryz.prog ops Q rest (a.put o.dst v') w') : wpList Tryz.prog ops Q (o :: rest) a w := by
  refine wpList_append_own w hgd s x ts ho base e i0 _ 4 40 hts hi hz0 hz1 hz2 rfl (by decide) v A.length _ hs hown ⟨g, 0, none⟩ 1 1 (cells4 t) hx rfl hc (by simp [cells4, Value.oneCell', str]) ?_ (by omega) hbase ?_
  · unfold maxLen
    omega
  · intro v' w' h1 h2 _
    refine h v' w' ?_ h2
    unfold OwnsT
    rw [cellsOf_snoc, List.length_append, List.length_singleton]
    exact h1
end Go.Proofs.YtfkakdpppejehaaGreat.Sc
namespace Go.Proofs.YtfkakdpppejehaaGreat.Pa
open Go.RowKit
open Sc (Tok Cells str noTok)
set_option maxRecDepth 100000

def badI : Option Nat → Int
  | none => -1
  | some p => (p : Int)
/-- the names of variables so far, in memory -/
structure NmAt (w : World) (p : Option Addr) (b off m : Nat) (L : List Txt) : Prop where
  long : m = L.length
  at_ : 0 < m → p = some ⟨b, off, none⟩
  cell : ∀ k, k < m → w.cell? ⟨b, off + k, none⟩ = some (str (L.getD k []))
/-- a reader in memory: block g, of five cells -/
structure RdAt (w : World) (g n : Nat) (pl : Option Addr) (bl ol cl : Nat) (pv : Option Addr) (bv ov m cv : Nat) (T : List Tok) (r : Rd) : Prop where
  c0 : w.cell? ⟨g, 0, none⟩ = some (.slice pl n cl)
  c1 : w.cell? ⟨g, 1, none⟩ = some (.int .i64 (r.at_ : Int))
  c2 : w.cell? ⟨g, 2, none⟩ = some (.bool r.wrong)
  c3 : w.cell? ⟨g, 3, none⟩ = some (.slice pv m cv)
  c4 : w.cell? ⟨g, 4, none⟩ = some (.int .i64 (badI r.bad))
  f1 : w.frozen? ⟨g, 1, none⟩ = false
  f2 : w.frozen? ⟨g, 2, none⟩ = false
  f3 : w.frozen? ⟨g, 3, none⟩ = false
  f4 : w.frozen? ⟨g, 4, none⟩ = false
  long : n = T.length
  few : n ≤ 100000
  top : r.at_ ≤ n
  tl : 0 < n → pl = some ⟨bl, ol, none⟩
  tk : Cells w bl ol T
  tg : 0 < n → bl ≠ g
  nm : NmAt w pv bv ov m r.vars
  ng : 0 < m → bv ≠ g
  ty : ∃ cs, w.heap[g]? = some (.cells cs 58)
  nt : 0 < m → ∃ cs, w.heap[bv]? = some (.cells cs 9)
  tt : 0 < n → ∃ cs, w.heap[bl]? = some (.cells cs 63)
/-- of what was there nothing turns but block g, and block v -/
structure Moves (g : Nat) (v : Option Nat) (w w' : World) : Prop where
  os : w'.os = w.os
  tape : w'.tape = w.tape
  output : w'.output = w.output
  size : w.heap.size ≤ w'.heap.size
  block : ∀ k, k < w.heap.size → k ≠ g → some k ≠ v → w'.heap[k]? = w.heap[k]?
theorem Moves.refl (g : Nat) (v : Option Nat) (w : World) : Moves g v w w := ⟨rfl, rfl, rfl, Nat.le_refl _, fun _ _ _ _ => rfl⟩
theorem Moves.trans {g : Nat} {v : Option Nat} {w w' w'' : World} (h : Moves g v w w') (k : Moves g v w' w'') : Moves g v w w'' :=
  ⟨k.os.trans h.os, k.tape.trans h.tape, k.output.trans h.output, Nat.le_trans h.size k.size, fun i hi hg hv => (k.block i (Nat.lt_of_lt_of_le hi h.size) hg hv).trans (h.block i hi hg hv)⟩
theorem Moves.of_below {g : Nat} {v : Option Nat} {w w' : World} (h : Below w.heap.size w w') : Moves g v w w' := ⟨h.os, h.tape, h.output, h.size, fun k hk _ _ => h.block k hk⟩
theorem Moves.drewN {g : Nat} {v : Option Nat} {w w' : World} (h : Moves g v w w') (n : Nat) : Moves g v w (w'.drewN n) := ⟨h.os, h.tape, h.output, h.size, h.block⟩
theorem Moves.set {g : Nat} {v : Option Nat} {w w' : World} (h : Moves g v w w') (i : Nat) (x : Value) : Moves g v w (w'.setCell ⟨g, i, none⟩ x) :=
  ⟨h.os, h.tape, h.output, by have := h.size; simp [World.setCell]; exact this, fun k hk hg hv => (Below.heap_setCell _ _ _ _ hg).trans (h.block k hk hg hv)⟩
theorem Moves.cell {g : Nat} {v : Option Nat} {w w' : World} (h : Moves g v w w') {p : Addr} {x : Value} (hc : w.cell? p = some x) (hg : p.block ≠ g) (hv : some p.block ≠ v) : w'.cell? p = some x :=
  (World.cell?_of_block (w := w) (h.block _ (World.block_lt_of_cell? w p hc) hg hv)).trans hc

section
variable {w : World} {g n : Nat} {pl : Option Addr} {bl ol cl : Nat} {pv : Option Addr} {bv ov m cv : Nat} {T : List Tok} {r : Rd}
theorem RdAt.drewN (h : RdAt w g n pl bl ol cl pv bv ov m cv T r) (q : Nat) : RdAt (w.drewN q) g n pl bl ol cl pv bv ov m cv T r :=
  ⟨h.c0, h.c1, h.c2, h.c3, h.c4, h.f1, h.f2, h.f3, h.f4, h.long, h.few, h.top, h.tl, h.tk, h.tg, ⟨h.nm.long, h.nm.at_, h.nm.cell⟩, h.ng, h.ty, h.nt, h.tt⟩
theorem RdAt.below {w' : World} (h : RdAt w g n pl bl ol cl pv bv ov m cv T r) (hB : Below w.heap.size w w') : RdAt w' g n pl bl ol cl pv bv ov m cv T r := by
  have hf : ∀ {p : Addr} {x : Value}, w.cell? p = some x → w.frozen? p = false → w'.frozen? p = false := fun hc hf => (hB.frozen (World.block_lt_of_cell? w _ hc)).trans hf
  exact ⟨cell_stays hB h.c0, cell_stays hB h.c1, cell_stays hB h.c2, cell_stays hB h.c3, cell_stays hB h.c4, hf h.c1 h.f1, hf h.c2 h.f2, hf h.c3 h.f3, hf h.c4 h.f4, h.long, h.few, h.top, h.tl, Sc.cells_below h.tk hB, h.tg,
    ⟨h.nm.long, h.nm.at_, fun k hk => cell_stays hB (h.nm.cell k hk)⟩, h.ng, by obtain ⟨cs, e⟩ := h.ty; exact ⟨cs, (hB.block g (Array.getElem?_eq_some_iff.1 e).1).trans e⟩,
    fun h0 => by obtain ⟨cs, e⟩ := h.nt h0; exact ⟨cs, (hB.block bv (Array.getElem?_eq_some_iff.1 e).1).trans e⟩,
    fun h0 => by obtain ⟨cs, e⟩ := h.tt h0; exact ⟨cs, (hB.block bl (Array.getElem?_eq_some_iff.1 e).1).trans e⟩⟩
/-- a reader is what its blocks say -/
theorem RdAt.of_blocks {w' : World} (h : RdAt w g n pl bl ol cl pv bv ov m cv T r) (hg : w'.heap[g]? = w.heap[g]?) (hl : 0 < n → w'.heap[bl]? = w.heap[bl]?) (hv : 0 < m → w'.heap[bv]? = w.heap[bv]?) : RdAt w' g n pl bl ol cl pv bv ov m cv T r := by
  have cg : ∀ (i : Nat) (x : Value), w.cell? ⟨g, i, none⟩ = some x → w'.cell? ⟨g, i, none⟩ = some x := fun i x hc => (World.cell?_of_block (w := w) (a := ⟨g, i, none⟩) hg).trans hc
  have fg : ∀ i : Nat, w.frozen? ⟨g, i, none⟩ = false → w'.frozen? ⟨g, i, none⟩ = false := fun i hc => (World.frozen?_of_block (w := w) (a := ⟨g, i, none⟩) hg).trans hc
  have cl' : 0 < n → ∀ (i : Nat) (x : Value), w.cell? ⟨bl, i, none⟩ = some x → w'.cell? ⟨bl, i, none⟩ = some x := fun h0 i x hc => (World.cell?_of_block (w := w) (a := ⟨bl, i, none⟩) (hl h0)).trans hc
  refine ⟨cg _ _ h.c0, cg _ _ h.c1, cg _ _ h.c2, cg _ _ h.c3, cg _ _ h.c4, fg _ h.f1, fg _ h.f2, fg _ h.f3, fg _ h.f4, h.long, h.few, h.top, h.tl, fun k hk => ?_, h.tg, ⟨h.nm.long, h.nm.at_, fun k hk => ?_⟩, h.ng, ?_, fun h0 => ?_, fun h0 => ?_⟩
  · obtain ⟨a, b, c, d⟩ := h.tk k hk
    have h0 : 0 < n := by rw [h.long]; omega
    exact ⟨cl' h0 _ _ a, cl' h0 _ _ b, cl' h0 _ _ c, cl' h0 _ _ d⟩
  · exact (World.cell?_of_block (w := w) (a := ⟨bv, ov + k, none⟩) (hv (by omega))).trans (h.nm.cell k hk)
  · obtain ⟨cs, e⟩ := h.ty; exact ⟨cs, hg.trans e⟩
  · obtain ⟨cs, e⟩ := h.nt h0; exact ⟨cs, (hv h0).trans e⟩
  · obtain ⟨cs, e⟩ := h.tt h0; exact ⟨cs, (hl h0).trans e⟩
end
theorem next_out {T : List Tok} {r : Rd} (h : r.wrong = true ∨ T.length ≤ r.at_) : next T r = none := by
  unfold next
  split
  · rfl
  · rename_i hw
    exact List.getElem?_eq_none_iff.2 (h.resolve_left hw)
theorem next_in {T : List Tok} {r : Rd} (hw : r.wrong = false) (h : r.at_ < T.length) : next T r = some (T.getD r.at_ noTok) := by
  unfold next
  rw [if_neg (by rw [hw]; simp), List.getElem?_eq_getElem h]
  simp [h]
theorem str_is (l : List UInt8) : ∃ q : ByteArray, str l = .string q := ⟨_, rfl⟩

set_option maxHeartbeats 1000000 in
theorem text_any {w : World} {g n : Nat} {pl : Option Addr} {bl ol cl : Nat} {pv : Option Addr} {bv ov m cv : Nat} {T : List Tok} {r : Rd} (h : RdAt w g n pl bl ol cl pv bv ov m cv T r) :
    Calls Tryz.prog 12 #[.pointer (some ⟨g, 0, none⟩)] w fun e w' => e = .returned (str (textO (next T r))) ∧ ∃ q, w' = w.drewN q := by
  have c0 := h.c0
  have c1 := h.c1
  have c2 := h.c2
  have htl := h.tl
  have H := Lib.hid h
  obtain ⟨k, hk⟩ : ∃ k, k = r.at_ := ⟨_, rfl⟩
  obtain ⟨b, hb⟩ : ∃ b, b = r.wrong := ⟨_, rfl⟩
  rw [← hk] at c1
  rw [← hb] at c2
  have hkn : k ≤ n := by rw [hk]; exact h.top
  have HK := Lib.hid hk
  have HB := Lib.hid hb
  clear h hk hb
  cases b
  · by_cases hlt : k < n
    · obtain rfl := htl (by omega)
      have d1 : decide ((n : Int) ≤ (k : Int)) = false := decide_eq_false (by omega)
      obtain ⟨_, t1, _, _⟩ := H.out.tk k (by rw [← H.out.long]; exact hlt)
      have hres : str (textO (next T r)) = str (T.getD k noTok).text := by
        rw [next_in HB.out.symm (by rw [← HK.out, ← H.out.long]; exact hlt), ← HK.out]
        rfl
      rw [hres]
      obtain ⟨q, hq⟩ := str_is (T.getD k noTok).text
      rw [hq] at t1 ⊢
      have i1 : (k : Int) < (n : Int) := by omega
      clear hres hq hkn
      go_enter Tryz.func12, Tryz.ntmps12
      go_upto_region 1 with fail
      go_quiet (fail)
      go_upto_region 3 with fail
      go_quiet (fail)
      go_wp2_with fail
      go_ret
      exact ⟨rfl, _, rfl⟩
    · have d1 : decide ((n : Int) ≤ (k : Int)) = true := decide_eq_true (by omega)
      rw [next_out (.inr (by rw [← HK.out, ← H.out.long]; omega))]
      go_enter Tryz.func12, Tryz.ntmps12
      go_upto_region 1 with fail
      go_quiet (fail)
      go_wp2_with fail
      go_ret
      exact ⟨rfl, _, rfl⟩
  · rw [next_out (.inl HB.out.symm)]
    go_enter Tryz.func12, Tryz.ntmps12
    go_upto_region 1 with fail
    go_quiet (fail)
    go_wp2_with fail
    go_ret
    exact ⟨rfl, _, rfl⟩
set_option maxHeartbeats 1000000 in
theorem kind_any {w : World} {g n : Nat} {pl : Option Addr} {bl ol cl : Nat} {pv : Option Addr} {bv ov m cv : Nat} {T : List Tok} {r : Rd} (h : RdAt w g n pl bl ol cl pv bv ov m cv T r) :
    Calls Tryz.prog 30 #[.pointer (some ⟨g, 0, none⟩)] w fun e w' => e = .returned (.int .i64 (kindO (next T r) : Nat)) ∧ ∃ q, w' = w.drewN q := by
  have c0 := h.c0
  have c1 := h.c1
  have c2 := h.c2
  have htl := h.tl
  have H := Lib.hid h
  obtain ⟨k, hk⟩ : ∃ k, k = r.at_ := ⟨_, rfl⟩
  obtain ⟨b, hb⟩ : ∃ b, b = r.wrong := ⟨_, rfl⟩
  rw [← hk] at c1
  rw [← hb] at c2
  have hkn : k ≤ n := by rw [hk]; exact h.top
  have HK := Lib.hid hk
  have HB := Lib.hid hb
  clear h hk hb
  cases b
  · by_cases hlt : k < n
    · obtain rfl := htl (by omega)
      have d1 : decide ((n : Int) ≤ (k : Int)) = false := decide_eq_false (by omega)
      obtain ⟨t0, _, _, _⟩ := H.out.tk k (by rw [← H.out.long]; exact hlt)
      have hres : kindO (next T r) = (T.getD k noTok).kind := by
        rw [next_in HB.out.symm (by rw [← HK.out, ← H.out.long]; exact hlt), ← HK.out]
        rfl
      rw [hres]
      obtain ⟨q, hq⟩ : ∃ q, q = (T.getD k noTok).kind := ⟨_, rfl⟩
      rw [← hq] at t0 ⊢
      have i1 : (k : Int) < (n : Int) := by omega
      clear hres hq hkn
      go_enter Tryz.func30, Tryz.ntmps30
      go_upto_region 1 with fail
      go_quiet (fail)
      go_upto_region 3 with fail
      go_quiet (fail)
      go_wp2_with fail
      go_ret
      exact ⟨rfl, _, rfl⟩
    · have d1 : decide ((n : Int) ≤ (k : Int)) = true := decide_eq_true (by omega)
      rw [next_out (.inr (by rw [← HK.out, ← H.out.long]; omega))]
      go_enter Tryz.func30, Tryz.ntmps30
      go_upto_region 1 with fail
      go_quiet (fail)
      go_wp2_with fail
      go_ret
      exact ⟨rfl, _, rfl⟩
  · rw [next_out (.inl HB.out.symm)]
    go_enter Tryz.func30, Tryz.ntmps30
    go_upto_region 1 with fail
    go_quiet (fail)
    go_wp2_with fail
    go_ret
    exact ⟨rfl, _, rfl⟩
end Go.Proofs.YtfkakdpppejehaaGreat.Pa
