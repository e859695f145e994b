/-
  Readers in memory: what stop, cut, Left, End, Num, Eight and New do.
-/
import Derived.Test.YtamhajeighdjeaaOApp
namespace Go.Proofs.Ytamhajeighdjeaa
open Go.RowKit

theorem stop_any (a : Nat) (u0 u1 : Value) (e : Int) (w : World) (h : w.heap[a]? = some (.cells #[u0, u1] 54 (0, 0))) :
    Calls Try.prog 33 #[.pointer (some ⟨a, 0, none⟩), .int .i64 e] w fun r w' => r = .returned (.tuple #[]) ∧ w' = (w.setCell ⟨a, 0, none⟩ (.slice none 0 0)).setCell ⟨a, 1, none⟩ (.int .i64 e) := by
  have c0 : w.cell? ⟨a, 0, none⟩ = some u0 := by rw [cell_of_heap h]; rfl
  have c1 : w.cell? ⟨a, 1, none⟩ = some u1 := by rw [cell_of_heap h]; rfl
  have f0 : w.frozen? ⟨a, 0, none⟩ = false := frozen_of_heap h
  have f1 : w.frozen? ⟨a, 1, none⟩ = false := frozen_of_heap h
  clear h
  go_enter Try.func33, Try.ntmps33
  go_wp2_with fail
  go_end0
  exact ⟨rfl, rfl⟩

theorem cut_any (a b off len c s : Nat) (u1 : Value) (w : World) (h : w.heap[a]? = some (.cells #[.slice (some ⟨b, off, none⟩) len c, u1] 54 (0, 0))) (hs : s ≤ len) (hc : len ≤ c) :
    Calls Try.prog 34 #[.pointer (some ⟨a, 0, none⟩), .int .i64 s] w fun r w' => r = .returned (.slice (some ⟨b, off, none⟩) s s) ∧ ∃ q, w' = w.setCell ⟨a, 0, none⟩ (.slice (some q) (len - s) (c - s)) ∧ (0 < len - s → q = ⟨b, off + s, none⟩) := by
  have c0 : w.cell? ⟨a, 0, none⟩ = some (.slice (some ⟨b, off, none⟩) len c) := by rw [cell_of_heap h]; rfl
  have f0 : w.frozen? ⟨a, 0, none⟩ = false := frozen_of_heap h
  have hs1 : (s : Int) ≤ len := by omega
  have hs2 : (s : Int) ≤ c := by omega
  have hs3 : s ≤ c := by omega
  clear h
  by_cases hcs : c = s
  · obtain rfl : len = s := by omega
    subst hcs
    go_enter Try.func34, Try.ntmps34
    go_wp2_with fail
    go_ret
    exact ⟨rfl, _, by rw [Nat.sub_self], fun h => by omega⟩
  · have hcs2 : c ≠ s := hcs
    have hcs3 : s < c := by omega
    go_enter Try.func34, Try.ntmps34
    go_wp2_with fail
    go_ret
    exact ⟨rfl, _, rfl, fun _ => rfl⟩

set_option maxHeartbeats 400000 in
theorem left_any (a : Nat) (p : Option Addr) (len c : Nat) (u1 : Value) (w : World) (h : w.heap[a]? = some (.cells #[.slice p len c, u1] 54 (0, 0))) :
    Calls Try.prog 22 #[.pointer (some ⟨a, 0, none⟩)] w fun r w' => r = .returned (.int .i64 len) ∧ w' = w := by
  have c0 : w.cell? ⟨a, 0, none⟩ = some (.slice p len c) := by rw [cell_of_heap h]; rfl
  clear h
  go_enter Try.func22, Try.ntmps22
  go_wp2_with fail
  go_ret
  exact ⟨rfl, rfl⟩

/-- what End tells -/
def ends (len e : Nat) : Nat := if e = 0 ∧ 0 < len then 4 else e

set_option maxHeartbeats 400000 in
theorem end_any (a : Nat) (p : Option Addr) (len c e : Nat) (w : World) (h : w.heap[a]? = some (.cells #[.slice p len c, .int .i64 e] 54 (0, 0))) :
    Calls Try.prog 24 #[.pointer (some ⟨a, 0, none⟩)] w fun r w' => r = .returned (.int .i64 (ends len e : Nat)) ∧ w' = w := by
  have c0 : w.cell? ⟨a, 0, none⟩ = some (.slice p len c) := by rw [cell_of_heap h]; rfl
  have c1 : w.cell? ⟨a, 1, none⟩ = some (.int .i64 e) := by rw [cell_of_heap h]; rfl
  clear h
  unfold ends
  by_cases he : e = 0
  · subst he
    by_cases hl : 0 < len
    · have hl2 : (0 : Int) < (len : Int) := by omega
      rw [if_pos ⟨rfl, hl⟩]
      go_enter Try.func24, Try.ntmps24
      go_wp2_with fail
      go_ret
      exact ⟨rfl, rfl⟩
    · obtain rfl : len = 0 := by omega
      rw [if_neg (by omega)]
      go_enter Try.func24, Try.ntmps24
      go_wp2_with fail
      go_ret
      exact ⟨rfl, rfl⟩
  · have he2 : ((e : Int) == 0) = false := beq_eq_false_iff_ne.2 (by omega)
    rw [if_neg (by omega)]
    go_enter Try.func24, Try.ntmps24
    go_wp2_with fail
    go_ret
    exact ⟨rfl, rfl⟩

/-- a reader of the type t in block a: the bytes that are left, in block b, and what went wrong -/
structure RAt (t : TypeId) (w : World) (a b : Nat) (ys : List Nat) (e : Nat) : Prop where
  ex : ∃ (p : Option Addr) (off c : Nat), w.heap[a]? = some (.cells #[.slice p ys.length c, .int .i64 (e : Int)] t (0, 0)) ∧ Lies w p b off ys ∧ ys.length ≤ c ∧ (p = none → c = 0)
  ne : b ≠ a
  bytes : Bytes ys
  len : ys.length ≤ 1000
theorem RAt.turn {t : TypeId} {S : List Nat} {w w' : World} {a b : Nat} {ys : List Nat} {e : Nat} (h : RAt t w a b ys e) (ht : Turn S w w') (ha : a ∉ S) (hb : b ∉ S) : RAt t w' a b ys e := by
  obtain ⟨p, off, c, h1, h2, h3⟩ := h.ex
  exact ⟨⟨p, off, c, (ht.block a (Array.getElem?_eq_some_iff.1 h1).1 ha).trans h1, h2.turn ht hb, h3⟩, h.ne, h.bytes, h.len⟩
theorem RAt.below {t : TypeId} {w w' : World} {a b : Nat} {ys : List Nat} {e : Nat} (h : RAt t w a b ys e) (hb : Below w.heap.size w w') : RAt t w' a b ys e := h.turn (turn_of_below hb []) (fun h => by cases h) (fun h => by cases h)
theorem RAt.lt {t : TypeId} {w : World} {a b : Nat} {ys : List Nat} {e : Nat} (h : RAt t w a b ys e) : a < w.heap.size := by
  obtain ⟨p, off, c, h1, _⟩ := h.ex
  exact (Array.getElem?_eq_some_iff.1 h1).1
theorem turn_set (w : World) (a off : Nat) (u : Value) : Turn [a] w (w.setCell ⟨a, off, none⟩ u) := (Turn.refl [a] w).setCell (.inl (by simp)) u
/-- stopped -/
theorem RAt.stop {w : World} {a b : Nat} {ys : List Nat} {e : Nat} (h : RAt 54 w a b ys e) (e' : Nat) :
    RAt 54 ((w.setCell ⟨a, 0, none⟩ (.slice none 0 0)).setCell ⟨a, 1, none⟩ (.int .i64 (e' : Int))) a b [] e' ∧ Turn [a] w ((w.setCell ⟨a, 0, none⟩ (.slice none 0 0)).setCell ⟨a, 1, none⟩ (.int .i64 (e' : Int))) := by
  obtain ⟨p, off, c, h1, _⟩ := h.ex
  refine ⟨⟨⟨none, 0, 0, ?_, ⟨fun h => by simp at h, fun k hk => by simp at hk⟩, by simp, fun _ => rfl⟩, h.ne, fun x hx => by simp at hx, by simp⟩, ((turn_set w a 0 _).setCell (.inl (by simp)) _)⟩
  exact heap_setCell_same (heap_setCell_same h1 _) _
/-- what went wrong is set -/
theorem RAt.fail {t : TypeId} {w : World} {a b : Nat} {ys : List Nat} {e : Nat} (h : RAt t w a b ys e) (e' : Nat) :
    RAt t (w.setCell ⟨a, 1, none⟩ (.int .i64 (e' : Int))) a b ys e' ∧ Turn [a] w (w.setCell ⟨a, 1, none⟩ (.int .i64 (e' : Int))) := by
  obtain ⟨p, off, c, h1, h2, h3⟩ := h.ex
  have ht := turn_set w a 1 (.int .i64 (e' : Int))
  exact ⟨⟨⟨p, off, c, heap_setCell_same h1 _, h2.turn ht (by simpa using h.ne), h3⟩, h.ne, h.bytes, h.len⟩, ht⟩
/-- cut -/
theorem RAt.cut {t : TypeId} {w : World} {a b off c s : Nat} {p : Option Addr} {ys : List Nat} {e : Nat} {q : Addr} (h : RAt t w a b ys e) (h1 : w.heap[a]? = some (.cells #[.slice p ys.length c, .int .i64 (e : Int)] t (0, 0)))
    (h2 : Lies w p b off ys) (hs : s ≤ ys.length) (hc : ys.length ≤ c) (hq : 0 < ys.length - s → q = ⟨b, off + s, none⟩) :
    RAt t (w.setCell ⟨a, 0, none⟩ (.slice (some q) (ys.length - s) (c - s))) a b (ys.drop s) e ∧ Turn [a] w (w.setCell ⟨a, 0, none⟩ (.slice (some q) (ys.length - s) (c - s))) := by
  have ht := turn_set w a 0 (.slice (some q) (ys.length - s) (c - s))
  refine ⟨⟨⟨some q, off + s, c - s, ?_, ⟨fun h => by rw [List.length_drop] at h; rw [hq h], ((h2.turn ht (by simpa using h.ne)).drop s).cell⟩, by rw [List.length_drop]; omega, fun h => by cases h⟩, h.ne, h.bytes.drop s, by rw [List.length_drop]; have := h.len; omega⟩, ht⟩
  rw [List.length_drop]
  exact heap_setCell_same h1 _

/-- what is left, as the program keeps it -/
def view (ys : List Nat) (e : Nat) : List Nat := if e = 0 then ys else []
theorem view_zero (ys : List Nat) : view ys 0 = ys := rfl
theorem view_bad (ys : List Nat) {e : Nat} (h : e ≠ 0) : view ys e = [] := if_neg h
def rnum (most : Nat) (ys : List Nat) (e : Nat) : Nat × List Nat × Nat :=
  if e ≠ 0 then (0, ys, e) else if (take ys).2.2 ≠ 0 then (0, ys, (take ys).2.2) else if most < (take ys).1 then (0, ys, 5) else ((take ys).1, ys.drop (take ys).2.1, 0)
def reight (ys : List Nat) (e : Nat) : Nat × List Nat × Nat :=
  if e ≠ 0 then (0, ys, e) else if ys.length < 8 then (0, ys, 3) else (num (ys.take 8), ys.drop 8, 0)

/-- how a call of the program's reader ends: R is what it tells, what is left, and what went wrong -/
def Did (w : World) (a b : Nat) (R : Nat × List Nat × Nat) (r : Ending) (w' : World) : Prop :=
  r = .returned (.int .u64 (R.1 : Int)) ∧ RAt 54 w' a b (view R.2.1 R.2.2) R.2.2 ∧ Turn [a] w w'

set_option maxHeartbeats 1000000 in
theorem num_at (a b most : Nat) (ys : List Nat) (e : Nat) (w : World) (h : RAt 54 w a b (view ys e) e) :
    Calls Try.prog 20 #[.pointer (some ⟨a, 0, none⟩), .int .u64 most] w (Did w a b (rnum most ys e)) := by
  unfold rnum
  by_cases he : e = 0
  · subst he
    rw [view_zero] at h
    rw [if_neg (by simp)]
    obtain ⟨p, off, c, h1, h2, h3, h4⟩ := h.ex
    have T := take_any p b off c _ ys rfl w (by have := h.len; omega) h3 h2 h.bytes
    have hg : (take ys).2.2 = 0 → 1 ≤ (take ys).2.1 ∧ (take ys).2.1 ≤ ys.length := fun h5 => by
      obtain ⟨_, k1, _, k2, _⟩ := take_good h.bytes h5
      exact ⟨k1, k2⟩
    have c0 : w.cell? ⟨a, 0, none⟩ = some (.slice p ys.length c) := by rw [cell_of_heap h1]; rfl
    have c1 : w.cell? ⟨a, 1, none⟩ = some (.int .i64 0) := by rw [cell_of_heap h1]; rfl
    obtain ⟨len, hl⟩ : ∃ len, len = ys.length := ⟨_, rfl⟩
    obtain ⟨A, hA⟩ : ∃ A, A = (take ys).1 := ⟨_, rfl⟩
    obtain ⟨B, hB⟩ : ∃ B, B = (take ys).2.1 := ⟨_, rfl⟩
    obtain ⟨C, hC⟩ : ∃ C, C = (take ys).2.2 := ⟨_, rfl⟩
    rw [← hB, ← hC, ← hl] at hg
    rw [← hA, ← hB, ← hC, ← hl] at T
    rw [← hl] at c0
    rw [← hA, ← hB, ← hC]
    have T := Lib.hid T
    have HD := Lib.hid (fun n => h.turn ((Turn.refl [] w).drewN n) (fun h => by cases h) (fun h => by cases h))
    have H1 := Lib.hid h1
    have H2 := Lib.hid h2
    have H3 := Lib.hid h3
    have HL := Lib.hid hl
    have HG := Lib.hid hg
    have HT := Lib.hid (fun n => (Turn.refl [a] w).drewN n)
    clear h h1 h2 h3 h4 hl hA hB hC hg
    by_cases hc0 : C = 0
    · subst hc0
      rw [if_neg (by simp)]
      by_cases hmo : most < A
      · rw [if_pos hmo]
        have S := Lib.hid (fun n => stop_any a _ _ 5 (w.drewN n) H1.out)
        go_enter Try.func20, Try.ntmps20
        go_wp2_with fail
        refine T.out.mono ?_
        rintro r w1 ⟨rfl, n, rfl⟩
        go_wp2_with fail
        refine (S.out n).mono ?_
        rintro r w2 ⟨rfl, rfl⟩
        go_wp2_with fail
        go_ret
        exact ⟨rfl, ((HD.out n).stop 5).1, (HT.out n).trans ((HD.out n).stop 5).2 (fun x hx => .inl hx)⟩
      · rw [if_neg hmo]
        have HBL := Lib.hid (show 0 < ys.length ∧ B ≤ ys.length by have := HL.out; have := HG.out rfl; omega)
        obtain rfl := H2.out.at_ HBL.out.1
        have S := Lib.hid (fun n => cut_any a b off ys.length c B _ (w.drewN n) H1.out HBL.out.2 H3.out)
        have hmo2 : A ≤ most := by omega
        go_enter Try.func20, Try.ntmps20
        go_wp2_with fail
        refine T.out.mono ?_
        rintro r w1 ⟨rfl, n, rfl⟩
        go_wp2_with fail
        refine (S.out n).mono ?_
        rintro r w2 ⟨rfl, q, rfl, hq⟩
        have HQ := Lib.hid hq
        clear hq
        go_wp2_with fail
        go_ret
        have hr := (HD.out n).cut (s := B) H1.out (H2.out.drewN n) HBL.out.2 H3.out HQ.out
        exact ⟨rfl, hr.1, (HT.out n).trans hr.2 (fun x hx => .inl hx)⟩
    · rw [if_pos hc0]
      have S := Lib.hid (fun n => stop_any a _ _ C (w.drewN n) H1.out)
      have hc2 : ((C : Int) == 0) = false := beq_eq_false_iff_ne.2 (by omega)
      go_enter Try.func20, Try.ntmps20
      go_wp2_with fail
      refine T.out.mono ?_
      rintro r w1 ⟨rfl, n, rfl⟩
      go_wp2_with fail
      refine (S.out n).mono ?_
      rintro r w2 ⟨rfl, rfl⟩
      go_wp2_with fail
      go_ret
      refine ⟨rfl, ?_, (HT.out n).trans ((HD.out n).stop C).2 (fun x hx => .inl hx)⟩
      rw [view_bad _ hc0]
      exact ((HD.out n).stop C).1
  · have he2 : ((e : Int) == 0) = false := beq_eq_false_iff_ne.2 (by omega)
    rw [if_pos he]
    obtain ⟨p, off, c, h1, _⟩ := h.ex
    have c1 : w.cell? ⟨a, 1, none⟩ = some (.int .i64 e) := by rw [cell_of_heap h1]; rfl
    have H := Lib.hid h
    clear h h1
    go_enter Try.func20, Try.ntmps20
    go_wp2_with fail
    go_ret
    exact ⟨rfl, H.out, Turn.refl _ _⟩

set_option maxHeartbeats 1000000 in
theorem eight_at (a b : Nat) (ys : List Nat) (e : Nat) (w : World) (h : RAt 54 w a b (view ys e) e) :
    Calls Try.prog 18 #[.pointer (some ⟨a, 0, none⟩)] w (Did w a b (reight ys e)) := by
  unfold reight
  by_cases he : e = 0
  · subst he
    rw [view_zero] at h
    rw [if_neg (by simp)]
    obtain ⟨p, off, c, h1, h2, h3, h4⟩ := h.ex
    have c0 : w.cell? ⟨a, 0, none⟩ = some (.slice p ys.length c) := by rw [cell_of_heap h1]; rfl
    have c1 : w.cell? ⟨a, 1, none⟩ = some (.int .i64 0) := by rw [cell_of_heap h1]; rfl
    obtain ⟨len, hl⟩ : ∃ len, len = ys.length := ⟨_, rfl⟩
    rw [← hl] at c0 ⊢
    have H := Lib.hid h
    have H1 := Lib.hid h1
    have H2 := Lib.hid h2
    have H3 := Lib.hid h3
    have HL := Lib.hid hl
    clear h h1 h2 h3 h4 hl
    by_cases hl8 : len < 8
    · rw [if_pos hl8]
      have S := Lib.hid (stop_any a _ _ 3 w H1.out)
      go_enter Try.func18, Try.ntmps18
      go_wp2_with fail
      refine S.out.mono ?_
      rintro r w1 ⟨rfl, rfl⟩
      go_wp2_with fail
      go_ret
      exact ⟨rfl, (H.out.stop 3).1, (H.out.stop 3).2⟩
    · rw [if_neg hl8]
      obtain rfl := H2.out.at_ (by have := HL.out; omega)
      have S := Lib.hid (cut_any a b off ys.length c 8 _ w H1.out (by have := HL.out; omega) H3.out)
      have hlen8 : 8 = (ys.take 8).length := by rw [List.length_take]; have := HL.out; omega
      have N := Lib.hid (fun w' (ht : Turn [a] w w') => number_any (some ⟨b, off, none⟩) b off 8 8 (ys.take 8) hlen8 w' (by omega) ((H2.out.turn ht (by simpa using H.out.ne)).take 8) (H.out.bytes.take 8))
      obtain ⟨R, hR⟩ : ∃ R, R = num (ys.take 8) := ⟨_, rfl⟩
      rw [← hR] at N ⊢
      clear hR hlen8
      go_enter Try.func18, Try.ntmps18
      go_wp2_with fail
      refine S.out.mono ?_
      rintro r w2 ⟨rfl, q, rfl, hq⟩
      have hr := H.out.cut (s := 8) H1.out H2.out (by have := HL.out; omega) H3.out hq
      have HR := Lib.hid hr
      clear hq hr
      go_wp2_with fail
      refine (N.out _ HR.out.2).mono ?_
      rintro r w2 ⟨rfl, rfl⟩
      go_wp2_with fail
      go_ret
      exact ⟨rfl, HR.out.1, HR.out.2⟩
  · have he2 : ((e : Int) == 0) = false := beq_eq_false_iff_ne.2 (by omega)
    rw [if_pos he]
    obtain ⟨p, off, c, h1, _⟩ := h.ex
    have c1 : w.cell? ⟨a, 1, none⟩ = some (.int .i64 e) := by rw [cell_of_heap h1]; rfl
    have H := Lib.hid h
    clear h h1
    go_enter Try.func18, Try.ntmps18
    go_wp2_with fail
    go_ret
    exact ⟨rfl, H.out, Turn.refl _ _⟩

theorem Owns.lies {w : World} {base : Nat} {v : Value} {xs : List Nat} (h : Owns w base v xs) (hw : base ≤ w.heap.size) :
    ∃ (p : Option Addr) (g c : Nat), v = .slice p xs.length c ∧ Lies w p g 0 xs ∧ xs.length ≤ c ∧ (p = none → c = 0) ∧ base ≤ g ∧ g ≠ w.heap.size := by
  have h0 := h
  rcases h.2 with ⟨rfl, h1⟩ | ⟨g, cap, cur, rfl, hb, hg, hn, hc, hs, ht⟩
  · exact ⟨none, w.heap.size + 1, 0, by rw [h1], ⟨fun h => by omega, fun k hk => by omega⟩, by omega, fun _ => rfl, by omega, by omega⟩
  · refine ⟨_, g, cap, rfl, ⟨fun _ => rfl, fun k hk => ?_⟩, hn, (fun h => by cases h), hb, ?_⟩
    · have c0 := h0.cellAt k (by omega)
      rw [Nat.zero_add, c0]
      simp [hk, enc]
    · have := (Array.getElem?_eq_some_iff.1 hg).1
      omega

/-- a new reader: its bytes are its own -/
theorem new_at (p : Option Addr) (b off c len : Nat) (xs : List Nat) (hl : len = xs.length) (w : World) (hm : len ≤ 1000) (hx : Lies w p b off xs) (hp : p = none → len = 0 ∧ c = 0) (hb : Bytes xs) :
    Calls Try.prog 17 #[.slice p len c] w fun r w' => ∃ a g, r = .returned (.pointer (some ⟨a, 0, none⟩)) ∧ RAt 54 w' a g xs 0 ∧ Below w.heap.size w w' ∧ w.heap.size ≤ a ∧ w.heap.size ≤ g := by
  have C := Lib.hid (clone_any p b off c len xs hl w hm hx hp)
  have HB := Lib.hid hb
  have HM := Lib.hid (show xs.length ≤ 1000 by omega)
  clear hl hx hp hb hm
  go_enter Try.func17, Try.ntmps17
  go_wp2_with fail
  refine C.out.mono ?_
  rintro r w1 ⟨v, rfl, hv, hB⟩
  obtain ⟨p', g, c', rfl, hv1, hv2, hv3, hv4, hv5⟩ := hv.lies hB.size
  have HV1 := Lib.hid hv1
  have HV2 := Lib.hid hv2
  have HV3 := Lib.hid hv3
  have HV4 := Lib.hid hv4
  have HV5 := Lib.hid hv5
  have HB1 := Lib.hid hB
  clear hv hB hv1 hv2 hv3 hv4 hv5
  go_wp2_with fail
  go_ret
  have hB2 := (Below.refl w1.heap.size w1).alloc (Nat.le_refl _) (.cells #[.slice p' xs.length c', .int .i64 0] 54)
  exact ⟨_, g, rfl, ⟨⟨p', 0, c', new_block w1 _, HV1.out.below hB2, HV2.out, HV3.out⟩, HV5.out, HB.out, HM.out⟩, HB1.out.trans (hB2.mono HB1.out.size), HB1.out.size, HV4.out⟩
end Go.Proofs.Ytamhajeighdjeaa
