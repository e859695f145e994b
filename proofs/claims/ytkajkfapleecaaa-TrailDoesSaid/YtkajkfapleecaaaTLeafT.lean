/-
  What is, Get, Stamp, Marks and Len answer of a trail, and what put does to its cells: cells of type ByteArray.
-/
import Derived.Test.YtkajkfapleecaaaTSame
import Derived.Test.YtkajkfapleecaaaTPart
namespace Go.Proofs.Ytkajkfapleecaaa
open Go.RowKit

abbrev Attext (M : Nat) (w : World) (F : List Nat) (a : Nat) (σ : Tr ByteArray) : Prop := TrailAt Try.prog 71 77 74 3 texts M w F a σ
abbrev Partstext (M : Nat) (w : World) (a bc bh cap : Nat) (ms : List (Option Nat)) (gs : Nat → Nat → Option ByteArray) (σ : Tr ByteArray) : Prop := Parts Try.prog 71 77 74 3 texts M w a bc bh cap ms gs σ

theorem is_yes_text (a : Nat) (p : Option Addr) (n c i : Nat) (w : World) (h0 : w.cell? ⟨a, 0, none⟩ = some (.slice p n c)) (hi : i < n) :
    Calls Try.prog 35 #[.pointer (some ⟨a, 0, none⟩), .int .i64 (i : Int)] w fun e w' => e = .returned (.bool true) ∧ w = w' := by
  have h1 : (0 : Int) ≤ (i : Int) := by omega
  have h2 : decide ((i : Int) < (n : Int)) = true := decide_eq_true (by omega)
  go_enter Try.func35, Try.ntmps35
  go_wp2_with fail
  go_ret
  exact ⟨rfl, rfl⟩
theorem is_no_text (a : Nat) (p : Option Addr) (n c : Nat) (i : Int) (w : World) (h0 : w.cell? ⟨a, 0, none⟩ = some (.slice p n c)) (hi : ¬ (0 ≤ i ∧ i < n)) :
    Calls Try.prog 35 #[.pointer (some ⟨a, 0, none⟩), .int .i64 i] w fun e w' => e = .returned (.bool false) ∧ w = w' := by
  by_cases h1 : 0 ≤ i
  · have h2 : decide (i < (n : Int)) = false := decide_eq_false (fun h => hi ⟨h1, h⟩)
    have H := Lib.hid hi
    clear hi
    go_enter Try.func35, Try.ntmps35
    go_wp2_with fail
    go_ret
    exact ⟨rfl, rfl⟩
  · have h2 : decide (0 ≤ i) = false := decide_eq_false h1
    have H := Lib.hid hi
    clear hi
    go_enter Try.func35, Try.ntmps35
    go_wp2_with fail
    go_ret
    exact ⟨rfl, rfl⟩

section
variable {a bc n c : Nat} {w : World} {cur : Nat → ByteArray} {st : Nat → Int}
theorem get_yes_text (h0 : w.cell? ⟨a, 0, none⟩ = some (.slice (some ⟨bc, 0, none⟩) n c)) (hc : CellsAt texts 77 n w bc cur st) {i : Nat} (hi : i < n) :
    Calls Try.prog 27 #[.pointer (some ⟨a, 0, none⟩), .int .i64 (i : Int)] w fun e w' => e = .returned (.tuple #[.string (cur i), .bool true]) ∧ w = w' := by
  have h1 : w.cell? ⟨bc, i * 2, none⟩ = some (.string (cur i)) := hc.thing hi
  obtain ⟨x, hx⟩ : ∃ x, x = cur i := ⟨_, rfl⟩
  rw [← hx] at h1 ⊢
  have H := Lib.hid hc
  clear hc hx
  go_enter Try.func27, Try.ntmps27
  go_wp2_with (go_at_call 35; refine (is_yes_text _ _ _ _ _ _ h0 hi).mono ?_; rintro e w' ⟨rfl, rfl⟩)
  go_ret2
  exact ⟨rfl, rfl⟩
theorem get_no_text {p : Option Addr} (h0 : w.cell? ⟨a, 0, none⟩ = some (.slice p n c)) {i : Int} (hi : ¬ (0 ≤ i ∧ i < n)) :
    Calls Try.prog 27 #[.pointer (some ⟨a, 0, none⟩), .int .i64 i] w fun e w' => e = .returned (.tuple #[.string ByteArray.empty, .bool false]) ∧ w = w' := by
  have H := Lib.hid hi
  clear hi
  go_enter Try.func27, Try.ntmps27
  go_wp2_with (go_at_call 35; refine (is_no_text _ _ _ _ _ _ h0 H.out).mono ?_; rintro e w' ⟨rfl, rfl⟩)
  go_ret2
  exact ⟨rfl, rfl⟩
theorem stamp_yes_text (h0 : w.cell? ⟨a, 0, none⟩ = some (.slice (some ⟨bc, 0, none⟩) n c)) (hc : CellsAt texts 77 n w bc cur st) {i : Nat} (hi : i < n) :
    Calls Try.prog 28 #[.pointer (some ⟨a, 0, none⟩), .int .i64 (i : Int)] w fun e w' => e = .returned (.int .i64 (st i)) ∧ w = w' := by
  have h1 : w.cell? ⟨bc, i * 2 + 1, none⟩ = some (.int .i64 (st i)) := hc.stamp hi
  obtain ⟨x, hx⟩ : ∃ x, x = st i := ⟨_, rfl⟩
  rw [← hx] at h1 ⊢
  have H := Lib.hid hc
  clear hc hx
  go_enter Try.func28, Try.ntmps28
  go_wp2_with (go_at_call 35; refine (is_yes_text _ _ _ _ _ _ h0 hi).mono ?_; rintro e w' ⟨rfl, rfl⟩)
  go_ret
  exact ⟨rfl, rfl⟩
theorem stamp_no_text {p : Option Addr} (h0 : w.cell? ⟨a, 0, none⟩ = some (.slice p n c)) {i : Int} (hi : ¬ (0 ≤ i ∧ i < n)) :
    Calls Try.prog 28 #[.pointer (some ⟨a, 0, none⟩), .int .i64 i] w fun e w' => e = .returned (.int .i64 0) ∧ w = w' := by
  have H := Lib.hid hi
  clear hi
  go_enter Try.func28, Try.ntmps28
  go_wp2_with (go_at_call 35; refine (is_no_text _ _ _ _ _ _ h0 H.out).mono ?_; rintro e w' ⟨rfl, rfl⟩)
  go_ret
  exact ⟨rfl, rfl⟩

def Puttext (bc n : Nat) (cur : Nat → ByteArray) (st : Nat → Int) (i : Nat) (x : ByteArray) (w : World) (e : Ending) (w' : World) : Prop :=
  e = .returned (.tuple #[]) ∧ CellsAt texts 77 n w' bc (setAt cur i x) (bump cur st i x) ∧ Turn [bc] w w'

set_option maxHeartbeats 800000 in
theorem put_text (h0 : w.cell? ⟨a, 0, none⟩ = some (.slice (some ⟨bc, 0, none⟩) n c)) (hc : CellsAt texts 77 n w bc cur st) (hne : a ≠ bc) {i : Nat} (hi : i < n) (hst : 0 ≤ st i ∧ st i ≤ 1000000) (x : ByteArray) :
    Calls Try.prog 37 #[.pointer (some ⟨a, 0, none⟩), .int .i64 (i : Int), .string x] w (Puttext bc n cur st i x w) := by
  have h1 : w.cell? ⟨bc, i * 2, none⟩ = some (.string (cur i)) := hc.thing hi
  have h2 : w.cell? ⟨bc, i * 2 + 1, none⟩ = some (.int .i64 (st i)) := hc.stamp hi
  have h3 := hc.frozen (i * 2)
  have h4 := hc.frozen (i * 2 + 1)
  obtain ⟨y, hy⟩ : ∃ y, y = cur i := ⟨_, rfl⟩
  obtain ⟨s, hs⟩ : ∃ s, s = st i := ⟨_, rfl⟩
  rw [← hy] at h1
  rw [← hs] at h2 hst
  have H := Lib.hid hc
  have HY := Lib.hid hy
  have HS := Lib.hid hs
  obtain ⟨hs1, hs2⟩ := hst
  have hne' : ¬ bc = a := fun e => hne e.symm
  clear hc hy hs
  by_cases hxy : y = x
  · have h5 : decide (y = x) = true := decide_eq_true hxy
    have HX := Lib.hid hxy
    clear hxy
    go_enter Try.func37, Try.ntmps37
    go_wp2_with (go_at_call 38; refine (same_text _ _ _).mono ?_; rintro e w' ⟨rfl, rfl⟩)
    go_end0
    refine ⟨rfl, ?_, (Turn.refl _ _).setCell (by simp) _⟩
    have := H.out.setThing hi x
    have e : bump cur st i x = st := by
      funext j
      unfold bump
      rw [if_neg]
      rintro ⟨_, h6⟩
      exact h6 (HY.out.symm.trans HX.out)
    rw [e]
    exact this
  · have h5 : decide (y = x) = false := decide_eq_false hxy
    have HX := Lib.hid hxy
    clear hxy
    go_enter Try.func37, Try.ntmps37
    go_wp2_with (go_at_call 38; refine (same_text _ _ _).mono ?_; rintro e w' ⟨rfl, rfl⟩)
    go_end0
    refine ⟨rfl, ?_, ((Turn.refl _ _).setCell (by simp) _).setCell (by simp) _⟩
    have := (H.out.setStamp hi (s + 1)).setThing hi x
    have e : bump cur st i x = setAt st i (s + 1) := by
      funext j
      unfold bump setAt
      by_cases e1 : j = i
      · rw [if_pos ⟨e1, fun h6 => HX.out (HY.out.trans h6)⟩, if_pos e1, HS.out, e1]
      · rw [if_neg e1, if_neg (fun h => e1 h.1)]
    rw [e]
    exact this
end
end Go.Proofs.Ytkajkfapleecaaa
