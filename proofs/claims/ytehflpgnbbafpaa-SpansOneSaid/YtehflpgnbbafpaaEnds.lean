/-
  What end and within of the program answer, and the three closures.
-/
import Derived.Test.YtehflpgnbbafpaaRof
namespace Go.Proofs.Ytehflpgnbbafpaa
open Go.RowKit

theorem odd_int (i : Nat) : ((i : Int) % 2 == 1) = odd i := by
  unfold odd
  rw [Bool.eq_iff_iff]
  simp only [beq_iff_eq]
  omega

set_option maxHeartbeats 400000 in
theorem within_any (i : Nat) (hi : i ≤ 4000000) (w : World) :
    Calls Try.prog 34 #[.int .i64 i] w fun e w' => e = .returned (.bool (odd i)) ∧ w' = w := by
  rw [← odd_int]
  go_enter Try.func34, Try.ntmps34
  go_wp2_with fail
  go_ret
  exact ⟨rfl, rfl⟩

set_option maxHeartbeats 400000 in
theorem end_cells (p : Option Addr) (b off c len i : Nat) (L : List (Int × Int)) (hl : len = L.length) (w : World) (hi : i ≤ 4000000) (hm : len ≤ 1000000) (hp : 0 < len → p = some ⟨b, off, none⟩) (hx : Cells w b off L) (hr : rightL L = true) :
    Calls Try.prog 33 #[.slice p len c, .int .i64 i] w fun e w' => e = .returned (.int .i64 (endL L i)) ∧ w' = w := by
  rw [end_eq]
  have W := Lib.hid (within_any i hi)
  by_cases h : i / 2 < L.length
  · rw [if_pos h]
    obtain ⟨c0, c1⟩ := hx _ h
    have hin : inL L (L.getD (i / 2) (0, 0)).2 = true := by
      have hd := drop_cons h
      have : ∀ (A : List (Int × Int)) (m : Int) (k : Nat), rightF m A = true → k < A.length → inL A (A.getD k (0, 0)).2 = true := by
        intro A
        induction A with
        | nil => intro m k _ hk; simp at hk
        | cons t q ih =>
          intro m k hA hk
          obtain ⟨g1, g2, g3, g4⟩ := right_cons.1 hA
          cases k with
          | zero => exact in_cons.2 (.inl (by simpa using g2))
          | succ k => exact in_cons.2 (.inr (by simpa using ih _ k g4 (by simpa using hk)))
      exact this L _ _ hr h
    have hb := in_low hr hin
    obtain ⟨x, ex⟩ : ∃ x, x = (L.getD (i / 2) (0, 0)).1 := ⟨_, rfl⟩
    obtain ⟨y, ey⟩ : ∃ y, y = (L.getD (i / 2) (0, 0)).2 := ⟨_, rfl⟩
    rw [← ex] at c0 ⊢
    rw [← ey] at c1 hb ⊢
    obtain rfl := hp (by omega)
    have hlt : (i : Int) / 2 < (len : Int) := by omega
    clear ex ey hin h hl hp hr hx
    cases ho : odd i
    · rw [ho] at W
      simp only [Bool.false_eq_true, if_false]
      clear ho
      go_enter Try.func33, Try.ntmps33
      go_wp2_with fail
      refine (W.out _).mono ?_
      rintro e w1 ⟨rfl, rfl⟩
      go_wp2_with fail
      go_ret
      exact ⟨rfl, rfl⟩
    · rw [ho] at W
      simp only [if_true]
      clear ho
      go_enter Try.func33, Try.ntmps33
      go_wp2_with fail
      refine (W.out _).mono ?_
      rintro e w1 ⟨rfl, rfl⟩
      go_wp2_with fail
      go_ret
      exact ⟨by go_num, rfl⟩
  · rw [if_neg h]
    have hge : (len : Int) ≤ (i : Int) / 2 := by omega
    clear h hx hp hl hr
    go_enter Try.func33, Try.ntmps33
    go_wp2_with fail
    go_ret
    exact ⟨rfl, rfl⟩

theorem end_any {w : World} {v : Value} {L : List (Int × Int)} (i : Nat) (h : Sees w v L) (hr : rightL L = true) (hi : i ≤ 4000000) (hm : L.length ≤ 1000000) :
    Calls Try.prog 33 #[v, .int .i64 i] w fun e w' => e = .returned (.int .i64 (endL L i)) ∧ w' = w := by
  obtain ⟨p, b, off, c, rfl, hp, hx⟩ := h
  exact end_cells p b off c _ i L rfl w hi hm hp hx hr

def keepU (a b : Bool) : Bool := a || b
def keepM (a b : Bool) : Bool := a && b
def keepD (a b : Bool) : Bool := a && !b
set_option maxHeartbeats 400000 in
theorem keepU_any (a b : Bool) (w : World) : Calls Try.prog 28 #[.bool a, .bool b] w fun e w' => e = .returned (.bool (keepU a b)) ∧ w' = w := by
  cases a <;> cases b <;> (go_enter Try.func28, Try.ntmps28; go_wp2_with fail; go_ret; exact ⟨rfl, rfl⟩)
set_option maxHeartbeats 400000 in
theorem keepM_any (a b : Bool) (w : World) : Calls Try.prog 29 #[.bool a, .bool b] w fun e w' => e = .returned (.bool (keepM a b)) ∧ w' = w := by
  cases a <;> cases b <;> (go_enter Try.func29, Try.ntmps29; go_wp2_with fail; go_ret; exact ⟨rfl, rfl⟩)
set_option maxHeartbeats 400000 in
theorem keepD_any (a b : Bool) (w : World) : Calls Try.prog 30 #[.bool a, .bool b] w fun e w' => e = .returned (.bool (keepD a b)) ∧ w' = w := by
  cases a <;> cases b <;> (go_enter Try.func30, Try.ntmps30; go_wp2_with fail; go_ret; exact ⟨rfl, rfl⟩)
end Go.Proofs.Ytehflpgnbbafpaa
