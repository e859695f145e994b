/-
  What Same of the document's answers answers at two lists of the same spans.
-/
import Derived.Test.YtnabkhmonmcmfaaDoorSRefs
namespace Go.Proofs.YtnabkhmonmcmfaaDoor
open Go.RowKit

set_option maxHeartbeats 1000000 in
theorem same_cells (p : Option Addr) (b off c : Nat) (p' : Option Addr) (b' off' c' : Nat) (len : Nat) (L : List (Int × Int)) (hl : len = L.length) (w : World) (hm : len ≤ 1000000) (hp : 0 < len → p = some ⟨b, off, none⟩) (hx : Cells w b off L) (hp' : 0 < len → p' = some ⟨b', off', none⟩) (hx' : Cells w b' off' L) :
    Calls Tryd.prog 22 #[.slice p len c, .slice p' len c'] w fun e w' => e = .returned (.bool true) ∧ Below w.heap.size w w' := by
  have HX := Lib.hid hx
  have HY := Lib.hid hx'
  have HN := Lib.hid hl
  clear hx hx' hl
  go_enter Tryd.func22, Tryd.ntmps22
  go_wp2
  go_loopw [5] (fun i wr => ∃ k : Nat, k ≤ len ∧ i = .int .i64 k ∧ Below w.heap.size w wr) (fun i _ => len - (intOf i).toNat)
  case atStart => exact ⟨0, by omega, rfl, Below.refl _ w⟩
  case round =>
    obtain ⟨k, hk, rfl, hB⟩ := hrel
    by_cases hlt : k < len
    · obtain rfl := hp (by omega)
      obtain rfl := hp' (by omega)
      have hlx : k < L.length := by have := HN.out; omega
      obtain ⟨c0, c1⟩ := HX.out k hlx
      have c0 := cell_below hB c0
      have c1 := cell_below hB c1
      obtain ⟨c2, c3⟩ := HY.out k hlx
      have c2 := cell_below hB c2
      have c3 := cell_below hB c3
      obtain ⟨x, ex⟩ : ∃ x, x = (L.getD k (0, 0)).1 := ⟨_, rfl⟩
      obtain ⟨y, ey⟩ : ∃ y, y = (L.getD k (0, 0)).2 := ⟨_, rfl⟩
      rw [← ex] at c0 c2
      rw [← ey] at c1 c3
      have d5 : (k : Int) < (len : Int) := by omega
      have HB := Lib.hid (fun n => below_drewN (n := n) hB)
      clear hlx ex ey hB
      go_wp2
      go_quiet (fail)
      go_wp2_with fail
      go_roundw
      case rel => exact ⟨k + 1, by omega, by go_num, HB.out _⟩
      case measure => simp [intOf]; omega
    · have HB := Lib.hid hB
      clear hB hp hp'
      go_wp2
      go_ret
      exact ⟨rfl, HB.out⟩

theorem same_any {w : World} {s t : Value} {L : List (Int × Int)} (h : Sees w s L) (h' : Sees w t L) (hm : L.length ≤ 1000000) :
    Calls Tryd.prog 22 #[s, t] w fun e w' => e = .returned (.bool true) ∧ Below w.heap.size w w' := by
  obtain ⟨p, b, off, c, rfl, hp, hx⟩ := h
  obtain ⟨p', b', off', c', rfl, hp', hx'⟩ := h'
  exact same_cells p b off c p' b' off' c' _ L rfl w hm hp hx hp' hx'
end Go.Proofs.YtnabkhmonmcmfaaDoor
