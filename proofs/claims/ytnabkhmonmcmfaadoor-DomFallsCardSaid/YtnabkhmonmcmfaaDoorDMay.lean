/-
  What May of the program answers, at every list of values and every set of places.
-/
import Derived.Test.YtnabkhmonmcmfaaDoorDNum
import Derived.Test.YtnabkhmonmcmfaaDoorSRof
namespace Go.Proofs.YtnabkhmonmcmfaaDoor
open Go.RowKit

theorem drop_consI {xs : List Int} {k : Nat} (h : k < xs.length) : xs.drop k = xs.getD k 0 :: xs.drop (k + 1) := by
  rw [List.getD_eq_getElem?_getD, List.getElem?_eq_getElem h]
  exact List.drop_eq_getElem_cons h
theorem drop_endI {xs : List Int} {k : Nat} (h : xs.length ≤ k) : xs.drop k = [] := List.drop_eq_nil_of_le h

/-- the first k values rise up to z -/
def RiseRel (xs : List Int) (k : Nat) (z : Int) : Prop := riseF (-1048576) xs = riseF z (xs.drop k) ∧ -1048576 ≤ z ∧ z ≤ 1048577

set_option maxRecDepth 100000 in
set_option maxHeartbeats 1000000 in
theorem may_cells (p : Option Addr) (b off c len x : Nat) (xs : List Int) (w : World) (hl : len = xs.length) (hm : len ≤ 1000000) (hx : x < 18446744073709551616) (hp : 0 < len → p = some ⟨b, off, none⟩) (hc : ∀ k, k < xs.length → w.cell? ⟨b, off + k, none⟩ = some (.int .i64 (xs.getD k 0))) :
    Calls Tryd.prog 14 #[.agg #[.slice p len c, .int .u64 x]] w fun e w' => e = .returned (.bool (mayL xs x)) ∧ Below w.heap.size w w' := by
  have G := Lib.hid (B.greatest_any x hx)
  have HX := Lib.hid hc
  have HN := Lib.hid hl
  have HS := Lib.hid (show RiseRel xs 0 (-1048576) from ⟨rfl, by omega, by omega⟩)
  have HB := Lib.hid (fun n => below_drewN (n := n) ((Below.refl _ w).alloc (Nat.le_refl _) (.cells #[.slice p len c, .int .u64 x] 26)))
  by_cases h64 : len ≤ 64
  · have d1 : decide ((64 : Int) < (len : Int)) = false := decide_eq_false (by omega)
    have hgl := greatest_lt (n := len) hx h64
    have hlow : -1 ≤ B.lastZ (B.mem 64 x) := by rw [B.greatest_eq x hx]; omega
    obtain ⟨g, eg⟩ : ∃ g, B.lastZ (B.mem 64 x) = g := ⟨_, rfl⟩
    rw [eg] at hgl G hlow
    clear eg
    by_cases hg : g < (len : Int)
    · have hM : mayL xs x = riseF (-1048576) xs := by
        rw [mayL, ← hl, decide_eq_true h64, decide_eq_true (hgl.1 hg)]
        simp
      have d2 : decide ((len : Int) ≤ g) = false := decide_eq_false (by omega)
      obtain ⟨R, hR⟩ : ∃ R, R = mayL xs x := ⟨_, rfl⟩
      rw [← hR]
      have HR := Lib.hid (hR.trans hM)
      clear hR hM hc hl hgl hg
      go_enter Tryd.func14, Tryd.ntmps14
      go_wp2
      go_quiet (first | (go_at_call 37; refine Calls.quiet_of_same (G.out _)))
      go_wp2
      go_loopw [3, 22] (fun v i wr => ∃ k : Nat, k ≤ len ∧ i = .int .i64 k ∧ ∃ z, v = .int .i64 z ∧ RiseRel xs k z ∧ Below w.heap.size w wr) (fun _ i _ => len - (intOf i).toNat)
      case atStart => exact ⟨0, by omega, rfl, _, rfl, HS.out, HB.out _⟩
      case round =>
        obtain ⟨k, hk, rfl, z, rfl, hrel, hB⟩ := hrel
        by_cases hlt : k < len
        · obtain rfl := hp (by omega)
          have hlx : k < xs.length := by have := HN.out; omega
          have c0 := cell_below hB (HX.out k hlx)
          have hd := drop_consI hlx
          obtain ⟨y, ey⟩ : ∃ y, y = xs.getD k 0 := ⟨_, rfl⟩
          rw [← ey] at c0 hd
          have key : riseF (-1048576) xs = (decide (z ≤ y) && decide (y ≤ 1048576) && riseF (y + 1) (xs.drop (k + 1))) := by rw [hrel.1, hd, riseF]
          have HK := Lib.hid key
          have hz := hrel.2
          have HBB := Lib.hid hB
          clear ey hd hlx hB hrel key
          by_cases h1 : y < z
          · go_wp2_with fail
            go_ret
            exact ⟨by rw [HR.out, HK.out, decide_eq_false (by omega)]; rfl, HBB.out⟩
          · by_cases h2 : 1048576 < y
            · go_wp2_with fail
              go_ret
              exact ⟨by rw [HR.out, HK.out, decide_eq_false (p := y ≤ 1048576) (by omega)]; simp, HBB.out⟩
            · have g1 : z ≤ y := by omega
              have g2 : y ≤ 1048576 := by omega
              go_wp2_with fail
              go_roundw
              case rel => exact ⟨k + 1, by omega, by go_num, y + 1, by go_num, ⟨by rw [HK.out, decide_eq_true (by omega), decide_eq_true (p := y ≤ 1048576) (by omega)]; simp, by omega, by omega⟩, HBB.out⟩
              case measure => simp [intOf]; omega
        · have hd : xs.drop k = [] := drop_endI (by have := HN.out; omega)
          have key : riseF (-1048576) xs = true := by rw [hrel.1, hd]; rfl
          have HK := Lib.hid key
          have HBB := Lib.hid hB
          clear hrel hB key hd hp
          go_wp2
          go_ret
          exact ⟨by rw [HR.out, HK.out]; rfl, HBB.out⟩
    · have hM : mayL xs x = false := by
        rw [mayL, ← hl, decide_eq_false (p := x < 2 ^ len) (fun h => hg (hgl.2 h))]
        simp
      rw [hM]
      have d2 : (len : Int) ≤ g := by omega
      clear hM hc hl hgl hg
      go_enter Tryd.func14, Tryd.ntmps14
      go_wp2
      go_quiet (first | (go_at_call 37; refine Calls.quiet_of_same (G.out _)))
      go_wp2
      go_ret
      exact ⟨rfl, HB.out _⟩
  · have hM : mayL xs x = false := by
      rw [mayL, ← hl, decide_eq_false h64]
      simp
    rw [hM]
    have d1 : (64 : Int) < (len : Int) := by omega
    clear hM hc hl h64
    go_enter Tryd.func14, Tryd.ntmps14
    go_wp2
    go_quiet (first | (go_at_call 37; refine Calls.quiet_of_same (G.out _)))
    go_wp2
    go_ret
    exact ⟨rfl, HB.out _⟩

theorem may_any {w : World} {v : Value} {xs : List Int} (h : Reads w v xs) (hm : xs.length ≤ 1000000) (x : Nat) (hx : x < 18446744073709551616) :
    Calls Tryd.prog 14 #[.agg #[v, .int .u64 x]] w fun e w' => e = .returned (.bool (mayL xs x)) ∧ Below w.heap.size w w' := by
  obtain ⟨p, b, off, c, rfl, hp, hc⟩ := reads_shape h
  exact may_cells p b off c _ x xs w rfl hm hx hp hc
end Go.Proofs.YtnabkhmonmcmfaaDoor
