/-
  What all of the document's answers, and Same of its answers for sets, answer, at every list of numbers that can be read.
-/
import Derived.Test.YtfkakdpppejehaaMRead
import Derived.Below
import Derived.Deep.Draws
import Derived.WalkKit
import Derived.ProofKit
import Derived.OpenShut
import Derived.Outline
import Derived.WalkMore
import Derived.Lib.Hide
import Derived.BigGuardPart
import Derived.Deep.DeepCutAuto
import Derived.Deep.CutBlock
import Derived.Deep.Light
import Derived.Deep.QuietTactic
import Derived.BigQuiet
import Derived.LoopTactic
import Derived.OwnWalk
import Derived.Maps.AppendAt
import Derived.Great.BuildSlice
import Derived.Laws.OwnMore
import Derived.Lib.OwnBridge
namespace Go.Proofs.Ytfkakdpppejehaa
open Go.RowKit
set_option maxRecDepth 100000

theorem ret_bool {a b : Bool} (h : a = b) : Ending.returned (.bool a) = .returned (.bool b) := by rw [h]
theorem drewN_on {w wr : World} {m : Nat} (h : ∃ n, wr = w.drewN n) : ∃ n, wr.drewN m = w.drewN n := by
  obtain ⟨n, rfl⟩ := h
  exact ⟨n + m, by rw [World.drewN_drewN]⟩

/-- numbers in memory, place by place -/
structure Nums (w : World) (p : Option Addr) (b off len : Nat) (xs : List Int) : Prop where
  long : len = xs.length
  at_ : 0 < len → p = some ⟨b, off, none⟩
  cell : ∀ k, k < len → w.cell? ⟨b, off + k, none⟩ = some (.int .i64 (xs.getD k 0))
  fit : ∀ k, k < len → Fit (xs.getD k 0)
theorem nums_of {w : World} {p : Option Addr} {b off len : Nat} {xs : List Int} (h : SliceOf rNum 1 w p b off len xs) : Nums w p b off len xs := by
  have hk : ∀ k, k < len → w.cell? ⟨b, off + k, none⟩ = some (.int .i64 (xs.getD k 0)) ∧ Fit (xs.getD k 0) := fun k hk => by
    have hx : k < xs.length := by rw [← h.long]; exact hk
    have e : xs[k]? = some (xs.getD k 0) := by simp [hx]
    obtain ⟨cs, h1, h2, h3, h4⟩ := h.cell k _ e
    subst h3
    have := h2 0 (by omega)
    rw [Nat.mul_one, Nat.add_zero] at this
    exact ⟨this, h4⟩
  exact ⟨h.long, h.at_, fun k q => (hk k q).1, fun k q => (hk k q).2⟩
theorem Nums.drewN {w : World} {p : Option Addr} {b off len : Nat} {xs : List Int} (h : Nums w p b off len xs) (n : Nat) : Nums (w.drewN n) p b off len xs := ⟨h.long, h.at_, h.cell, h.fit⟩

def allN (xs : List Int) (m : Int) : Bool := xs.all fun x => decide (-m ≤ x) && decide (x ≤ m)
theorem all_not {xs : List Int} {m x : Int} {k : Nat} (h : k < xs.length) (e : x = xs.getD k 0) (hx : x < -m ∨ m < x) : allN xs m = false := by
  cases q : allN xs m
  · rfl
  · have := List.all_eq_true.1 q (xs.getD k 0) (by rw [List.getD_eq_getElem?_getD, List.getElem?_eq_getElem h]; exact List.getElem_mem h)
    rw [← e] at this
    simp at this
    omega
theorem all_end {xs : List Int} {m : Int} (h : ∀ j, j < xs.length → -m ≤ xs.getD j 0 ∧ xs.getD j 0 ≤ m) : allN xs m = true := by
  refine List.all_eq_true.2 fun x hx => ?_
  obtain ⟨j, hj, e⟩ := List.getElem_of_mem hx
  have := h j hj
  simp [hj, e] at this
  simp; omega

set_option maxHeartbeats 400000 in
theorem nsame_cells (p q : Option Addr) (b off c b' off' c' len len' : Nat) (xs ys : List Int) (w : World) (hx : Nums w p b off len xs) (hy : Nums w q b' off' len' ys) (hm : len ≤ 1000000) (hm' : len' ≤ 1000000) :
    Calls Try.prog 31 #[.slice p len c, .slice q len' c'] w fun e w' => e = .returned (.bool (decide (xs = ys))) ∧ ∃ n, w' = w.drewN n := by
  have HX := Lib.hid hx
  have HY := Lib.hid hy
  have hp := hx.at_
  have hq := hy.at_
  by_cases he : len = len'
  · subst he
    obtain ⟨R, hR⟩ : ∃ R, R = decide (xs = ys) := ⟨_, rfl⟩
    rw [← hR]
    have HR := Lib.hid hR
    have HS := Lib.hid (show ∀ j, j < 0 → xs.getD j 0 = ys.getD j 0 from fun j h => by omega)
    clear hx hy hR
    go_enter Try.func31, Try.ntmps31
    go_wp2
    go_loopw [5] (fun i wr => (∃ k : Nat, k ≤ len ∧ i = .int .i64 k ∧ ∀ j, j < k → xs.getD j 0 = ys.getD j 0) ∧ ∃ n, wr = w.drewN n) (fun i _ => len - (intOf i).toNat)
    case atStart => exact ⟨⟨0, by omega, rfl, HS.out⟩, 0, rfl⟩
    case round =>
      obtain ⟨⟨k, hk, rfl, hrel⟩, hw⟩ := hrel
      have HW := Lib.hid hw
      have HE := Lib.hid hrel
      clear hw hrel
      by_cases hlt : k < len
      · obtain rfl := hp (by omega)
        obtain rfl := hq (by omega)
        have cx : wr.cell? ⟨b, off + k, none⟩ = some (.int .i64 (xs.getD k 0)) := by obtain ⟨n, rfl⟩ := HW.out; exact HX.out.cell k hlt
        have cy : wr.cell? ⟨b', off' + k, none⟩ = some (.int .i64 (ys.getD k 0)) := by obtain ⟨n, rfl⟩ := HW.out; exact HY.out.cell k hlt
        obtain ⟨x, ex⟩ : ∃ x, x = xs.getD k 0 := ⟨_, rfl⟩
        obtain ⟨y, ey⟩ : ∃ y, y = ys.getD k 0 := ⟨_, rfl⟩
        rw [← ex] at cx
        rw [← ey] at cy
        by_cases hxy : x = y
        · subst hxy
          have EK := Lib.hid (show ∀ j, j < k + 1 → xs.getD j 0 = ys.getD j 0 from fun j hj => by
            by_cases h : j < k
            · exact HE.out j h
            · obtain rfl : j = k := by omega
              rw [← ex, ← ey])
          clear ex ey
          go_wp2
          go_quiet (fail)
          go_wp2_with fail
          go_roundw
          case rel => exact ⟨⟨k + 1, by omega, by go_num, EK.out⟩, drewN_on HW.out⟩
          case measure => simp [intOf]; omega
        · have hxy2 : (x == y) = false := beq_eq_false_iff_ne.2 hxy
          have key : R = false := by
            rw [HR.out]
            refine decide_eq_false fun h => hxy ?_
            rw [ex, ey, h]
          subst key
          clear ex ey
          go_wp2
          go_quiet (fail)
          go_wp2_with fail
          go_ret
          exact ⟨rfl, drewN_on HW.out⟩
      · have key : R = true := by
          rw [HR.out]
          refine decide_eq_true (List.ext_getElem (by rw [← HX.out.long, ← HY.out.long]) fun j h1 h2 => ?_)
          have := HE.out j (by have := HX.out.long; omega)
          simpa [h1, h2] using this
        subst key
        go_wp2
        go_ret
        exact ⟨rfl, HW.out⟩
  · have key : decide (xs = ys) = false := decide_eq_false fun h => he (by rw [hx.long, hy.long, h])
    rw [key]
    have he2 : ((len : Int) == (len' : Int)) = false := beq_eq_false_iff_ne.2 (by omega)
    clear hx hy key hp hq
    go_enter Try.func31, Try.ntmps31
    go_wp2_with fail
    go_ret
    exact ⟨rfl, 0, rfl⟩
theorem nsame_any {w : World} {u v : Value} {xs ys : List Int} (hx : Slc rNum 1 w u xs) (hy : Slc rNum 1 w v ys) (hm : xs.length ≤ 1000000) (hm' : ys.length ≤ 1000000) :
    Calls Try.prog 31 #[u, v] w fun e w' => e = .returned (.bool (decide (xs = ys))) ∧ ∃ n, w' = w.drewN n := by
  obtain ⟨p, b, off, c, len, rfl, _, hs⟩ := hx
  obtain ⟨q, b', off', c', len', rfl, _, ht⟩ := hy
  exact nsame_cells p q b off c b' off' c' len len' xs ys w (nums_of hs) (nums_of ht) (by rw [hs.long]; exact hm) (by rw [ht.long]; exact hm')
end Go.Proofs.Ytfkakdpppejehaa
