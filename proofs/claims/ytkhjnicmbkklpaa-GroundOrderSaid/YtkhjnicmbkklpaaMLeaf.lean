/-
  What all of the document's answers, and Same of its answers for sets, answer, at every list of numbers that can be read.
-/
import Derived.Test.YtkhjnicmbkklpaaMRead
import Derived.Below
import Derived.Deep.Draws
import Derived.WalkKit
import Derived.ProofKit
import Derived.OpenShut
import Derived.Outline
import Derived.WalkMore
import Derived.Lib.Hide
import Derived.BigGuardPart
import Derived.Deep.DeepCutAuto
import Derived.Deep.CutBlock
import Derived.Deep.Light
import Derived.Deep.QuietTactic
import Derived.BigQuiet
import Derived.LoopTactic
import Derived.OwnWalk
import Derived.Maps.AppendAt
import Derived.Great.BuildSlice
import Derived.Laws.OwnMore
import Derived.Lib.OwnBridge
namespace Go.Proofs.Ytkhjnicmbkklpaa
open Go.RowKit
set_option maxRecDepth 100000

theorem ret_bool {a b : Bool} (h : a = b) : Ending.returned (.bool a) = .returned (.bool b) := by rw [h]
theorem drewN_on {w wr : World} {m : Nat} (h : ∃ n, wr = w.drewN n) : ∃ n, wr.drewN m = w.drewN n := by
  obtain ⟨n, rfl⟩ := h
  exact ⟨n + m, by rw [World.drewN_drewN]⟩

/-- numbers in memory, place by place -/
structure Nums (w : World) (p : Option Addr) (b off len : Nat) (xs : List Int) : Prop where
  long : len = xs.length
  at_ : 0 < len → p = some ⟨b, off, none⟩
  cell : ∀ k, k < len → w.cell? ⟨b, off + k, none⟩ = some (.int .i64 (xs.getD k 0))
  fit : ∀ k, k < len → Fit (xs.getD k 0)
theorem nums_of {w : World} {p : Option Addr} {b off len : Nat} {xs : List Int} (h : SliceOf rNum 1 w p b off len xs) : Nums w p b off len xs := by
  have hk : ∀ k, k < len → w.cell? ⟨b, off + k, none⟩ = some (.int .i64 (xs.getD k 0)) ∧ Fit (xs.getD k 0) := fun k hk => by
    have hx : k < xs.length := by rw [← h.long]; exact hk
    have e : xs[k]? = some (xs.getD k 0) := by simp [hx]
    obtain ⟨cs, h1, h2, h3, h4⟩ := h.cell k _ e
    subst h3
    have := h2 0 (by omega)
    rw [Nat.mul_one, Nat.add_zero] at this
    exact ⟨this, h4⟩
  exact ⟨h.long, h.at_, fun k q => (hk k q).1, fun k q => (hk k q).2⟩
theorem Nums.drewN {w : World} {p : Option Addr} {b off len : Nat} {xs : List Int} (h : Nums w p b off len xs) (n : Nat) : Nums (w.drewN n) p b off len xs := ⟨h.long, h.at_, h.cell, h.fit⟩

def allN (xs : List Int) (m : Int) : Bool := xs.all fun x => decide (-m ≤ x) && decide (x ≤ m)
theorem all_not {xs : List Int} {m x : Int} {k : Nat} (h : k < xs.length) (e : x = xs.getD k 0) (hx : x < -m ∨ m < x) : allN xs m = false := by
  cases q : allN xs m
  · rfl
  · have := List.all_eq_true.1 q (xs.getD k 0) (by rw [List.getD_eq_getElem?_getD, List.getElem?_eq_getElem h]; exact List.getElem_mem h)
    rw [← e] at this
    simp at this
    omega
theorem all_end {xs : List Int} {m : Int} (h : ∀ j, j < xs.length → -m ≤ xs.getD j 0 ∧ xs.getD j 0 ≤ m) : allN xs m = true := by
  refine List.all_eq_true.2 fun x hx => ?_
  obtain ⟨j, hj, e⟩ := List.getElem_of_mem hx
  have := h j hj
  simp [hj, e] at this
  simp; omega

set_option maxHeartbeats 400000 in
theorem all_cells (p : Option Addr) (b off c len : Nat) (xs : List Int) (m : Int) (w : World) (hx : Nums w p b off len xs) (hl : len ≤ 1000000) (h0 : 0 ≤ m) (h1 : m ≤ 2000000000000) :
    Calls Try.prog 30 #[.slice p len c, .int .i64 m] w fun e w' => e = .returned (.bool (allN xs m)) ∧ w' = w := by
  have HX := Lib.hid hx
  have hp := hx.at_
  obtain ⟨R, hR⟩ : ∃ R, R = allN xs m := ⟨_, rfl⟩
  rw [← hR]
  have HR := Lib.hid hR
  have HZ := Lib.hid (show ∀ j, j < 0 → -m ≤ xs.getD j 0 ∧ xs.getD j 0 ≤ m from fun j h => by omega)
  clear hx hR
  go_enter Try.func30, Try.ntmps30
  go_wp2
  go_loopw [5] (fun i wr => (∃ k : Nat, k ≤ len ∧ i = .int .i64 k ∧ ∀ j, j < k → -m ≤ xs.getD j 0 ∧ xs.getD j 0 ≤ m) ∧ wr = w) (fun i _ => len - (intOf i).toNat)
  case atStart => exact ⟨⟨0, by omega, rfl, HZ.out⟩, rfl⟩
  case round =>
    obtain ⟨⟨k, hk, rfl, hrel⟩, rfl⟩ := hrel
    have HK := Lib.hid hrel
    by_cases hlt : k < len
    · obtain rfl := hp (by omega)
      have c0 := HX.out.cell k hlt
      have hf := HX.out.fit k hlt
      obtain ⟨x, ex⟩ : ∃ x, x = xs.getD k 0 := ⟨_, rfl⟩
      rw [← ex] at c0 hf
      unfold Fit at hf
      have HE := Lib.hid ex
      clear hrel ex
      by_cases hb : x < -m
      · have key : R = false := by rw [HR.out]; exact all_not (by rw [← HX.out.long]; exact hlt) HE.out (.inl hb)
        subst key
        go_wp2_with fail
        go_ret
        exact ⟨rfl, rfl⟩
      · by_cases hc : m < x
        · have key : R = false := by rw [HR.out]; exact all_not (by rw [← HX.out.long]; exact hlt) HE.out (.inr hc)
          subst key
          go_wp2_with fail
          go_ret
          exact ⟨rfl, rfl⟩
        · have NX := Lib.hid (show ∀ j, j < k + 1 → -m ≤ xs.getD j 0 ∧ xs.getD j 0 ≤ m from fun j hj => by
            by_cases h : j < k
            · exact HK.out j h
            · obtain rfl : j = k := by omega
              rw [← HE.out]; omega)
          go_wp2_with fail
          go_roundw
          case rel => exact ⟨⟨k + 1, by omega, by go_num, NX.out⟩, trivial⟩
          case measure => simp [intOf]; omega
    · have key : R = true := by rw [HR.out]; exact all_end fun j hj => HK.out j (by have := HX.out.long; omega)
      subst key
      clear hrel
      go_wp2
      go_ret
      exact ⟨rfl, rfl⟩
theorem all_any {w : World} {v : Value} {xs : List Int} (m : Int) (h : Slc rNum 1 w v xs) (hl : xs.length ≤ 1000000) (h0 : 0 ≤ m) (h1 : m ≤ 2000000000000) :
    Calls Try.prog 30 #[v, .int .i64 m] w fun e w' => e = .returned (.bool (allN xs m)) ∧ w' = w := by
  obtain ⟨p, b, off, c, len, rfl, _, hs⟩ := h
  exact all_cells p b off c len xs m w (nums_of hs) (by rw [hs.long]; exact hl) h0 h1

end Go.Proofs.Ytkhjnicmbkklpaa
