/-
  What slices.Chunk of numbers hands back, and what it hands to a range: where rows are whole, each of them, in order.
-/
import Derived.RangeFuncWrites
import Derived.RangeFuncBox
import Derived.RangeFuncLeaves
import Derived.Shelf.Abstract
import Derived.WalkKit
import Derived.OwnWalkIn
import Derived.TacticsInMore
import Derived.LoopNIn
import Derived.LoopIn
import Derived.Sort.QuietIn
import Derived.Test.YtkhjnicmbkklpaaVPCmp
namespace Go.Proofs.Ytkhjnicmbkklpaa.Gr
open Go.RowKit Go.Shelf
set_option maxRecDepth 100000

attribute [local go_sem] Oper.semAt_some

/-- the j-th row of m numbers, of len in all -/
def cutAt (m len j : Nat) : Nat := min (j * m) (len - m)
theorem cutAt_in {m len rounds j : Nat} (hl : len = rounds * m) (hj : j < rounds) : cutAt m len j = j * m ∧ j * m + m ≤ len := by
  have h : j * m + m ≤ rounds * m := by
    have := Nat.mul_le_mul_right m (show j + 1 ≤ rounds by omega)
    rw [Nat.add_mul, Nat.one_mul] at this
    exact this
  unfold cutAt
  omega

theorem range_pre {k n : Nat} (h : k ≤ n) : List.range k <+: List.range n := by
  obtain ⟨d, rfl⟩ : ∃ d, n = k + d := ⟨n - k, by omega⟩
  rw [List.range_add]
  exact List.prefix_append _ _

set_option maxHeartbeats 2000000 in
theorem chunk1_in (n : Nat) (hn : 1 ≤ n) (l Bs Bm n₀ b off len cap m rounds : Nat) (p : Option Addr) (hp : 0 < len → p = some ⟨b, off, none⟩) (hm : 1 ≤ m) (hm2 : m ≤ 1000) (hlen : len = rounds * m) (hl2 : len ≤ 1000) (hcap : len ≤ cap) (h1 : Bs < n₀) (h2 : Bm < n₀) (J Jx : List Nat → World → Prop)
    (hY : ∀ pre j W, J pre W → pre.length < rounds → YieldAt Fence.wide (n - 1) Try.prog l #[.slice (some ⟨b, off + cutAt m len j, none⟩) m m] W fun e W' =>
      (e = .returned (.bool true) ∧ J (pre ++ [j]) W' ∧ Below n₀ W W') ∨ (e = .returned (.bool false) ∧ Jx (pre ++ [j]) W'))
    (hD : ∀ pre W n, J pre W → J pre (W.drewN n)) (W : World) (hs : W.cell? ⟨Bs, 0, none⟩ = some (.slice p len cap)) (hc : W.cell? ⟨Bm, 0, none⟩ = some (.int .i64 m)) (h0 : J [] W) :
    CallsIn Fence.wide n Try.prog 45 #[.func (.yield l) #[] #[], .pointer (some ⟨Bs, 0, none⟩), .pointer (some ⟨Bm, 0, none⟩)] W fun e W' => (∃ v, e = .returned v) ∧
      ((∃ ys, ys = List.range rounds ∧ J ys W') ∨ (∃ pre, pre <+: List.range rounds ∧ Jx pre W')) := by
  have HP := Lib.hid hp
  have HL := Lib.hid hlen
  have HY := Lib.hid hY
  clear hp hlen hY
  refine callsIn_of_wp Try.func45 rfl trivial ?_ rfl
  simp only [Try.ntmps45, List.size_toArray, List.length_cons, List.length_nil, Nat.reduceAdd, Nat.reduceSub, Array.replicate_succ, Array.replicate_zero, List.push_toArray, List.append_toArray, List.nil_append, List.cons_append]
  gi_wp2
  gi_loopw [4] (fun i wr => ∃ k : Nat, k ≤ rounds ∧ i = .int .i64 ((k * m : Nat) : Int) ∧ J (List.range k) wr ∧ Below n₀ W wr)
    (fun i _ => len - (intOf i).toNat)
  case atStart => exact ⟨0, Nat.zero_le _, by rw [Nat.zero_mul]; rfl, h0, Below.refl _ _⟩
  case round =>
    obtain ⟨k, hk, rfl, hJs, hnx⟩ := hrel
    have s0 := (hnx.cell (p := ⟨Bs, 0, none⟩) h1).trans hs
    have c0 := (hnx.cell (p := ⟨Bm, 0, none⟩) h2).trans hc
    by_cases hlt : k < rounds
    · obtain ⟨q1, q2⟩ := cutAt_in HL.out hlt
      have hg : 0 < len := by omega
      have hE := HP.out hg
      have NX := Lib.hid (show List.range (k + 1) = List.range k ++ [k] from List.range_succ)
      have HK := Lib.hid (show ((k + 1) * m : Nat) = k * m + m by rw [Nat.add_mul, Nat.one_mul])
      have HQ := Lib.hid q1
      subst hE
      obtain ⟨a, ea⟩ : ∃ a, a = k * m := ⟨_, rfl⟩
      rw [← ea] at q2 HK HQ ⊢
      clear ea q1
      gi_wp2
      gi_quiet (fail)
      obtain ⟨fn, tmps, assign, body, hy, hR⟩ := HY.out _ k _ (hD _ _ nq hJs) (by rw [List.length_range]; exact hlt)
      rw [HQ.out] at hy
      have e1 : a + m - a = m := by omega
      gi_wp2
      refine hR.mono ?_
      rintro e W3 (⟨rfl, hJ3, hk3⟩ | ⟨rfl, hJx3⟩)
      · have s3 := (hk3.cell (p := ⟨Bs, 0, none⟩) h1).trans s0
        have c3 := (hk3.cell (p := ⟨Bm, 0, none⟩) h2).trans c0
        have HB := Lib.hid (hnx.trans ((below_drewN (n := nq) (Below.refl n₀ wr)).trans hk3))
        clear hnx hk3
        gi_wp2
        go_roundw
        case rel => exact ⟨k + 1, by omega, by rw [HK.out]; go_num, by rw [NX.out]; exact hJ3, HB.out⟩
        case measure => simp [intOf]; omega
      · gi_wp2
        refine bodyPost_ret (results_none rfl _ _ _) rfl ?_
        exact ⟨⟨_, rfl⟩, .inr ⟨_, by rw [← NX.out]; exact range_pre (by omega), hJx3⟩⟩
    · obtain rfl : k = rounds := by omega
      have hge := HL.out
      obtain ⟨a, ea⟩ : ∃ a, a = k * m := ⟨_, rfl⟩
      rw [← ea] at hge ⊢
      clear ea
      subst hge
      gi_wp2
      go_end0
      exact ⟨⟨_, rfl⟩, .inl ⟨_, rfl, hJs⟩⟩

set_option maxHeartbeats 400000 in
theorem chunk_any (p : Option Addr) (len cap m : Nat) (hm : 1 ≤ m) (n : Nat) (w : World) :
    CallsIn Fence.wide n Try.prog 42 #[.slice p len cap, .int .i64 (m : Int)] w fun e w' => e = .returned (.func (.func 45) #[] #[.pointer (some ⟨w.heap.size, 0, none⟩), .pointer (some ⟨w.heap.size + 1, 0, none⟩)]) ∧
      w' = (w.alloc (.cells #[.slice p len cap] 23)).alloc (.cells #[.int .i64 (m : Int)] 3) := by
  refine callsIn_of_wp Try.func42 rfl trivial ?_ rfl
  simp only [Try.ntmps42, List.size_toArray, List.length_cons, List.length_nil, Nat.reduceAdd, Nat.reduceSub, Array.replicate_succ, Array.replicate_zero, List.push_toArray, List.append_toArray, List.nil_append, List.cons_append]
  have d1 : decide ((m : Int) < 1) = false := decide_eq_false (by omega)
  gi_wp2
  go_ret
  exact ⟨rfl, rfl⟩

theorem grown_drewN (w : World) (n : Nat) (row : Option Nat) : w.grownBy (w.drewN n) row := ⟨rfl, rfl, rfl, Nat.le_refl _, fun _ _ _ => rfl⟩
theorem chunk_stops (n : Nat) (hn : 1 ≤ n) (Bs Bm n₀ b off len cap m rounds : Nat) (p : Option Addr) (hp : 0 < len → p = some ⟨b, off, none⟩) (hm : 1 ≤ m) (hm2 : m ≤ 1000) (hlen : len = rounds * m) (hl2 : len ≤ 1000) (hcap : len ≤ cap) (h1 : Bs < n₀) (h2 : Bm < n₀)
    (w : World) (hw : n₀ ≤ w.heap.size) (hs : w.cell? ⟨Bs, 0, none⟩ = some (.slice p len cap)) (hc : w.cell? ⟨Bm, 0, none⟩ = some (.int .i64 m)) :
    SeqStopsK Fence.wide n Try.prog 45 #[.pointer (some ⟨Bs, 0, none⟩), .pointer (some ⟨Bm, 0, none⟩)] (fun j : Nat => #[Value.slice (some ⟨b, off + cutAt m len j, none⟩) m m]) (Below n₀) (fun ys => ys = List.range rounds) (fun pre => pre <+: List.range rounds) rounds w := fun l J Jx W hW hJ _ hY h0 =>
  chunk1_in n hn l Bs Bm n₀ b off len cap m rounds p hp hm hm2 hlen hl2 hcap h1 h2 J Jx hY (fun pre W n h => hJ pre W _ none h (grown_drewN W n none) (fun r e => by cases e)) W
    ((hW.cell (p := ⟨Bs, 0, none⟩) (Nat.lt_of_lt_of_le h1 hw)).trans hs) ((hW.cell (p := ⟨Bm, 0, none⟩) (Nat.lt_of_lt_of_le h2 hw)).trans hc) h0
end Go.Proofs.Ytkhjnicmbkklpaa.Gr
