/-
  What List of the program answers, at every set: a new slice of all of it, rising.
-/
import Derived.RangeFuncBox
import Derived.RangeFuncLeaves
import Derived.Shelf.Abstract
import Derived.WalkKit
import Derived.OwnWalkIn
import Derived.TacticsInMore
import Derived.LoopNIn
import Derived.LoopIn
import Derived.Maps.AppendAt
import Derived.Test.YtnabkhmonmcmfaaDoorBLeaf
namespace Go.Proofs.YtnabkhmonmcmfaaDoor.B
open Go.RowKit Go.Shelf

attribute [local go_sem] Oper.semAt_some

/-- the numbers of a set as ints -/
def all (x : Nat) : List Int := (mem 64 x).map (fun k : Nat => (k : Int))

theorem Tab.below {n : Nat} {A B : World} (hT : Tab A) (hn : 0 < n) (h : Below n A B) : Tab B :=
  fun j hj => (h.cell (p := ⟨0, j, none⟩) hn).trans (hT j hj)

theorem all_cons (y : Nat) (hy : y < 18446744073709551616) (h0 : y ≠ 0) : all y = headZ (mem 64 y) :: all (y &&& (y - 1)) := by
  unfold all
  rw [least_eq y hy h0, mem_cons 64 y h0 hy]
  rfl
theorem all_none : all 0 = [] := by
  unfold all
  rw [mem_none]
  rfl
theorem and_less (y : Nat) (h0 : y ≠ 0) : y &&& (y - 1) < y := by
  have : y &&& (y - 1) ≤ y - 1 := Nat.and_le_right
  omega

theorem info3 : (Tryd.prog.info? 3).map (fun i => (i.zero, i.size, i.bytes)) = some (some (.int .i64 0), 1, 8) := by kernel_rfl

set_option maxRecDepth 100000 in
set_option maxHeartbeats 1000000 in
/-- the function that goes through a set -/
theorem each1_in (n : Nat) (hn : 1 ≤ n) (l Bn n₀ x : Nat) (hx : x < 18446744073709551616) (hn₀ : 0 < n₀) (J Jx : List Int → World → Prop)
    (hY : ∀ pre k W, J pre W → pre.length < (all x).length → YieldAt Fence.wide (n - 1) Tryd.prog l #[.int .i64 k] W fun e W' =>
      (e = .returned (.bool true) ∧ J (pre ++ [k]) W' ∧ Below n₀ W W') ∨ (e = .returned (.bool false) ∧ Jx (pre ++ [k]) W'))
    (W : World) (hBn : W.cell? ⟨Bn, 0, none⟩ = some (.int .u64 x)) (hT : Tab W) (h0 : J [] W) :
    CallsIn Fence.wide n Tryd.prog 70 #[.func (.yield l) #[] #[], .pointer (some ⟨Bn, 0, none⟩)] W fun e W' => (∃ v, e = .returned v) ∧
      ((∃ ys, ys = all x ∧ J ys W') ∨ (∃ pre, pre <+: all x ∧ Jx pre W')) := by
  refine callsIn_of_wp Tryd.func70 rfl trivial ?_ rfl
  simp only [Tryd.ntmps70, List.size_toArray, List.length_cons, List.length_nil, Nat.reduceAdd, Nat.reduceSub, Array.replicate_succ, Array.replicate_zero, List.push_toArray, List.append_toArray, List.nil_append, List.cons_append]
  gi_wp2
  gi_loopw [3] (fun p wr => ∃ (pre : List Int) (y : Nat), p = .int .u64 y ∧ y < 18446744073709551616 ∧ all x = pre ++ all y ∧ Tab wr ∧ J pre wr)
    (fun p wr => (intOf p).toNat)
  case atStart =>
    exact ⟨[], x, rfl, hx, rfl, hT, h0⟩
  case round =>
    obtain ⟨pre, y, rfl, hy, hs, ht, hJs⟩ := hrel
    by_cases hy0 : y = 0
    · subst hy0
      gi_wp2
      go_end0
      exact ⟨⟨_, rfl⟩, .inl ⟨pre, by rw [hs, all_none, List.append_nil], hJs⟩⟩
    · have hc := all_cons y hy hy0
      have c := Lib.hid (least_any y hy wr ht)
      have f := bits_and_u64_nat y (y - 1) hy (by omega)
      obtain ⟨fn, tmps, assign, body, hy', hR⟩ := hY pre (headZ (mem 64 y)) wr hJs (by rw [hs, hc]; simp)
      have hl := and_less y hy0
      obtain ⟨k, hk⟩ : ∃ k, headZ (mem 64 y) = k := ⟨_, rfl⟩
      rw [hk] at hc c hy' hR
      have e1 : ((y - 1 : Nat) : Int) = (y : Int) - 1 := by omega
      rw [e1] at f
      have hne : ((y : Int) == 0) = false := by simp; omega
      gi_wp2_with (refine ⟨trivial, ?_⟩; gi_at_call 36; refine (callsIn_wide.2 c.out).mono ?_; rintro e w' ⟨rfl, rfl⟩)
      refine hR.mono ?_
      rintro e W3 (⟨rfl, hJ3, hk3⟩ | ⟨rfl, hJx3⟩)
      · have ht3 := Tab.below ht hn₀ hk3
        have F := Lib.hid f
        clear f
        gi_wp2
        go_roundw
        case rel => exact ⟨pre ++ [k], y &&& (y - 1), by rw [F.out], by omega, by rw [hs, hc, List.append_assoc]; rfl, ht3, hJ3⟩
        case measure => rw [F.out]; simp [intOf]; omega
      · gi_wp2
        refine bodyPost_ret (results_none rfl _ _ _) rfl ?_
        exact ⟨⟨_, rfl⟩, .inr ⟨pre ++ [k], ⟨all (y &&& (y - 1)), by rw [hs, hc, List.append_assoc]; rfl⟩, hJx3⟩⟩

/-- each: the set is boxed, and the function captures the box -/
theorem each_in (n x : Nat) (w : World) :
    CallsIn Fence.wide n Tryd.prog 63 #[.int .u64 x] w fun e w' => e = .returned (.func (.func 70) #[] #[.pointer (some ⟨w.heap.size, 0, none⟩)]) ∧ w' = w.alloc (.cells #[.int .u64 x] 24) := by
  refine callsIn_of_wp Tryd.func63 rfl trivial ?_ rfl
  simp only [Tryd.ntmps63, List.size_toArray, List.length_cons, List.length_nil, Nat.reduceAdd, Nat.reduceSub, Array.replicate_succ, Array.replicate_zero, List.push_toArray, List.append_toArray, List.nil_append, List.cons_append]
  gi_wp2
  go_ret
  exact ⟨rfl, rfl⟩

theorem each_stops (n : Nat) (hn : 1 ≤ n) (Bn n₀ x : Nat) (hx : x < 18446744073709551616) (hn₀ : 0 < n₀) (w : World) (hBn : Bn < w.heap.size) (hle : n₀ ≤ w.heap.size)
    (hc : w.cell? ⟨Bn, 0, none⟩ = some (.int .u64 x)) (hT : Tab w) :
    SeqStopsK Fence.wide n Tryd.prog 70 #[.pointer (some ⟨Bn, 0, none⟩)] (fun k : Int => #[Value.int .i64 k]) (Below n₀) (fun ys => ys = all x) (fun pre => pre <+: all x) (all x).length w := fun l J Jx W hW _ _ hY h0 =>
  each1_in n hn l Bn n₀ x hx hn₀ J Jx hY W ((hW.cell (p := ⟨Bn, 0, none⟩) hBn).trans hc) (Tab.below hT (Nat.lt_of_lt_of_le hn₀ hle) hW) h0

theorem all_le (x : Nat) : (all x).length ≤ 64 := by
  unfold all
  rw [List.length_map]
  exact mem_length_le 64 x

set_option maxRecDepth 100000 in
set_option maxHeartbeats 2000000 in
/-- List, at every set -/
theorem list_any (x : Nat) (hx : x < 18446744073709551616) (w : World) (hT : Tab w) (h0 : 0 < w.heap.size) :
    Calls Tryd.prog 44 #[.int .u64 x] w fun e W' => ∃ v, e = .returned v ∧ W'.ownsRow w.heap.size 3 1 v (all x).length ((all x).map (Value.int .i64)) ∧ (v = .slice none 0 0 ↔ all x = []) ∧ Below w.heap.size w W' := by
  refine (callsIn_wide (n := 3)).1 ?_
  have hlen := all_le x
  obtain ⟨i0, hi, hz0, hz1, hz2⟩ := info_parts info3
  refine callsIn_of_wp_marks Tryd.func44 rfl trivial ?_ rfl
  simp only [Tryd.ntmps44, List.size_toArray, List.length_cons, List.length_nil, Nat.reduceAdd, Nat.reduceSub, Array.replicate_succ, Array.replicate_zero, List.push_toArray, List.append_toArray, List.nil_append, List.cons_append]
  gi_wp2_with (refine ⟨trivial, ?_⟩; gi_at_call 63; refine (each_in _ _ _).mono ?_; rintro e w' ⟨rfl, rfl⟩)
  have bO := Boxed.new w 23 (.slice none 0 0)
  have bN := Boxed.new (w.alloc (.cells #[.slice none 0 0] 23)) 24 (.int .u64 x)
  rw [World.size_alloc] at bN
  have hB0 : Below w.heap.size w ((w.alloc (.cells #[.slice none 0 0] 23)).alloc (.cells #[.int .u64 x] 24)) := ((Below.refl _ w).alloc (Nat.le_refl _) _).alloc (by simp) _
  refine wpIn_rangeFunc_ownG rfl (by omega) (gf := 70) (lb := #[.pointer (some ⟨w.heap.size + 1, 0, none⟩)]) rfl trivial (enters_of Tryd.func70 (by kernel_rfl) rfl)
    (each_stops 2 (by omega) (w.heap.size + 1) w.heap.size x hx h0 _ (by simp) (by simp; omega) bN.cell (Tab.below hT h0 hB0)) belowK_t (belowK_b (by simp; omega)) (Below.refl _ _) (fun _ => rfl)
    (fun pre W => (∃ v, Boxed W w.heap.size 23 v ∧ W.ownsRow w.heap.size 3 1 v pre.length (pre.map (Value.int .i64)) ∧ (v = .slice none 0 0 ↔ pre = [])) ∧ Below w.heap.size w W)
    (fun _ _ _ => False)
    (OwnFrom.and (Own.from (holdsRow_own w.heap.size w.heap.size 23 3 1 (fun pre : List Int => pre.length) (fun pre => pre.map (Value.int .i64)) (fun pre v => v = .slice none 0 0 ↔ pre = [])) _) (ownFrom_below (Nat.le_refl _) (by simp; omega)))
    (fun _ _ _ _ _ hs _ _ => hs)
    ⟨⟨_, bO.alloc _, World.ownsRow_nil _ _ _ _, by simp⟩, hB0⟩
    (fun k => { tmps := #[.int .u64 x, undef, .slice none 0 0, .pointer (some ⟨w.heap.size, 0, none⟩), .int .i64 k, .int .u64 x, .func (.func 70) #[] #[.pointer (some ⟨w.heap.size + 1, 0, none⟩)], .int .i64 k, undef, undef, undef, undef, undef], defers := [] }) ?assign ?body ?done ?stop
  case assign =>
    intro l k W K hK
    gi_wp2
    exact hK
  case body =>
    rintro l pre k W ⟨⟨v, hv, hrow, hnil⟩, hB⟩ hlt
    have hc := hv.cell
    have hmx : pre.length + 1 ≤ maxLen := by unfold maxLen; omega
    gi_wp2_with (gi_at_builtin; refine wpListIn_append_own _ rfl _ _ 23 rfl w.heap.size 3 i0 (.int .i64 0) 1 8 Tryd.underlying23 hi hz0 hz1 hz2 rfl (by decide) _ _ _ rfl (hrow.alloc _) ⟨W.heap.size, 0, none⟩ 1 1 [.int .i64 k] rfl rfl (cell_one_new _ _ _) (by simp [Value.oneCell']) (by omega) (by omega) (by have := hB.size; simp; omega) ?_; intro v' w1 hown' hgrow _; obtain ⟨g', cap', rfl⟩ := ownsRow_succ hown'; obtain ⟨hv1, hv2, hr2, hk2, hb2⟩ := hv.appended (by decide) hrow hB.size (Nat.le_refl _) hown' hgrow; have hc1 := hv1.cell; have hf1 := hv1.frozen)
    exact ⟨hk2.from _, hb2, ⟨_, hv2, by simpa using hr2, by simp⟩, hB.trans hb2⟩
  case done =>
    rintro D ys W hD rfl ⟨⟨v, hv, hrow, hnil⟩, hB⟩ hK
    have hc := hv.cell
    gi_wp2
    refine ⟨by simp, .inl ⟨_, _, rfl, run_takeDeferred hK, ?_⟩⟩
    exact ⟨_, results_tmp rfl _ _ _, v, rfl, ownsRow_putObj hrow _ hK rfl, hnil, hB.trans (belowK_b (w := w) (Nat.le_refl _) W D _ _ (by simp at hD; omega) hK rfl rfl)⟩
  case stop =>
    rintro D c pre W _ _ h _
    exact h.elim
end Go.Proofs.YtnabkhmonmcmfaaDoor.B
