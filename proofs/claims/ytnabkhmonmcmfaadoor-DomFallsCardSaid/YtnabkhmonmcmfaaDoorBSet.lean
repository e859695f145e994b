/-
  What Set, Between and Of of the document's answers answer: the set of those for which there is a yes.
-/
import Derived.Test.YtnabkhmonmcmfaaDoorBLeaf
import Derived.Laws.Tables
import Derived.Laws.Rows
import Derived.Great.BuildSlice
namespace Go.Proofs.YtnabkhmonmcmfaaDoor.B
open Go.RowKit

/-- an array of 64 yes and no -/
def Yn (C : Array Value) (p : Nat → Bool) : Prop := C.size = 64 ∧ ∀ k, k < 64 → C[k]? = some (.bool (p k))

theorem set_row_new (w : World) (Z : Array Value) (t : TypeId) : (w.alloc (.cells Z t)).setRow w.heap.size Z = w.alloc (.cells Z t) := by
  unfold World.setRow World.alloc
  simp only
  congr 1
  apply Array.ext
  · simp
  · intro i h1 h2
    rw [Array.getElem_modify]
    split
    · rename_i h
      subst h
      simp
    · rfl

theorem new_block (w : World) (o : Obj) : (w.alloc o).heap[w.heap.size]? = some o := by
  unfold World.alloc
  simp

theorem zero_ops : ∃ Z : Array Value, Yn Z (fun _ => false) ∧ ∀ {id : Nat} {o1 o2 o3 : Oper} {a : Act} {w : World} {Q : Exit → Act → World → Prop} {x y : Operand},
    o1.guard = none → o2.guard = none → o3.guard = none → o1.op = .build 72 #[] → o2.op = .alloc 72 → o3.op = .store 72 x y →
    ((a.put o1.dst (.agg Z)).put o2.dst (.pointer (some ⟨w.heap.size, 0, none⟩))).eval x = .pointer (some ⟨w.heap.size, 0, none⟩) →
    ((a.put o1.dst (.agg Z)).put o2.dst (.pointer (some ⟨w.heap.size, 0, none⟩))).eval y = .agg Z →
    Q .normal (((a.put o1.dst (.agg Z)).put o2.dst (.pointer (some ⟨w.heap.size, 0, none⟩))).put o3.dst undef) (w.alloc (.cells Z 72)) →
    (Code.region id #[o1, o2, o3] false).wp Tryd.prog Q a w := by
  refine ⟨Array.replicate 64 (.bool false), ⟨by simp, fun k hk => by simp [hk]⟩, ?_⟩
  intro id o1 o2 o3 a w Q x y g1 g2 g3 e1 e2 e3 hx hy h
  refine wp_region_lit (l := [o1, o2, o3]) ?_
  refine wpList_buildTo g1 72 #[] e1 _ rfl (Array.replicate 64 (.bool false)) (by kernel_rfl) ?_
  refine wpList_plain g2 fun K hK => ?_
  have r : ∀ w : World, (Instr.alloc 72 true (.tuple #[])).run Tryd.prog w = .ok (.pointer (some ⟨w.heap.size, 0, none⟩)) (w.alloc (.cells (Array.replicate 64 (.bool false)) 72)) := fun w => by kernel_rfl
  unfold Oper.wp execOp
  simp only [e2, Sem.run_bind, r, Result.andThen_ok]
  refine hK _ _ ?_
  refine wpList_store_row g3 72 x y e3 w.heap.size (Array.replicate 64 (.bool false)) hx hy 72 (Array.replicate 64 (.bool false)) (new_block w _) (by kernel_rfl) rfl (by kernel_rfl) ?_
  rw [set_row_new]
  exact h

theorem yn_on {C : Array Value} {p : Nat → Bool} (h : Yn C p) (k : Nat) (hk : k < 64) (v : Bool) : Yn (C.setIfInBounds k (.bool v)) (fun j => if j = k then v else p j) := by
  refine ⟨by simp [h.1], fun j hj => ?_⟩
  by_cases e : j = k
  · subst e
    simp [h.1, hj]
  · rw [Array.getElem?_setIfInBounds_ne (by omega), h.2 j hj]
    simp [e]

theorem yn_congr {C : Array Value} {p q : Nat → Bool} (h : Yn C p) (e : ∀ k, k < 64 → p k = q k) : Yn C q :=
  ⟨h.1, fun k hk => by rw [← e k hk]; exact h.2 k hk⟩

theorem mk_on (p : Nat → Bool) (n j : Nat) : mk (n + 1) (fun i => p (i + j)) = 2 * mk n (fun i => p (i + (j + 1))) + (p j).toNat := by
  rw [mk]
  simp only [Nat.zero_add]
  congr 3
  funext k
  congr 1
  omega

set_option maxHeartbeats 1000000 in
theorem set_any (A : Array Value) (p : Nat → Bool) (hA : Yn A p) (w : World) :
    Calls Tryd.prog 51 #[.agg A] w fun e w' => e = .returned (.int .u64 (mk 64 p : Nat)) ∧ w' = w.alloc (.cells A 72) := by
  have HA := Lib.hid hA
  clear hA
  go_enter Tryd.func51, Tryd.ntmps51
  go_wp2
  go_loopw [3, 4] (fun b i wr => (∃ j : Nat, j ≤ 64 ∧ i = .int .i64 ((j : Int) - 1) ∧ b = .int .u64 (mk (64 - j) (fun i => p (i + j)) : Nat)) ∧ wr = w.alloc (.cells A 72)) (fun _ i _ => (intOf i + 1).toNat)
  case atStart => exact ⟨⟨64, by omega, rfl, rfl⟩, rfl⟩
  case round =>
    obtain ⟨⟨j, hj, rfl, rfl⟩, rfl⟩ := hrel
    by_cases h0 : j = 0
    · subst h0
      go_wp2_with fail
      go_ret
      exact ⟨rfl, rfl⟩
    · obtain ⟨m, rfl⟩ : ∃ m, j = m + 1 := ⟨j - 1, by omega⟩
      have R := Lib.hid (mk_on p (64 - (m + 1)) m)
      have e1 : ((m + 1 : Nat) : Int) - 1 = (m : Int) := by omega
      rw [e1]
      have hc := HA.out.2 m (by omega)
      have hlt : mk (64 - (m + 1)) (fun i => p (i + (m + 1))) < 9223372036854775808 := by
        have a := mk_lt (64 - (m + 1)) (fun i => p (i + (m + 1)))
        have b : 2 ^ (64 - (m + 1)) ≤ 2 ^ 63 := Nat.pow_le_pow_right (by decide) (by omega)
        omega
      obtain ⟨y, hy⟩ : ∃ y, mk (64 - (m + 1)) (fun i => p (i + (m + 1))) = y := ⟨_, rfl⟩
      rw [hy] at R hlt ⊢
      clear hy h0 e1
      have e2 : 64 - (m + 1) + 1 = 64 - m := by omega
      rw [e2] at R
      clear e2
      cases hp : p m
      · rw [hp] at hc R
        clear hp
        go_wp2_with fail
        go_roundw
        case rel => exact ⟨⟨m, by omega, rfl, by rw [R.out]; simp⟩, trivial⟩
        case measure => simp [intOf]
      · rw [hp] at hc R
        clear hp
        go_wp2_with fail
        go_roundw
        case rel => exact ⟨⟨m, by omega, rfl, by rw [R.out]; simp⟩, trivial⟩
        case measure => simp [intOf]

theorem info37 : (Tryd.prog.info? 72).map (·.size) = some 64 := by kernel_rfl

set_option maxHeartbeats 1000000 in
theorem rbetween_any (low high : Int) (w : World) :
    Calls Tryd.prog 34 #[.int .i64 low, .int .i64 high] w fun e w' => e = .returned (.int .u64 (betweenN low high : Nat)) ∧ Below w.heap.size w w' := by
  obtain ⟨Z, hZ, hz⟩ := zero_ops
  have HZ := Lib.hid hZ
  clear hZ
  go_enter Tryd.func34, Tryd.ntmps34
  go_upto_region 1 with fail
  refine hz rfl rfl rfl rfl rfl rfl rfl rfl ?_
  clear hz
  go_wp2
  go_loopw [6] (fun i wr => ∃ (k : Nat) (C : Array Value), k ≤ 64 ∧ i = .int .i64 k ∧ wr = w.alloc (.cells C 72) ∧ Hid (Yn C (fun j => decide (j < k) && (decide (low ≤ (j : Int)) && decide ((j : Int) ≤ high))))) (fun i _ => 64 - (intOf i).toNat)
  case atStart => exact ⟨0, Z, by omega, rfl, rfl, Lib.hid (by simpa using HZ.out)⟩
  case round =>
    obtain ⟨k, C, hk, rfl, rfl, HC⟩ := hrel
    by_cases hlt : k < 64
    · have hc := HC.out.2 k hlt
      have R : ∀ v : Bool, v = (decide (low ≤ (k : Int)) && decide ((k : Int) ≤ high)) → Yn (C.setIfInBounds k (.bool v)) (fun j => decide (j < k + 1) && (decide (low ≤ (j : Int)) && decide ((j : Int) ≤ high))) := fun v hv =>
        yn_congr (yn_on HC.out k hlt v) fun j _ => by
          by_cases e : j = k
          · subst e
            simp [hv]
          · simp [e, show (j < k + 1) = (j < k) from by simp; omega]
      have HR := Lib.hid R
      clear R
      go_wp2_with fail
      · go_roundw
        case rel =>
          have h : low ≤ (k : Int) := by assumption
          exact ⟨k + 1, _, by omega, by go_num, rfl, Lib.hid (HR.out _ (by simp [h]))⟩
        case measure => simp [intOf]; omega
      · go_roundw
        case rel =>
          have h : ¬ low ≤ (k : Int) := by assumption
          exact ⟨k + 1, _, by omega, by go_num, rfl, Lib.hid (HR.out _ (by simp [h]))⟩
        case measure => simp [intOf]; omega
    · go_upto_region 6 with fail
      have hk' : k = 64 := by omega
      subst hk'
      have c := Lib.hid (set_any C _ HC.out)
      have hB : mk 64 (fun j => decide (j < 64) && (decide (low ≤ (j : Int)) && decide ((j : Int) ≤ high))) = betweenN low high := mk_congr fun k hk => by simp [hk]
      rw [hB] at c
      have hi : (Tryd.prog.info? 72).map (·.size) = some C.size := by rw [HC.out.1]; exact info37
      refine wp_region_lit (l := [_, _, _]) ?_
      refine wpList_load_row rfl 72 _ rfl w.heap.size rfl 72 C (0, 0) _ (new_block w _) Tryd.underlying72 rfl hi ?_
      clear hi hB
      go_wp2_with fail
      refine (c.out _).mono ?_
      rintro e w' ⟨rfl, rfl⟩
      go_wp2_with fail
      go_ret
      exact ⟨rfl, ((Below.refl _ w).alloc (Nat.le_refl _) _).alloc (by simp) _⟩
end Go.Proofs.YtnabkhmonmcmfaaDoor.B
