/-
  The document's trail: New.
-/
import Derived.Test.YtkajkfapleecaaaTRUndo
namespace Go.Proofs.Ytkajkfapleecaaa
open Go.RowKit

theorem make_nums (n : Nat) (hn : n ≤ 1000) (w : World) : (Instr.makeSlice 38 (.int .i64 (n : Int)) (.int .i64 (n : Int))).run Try.prog w = .ok (.slice (some ⟨w.heap.size, 0, none⟩) n n) (w.alloc (.cells (madeCells #[.int .i64 0] n) 3)) := by
  obtain ⟨i0, hi, hz0, hz1, hz2⟩ := info_parts info3
  have hr := run_make (P := Try.prog) w 38 3 i0 _ Try.underlying38 hi hz0 .i64 .i64 n n (by omega) (Int.le_refl _) (by rw [hz2]; omega) (by omega)
  simp only [Int.toNat_natCast, hz1, Nat.mul_one] at hr
  exact hr
theorem nums_made {n b : Nat} {w : World} (h : w.heap[b]? = some (.cells (madeCells #[.int .i64 0] n) 3 (0, 0))) : NumsAt n w b (fun _ => 0) := by
  refine ⟨_, h, size_madeCells _ _, fun i hi => ?_⟩
  rw [← Array.getElem?_toList, toList_madeCells_one]
  simp [hi]
theorem heap5 (w : World) (o1 o2 o3 o4 o5 : Obj) (i : Nat) (o : Obj) (h : [o1, o2, o3, o4, o5][i]? = some o) : (((((w.alloc o1).alloc o2).alloc o3).alloc o4).alloc o5).drew.heap[w.heap.size + i]? = some o := by
  have e : (((((w.alloc o1).alloc o2).alloc o3).alloc o4).alloc o5).drew.heap = ((((w.heap.push o1).push o2).push o3).push o4).push o5 := rfl
  have e2 : (((((w.heap.push o1).push o2).push o3).push o4).push o5).toList = w.heap.toList ++ [o1, o2, o3, o4, o5] := by simp
  rw [e, ← Array.getElem?_toList, e2, List.getElem?_append_right (by simp)]
  simpa using h

def RNew (n : Nat) (w : World) (e : Ending) (w' : World) : Prop :=
  ∃ F r, e = .returned (.tuple #[.pointer (some ⟨r, 0, none⟩), .int .i64 0]) ∧ RAt 1 w' F r (Tr.new n 0) ∧ Below w.heap.size w w' ∧ ∀ b, b ∈ F → w.heap.size ≤ b

/-- whichever way the five blocks were laid -/
theorem rnew_fin {n : Nat} (hn : n ≤ 1000) {w : World} {o1 o2 o3 o4 o5 : Obj} (ic is iz ib : Nat) (hd : ic ≠ is ∧ ic ≠ iz ∧ is ≠ iz ∧ ic ≠ ib ∧ is ≠ ib ∧ ic < 4 ∧ is < 4 ∧ iz < 4 ∧ ib < 4)
    (h1 : [o1, o2, o3, o4, o5][ic]? = some (.cells (madeCells #[.int .i64 0] n) 3)) (h2 : [o1, o2, o3, o4, o5][is]? = some (.cells (madeCells #[.int .i64 0] n) 3)) (h3 : [o1, o2, o3, o4, o5][iz]? = some (.cells (madeCells #[.int .i64 0] n) 3))
    (h4 : [o1, o2, o3, o4, o5][ib]? = some (.cells #[.slice (some ⟨w.heap.size + iz, 0, none⟩) n n] 38))
    (h5 : o5 = .cells #[.slice (some ⟨w.heap.size + ic, 0, none⟩) n n, .slice (some ⟨w.heap.size + is, 0, none⟩) n n, .slice (some ⟨w.heap.size + ib, 0, none⟩) 1 1] 41) :
    RNew n w (.returned (.tuple #[.pointer (some ⟨w.heap.size + 4, 0, none⟩), .int .i64 0])) (((((w.alloc o1).alloc o2).alloc o3).alloc o4).alloc o5).drew := by
  have k1 := heap5 w o1 o2 o3 o4 o5 ic _ h1
  have k2 := heap5 w o1 o2 o3 o4 o5 is _ h2
  have k3 := heap5 w o1 o2 o3 o4 o5 iz _ h3
  have k4 := heap5 w o1 o2 o3 o4 o5 ib _ h4
  have k5 := heap5 w o1 o2 o3 o4 o5 4 _ (by rw [h5]; rfl)
  refine ⟨_, _, rfl, ⟨w.heap.size + ic, w.heap.size + is, w.heap.size + ib, 1, [.slice (some ⟨w.heap.size + iz, 0, none⟩) n n], [w.heap.size + iz], ?_, rfl⟩, ?_, fun b hb => ?_⟩
  · exact {
      small := hn
      most := Nat.zero_lt_one
      head := k5
      cur := nums_made k1
      st := nums_made k2
      len := rfl
      olds := ⟨_, k4, rfl, rfl⟩
      room := ⟨Nat.le_refl _, by unfold maxLen; omega⟩
      rows := fun k hk => by
        obtain rfl : k = 0 := by simpa [Tr.new] using hk
        refine ⟨_, rfl, .inr ⟨w.heap.size + iz, 0, n, ?_, by simp, fun j hj => ?_⟩⟩
        · rw [rowOf_length]
          rfl
        · rw [rowOf_length] at hj
          rw [rowOf_get _ _ hj, Nat.zero_add]
          exact (nums_made k3).cell hj
      apart := by
        refine ⟨by omega, fun b hb => ?_⟩
        rw [List.mem_singleton.1 hb]
        omega
      lts := fun b hb => by
        rw [List.mem_singleton.1 hb]
        exact (Array.getElem?_eq_some_iff.1 k3).1 }
  · exact ((((((Below.refl _ w).alloc (Nat.le_refl _) _).alloc (by simp) _).alloc (by simp; omega) _).alloc (by simp; omega) _).alloc (by simp; omega) _).drew
  · simp only [List.mem_cons, List.not_mem_nil, or_false] at hb
    omega

theorem rnew_no (n : Int) (w : World) (h : n < 0 ∨ 1000 < n) : Calls Try.prog 8 #[.int .i64 n] w fun e w' => e = .returned (.tuple #[.pointer none, .int .i64 1]) ∧ w = w' := by
  by_cases h0 : n < 0
  · have H := Lib.hid h
    clear h
    go_enter Try.func8, Try.ntmps8
    go_wp2
    go_ret2
    exact ⟨rfl, rfl⟩
  · have h1 : 1000 < n := by omega
    have H := Lib.hid h
    clear h
    go_enter Try.func8, Try.ntmps8
    go_wp2
    go_ret2
    exact ⟨rfl, rfl⟩

set_option maxHeartbeats 1600000 in
theorem rnew_any (n : Nat) (w : World) (hn : n ≤ 1000) : Calls Try.prog 8 #[.int .i64 (n : Int)] w (RNew n w) := by
  have h0 : (0 : Int) ≤ (n : Int) := by omega
  have h1 : (n : Int) ≤ 1000 := by omega
  have hm := make_nums n hn
  have HN := Lib.hid hn
  clear hn
  go_enter Try.func8, Try.ntmps8
  go_wp2
  go_region
  all_goals go_wp2
  all_goals go_ret2
  all_goals first
    | exact rnew_fin HN.out 0 1 2 3 (by decide) rfl rfl rfl rfl rfl
    | exact rnew_fin HN.out 0 2 1 3 (by decide) rfl rfl rfl rfl rfl
    | exact rnew_fin HN.out 0 3 1 2 (by decide) rfl rfl rfl rfl rfl
    | exact rnew_fin HN.out 1 0 2 3 (by decide) rfl rfl rfl rfl rfl
    | exact rnew_fin HN.out 1 2 0 3 (by decide) rfl rfl rfl rfl rfl
    | exact rnew_fin HN.out 1 3 0 2 (by decide) rfl rfl rfl rfl rfl
    | exact rnew_fin HN.out 2 0 1 3 (by decide) rfl rfl rfl rfl rfl
    | exact rnew_fin HN.out 2 1 0 3 (by decide) rfl rfl rfl rfl rfl
    | exact rnew_fin HN.out 2 3 0 1 (by decide) rfl rfl rfl rfl rfl
    | exact rnew_fin HN.out 3 0 1 2 (by decide) rfl rfl rfl rfl rfl
    | exact rnew_fin HN.out 3 1 0 2 (by decide) rfl rfl rfl rfl rfl
    | exact rnew_fin HN.out 3 2 0 1 (by decide) rfl rfl rfl rfl rfl
end Go.Proofs.Ytkajkfapleecaaa
