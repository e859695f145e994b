/-
  What New answers, cells of type ByteArray.
-/
import Derived.Test.YtkajkfapleecaaaTChgT
import Derived.Laws.MakeOwn
namespace Go.Proofs.Ytkajkfapleecaaa
open Go.RowKit

theorem undc_text : Try.prog.underlying 68 = some (.slice 77) := by kernel_rfl
theorem infoc_text : (Try.prog.info? 77).map (fun i => (i.zero, i.size)) = some (some (.agg #[.string ByteArray.empty, .int .i64 0]), 2) := by kernel_rfl
theorem infocb_text : (Try.prog.info? 77).map (fun i => decide (i.bytes ≤ 24)) = some true := by kernel_rfl

theorem make_cells_text (n : Nat) (hn : n ≤ 1000) (w : World) : (Instr.makeSlice 68 (.int .i64 (n : Int)) (.int .i64 (n : Int))).run Try.prog w = .ok (.slice (some ⟨w.heap.size, 0, none⟩) n n) (w.alloc (.cells (madeCells #[.string ByteArray.empty, .int .i64 0] (n * 2)) 77)) := by
  obtain ⟨i, hi, hz⟩ := Option.map_eq_some_iff.1 infoc_text
  obtain ⟨i', hi', hb⟩ := Option.map_eq_some_iff.1 infocb_text
  obtain rfl : i = i' := by rw [hi] at hi'; injection hi'
  simp only [Prod.mk.injEq] at hz
  have hb : i.bytes ≤ 24 := of_decide_eq_true hb
  have hb' : (i.bytes : Int) * (n : Int) ≤ 281474976710656 := by
    have h1 : i.bytes * n ≤ 24 * 1000 := Nat.mul_le_mul hb hn
    have h2 : ((i.bytes * n : Nat) : Int) ≤ 281474976710656 := by omega
    rwa [Int.natCast_mul] at h2
  have hr := run_make (P := Try.prog) w 68 77 i _ undc_text hi hz.1 .i64 .i64 n n (by omega) (Int.le_refl _) hb' (by omega)
  simp only [Int.toNat_natCast, hz.2] at hr
  exact hr
theorem make_maps_text (w : World) : (Instr.makeSlice 69 (.int .i64 1) (.int .i64 1)).run Try.prog w = .ok (.slice (some ⟨w.heap.size, 0, none⟩) 1 1) (w.alloc (.cells (madeCells #[.map none] 1) 74)) := by
  obtain ⟨i0, hi, hz0, hz1, hz2⟩ := info_parts infoh_text
  have hr := run_make (P := Try.prog) w 69 74 i0 _ undh_text hi hz0 .i64 .i64 1 1 (by omega) (Int.le_refl _) (by rw [hz2]; omega) (by omega)
  simp only [hz1] at hr
  exact hr

def Newtext (n : Nat) (w : World) (e : Ending) (w' : World) : Prop :=
  ∃ F a, e = .returned (.tuple #[.pointer (some ⟨a, 0, none⟩), .int .i64 0]) ∧ Attext 1 w' F a (Tr.new n ByteArray.empty) ∧ Below w.heap.size w w' ∧ ∀ b, b ∈ F → w.heap.size ≤ b

theorem new_no_text (n : Int) (w : World) (h : n < 0 ∨ 1000 < n) : Calls Try.prog 22 #[.int .i64 n] w fun e w' => e = .returned (.tuple #[.pointer none, .int .i64 1]) ∧ w = w' := by
  by_cases h0 : n < 0
  · have H := Lib.hid h
    clear h
    go_enter Try.func22, Try.ntmps22
    go_wp2
    go_ret2
    exact ⟨rfl, rfl⟩
  · have h1 : 1000 < n := by omega
    have H := Lib.hid h
    clear h
    go_enter Try.func22, Try.ntmps22
    go_wp2
    go_ret2
    exact ⟨rfl, rfl⟩

set_option maxHeartbeats 800000 in
theorem new_text (n : Nat) (w : World) (hn : n ≤ 1000) : Calls Try.prog 22 #[.int .i64 (n : Int)] w (Newtext n w) := by
  have h0 : (0 : Int) ≤ (n : Int) := by omega
  have h1 : (n : Int) ≤ 1000 := by omega
  have hc := make_cells_text n hn
  have hm := make_maps_text
  have HN := Lib.hid hn
  clear hn
  go_enter Try.func22, Try.ntmps22
  go_wp2
  go_region
  · go_wp2
    go_ret2
    obtain ⟨k1, k2, k3⟩ := heap3 w (.cells (madeCells #[.string ByteArray.empty, .int .i64 0] (n * 2)) 77) (.cells (madeCells #[.map none] 1) 74) (.cells #[.slice (some ⟨w.heap.size, 0, none⟩) n n, .slice (some ⟨w.heap.size + 1, 0, none⟩) 1 1, .int .i64 0] 71)
    exact ⟨_, _, rfl, ⟨w.heap.size, w.heap.size + 1, 1, [none], _, Parts.made HN.out ⟨by omega, by omega, by omega⟩ k3 k1 k2, rfl⟩, ((((Below.refl _ w).alloc (Nat.le_refl _) _).alloc (by simp) _).alloc (by simp; omega) _).drew, fun b hb => by
      simp only [List.mem_cons, blocks, List.filterMap_cons, id, List.filterMap_nil, List.not_mem_nil, or_false] at hb
      omega⟩
  · go_wp2
    go_ret2
    obtain ⟨k1, k2, k3⟩ := heap3 w (.cells (madeCells #[.map none] 1) 74) (.cells (madeCells #[.string ByteArray.empty, .int .i64 0] (n * 2)) 77) (.cells #[.slice (some ⟨w.heap.size + 1, 0, none⟩) n n, .slice (some ⟨w.heap.size, 0, none⟩) 1 1, .int .i64 0] 71)
    exact ⟨_, _, rfl, ⟨w.heap.size + 1, w.heap.size, 1, [none], _, Parts.made HN.out ⟨by omega, by omega, by omega⟩ k3 k2 k1, rfl⟩, ((((Below.refl _ w).alloc (Nat.le_refl _) _).alloc (by simp) _).alloc (by simp; omega) _).drew, fun b hb => by
      simp only [List.mem_cons, blocks, List.filterMap_cons, id, List.filterMap_nil, List.not_mem_nil, or_false] at hb
      omega⟩
end Go.Proofs.Ytkajkfapleecaaa
