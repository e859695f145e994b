/-
  What hold keeps, cells of type ByteArray.
-/
import Derived.Test.YtkajkfapleecaaaTLeafT
import Derived.Test.YtkajkfapleecaaaTOps
import Derived.RegionTactic
namespace Go.Proofs.Ytkajkfapleecaaa
open Go.RowKit

theorem und_text : Try.prog.underlying 74 = some (.map 3 9) := by kernel_rfl
theorem undk_text : Try.prog.underlying 3 = some (.int .i64) := by kernel_rfl
theorem zero_text (w : World) : (zeroValue 9).run Try.prog w = .ok (.string ByteArray.empty) w := by kernel_rfl
theorem nil_nil_text (w : World) : (binOp .eql 74 (.map none) (.map none)).run Try.prog w = .ok (.bool true) w := by kernel_rfl
theorem nil_some_text (b : Nat) (w : World) : (binOp .eql 74 (.map (some b)) (.map none)).run Try.prog w = .ok (.bool false) w := by kernel_rfl

def Holdtext (M a bc bh cap : Nat) (ms : List (Option Nat)) (σ : Tr ByteArray) (i : Nat) (w : World) (e : Ending) (w' : World) : Prop :=
  e = .returned (.tuple #[]) ∧ ∃ ms' gs', Partstext M w' a bc bh cap ms' gs' σ ∧ (gs' σ.top i).isSome = true ∧ Turn (a :: bc :: bh :: blocks ms) w w' ∧ ∀ b, b ∈ blocks ms' → b ∈ blocks ms ∨ w.heap.size ≤ b

set_option maxRecDepth 100000 in
set_option maxHeartbeats 800000 in
theorem hold_nil_text {M : Nat} {w : World} {a bc bh cap : Nat} {ms : List (Option Nat)} {gs : Nat → Nat → Option ByteArray} {σ : Tr ByteArray} (h : Partstext M w a bc bh cap ms gs σ) {i : Nat} (hi : i < σ.n) (hk : ms[σ.top]? = some none) :
    Calls Try.prog 36 #[.pointer (some ⟨a, 0, none⟩), .int .i64 (i : Int)] w (Holdtext M a bc bh cap ms σ i w) := by
  have htm := h.tops
  have hh := h.hc htm
  rw [hk] at hh
  have c1 := h.c1
  have c2 := h.c2
  obtain ⟨m, hm⟩ : ∃ m, m = ms.length := ⟨_, rfl⟩
  obtain ⟨t, ht⟩ : ∃ t, t = σ.top := ⟨_, rfl⟩
  rw [← hm] at c1 htm
  rw [← ht] at c2 hh htm
  have h0t : (0 : Int) ≤ (t : Int) := by omega
  have h1t : (t : Int) < (m : Int) := by omega
  obtain ⟨n, hn⟩ : ∃ n, n = σ.n := ⟨_, rfl⟩
  have hi0 : (0 : Int) ≤ (i : Int) := by omega
  have hi1 : (i : Int) < (n : Int) := by omega
  have H := Lib.hid h
  have HM := Lib.hid hm
  have HT := Lib.hid ht
  have HK := Lib.hid hk
  have HN := Lib.hid hn
  have hmm := @run_makeMap Try.prog
  have hnn := nil_nil_text
  clear h hm ht hk hn
  go_enter Try.func36, Try.ntmps36
  go_wp2
  go_quiet (fail)
  go_wp2
  have hP1 := H.out.drewN nq
  obtain ⟨hP2, hT2, hg2⟩ := hP1.fresh HK.out
  have d1 : ((w.drewN nq).alloc (.map #[] 0)).cell? ⟨a, 1, none⟩ = some (.slice (some ⟨bh, 0, none⟩) m cap) := ((Turn.refl [] _).alloc _).cell (by rw [HM.out]; exact hP1.c1) (by simp)
  have d2 : ((w.drewN nq).alloc (.map #[] 0)).cell? ⟨a, 2, none⟩ = some (.int .i64 (t : Int)) := ((Turn.refl [] _).alloc _).cell (by rw [HT.out]; exact hP1.c2) (by simp)
  have d3 : ((w.drewN nq).alloc (.map #[] 0)).cell? ⟨bh, t, none⟩ = some (.map none) := ((Turn.refl [] _).alloc _).cell (by have := hP1.hc H.out.tops; rw [HK.out] at this; rw [HT.out]; exact this) (by simp)
  have d4 : ((w.drewN nq).alloc (.map #[] 0)).frozen? ⟨bh, t, none⟩ = false := by
    have hlt := hP1.lts bh (by simp)
    rw [World.frozen?_of_block (w := w.drewN nq) (Below.heap_alloc _ _ _ hlt)]
    exact hP1.fh t
  rw [← HT.out] at hP2 hT2 hg2
  have hTd : Turn (a :: bc :: bh :: blocks ms) w (((w.drewN nq).alloc (.map #[] 0)).setCell ⟨bh, t, none⟩ (.map (some (w.drewN nq).heap.size))).drew := (((Turn.refl (a :: bc :: bh :: blocks ms) w).drewN nq).trans hT2 (by simp)).drew
  have hPd : Partstext M (((w.drewN nq).alloc (.map #[] 0)).setCell ⟨bh, t, none⟩ (.map (some (w.drewN nq).heap.size))).drew a bc bh cap (ms.set t (some (w.drewN nq).heap.size)) gs σ := hP2.turn ((Turn.refl [] _).drew) (fun _ _ h => by cases h)
  have hbl : ∀ b, b ∈ blocks (ms.set t (some (w.drewN nq).heap.size)) → b ∈ blocks ms ∨ w.heap.size ≤ b := fun b hb => by
    have := (blocks_set (B := w.heap.size) (by rw [HT.out]; exact HK.out) (fun b hb => H.out.lts b (by simp [hb])) (by have := H.out.apart; simp only [List.nodup_cons] at this; exact this.2.2.2)).2 b hb
    rcases this with h1 | h1
    · exact .inl h1
    · exact .inr (by omega)
  have hsz : (w.drewN nq).heap.size = w.heap.size := rfl
  rw [hsz] at hTd hPd hbl
  have HTd := Lib.hid hTd
  have HPd := Lib.hid hPd
  have Hbl := Lib.hid hbl
  have Hg2 := Lib.hid hg2
  clear hP1 hP2 hT2 hTd hPd hbl hg2 hsz c1 c2 hh
  generalize (w.drewN nq).alloc (.map #[] 0) = w1 at *
  go_region
  generalize (w1.setCell ⟨bh, t, none⟩ (.map (some w.heap.size))).drew = w2 at *
  generalize hB : w.heap.size = B at *
  have HB := Lib.hid hB
  clear hB
  have hkt : (ms.set t (some B))[t]? = some (some B) := List.getElem?_set_self (by have := H.out.tops; rw [HT.out]; exact this)
  have hmap := HPd.out.maps t B hkt
  have hgi : gs t i = none := by rw [Hg2.out]
  obtain ⟨x, hrun⟩ := hmap.look (mt := 74) (et := 9) (Maps.int_keyed undk_text) undk_text und_text H.out.small hi (zero_text w2)
  rw [hgi] at hrun
  obtain ⟨w3, hrun3, hmap3, hturn3⟩ := hmap.store (mt := 74) (et := 9) (Maps.int_keyed undk_text) undk_text und_text H.out.small hi hgi (σ.cur i)
  have c0 := HPd.out.c0
  rw [← HN.out] at c0
  have ci : w2.cell? ⟨bc, i * 2, none⟩ = some (.string (σ.cur i)) := HPd.out.cells.thing hi
  have hrun' : (Instr.lookup 74 (.map (some B)) (.int .i64 (i : Int)) true).run Try.prog w2 = .ok (.tuple #[.string x, .bool false]) w2 := hrun
  have hrun3' : (Instr.mapUpdate 74 (.map (some B)) (.int .i64 (i : Int)) (.string (σ.cur i))).run Try.prog w2 = .ok () w3 := hrun3
  have hP3 := HPd.out.held (by rw [← HT.out]; exact hkt) (by rw [← HT.out]; exact hgi) (by rw [← HT.out]; exact hmap3) hturn3
  have HP3 := Lib.hid hP3
  have HT3 := Lib.hid hturn3
  clear hmap hmap3 hturn3 hP3 hrun hrun3 hgi
  go_wp2
  go_end0
  refine ⟨rfl, _, _, HP3.out, ?_, HTd.out.trans HT3.out ?_, by rw [HB.out]; exact Hbl.out⟩
  · rw [setAt, if_pos rfl, put, if_pos rfl]
    rfl
  · intro y hy
    rw [List.mem_singleton.1 hy]
    rcases Hbl.out B (mem_blocks hkt) with h1 | h1
    · exact .inl (by simp [h1])
    · exact .inr (by rw [HB.out]; exact h1)

set_option maxRecDepth 100000 in
set_option maxHeartbeats 800000 in
theorem hold_held_text {M : Nat} {w : World} {a bc bh cap B : Nat} {ms : List (Option Nat)} {gs : Nat → Nat → Option ByteArray} {σ : Tr ByteArray} (h : Partstext M w a bc bh cap ms gs σ) {i : Nat} (hi : i < σ.n) (hk : ms[σ.top]? = some (some B)) (hgi : (gs σ.top i).isSome = true) :
    Calls Try.prog 36 #[.pointer (some ⟨a, 0, none⟩), .int .i64 (i : Int)] w (Holdtext M a bc bh cap ms σ i w) := by
  have htm := h.tops
  have hh := h.hc htm
  rw [hk] at hh
  have c1 := h.c1
  have c2 := h.c2
  obtain ⟨m, hm⟩ : ∃ m, m = ms.length := ⟨_, rfl⟩
  obtain ⟨t, ht⟩ : ∃ t, t = σ.top := ⟨_, rfl⟩
  rw [← hm] at c1 htm
  rw [← ht] at c2 hh htm hgi
  have h0t : (0 : Int) ≤ (t : Int) := by omega
  have h1t : (t : Int) < (m : Int) := by omega
  have H := Lib.hid h
  have HM := Lib.hid hm
  have HT := Lib.hid ht
  have HK := Lib.hid hk
  have HG := Lib.hid hgi
  have hnn := nil_some_text
  clear h hm ht hk hgi
  go_enter Try.func36, Try.ntmps36
  go_wp2
  go_quiet (fail)
  have hP1 := H.out.drewN nq
  have hmap := hP1.maps σ.top B HK.out
  obtain ⟨x, hrun⟩ := hmap.look (mt := 74) (et := 9) (Maps.int_keyed undk_text) undk_text und_text H.out.small hi (zero_text (w.drewN nq))
  rw [← HT.out, HG.out] at hrun
  have hrun' : (Instr.lookup 74 (.map (some B)) (.int .i64 (i : Int)) true).run Try.prog (w.drewN nq) = .ok (.tuple #[.string x, .bool true]) (w.drewN nq) := hrun
  have HP := Lib.hid hP1
  clear hP1 hmap hrun
  go_wp2
  go_end0
  exact ⟨rfl, ms, gs, HP.out, by rw [← HT.out]; exact HG.out, (Turn.refl _ _).drewN nq, fun b hb => .inl hb⟩

set_option maxRecDepth 100000 in
set_option maxHeartbeats 800000 in
theorem hold_new_text {M : Nat} {w : World} {a bc bh cap B : Nat} {ms : List (Option Nat)} {gs : Nat → Nat → Option ByteArray} {σ : Tr ByteArray} (h : Partstext M w a bc bh cap ms gs σ) {i : Nat} (hi : i < σ.n) (hk : ms[σ.top]? = some (some B)) (hgi : gs σ.top i = none) :
    Calls Try.prog 36 #[.pointer (some ⟨a, 0, none⟩), .int .i64 (i : Int)] w (Holdtext M a bc bh cap ms σ i w) := by
  have htm := h.tops
  have hh := h.hc htm
  rw [hk] at hh
  have c1 := h.c1
  have c2 := h.c2
  obtain ⟨m, hm⟩ : ∃ m, m = ms.length := ⟨_, rfl⟩
  obtain ⟨t, ht⟩ : ∃ t, t = σ.top := ⟨_, rfl⟩
  rw [← hm] at c1 htm
  rw [← ht] at c2 hh htm hgi
  have h0t : (0 : Int) ≤ (t : Int) := by omega
  have h1t : (t : Int) < (m : Int) := by omega
  obtain ⟨n, hn⟩ : ∃ n, n = σ.n := ⟨_, rfl⟩
  have hi0 : (0 : Int) ≤ (i : Int) := by omega
  have hi1 : (i : Int) < (n : Int) := by omega
  have H := Lib.hid h
  have HM := Lib.hid hm
  have HT := Lib.hid ht
  have HK := Lib.hid hk
  have HG := Lib.hid hgi
  have HN := Lib.hid hn
  have hnn := nil_some_text
  clear h hm ht hk hgi hn
  go_enter Try.func36, Try.ntmps36
  go_wp2
  go_quiet (fail)
  have hP1 := H.out.drewN nq
  have hmap := hP1.maps σ.top B HK.out
  obtain ⟨x, hrun⟩ := hmap.look (mt := 74) (et := 9) (Maps.int_keyed undk_text) undk_text und_text H.out.small hi (zero_text (w.drewN nq))
  obtain ⟨w3, hrun3, hmap3, hturn3⟩ := hmap.store (mt := 74) (et := 9) (Maps.int_keyed undk_text) undk_text und_text H.out.small hi (by rw [← HT.out]; exact HG.out) (σ.cur i)
  rw [← HT.out, HG.out] at hrun
  have c0 := hP1.c0
  rw [← HN.out] at c0
  have ci : (w.drewN nq).cell? ⟨bc, i * 2, none⟩ = some (.string (σ.cur i)) := hP1.cells.thing hi
  have hP3 := hP1.held HK.out (by rw [← HT.out]; exact HG.out) hmap3 hturn3
  have hrun' : (Instr.lookup 74 (.map (some B)) (.int .i64 (i : Int)) true).run Try.prog (w.drewN nq) = .ok (.tuple #[.string x, .bool false]) (w.drewN nq) := hrun
  have hrun3' : (Instr.mapUpdate 74 (.map (some B)) (.int .i64 (i : Int)) (.string (σ.cur i))).run Try.prog (w.drewN nq) = .ok () w3 := hrun3
  have HP3 := Lib.hid hP3
  have HT3 := Lib.hid hturn3
  clear hP1 hmap hmap3 hturn3 hP3 hrun hrun3
  go_wp2
  go_end0
  refine ⟨rfl, ms, _, HP3.out, ?_, ((Turn.refl _ _).drewN nq).trans HT3.out ?_, fun b hb => .inl hb⟩
  · rw [setAt, if_pos rfl, put, if_pos rfl]
    rfl
  · intro y hy
    rw [List.mem_singleton.1 hy]
    exact .inl (by simp [mem_blocks HK.out])

theorem hold_text {M : Nat} {w : World} {a bc bh cap : Nat} {ms : List (Option Nat)} {gs : Nat → Nat → Option ByteArray} {σ : Tr ByteArray} (h : Partstext M w a bc bh cap ms gs σ) {i : Nat} (hi : i < σ.n) :
    Calls Try.prog 36 #[.pointer (some ⟨a, 0, none⟩), .int .i64 (i : Int)] w (Holdtext M a bc bh cap ms σ i w) := by
  have htm := h.tops
  obtain ⟨o, ho⟩ : ∃ o, ms[σ.top]? = some o := ⟨_, List.getElem?_eq_getElem htm⟩
  cases o with
  | none => exact hold_nil_text h hi ho
  | some B =>
    cases hg : gs σ.top i with
    | none => exact hold_new_text h hi ho hg
    | some x => exact hold_held_text h hi ho (by rw [hg]; rfl)
end Go.Proofs.Ytkajkfapleecaaa
