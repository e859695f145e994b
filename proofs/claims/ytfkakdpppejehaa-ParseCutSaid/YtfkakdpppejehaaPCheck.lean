/-
  What Check of package model answers, at every model that can be read and whose lists are short.
-/
import Derived.Test.YtfkakdpppejehaaPTwice
import Derived.Laws.EntriesVeiled
namespace Go.Proofs.Ytfkakdpppejehaa
open Go.RowKit
set_option maxRecDepth 100000

/-- the faults in memory, place by place: a function and an error each -/
structure Faults (w : World) (b off : Nat) : Prop where
  c0 : w.cell? ⟨b, off + 0 * 2, none⟩ = some (.func (.func 24) #[] #[]) ∧ w.cell? ⟨b, off + 0 * 2 + 1, none⟩ = some (.int .i64 5)
  c1 : w.cell? ⟨b, off + 1 * 2, none⟩ = some (.func (.func 25) #[] #[]) ∧ w.cell? ⟨b, off + 1 * 2 + 1, none⟩ = some (.int .i64 2)
  c2 : w.cell? ⟨b, off + 2 * 2, none⟩ = some (.func (.func 26) #[] #[]) ∧ w.cell? ⟨b, off + 2 * 2 + 1, none⟩ = some (.int .i64 7)
  c3 : w.cell? ⟨b, off + 3 * 2, none⟩ = some (.func (.func 27) #[] #[]) ∧ w.cell? ⟨b, off + 3 * 2 + 1, none⟩ = some (.int .i64 8)
  c4 : w.cell? ⟨b, off + 4 * 2, none⟩ = some (.func (.func 28) #[] #[]) ∧ w.cell? ⟨b, off + 4 * 2 + 1, none⟩ = some (.int .i64 1)
  c5 : w.cell? ⟨b, off + 5 * 2, none⟩ = some (.func (.func 29) #[] #[]) ∧ w.cell? ⟨b, off + 5 * 2 + 1, none⟩ = some (.int .i64 12)
set_option maxRecDepth 100000 in
set_option maxHeartbeats 1000000 in
theorem faults_any (w : World) : Calls Try.prog 13 #[] w fun e w' => ∃ b off : Nat, e = .returned (.slice (some ⟨b, off, none⟩) 6 6) ∧ Faults w' b off ∧ Below w.heap.size w w' := by
  go_enter Try.func13, Try.ntmps13
  go_wp2_with fail
  go_ret
  refine ⟨_, _, rfl, ⟨⟨?_, ?_⟩, ⟨?_, ?_⟩, ⟨?_, ?_⟩, ⟨?_, ?_⟩, ⟨?_, ?_⟩, ⟨?_, ?_⟩⟩, (Below.refl _ w).alloc (Nat.le_refl _) _⟩ <;> go_simp

theorem enters45 : Enters Try.prog 24 := enters_of Try.func24 (by kernel_rfl) rfl
theorem enters46 : Enters Try.prog 25 := enters_of Try.func25 (by kernel_rfl) rfl
theorem enters47 : Enters Try.prog 26 := enters_of Try.func26 (by kernel_rfl) rfl
theorem enters48 : Enters Try.prog 27 := enters_of Try.func27 (by kernel_rfl) rfl
theorem enters49 : Enters Try.prog 28 := enters_of Try.func28 (by kernel_rfl) rfl
theorem enters50 : Enters Try.prog 29 := enters_of Try.func29 (by kernel_rfl) rfl

theorem fault_at {w u : World} {b off : Nat} {pb : Option Addr} {bb ob cb lb : Nat} {pg : Option Addr} {lg cg : Nat} {m : PModel} (hF : Faults u b off) (h : Mo w pb bb ob cb lb pg lg cg m) (hc : (pb = none → cb = 0) ∧ lb ≤ cb) (hf : Few m) (k : Nat) (hk : k < 6) :
    ∃ (g : Nat) (B : Bool) (e : Int), (faultsM m)[k]? = some (B, e) ∧ u.cell? ⟨b, off + k * 2, none⟩ = some (.func (.func g) #[] #[]) ∧ u.cell? ⟨b, off + k * 2 + 1, none⟩ = some (.int .i64 e) ∧ Enters Try.prog g ∧
      ∀ v, Below w.heap.size w v → Calls Try.prog g #[.agg #[.slice pb lb cb, .slice pg lg cg]] v fun e' w' => e' = .returned (.bool B) ∧ Below v.heap.size v w' := by
  match k, hk with
  | 0, _ => exact ⟨24, _, _, rfl, hF.c0.1, hF.c0.2, enters45, fun v hv => big_cells pb bb ob cb lb pg lg cg m v (h.below hv) hf⟩
  | 1, _ => exact ⟨25, _, _, rfl, hF.c1.1, hF.c1.2, enters46, fun v hv => form_cells pb bb ob cb lb pg lg cg m v (h.below hv) hc hf⟩
  | 2, _ => exact ⟨26, _, _, rfl, hF.c2.1, hF.c2.2, enters47, fun v hv => name_cells pb bb ob cb lb pg lg cg m v (h.below hv) hc hf⟩
  | 3, _ => exact ⟨27, _, _, rfl, hF.c3.1, hF.c3.2, enters48, fun v hv => twice_cells pb bb ob cb lb pg lg cg m v (h.below hv) hc hf⟩
  | 4, _ => exact ⟨28, _, _, rfl, hF.c4.1, hF.c4.2, enters49, fun v hv => dom_cells pb bb ob cb lb pg lg cg m v (h.below hv) hc hf⟩
  | 5, _ => exact ⟨29, _, _, rfl, hF.c5.1, hF.c5.2, enters50, fun v hv => con_cells pb bb ob cb lb pg lg cg m v (h.below hv) hf⟩
theorem first_at {L : List (Bool × Int)} {k : Nat} {B : Bool} {e : Int} (h : L[k]? = some (B, e)) : firstF (L.drop k) = if B = true then e else firstF (L.drop (k + 1)) := by
  obtain ⟨hk, ex⟩ := List.getElem?_eq_some_iff.1 h
  rw [List.drop_eq_getElem_cons hk, ex, firstF]

set_option maxRecDepth 100000 in
set_option maxHeartbeats 2000000 in
theorem check_cells (pb : Option Addr) (bb ob cb lb : Nat) (pg : Option Addr) (lg cg : Nat) (m : PModel) (w : World) (h : Mo w pb bb ob cb lb pg lg cg m) (hc : (pb = none → cb = 0) ∧ lb ≤ cb) (hf : Few m) :
    Calls Try.prog 8 #[.agg #[.slice pb lb cb, .slice pg lg cg]] w fun e w' => e = .returned (.int .i64 (checkM m)) ∧ Below w.heap.size w w' := by
  obtain ⟨R, hR⟩ : ∃ R, R = checkM m := ⟨_, rfl⟩
  rw [← hR]
  obtain ⟨W0, hW0⟩ : ∃ W0, W0 = w.alloc (.cells #[.slice pb lb cb, .slice pg lg cg] 26) := ⟨_, rfl⟩
  have hB0 : Below w.heap.size w W0 := by rw [hW0]; exact (Below.refl _ w).alloc (Nat.le_refl _) _
  have m0 : W0.cell? ⟨w.heap.size, 0, none⟩ = some (.slice pb lb cb) := by rw [hW0]; go_simp
  have m1 : W0.cell? ⟨w.heap.size, 1, none⟩ = some (.slice pg lg cg) := by rw [hW0]; go_simp
  obtain ⟨W1, hW1⟩ : ∃ W1, W1 = W0.alloc (.cells #[.slice pb lb cb, .slice pg lg cg] 60) := ⟨_, rfl⟩
  have hB1 : Below W0.heap.size W0 W1 := by rw [hW1]; exact (Below.refl _ W0).alloc (Nat.le_refl _) _
  have n0 : W1.cell? ⟨W0.heap.size, 0, none⟩ = some (.slice pb lb cb) := by rw [hW1]; go_simp
  have n1 : W1.cell? ⟨W0.heap.size, 1, none⟩ = some (.slice pg lg cg) := by rw [hW1]; go_simp
  have hsz : W0.heap.size = w.heap.size + 1 := by rw [hW0]; simp
  have HW := Lib.hid hW0
  have HW1 := Lib.hid hW1
  have HB1 := Lib.hid (hB0.trans (hB1.mono hB0.size))
  have HM := Lib.hid h
  have HF := Lib.hid hf
  have HC := Lib.hid hc
  have HS := Lib.hid (show R = firstF ((faultsM m).drop 0) from hR)
  clear hR h hf hc hW0 hB0 hW1 hB1
  go_enter Try.func8, Try.ntmps8
  go_upto_region 1 with fail
  rw [← HW.out]
  rw [hsz] at n0 n1
  have HN := Lib.hid (And.intro n0 n1)
  clear n0 n1
  go_upto_region 2 with fail
  rw [← HW1.out]
  clear m0 m1
  go_wp2_with fail
  refine (faults_any W1).mono ?_
  rintro e W2 ⟨b, off, rfl, hFa, hB2⟩
  have HFA := Lib.hid hFa
  have HN := Lib.hid (And.intro (cell_stays hB2 HN.out.1) (cell_stays hB2 HN.out.2))
  have HB2 := Lib.hid (HB1.out.trans (hB2.mono HB1.out.size))
  clear hFa hB2 hsz
  go_wp2_with fail
  go_loopw [10] (fun i wr => ∃ k : Nat, k ≤ 6 ∧ i = .int .i64 k ∧ R = firstF ((faultsM m).drop k) ∧ Below W2.heap.size W2 wr) (fun i _ => 6 - (intOf i).toNat)
  case atStart => exact ⟨0, by omega, rfl, HS.out, Below.refl _ _⟩
  case round =>
    obtain ⟨k, hk, rfl, hrel, hB⟩ := hrel
    by_cases hlt : k < 6
    · obtain ⟨g, B, e, ex, a0, a1, hE, hC⟩ := fault_at HFA.out HM.out HC.out HF.out k hlt
      have a0 := cell_stays hB a0
      have a1 := cell_stays hB a1
      have hstep := hrel.trans (first_at ex)
      obtain ⟨W3, hW3⟩ : ∃ W3, W3 = wr.alloc (.cells #[.func (.func g) #[] #[], .int .i64 e] 65) := ⟨_, rfl⟩
      have hB3 : Below wr.heap.size wr W3 := by rw [hW3]; exact (Below.refl _ wr).alloc (Nat.le_refl _) _
      have q0 : W3.cell? ⟨wr.heap.size, 0, none⟩ = some (.func (.func g) #[] #[]) := by rw [hW3]; go_simp
      have q1 : W3.cell? ⟨wr.heap.size, 1, none⟩ = some (.int .i64 e) := by rw [hW3]; go_simp
      have hBB := hB.trans (hB3.mono hB.size)
      have n0 := cell_stays hBB HN.out.1
      have n1 := cell_stays hBB HN.out.2
      have HW3 := Lib.hid hW3
      have HB3 := Lib.hid hBB
      have HE := Lib.hid hE
      have C := Lib.hid (hC W3 (HB2.out.trans (hBB.mono HB2.out.size)))
      clear hrel hB ex hE hC hW3 hB3 hBB
      cases B
      · rw [if_neg (by simp)] at hstep
        have NX := Lib.hid hstep
        clear hstep
        go_upto_region 5 with fail
        rw [← HW3.out]
        clear a0 a1
        go_wp2_with fail
        simp only [HE.out _ _]
        refine C.out.mono ?_
        rintro e' w4 ⟨rfl, hB4⟩
        have HB4 := Lib.hid (HB3.out.trans (hB4.mono HB3.out.size))
        clear hB4 q0 q1 n0 n1
        go_wp2_with fail
        go_roundw
        case rel => exact ⟨k + 1, by omega, by go_num, NX.out, HB4.out⟩
        case measure => simp [intOf]; omega
      · rw [if_pos rfl] at hstep
        subst hstep
        go_upto_region 5 with fail
        rw [← HW3.out]
        clear a0 a1
        go_wp2_with fail
        simp only [HE.out _ _]
        refine C.out.mono ?_
        rintro e' w4 ⟨rfl, hB4⟩
        have q1 := cell_stays hB4 q1
        have HB4 := Lib.hid (HB3.out.trans (hB4.mono HB3.out.size))
        clear hB4 q0 n0 n1
        go_wp2_with fail
        go_ret
        exact ⟨rfl, HB2.out.trans (HB4.out.mono HB2.out.size)⟩
    · have key : R = 0 := by
        obtain rfl : k = 6 := by omega
        exact hrel
      subst key
      have HB := Lib.hid hB
      clear hrel hB
      go_wp2_with fail
      go_ret
      exact ⟨rfl, HB2.out.trans (HB.out.mono HB2.out.size)⟩
theorem rModel_open {w : World} {bv gv : Value} {m : PModel} (h : rModel w [bv, gv] m) : ∃ (pb : Option Addr) (bb ob cb lb : Nat) (pg : Option Addr) (lg cg : Nat), bv = .slice pb lb cb ∧ gv = .slice pg lg cg ∧ ((pb = none → cb = 0) ∧ lb ≤ cb) ∧ Mo w pb bb ob cb lb pg lg cg m := by
  obtain ⟨v1, v2, e, ⟨p, b, off, c, len, h2, hc, h3⟩, h4⟩ := h
  simp only [List.cons.injEq, and_true] at e
  obtain ⟨rfl, rfl⟩ := e
  obtain ⟨pg, bg, og, cg, lg, rfl, hg⟩ := Slc.open_ h4
  exact ⟨p, b, off, c, len, pg, lg, cg, h2, rfl, hc, ⟨h3, h4⟩, hg.long⟩
theorem check_any {w : World} {bv gv : Value} {m : PModel} (h : rModel w [bv, gv] m) (hf : Few m) :
    Calls Try.prog 8 #[.agg #[bv, gv]] w fun e w' => e = .returned (.int .i64 (checkM m)) ∧ Below w.heap.size w w' := by
  obtain ⟨pb, bb, ob, cb, lb, pg, lg, cg, rfl, rfl, hc, hm⟩ := rModel_open h
  exact check_cells pb bb ob cb lb pg lg cg m w hm hc hf
end Go.Proofs.Ytfkakdpppejehaa
