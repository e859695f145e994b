/-
  The law ShowBack, at every two models.
  What came in: models and constraints, their values open.
  The last step of every law's proof, once for all programs: a call that answers true and leaves what was there as it was meets its row's post: every argument reads as it read before. Nothing of the program.
  What the row's condition gives: the library's table of powers of ten lies in its variable; and a world that meets the condition.
-/
import Derived.Test.YtkgieaoahijheaaGreatDoorZYAS
import Derived.Test.YtkgieaoahijheaaGreatDoorZYAP
import Derived.Test.YtkgieaoahijheaaGreatDoorZYBH
import Derived.Test.YtkgieaoahijheaaGreatDoorZYAE
import Derived.Lib.SmallJoins
import Derived.WalkKit
import Derived.ProofKit
import Derived.OpenShut
import Derived.ChangeStays
import Derived.ReadAgain
import Derived.ChangeSame
import Derived.Below
import Derived.LaidMore
import Derived.Stop.Joined
import Derived.Stop.LaidErr
import Derived.Lib.LaidTab
namespace Go.Proofs.YtkgieaoahijheaaGreatDoor.Wt
open Go.RowKit
open Sc (Tok scanL)
set_option maxRecDepth 100000

theorem same_eq (m n : PModel) : sameM m n = true ↔ m = n := by
  have hb : ∀ x y : PBlock, sameB x y = true ↔ x = y := fun x y => by
    obtain ⟨a, v, c⟩ := x
    obtain ⟨a', v', c'⟩ := y
    simp only [sameB, Bool.and_eq_true, decide_eq_true_eq, listB_iff sameD_iff, listB_iff sameC_iff, PBlock.mk.injEq]
  obtain ⟨b, g⟩ := m
  obtain ⟨b', g'⟩ := n
  simp only [sameM, Bool.and_eq_true, listB_iff hb, listB_iff sameC_iff, PModel.mk.injEq]
theorem text_one {m n : PModel} (hm : checkM m = 0) (hn : checkM n = 0) : decide (textL (nmT (namesM m)) m = textL (nmT (namesM n)) n) = sameM m n := by
  rw [Bool.eq_iff_iff, decide_eq_true_eq, same_eq]
  constructor
  · intro h
    have h1 := may_back hm
    rw [h, may_back hn] at h1
    cases h1
    rfl
  · intro h
    rw [h]
/-- a model comes back from its text, where it is short enough -/
theorem parse_back {m : PModel} (hc : checkM m = 0) (hf : Few m) {A : List UInt8} (hA : A = textL (nmT (namesM m)) m) (hl : A.length ≤ 4000) (w : World) : Calls Tryz.prog 7 #[.string ⟨A.toArray⟩] w (Pp.ParseP w (.model m)) := by
  have hb := may_back hc
  rw [← hA] at hb
  unfold Pa.parseL at hb
  have ht : txt (⟨A.toArray⟩ : ByteArray) = A := rfl
  have hsz : (⟨A.toArray⟩ : ByteArray).size = A.length := by simp [ByteArray.size]
  cases hs : scanL 0 A with
  | bad p e => rw [hs] at hb; cases hb
  | ok T =>
    rw [hs] at hb
    simp only at hb
    have hT := (Pp.small_tokens hs).1
    have h := Pp.parse_few (⟨A.toArray⟩ : ByteArray) (T := T) (by rw [ht]; exact hs) (by rw [hsz]; exact hl) (by omega) (Lib.hid fun hw => ?_) w
    · rw [hsz, hb] at h
      exact h
    · have h2 := hb
      unfold Pa.parseT Pa.outT at h2
      split at h2
      · cases h2
      · split at h2
        · cases h2
        · split at h2
          · cases h2
            exact hf
          · cases h2
/-- the arguments' own variables -/
structure Mods (w : World) (a b c d : Value) (u : World) : Prop where
  one : u.heap[w.heap.size]? = some (.cells #[a, b] 25)
  two : u.heap[w.heap.size + 1]? = some (.cells #[c, d] 25)
  low : Below w.heap.size w u
section
variable {w u u' : World} {a b c d : Value}
theorem Mods.ext (h : Mods w a b c d u) (hB : Below u.heap.size u u') : Mods w a b c d u' := ⟨(hB.block _ (Array.getElem?_eq_some_iff.1 h.one).1).trans h.one, (hB.block _ (Array.getElem?_eq_some_iff.1 h.two).1).trans h.two, h.low.trans (hB.mono h.low.size)⟩
theorem Mods.all (h : Mods w a b c d u) : u.cell? ⟨w.heap.size, 0, none⟩ = some a ∧ u.cell? ⟨w.heap.size, 1, none⟩ = some b ∧ u.cell? ⟨w.heap.size + 1, 0, none⟩ = some c ∧ u.cell? ⟨w.heap.size + 1, 1, none⟩ = some d :=
  ⟨row_cell h.one 0, row_cell h.one 1, row_cell h.two 0, row_cell h.two 1⟩
theorem mods_start (w : World) (a b c d : Value) : Mods w a b c d ((w.alloc (.cells #[a, b] 25)).alloc (.cells #[c, d] 25)) := by
  have k0 := (Below.refl _ w).alloc (Nat.le_refl _) (.cells #[a, b] 25)
  have s1 : (w.alloc (.cells #[a, b] 25)).heap.size = w.heap.size + 1 := by simp
  have k1 := k0.alloc (by omega) (.cells #[c, d] 25)
  have rw1 := heap_alloc_new (w.alloc (.cells #[a, b] 25)) (.cells #[c, d] 25)
  rw [s1] at rw1
  exact ⟨(Lib.alloc_old _ _ _ (by omega)).trans (heap_alloc_new w _), rw1, k1⟩
end
set_option maxHeartbeats 8000000 in
theorem back_more {w : World} {pb pg qb qg : Option Addr} {lb cb lg cg mb db mg dg : Nat} {m n : PModel} (hm : rModel w [.slice pb lb cb, .slice pg lg cg] m) (hn : rModel w [.slice qb mb db, .slice qg mg dg] n) (ht : Tb w.heap.size w) (hl : largeB m = true ∨ largeB n = true) :
    Calls Tryz.prog 3 #[.agg #[.slice pb lb cb, .slice pg lg cg], .agg #[.slice qb mb db, .slice qg mg dg]] w fun e w' => e = .returned (.bool true) ∧ Below w.heap.size w w' := by
  have T0 := Lib.hid (mods_start w (.slice pb lb cb) (.slice pg lg cg) (.slice qb mb db) (.slice qg mg dg))
  have AW := Lib.hid (fun (u : World) (hb : Below w.heap.size w u) => awake_any u (ht.up hb))
  have LM := Lib.hid (fun (u : World) (hb : Below w.heap.size w u) => large_any (rModel_stays _ _ _ _ hb hm))
  have LN := Lib.hid (fun (u : World) (hb : Below w.heap.size w u) => large_any (rModel_stays _ _ _ _ hb hn))
  obtain ⟨B1, hB1⟩ : ∃ b, b = largeB m := ⟨_, rfl⟩
  obtain ⟨B2, hB2⟩ : ∃ b, b = largeB n := ⟨_, rfl⟩
  rw [← hB1] at LM hl
  rw [← hB2] at LN hl
  have HL := Lib.hid hl
  clear hm hn ht hl hB1 hB2
  obtain ⟨x0, x1, x2, x3⟩ := T0.out.all
  go_enter Tryz.func3, Tryz.ntmps3
  go_wp2_with fail
  refine (AW.out _ T0.out.low).mono ?_
  rintro e w1 ⟨rfl, hB⟩
  have T1 := Lib.hid (T0.out.ext hB)
  clear hB x0 x1 x2 x3
  obtain ⟨x0, x1, x2, x3⟩ := T1.out.all
  go_wp2_with fail
  refine (LM.out _ T1.out.low).mono ?_
  rintro e w2 ⟨rfl, hB⟩
  have T2 := Lib.hid (T1.out.ext hB)
  clear hB x0 x1 x2 x3
  obtain ⟨x0, x1, x2, x3⟩ := T2.out.all
  cases B1
  · have hq : B2 = true := by rcases HL.out with h | h <;> first | exact h | cases h
    subst hq
    go_wp2_with fail
    refine (LN.out _ T2.out.low).mono ?_
    rintro e w3 ⟨rfl, hB⟩
    have T3 := Lib.hid (T2.out.ext hB)
    clear hB x0 x1 x2 x3
    go_wp2_with fail
    go_ret
    exact ⟨rfl, T3.out.low⟩
  · go_wp2_with fail
    go_ret
    exact ⟨rfl, T2.out.low⟩
set_option maxHeartbeats 16000000 in
theorem back_none {w : World} {pb pg qb qg : Option Addr} {lb cb lg cg mb db mg dg : Nat} {m n : PModel} (hm : rModel w [.slice pb lb cb, .slice pg lg cg] m) (hn : rModel w [.slice qb mb db, .slice qg mg dg] n) (ht : Tb w.heap.size w) (l1 : largeB m = false) (l2 : largeB n = false) (h1 : (textA m).1 = []) (h2 : (textA m).2 ≠ 0) :
    Calls Tryz.prog 3 #[.agg #[.slice pb lb cb, .slice pg lg cg], .agg #[.slice qb mb db, .slice qg mg dg]] w fun e w' => e = .returned (.bool true) ∧ Below w.heap.size w w' := by
  have T0 := Lib.hid (mods_start w (.slice pb lb cb) (.slice pg lg cg) (.slice qb mb db) (.slice qg mg dg))
  have AW := Lib.hid (fun (u : World) (hb : Below w.heap.size w u) => awake_any u (ht.up hb))
  have LM := Lib.hid (fun (u : World) (hb : Below w.heap.size w u) => large_any (rModel_stays _ _ _ _ hb hm))
  have LN := Lib.hid (fun (u : World) (hb : Below w.heap.size w u) => large_any (rModel_stays _ _ _ _ hb hn))
  rw [l1] at LM
  rw [l2] at LN
  have TM := Lib.hid (fun (u : World) (hb : Below w.heap.size w u) => ptext_any (rModel_stays _ _ _ _ hb hm) (few_of l1) (ht.up hb))
  have TN := Lib.hid (fun (u : World) (hb : Below w.heap.size w u) => ptext_any (rModel_stays _ _ _ _ hb hn) (few_of l2) (ht.up hb))
  obtain ⟨E, hE⟩ : ∃ E, E = (textA m).2 := ⟨_, rfl⟩
  rw [h1, ← hE] at TM
  rw [← hE] at h2
  obtain ⟨S1, _⟩ : ∃ S, S = (textA n).1 := ⟨_, rfl⟩
  have e1 : (E == 0) = false := beq_eq_false_iff_ne.2 h2
  have e2 : (E != 0) = true := by rw [bne, e1]; rfl
  have hz := eql_str [] []
  clear hm hn ht l1 l2 h1 h2 hE
  obtain ⟨x0, x1, x2, x3⟩ := T0.out.all
  go_enter Tryz.func3, Tryz.ntmps3
  go_wp2_with fail
  refine (AW.out _ T0.out.low).mono ?_
  rintro e w1 ⟨rfl, hB⟩
  have T1 := Lib.hid (T0.out.ext hB)
  clear hB x0 x1 x2 x3
  obtain ⟨x0, x1, x2, x3⟩ := T1.out.all
  go_wp2_with fail
  refine (LM.out _ T1.out.low).mono ?_
  rintro e w2 ⟨rfl, hB⟩
  have T2 := Lib.hid (T1.out.ext hB)
  clear hB x0 x1 x2 x3
  obtain ⟨x0, x1, x2, x3⟩ := T2.out.all
  go_wp2_with fail
  refine (LN.out _ T2.out.low).mono ?_
  rintro e w3 ⟨rfl, hB⟩
  have T3 := Lib.hid (T2.out.ext hB)
  clear hB x0 x1 x2 x3
  obtain ⟨x0, x1, x2, x3⟩ := T3.out.all
  go_wp2_with fail
  refine (TM.out _ T3.out.low).mono ?_
  rintro e w4 ⟨rfl, hB⟩
  have T4 := Lib.hid (T3.out.ext hB)
  clear hB x0 x1 x2 x3
  obtain ⟨x0, x1, x2, x3⟩ := T4.out.all
  go_wp2_with fail
  refine (TN.out _ T4.out.low).mono ?_
  rintro e w5 ⟨rfl, hB⟩
  have T5 := Lib.hid (T4.out.ext hB)
  clear hB x0 x1 x2 x3
  go_wp2_with fail
  go_ret
  exact ⟨rfl, T5.out.low⟩
set_option maxHeartbeats 16000000 in
theorem back_some {w : World} {pb pg qb qg : Option Addr} {lb cb lg cg mb db mg dg : Nat} {m n : PModel} (hm : rModel w [.slice pb lb cb, .slice pg lg cg] m) (hn : rModel w [.slice qb mb db, .slice qg mg dg] n) (ht : Tb w.heap.size w) (l1 : largeB m = false) (l2 : largeB n = false) (hc : checkM m = 0) (hl : (textL (nmT (namesM m)) m).length ≤ 4000) :
    Calls Tryz.prog 3 #[.agg #[.slice pb lb cb, .slice pg lg cg], .agg #[.slice qb mb db, .slice qg mg dg]] w fun e w' => e = .returned (.bool true) ∧ Below w.heap.size w w' := by
  have T0 := Lib.hid (mods_start w (.slice pb lb cb) (.slice pg lg cg) (.slice qb mb db) (.slice qg mg dg))
  have AW := Lib.hid (fun (u : World) (hb : Below w.heap.size w u) => awake_any u (ht.up hb))
  have LM := Lib.hid (fun (u : World) (hb : Below w.heap.size w u) => large_any (rModel_stays _ _ _ _ hb hm))
  have LN := Lib.hid (fun (u : World) (hb : Below w.heap.size w u) => large_any (rModel_stays _ _ _ _ hb hn))
  rw [l1] at LM
  rw [l2] at LN
  have fm := few_of l1
  have fn := few_of l2
  have TM := Lib.hid (fun (u : World) (hb : Below w.heap.size w u) => ptext_any (rModel_stays _ _ _ _ hb hm) fm (ht.up hb))
  have TN := Lib.hid (fun (u : World) (hb : Below w.heap.size w u) => ptext_any (rModel_stays _ _ _ _ hb hn) fn (ht.up hb))
  obtain ⟨A, hA⟩ : ∃ A, A = textL (nmT (namesM m)) m := ⟨_, rfl⟩
  have hans : textA m = (A, 0) := by unfold textA; rw [if_pos hc, ← hA, if_neg (by rw [hA]; omega)]
  rw [hans] at TM
  rw [← hA] at hl
  have PB := Lib.hid (fun (u : World) => parse_back hc fm hA hl u)
  have SK := Lib.hid (fun (u : World) (v1 v2 : Value) (hb : Below w.heap.size w u) (hk : rModel u [v1, v2] m) => rsame_any hk (rModel_stays _ _ _ _ hb hm) fm fm)
  have hsr : sameM m m = true := (same_eq m m).2 rfl
  rw [hsr] at SK
  have SN := Lib.hid (fun (u : World) (hb : Below w.heap.size w u) => rsame_any (rModel_stays _ _ _ _ hb hm) (rModel_stays _ _ _ _ hb hn) fm fn)
  obtain ⟨q, hq⟩ : ∃ q, q = sameM m n := ⟨_, rfl⟩
  rw [← hq] at SN
  obtain ⟨S1, hS1⟩ : ∃ S, S = (textA n).1 := ⟨_, rfl⟩
  obtain ⟨S2, hS2⟩ : ∃ S, S = (textA n).2 := ⟨_, rfl⟩
  rw [← hS1, ← hS2] at TN
  have hb1 : (A.length : Int) ≤ 4000 := by omega
  have hsz : (((⟨A.toArray⟩ : ByteArray).size : Nat) : Int) = (A.length : Int) := by simp [ByteArray.size]
  have hqq : (q == q) = true := beq_self_eq_true _
  have hcmp : S2 = 0 → binOp .eql 9 (.string ⟨A.toArray⟩) (.string ⟨S1.toArray⟩) = pure (.bool q) := fun h => by
    have hcn : checkM n = 0 := by
      by_cases e : checkM n = 0
      · exact e
      · rw [hS2] at h
        unfold textA at h
        rw [if_neg e] at h
        exact absurd h e
    have hbn : ¬ 4000 < (textL (nmT (namesM n)) n).length := fun e => by
      rw [hS2] at h
      unfold textA at h
      rw [if_pos hcn, if_pos e] at h
      exact absurd h (by decide)
    have hs : S1 = textL (nmT (namesM n)) n := by rw [hS1]; unfold textA; rw [if_pos hcn, if_neg hbn]
    rw [eql_str, hA, hs, text_one hc hcn, hq]
  have HC := Lib.hid hcmp
  have HM := Lib.hid hm
  clear hm hn ht l1 l2 hc hl fm fn hA hans hsr hq hS1 hS2 hcmp
  obtain ⟨x0, x1, x2, x3⟩ := T0.out.all
  go_enter Tryz.func3, Tryz.ntmps3
  go_wp2_with fail
  refine (AW.out _ T0.out.low).mono ?_
  rintro e w1 ⟨rfl, hB⟩
  have T1 := Lib.hid (T0.out.ext hB)
  clear hB x0 x1 x2 x3
  obtain ⟨x0, x1, x2, x3⟩ := T1.out.all
  go_wp2_with fail
  refine (LM.out _ T1.out.low).mono ?_
  rintro e w2 ⟨rfl, hB⟩
  have T2 := Lib.hid (T1.out.ext hB)
  clear hB x0 x1 x2 x3
  obtain ⟨x0, x1, x2, x3⟩ := T2.out.all
  go_wp2_with fail
  refine (LN.out _ T2.out.low).mono ?_
  rintro e w3 ⟨rfl, hB⟩
  have T3 := Lib.hid (T2.out.ext hB)
  clear hB x0 x1 x2 x3
  obtain ⟨x0, x1, x2, x3⟩ := T3.out.all
  go_wp2_with fail
  refine (TM.out _ T3.out.low).mono ?_
  rintro e w4 ⟨rfl, hB⟩
  have T4 := Lib.hid (T3.out.ext hB)
  clear hB x0 x1 x2 x3
  obtain ⟨x0, x1, x2, x3⟩ := T4.out.all
  go_wp2_with fail
  refine (TN.out _ T4.out.low).mono ?_
  rintro e w5 ⟨rfl, hB⟩
  have T5 := Lib.hid (T4.out.ext hB)
  clear hB x0 x1 x2 x3
  obtain ⟨x0, x1, x2, x3⟩ := T5.out.all
  go_wp2_with fail
  refine (PB.out _).mono ?_
  rintro e w6 ⟨hB, p1, k1, j1, p2, k2, j2, rfl, hk, _⟩
  have T6 := T5.out.ext hB
  have k7 := (Below.refl _ w6).alloc (Nat.le_refl _) (.cells #[.slice p1 k1 j1, .slice p2 k2 j2] 25)
  have r7 := heap_alloc_new w6 (.cells #[.slice p1 k1 j1, .slice p2 k2 j2] 25)
  have T7 := Lib.hid (T6.ext k7)
  have HK := Lib.hid (rModel_stays _ _ _ _ k7 hk)
  have R7 := Lib.hid r7
  have z0 : (w6.alloc (.cells #[.slice p1 k1 j1, .slice p2 k2 j2] 25)).cell? ⟨w6.heap.size, 0, none⟩ = some (.slice p1 k1 j1) := row_cell r7 0
  have z1 : (w6.alloc (.cells #[.slice p1 k1 j1, .slice p2 k2 j2] 25)).cell? ⟨w6.heap.size, 1, none⟩ = some (.slice p2 k2 j2) := row_cell r7 1
  have hlt := (Array.getElem?_eq_some_iff.1 T6.one).1
  have hne : w.heap.size ≠ w6.heap.size := by omega
  have hlt1 : w.heap.size < w6.heap.size + 1 := by omega
  clear hB hk T6 k7 r7 x0 x1 x2 x3
  obtain ⟨x0, x1, x2, x3⟩ := T7.out.all
  go_wp2_with fail
  refine (SK.out _ _ _ T7.out.low HK.out).mono ?_
  rintro e w8 ⟨rfl, hB⟩
  have T8 := Lib.hid (T7.out.ext hB)
  clear hB x0 x1 x2 x3 z0 z1
  obtain ⟨x0, x1, x2, x3⟩ := T8.out.all
  by_cases hS : S2 = 0
  · have hcc := HC.out hS
    have s1 : (S2 == 0) = true := beq_iff_eq.2 hS
    have s2 : (S2 != 0) = false := by rw [bne, s1]; rfl
    clear hS
    go_wp2_with fail
    refine (SN.out _ T8.out.low).mono ?_
    rintro e w9 ⟨rfl, hB⟩
    have T9 := Lib.hid (T8.out.ext hB)
    clear hB x0 x1 x2 x3
    go_wp2_with fail
    go_ret
    exact ⟨rfl, T9.out.low⟩
  · have s1 : (S2 == 0) = false := beq_eq_false_iff_ne.2 hS
    have s2 : (S2 != 0) = true := by rw [bne, s1]; rfl
    clear hS
    go_wp2_with fail
    go_ret
    exact ⟨rfl, T8.out.low⟩
theorem back_any {w : World} {bv gv bv' gv' : Value} {m n : PModel} (hm : rModel w [bv, gv] m) (hn : rModel w [bv', gv'] n) (ht : Tb w.heap.size w) : Calls Tryz.prog 3 #[.agg #[bv, gv], .agg #[bv', gv']] w fun e w' => e = .returned (.bool true) ∧ Below w.heap.size w w' := by
  have shape : ∀ {a b : Value} {k : PModel}, rModel w [a, b] k → (∃ p l c, a = .slice p l c) ∧ ∃ p l c, b = .slice p l c := fun {a b k} ⟨z1, z2, e0, b1, b2⟩ => by
    simp only [List.cons.injEq, and_true] at e0
    obtain ⟨rfl, rfl⟩ := e0
    exact ⟨slc_shape b1, slc_shape b2⟩
  obtain ⟨⟨pb, lb, cb, rfl⟩, ⟨pg, lg, cg, rfl⟩⟩ := shape hm
  obtain ⟨⟨qb, mb, db, rfl⟩, ⟨qg, mg, dg, rfl⟩⟩ := shape hn
  cases l1 : largeB m
  · cases l2 : largeB n
    · by_cases hc : checkM m = 0
      · by_cases hl : (textL (nmT (namesM m)) m).length ≤ 4000
        · exact back_some hm hn ht l1 l2 hc hl
        · have e : textA m = ([], 5) := by unfold textA; rw [if_pos hc, if_pos (by omega)]
          exact back_none hm hn ht l1 l2 (by rw [e]) (by rw [e]; decide)
      · have e : textA m = ([], checkM m) := by unfold textA; rw [if_neg hc]
        exact back_none hm hn ht l1 l2 (by rw [e]) (by rw [e]; exact hc)
    · exact back_more hm hn ht (.inr l2)
  · exact back_more hm hn ht (.inl l1)
end Go.Proofs.YtkgieaoahijheaaGreatDoor.Wt
namespace Go.Proofs.YtkgieaoahijheaaGreatDoor
open Go.ChangeShapes Go.WideShapes Go.ChangeAt Go.RowKit
set_option maxRecDepth 100000

section
variable {H : Type} {enc : TypeId × Value → H} {W : World} {base : Nat} {v : Value} {d : DataW H} {ps : List MemPlace}
theorem array_of_list {cs : Array Value} {l : List Value} (h : cs.toList = l) : cs = l.toArray := by
  subst h
  simp
/-- a model that came in -/
theorem openM (hval : Value.okWide Tryz.prog W .any base 25 v) (h : DataW.Trod enc Tryz.prog W 0 (fun _ => true) true 25 v d ps) : ∃ v1 v2 m, v = .agg #[v1, v2] ∧ rModel W [v1, v2] m := by
  obtain ⟨cs, rfl, _⟩ := okWide_struct Tryz.underlying25 hval
  obtain ⟨m, hm⟩ := openedM h
  have hm2 : rModel W cs.toList m := hm
  have hm3 := hm2
  obtain ⟨v1, v2, e, _⟩ := hm2
  rw [e] at hm3
  exact ⟨v1, v2, m, by rw [array_of_list e], hm3⟩
/-- a constraint that came in -/
theorem openC (hval : Value.okWide Tryz.prog W .any base 38 v) (h : DataW.Trod enc Tryz.prog W 0 (fun _ => true) true 38 v d ps) : ∃ (c : PCon) (v1 v2 v3 : Value), v = .agg #[.int .i64 c.kind, v1, v2, .int .i64 c.rel, .int .i64 c.const, v3] ∧ rCon W [.int .i64 c.kind, v1, v2, .int .i64 c.rel, .int .i64 c.const, v3] c := by
  obtain ⟨cs, rfl, _⟩ := okWide_struct Tryz.underlying38 hval
  obtain ⟨c, hm⟩ := openedC h
  have hm2 : rCon W cs.toList c := hm
  have hm3 := hm2
  obtain ⟨v1, v2, v3, e, _⟩ := hm2
  rw [e] at hm3
  exact ⟨c, v1, v2, v3, by rw [array_of_list e], hm3⟩
end
end Go.Proofs.YtkgieaoahijheaaGreatDoor
namespace Go.Proofs.YtkgieaoahijheaaGreatDoor
open Go.ChangeShapes Go.WideShapes Go.ChangeAt Go.RowKit

section
variable {H : Type} {enc : TypeId × Value → H} {P : Program}

/-- a reading of values stays, where what it reads of memory has stayed -/
theorem trodAll_stays {W W' : World} {sp : Nat → Bool} (K : Kids P (· < P.types.size)) (hz : ∀ t e, t < P.types.size → P.underlying t = some (.slice e) → 0 < P.cellsOf e) :
    ∀ {ts : List TypeId} {vs : List Value} {ds : List (DataW H)} {ps : List MemPlace}, (∀ t ∈ ts, t < P.types.size) → DataW.TrodAll enc P W 0 (fun _ => true) true ts vs ds ps →
      (∀ p ∈ ps, W.sameAt W' p) → (∀ p ∈ ps, sp p.block = true) → DataW.TrodAll enc P W' 0 sp true ts vs ds ps
  | [], vs, ds, ps, _, h, _, _ => by
    obtain ⟨rfl, rfl, rfl⟩ := trodAll_nil h
    exact trodAll_mk0
  | t :: ts, vs, ds, ps, hT, h, hs, hp => by
    obtain ⟨v, vs1, d, ds1, a, b, rfl, rfl, rfl, ⟨n, h1⟩, h2⟩ := trodAll_cons h
    refine ⟨a, b, ⟨n, DataW.trod_stays K (fun {t e} => hz t e) (fun x => Bool.noConfusion x) (hT t (by simp)) h1 (fun p q => hs p (by simp [q])) (fun p q => hp p (by simp [q]))⟩, ?_, rfl⟩
    exact trodAll_stays K hz (fun t q => hT t (by simp [q])) h2 (fun p q => hs p (by simp [q])) (fun p q => hp p (by simp [q]))

theorem law_post {f : Func} {s : ChangeSpec} {apart fresh handsOn again : Bool} {W W' : World} {args : Array Value} {ds gs : List (DataW H)} {before : List MemPlace} {tb : TypeId}
    (K : Kids P (· < P.types.size)) (hz : ∀ t e, t < P.types.size → P.underlying t = some (.slice e) → 0 < P.cellsOf e) (hT : ∀ t ∈ f.params.toList, t < P.types.size)
    (hr : f.resultTypes = #[tb]) (ht : P.underlying tb = some .bool) (hv : s.vars = [])
    (hfn : s.fn H (ds ++ []) = { results := [.lit (.bool true)], args := ds })
    (hW : DataW.Whole enc P f.params.toList s.vars apart W args.toList ds gs before) (hb : Below W.heap.size W W') :
    s.post enc P f apart fresh handsOn again W args (.bool true) W' := by
  have hlt : ∀ p ∈ before, p.block < W.heap.size := fun p hp => hW.lt p hp
  have hW0 := hW
  obtain ⟨p, q, hA, hV, rfl, hfz, hnd⟩ := hW
  rw [hv] at hV
  obtain ⟨rfl, rfl⟩ := trodVars_none hV
  rw [List.append_nil] at hlt hfz hnd hW0
  have again' : ∀ sp : Nat → Bool, (∀ x ∈ p, sp x.block = true) → DataW.TrodAll enc P W' 0 sp true f.params.toList args.toList ds p := fun sp hsp =>
    trodAll_stays K hz hT hA (fun x hx => hb.same (hlt x hx)) hsp
  have hres : ∀ (b : Nat) (sp : Nat → Bool) (hd : Bool), DataW.TrodAll enc P W' b sp hd f.resultTypes.toList ((Value.bool true).resultList f.resultTypes.size) [.lit (.bool true)] [] := fun b sp hd => by
    rw [hr]; exact trodAll_cons_mk (shut_bool ht _) trodAll_mk0
  have hnone : ∀ sp : Nat → Bool, DataW.TrodVars enc P W' sp s.vars [] [] := fun sp => by rw [hv]; rfl
  refine ⟨ds, [], p, [], p, [], hW0, ?_, ?_, ?_, World.keptBut_mono (fun x hx => ⟨hx, Or.inr (Or.inl hx)⟩) (hb.frame (· ∈ p)), fun _ => ⟨?_, ?_⟩⟩
  · rw [hfn]; exact hres _ _ _
  · rw [hfn]; exact again' _ (fun x hx => by simpa using hlt x hx)
  · rw [hfn]; exact hnone _
  · exact ok_one hr rfl (okWide_bool_mk ht _)
  · refine ⟨_, [], [] ++ p, ⟨[] ++ p, [], trodAll_append (again' _ (fun _ _ => rfl)) (hres _ _ _), hnone _, (List.append_nil _).symm, ?_, ?_⟩, ?_⟩
    · intro b off hp
      rw [hb.frozen (hlt _ (by simpa using hp))]
      exact hfz b off (by simpa using hp)
    · intro ha
      simpa using hnd ha
    · intro x hx _
      simpa using hx
end
end Go.Proofs.YtkgieaoahijheaaGreatDoor
namespace Go.Proofs.YtkgieaoahijheaaGreatDoor
open Go.ChangeShapes Go.WideShapes Go.ChangeAt Go.WideMaps Go.WideElems Go.RowKit

theorem own : ownKnob Tryz.prog.godebug = none := by kernel_rfl
theorem gTab : Tryz.prog.globalNamed "internal/strconv.uint64pow10" = some 1 := by kernel_rfl
theorem tTab : (Tryz.prog.globals[1]?).map (·.type) = some 148 := by kernel_rfl
theorem cellsTab : Tryz.prog.cellsOf 148 = 20 := by kernel_rfl
theorem cellsU : Tryz.prog.cellsOf 141 = 1 := by kernel_rfl

/-- what the rows list -/
def laid3 : List (String × DataW Unit) := [("math/bits.deBruijn32tab", Rows.laid_math_bits_deBruijn32tab), ("math/bits.deBruijn64tab", Rows.laid_math_bits_deBruijn64tab), ("internal/strconv.uint64pow10", Rows.laid_internal_strconv_uint64pow10)]

theorem tab_data : (Rows.laid_internal_strconv_uint64pow10 : DataW Unit) = Lib.tabData .u64 Lib.pow10Tab := by kernel_rfl

theorem door_met (os : Os) (args : Array Value) : laidMetH Tryz.prog laid3 ((World.doorLaid Tryz.prog 24 os).forCall (fun _ _ => 0) ⟨#[], args, []⟩).memory :=
  laidMetH_of_parts3 (fuel := 8) (laidMet_of_run' 8 (by kernel_rfl) (by kernel_rfl)) (by kernel_rfl) (by kernel_rfl)

theorem tab_of {W : World} (h : laidMetH Tryz.prog laid3 W) : Wt.Tb W.heap.size W := by
  rw [MakeChecks.laidMetH_plain _ _ _ (by kernel_rfl)] at h
  unfold laid3 at h
  have h2 := h.tail.tail
  rw [tab_data] at h2
  have hv := Lib.tabIs_of_head gTab tTab Tryz.underlying148 Tryz.underlying141 cellsU cellsTab h2
  refine ⟨1, gTab, ?_, hv⟩
  have h0 := hv.cell gTab 0 (by decide)
  unfold World.cell? at h0
  cases hh : W.heap[1]? with
  | none => simp [hh] at h0
  | some q => exact (Array.getElem?_eq_some_iff.1 hh).1

theorem kids : Kids Tryz.prog (· < Tryz.prog.types.size) := kids_rows (by kernel_rfl) (by kernel_rfl)
theorem full : ∀ t e, t < Tryz.prog.types.size → Tryz.prog.underlying t = some (.slice e) → 0 < Tryz.prog.cellsOf e := slices_full_of Tryz.prog (by kernel_rfl)
end Go.Proofs.YtkgieaoahijheaaGreatDoor
