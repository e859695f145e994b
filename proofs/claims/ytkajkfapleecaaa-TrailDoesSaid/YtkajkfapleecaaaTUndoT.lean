/-
  What Undo does to a trail, cells of type ByteArray.
-/
import Derived.Test.YtkajkfapleecaaaTSaveT
import Derived.Laws.IdiomRangeMap
namespace Go.Proofs.Ytkajkfapleecaaa
open Go.RowKit

theorem undo_none_text {M : Nat} {w : World} {F : List Nat} {a : Nat} {σ : Tr ByteArray} (h : Attext M w F a σ) (ht : σ.top = 0) :
    Calls Try.prog 25 #[.pointer (some ⟨a, 0, none⟩)] w fun e w' => e = .returned (.int .i64 9) ∧ w = w' := by
  obtain ⟨bc, bh, cap, ms, gs, hP, rfl⟩ := h
  have c2 := hP.c2
  rw [ht] at c2
  have HP := Lib.hid hP
  clear hP ht
  go_enter Try.func25, Try.ntmps25
  go_wp2_with fail
  go_ret
  exact ⟨rfl, rfl⟩

/-- how far it is turned back: the cells whose entries are still to come have what they had -/
def Backtext (σ : Tr ByteArray) (bc b r c : Nat) (w : World) (D : DataW ByteArray) (left : Lit → Bool) (cnt : Nat) (wr : World) : Prop :=
  wr.ranges Try.prog 3 texts.rd b r c D left cnt ∧ CellsAt texts 77 σ.n wr bc (fun i => if left (.int .i64 (i : Int)) = true then σ.cur i else σ.old σ.top i) (fun i => if left (.int .i64 (i : Int)) = true then σ.st i else σ.undo.st i) ∧ Turn [bc] w wr ∧ ∀ kl, left kl = true → Maps.has D kl = true

theorem cells_congr_text {n : Nat} {w : World} {bc : Nat} {cur cur' : Nat → ByteArray} {st st' : Nat → Int} (h : CellsAt texts 77 n w bc cur st) (h1 : ∀ i, i < n → cur' i = cur i) (h2 : ∀ i, i < n → st' i = st i) : CellsAt texts 77 n w bc cur' st' := by
  obtain ⟨cc, e1, e2, e3⟩ := h
  exact ⟨cc, e1, e2, fun i hi => by rw [h1 i hi, h2 i hi]; exact e3 i hi⟩
theorem undo_st_text (σ : Tr ByteArray) (i : Nat) (h : σ.cur i = σ.old σ.top i) : σ.undo.st i = σ.st i := by
  show (if ¬ σ.cur i = σ.old σ.top i then σ.st i + 1 else σ.st i) = σ.st i
  rw [if_neg (by simpa using h)]

set_option maxRecDepth 100000 in
set_option maxHeartbeats 1600000 in
theorem undo_some_text {M : Nat} {w : World} {a bc bh cap b : Nat} {ms : List (Option Nat)} {gs : Nat → Nat → Option ByteArray} {σ : Tr ByteArray} (hP : Partstext M w a bc bh cap ms gs σ) (ht0 : 0 < σ.top) (hM : M ≤ 1000000) (hk : ms[σ.top]? = some (some b)) (hst : ∀ j, 0 ≤ σ.st j ∧ σ.st j ≤ 1000000) :
    Calls Try.prog 25 #[.pointer (some ⟨a, 0, none⟩)] w (Doestext M w (a :: bc :: bh :: blocks ms) a σ.undo (.returned (.int .i64 0))) := by
  have hmm := hP.most
  have htm := hP.tops
  have hh := hP.hc htm
  rw [hk] at hh
  have c1 := hP.c1
  have c2 := hP.c2
  obtain ⟨m, hm⟩ : ∃ m, m = ms.length := ⟨_, rfl⟩
  obtain ⟨t, ht⟩ : ∃ t, t = σ.top := ⟨_, rfl⟩
  rw [← hm] at c1 htm hmm
  rw [← ht] at c2 hh htm ht0
  have h1 : (0 : Int) ≤ (t : Int) := by omega
  have h2 : (t : Int) ≤ 1000000 := by omega
  have h3 : (t : Int) < (m : Int) := by omega
  have h4 : ((t : Int) == 0) = false := by simp; omega
  have HP := Lib.hid hP
  have HM := Lib.hid hm
  have HT := Lib.hid ht
  have HK := Lib.hid hk
  have HS := Lib.hid hst
  clear hP hm ht hk hM hmm hst
  go_enter Try.func25, Try.ntmps25
  go_wp2
  go_quiet (fail)
  have hP1 := HP.out.drewN nq
  have HP1 := Lib.hid hP1
  obtain ⟨D, hown, hsays, hdom⟩ := hP1.maps σ.top b HK.out
  have HD := Lib.hid hsays
  have Hdom := Lib.hid hdom
  clear hP1 hsays hdom
  go_wp2_with (first
    | (at_range; refine wpList_range_own _ rfl _ 74 rfl 3 9 (Maps.int_keyed undk_text) und_text texts.rd b _ D rfl hown ?_; intro w0 hrg0 hg0 hs0)
    | go_in)
  have hsz : (w.drewN nq).heap.size = w.heap.size := rfl
  rw [hsz] at hrg0
  go_frame
  simp only [hsz]
  have hb2 := HP.out.ne2 HK.out
  have hlt := HP.out.lts
  have hne := HP.out.ne1
  have hTd : Turn [bc] w w0 := ((Turn.refl [bc] w).drewN nq).grown hg0 (by simp)
  have hc0 : CellsAt texts 77 σ.n w0 bc (fun i => if Maps.has D (.int .i64 (i : Int)) = true then σ.cur i else σ.old σ.top i) (fun i => if Maps.has D (.int .i64 (i : Int)) = true then σ.st i else σ.undo.st i) := by
    have e : ∀ i, i < σ.n → Maps.has D (.int .i64 (i : Int)) = false → σ.cur i = σ.old σ.top i := by
      intro i hi hn
      have h5 := HP.out.olds σ.top (Nat.le_refl _) i hi
      rw [if_pos rfl] at h5
      rw [HD.out.has i] at hn
      rw [h5]
      cases hg : gs σ.top i with
      | none => rfl
      | some x => rw [hg] at hn; cases hn
    refine cells_congr_text (HP1.out.cells.of_block (hg0.block bc (hlt bc (by simp)) (by simp))) (fun i hi => ?_) (fun i hi => ?_)
    · cases hn : Maps.has D (.int .i64 (i : Int)) with
      | true => simp
      | false => simpa using (e i hi hn).symm
    · cases hn : Maps.has D (.int .i64 (i : Int)) with
      | true => simp
      | false => simpa using undo_st_text σ i (e i hi hn)
  have HB0 := Lib.hid (show Backtext σ bc b w.heap.size _ w D (Maps.has D) (Maps.size D) w0 from ⟨hrg0, hc0, hTd, fun _ h => h⟩)
  have HB2 := Lib.hid hb2
  have HL := Lib.hid hlt
  have HN := Lib.hid hne
  clear hb2 hlt hne hTd hc0 hrg0 hg0 hs0 hown hsz hh c1 c2
  go_loopw [4] (fun _ wr => ∃ (left : Lit → Bool) (cn : Nat), Backtext σ bc b w.heap.size (cnt (gs σ.top) σ.n) w D left cn wr) (fun _ wr => wr.rangeLeft b w.heap.size)
  case atStart => exact ⟨_, _, HB0.out⟩
  case round =>
    obtain ⟨left, cn, hrg, hcell, hTw, hleft⟩ := hrel
    have HC := Lib.hid hcell
    have HTw := Lib.hid hTw
    have HLe := Lib.hid hleft
    clear hcell hTw hleft HB0
    go_wp2_with (first
      | (at_next; refine wpList_next_ranges _ rfl _ rfl 3 (Maps.int_keyed undk_text) texts.rd (Value.int .i64) (Value.string) (fun key kl hkey => by obtain ⟨x, rfl, _⟩ := Maps.keyOf_int_inv undk_text hkey; exact ⟨x, rfl⟩) (fun v y hv => by obtain ⟨c, rfl, _⟩ := texts.rd_inv hv; exact ⟨c, rfl⟩) b w.heap.size _ D left cn rfl hrg ?_ ?_)
      | go_in)
    · intro _ hl0
      have hc1 : CellsAt texts 77 σ.n wr bc (σ.old σ.top) σ.undo.st := cells_congr_text HC.out (fun i hi => by rw [hl0]; rfl) (fun i hi => by rw [hl0]; rfl)
      have hmap : MapAt Try.prog 3 texts σ.n wr b (gs σ.top) := (HP.out.maps σ.top b HK.out).turn HTw.out (by simpa using HB2.out.2.1)
      obtain ⟨w2, hrun, hmap2, hT2⟩ := hmap.clear (mt := 74) (et := 9) und_text 0
      have hP3 : Partstext M (w2.setCell ⟨a, 2, none⟩ (.int .i64 ((t : Int) - 1))) a bc bh cap ms (setAt gs σ.top (fun _ => none)) σ.undo :=
        HP.out.undo (by rw [← HT.out]; exact ht0) hc1 HTw.out rfl (fun b' e => by rw [HK.out] at e; cases e; exact ⟨hmap2, hT2⟩) (fun h => (h b HK.out).elim) _ (by rw [← HT.out]; omega)
      have hTa : Turn [bc, b] w w2 := (HTw.out.sub (by simp)).trans hT2 (by simp)
      have d2 : w2.cell? ⟨a, 2, none⟩ = some (.int .i64 (t : Int)) := by
        have e1 := HP.out.c2
        rw [← HT.out] at e1
        exact hTa.cell e1 (by simp [HN.out.1, HB2.out.1.symm])
      have f2 : w2.frozen? ⟨a, 2, none⟩ = false := by
        rw [World.frozen?_of_block (w := w) (hTa.block a (HL.out a (by simp)) (by simp [HN.out.1, HB2.out.1.symm]))]
        exact HP.out.f 2
      have HP3 := Lib.hid hP3
      have HTa := Lib.hid hTa
      clear hc1 hmap hmap2 hT2 hP3 hTa hrg hl0
      go_wp2
      go_ret
      refine ⟨rfl, _, ⟨bc, bh, cap, ms, _, HP3.out, rfl⟩, (HTa.out.sub (S' := a :: bc :: bh :: blocks ms) (by
        intro y hy
        simp only [List.mem_cons, List.not_mem_nil, or_false] at hy
        rcases hy with rfl | rfl
        · simp
        · simp [mem_blocks HK.out])).setCell (.inl (by simp)) _, fun b hb => .inl hb⟩
    · intro x c kl yd yp w1 cnt1 hkey hlx hy hat hrg1 hlt1 hg1 hs1 hen
      obtain ⟨x', e1, rfl, _⟩ := Maps.keyOf_int_inv undk_text hkey
      obtain rfl : x = x' := by injection e1
      obtain ⟨i, v, e2, hgi⟩ := HD.out.2 _ (HLe.out _ hlx)
      obtain rfl : x = (i : Int) := by injection e2
      have hi := Hdom.out i v hgi
      obtain rfl : c = v := by
        obtain ⟨c', e3, e4⟩ := texts.rd_inv hy
        have e5 := texts.inj (show texts.enc c = texts.enc c' from e3)
        have e6 := (HD.out.1 i v hgi).2 .nil
        rw [hat .nil, (Prod.mk.inj e4).1] at e6
        injection e6 with e6
        rw [e5, e6]
      have hT1 : Turn [bc] w w1 := HTw.out.grown hg1 (fun k e => by cases e; exact .inr (Nat.le_refl _))
      have hbc : bc < w.heap.size := HL.out bc (by simp)
      have hc1 := HC.out.of_block (hg1.block bc (Nat.lt_of_lt_of_le hbc HTw.out.size) (by simp; omega))
      have c0 : w1.cell? ⟨a, 0, none⟩ = some (.slice (some ⟨bc, 0, none⟩) σ.n σ.n) := hT1.cell HP.out.c0 (by simpa using HN.out.1)
      have HG := Lib.hid hgi
      have HT1 := Lib.hid hT1
      have Hc1 := Lib.hid hc1
      have Hc0 := Lib.hid c0
      have HR1 := Lib.hid hrg1
      have HR0 := Lib.hid hrg
      have HY := Lib.hid hlx
      have HI := Lib.hid hi
      have Hcn := Lib.hid hlt1
      clear hgi hT1 hc1 c0 hlt1 hrg hy hi hg1 hrg1 hat hlx e1 e2 hs1 hbc hkey
      go_wp2_with (go_at_call 37; refine (put_text Hc0.out Hc1.out HN.out.1 HI.out ?_ _).mono ?_)
      · exact HS.out i
      · rintro e w2 ⟨rfl, hc2, hT2⟩
        have hR2 := HR1.out.kept (grown_of_turn hT2) (by simp [HB2.out.2.1]) (by have := HL.out bc (by simp); simp; omega)
        have hc3 : CellsAt texts 77 σ.n w2 bc (fun j => if (left (.int .i64 (j : Int)) && !(Lit.int .i64 (j : Int)).sameKey (.int .i64 (i : Int))) = true then σ.cur j else σ.old σ.top j) (fun j => if (left (.int .i64 (j : Int)) && !(Lit.int .i64 (j : Int)).sameKey (.int .i64 (i : Int))) = true then σ.st j else σ.undo.st j) := by
          have hold : σ.old σ.top i = c := by
            have h5 := HP.out.olds σ.top (Nat.le_refl _) i HI.out
            rw [HG.out] at h5
            exact h5
          refine cells_congr_text hc2 (fun j hj => ?_) (fun j hj => ?_)
          · by_cases e : j = i
            · subst e
              rw [setAt, if_pos rfl, WideAt.sameKey_self (by simp [WideAt.IsKeyLit])]
              simpa using hold
            · rw [setAt, if_neg e, Maps.sameKey_ne (fun e1 => e (by injection e1 with _ e2; omega))]
              simp
          · by_cases e : j = i
            · subst e
              rw [WideAt.sameKey_self (by simp [WideAt.IsKeyLit])]
              simp only [bump, HY.out, Bool.not_true, Bool.and_false, Bool.false_eq_true, if_false, if_true, true_and]
              show (if ¬ σ.cur j = σ.old σ.top j then σ.st j + 1 else σ.st j) = _
              rw [hold]
            · rw [Maps.sameKey_ne (fun e1 => e (by injection e1 with _ e2; omega))]
              simp [bump, e]
        have HF := Lib.hid (show Backtext σ bc b w.heap.size (cnt (gs σ.top) σ.n) w D (fun z => left z && !z.sameKey (.int .i64 (i : Int))) cnt1 w2 from ⟨hR2, hc3, HT1.out.trans hT2 (fun y hy => .inl hy), fun kl h => HLe.out kl (by simp at h; exact h.1)⟩)
        clear hR2 hc3 hc2 hT2
        go_wp2_with fail
        go_roundw
        case rel => exact ⟨_, _, HF.out⟩
        case measure =>
          rw [HF.out.1.left_eq, HR0.out.left_eq]
          exact Hcn.out

set_option maxRecDepth 100000 in
set_option maxHeartbeats 1600000 in
theorem undo_nil_text {M : Nat} {w : World} {a bc bh cap : Nat} {ms : List (Option Nat)} {gs : Nat → Nat → Option ByteArray} {σ : Tr ByteArray} (hP : Partstext M w a bc bh cap ms gs σ) (ht0 : 0 < σ.top) (hM : M ≤ 1000000) (hk : ms[σ.top]? = some none) :
    Calls Try.prog 25 #[.pointer (some ⟨a, 0, none⟩)] w (Doestext M w (a :: bc :: bh :: blocks ms) a σ.undo (.returned (.int .i64 0))) := by
  have hmm := hP.most
  have htm := hP.tops
  have hh := hP.hc htm
  rw [hk] at hh
  have c1 := hP.c1
  have c2 := hP.c2
  have f2 := hP.f 2
  have hlt := hP.lts a (by simp)
  obtain ⟨m, hm⟩ : ∃ m, m = ms.length := ⟨_, rfl⟩
  obtain ⟨t, ht⟩ : ∃ t, t = σ.top := ⟨_, rfl⟩
  rw [← hm] at c1 htm hmm
  rw [← ht] at c2 hh htm ht0
  have h1 : (0 : Int) ≤ (t : Int) := by omega
  have h2 : (t : Int) ≤ 1000000 := by omega
  have h3 : (t : Int) < (m : Int) := by omega
  have h4 : ((t : Int) == 0) = false := by simp; omega
  have HP := Lib.hid hP
  have HM := Lib.hid hm
  have HT := Lib.hid ht
  have HK := Lib.hid hk
  have HL := Lib.hid hlt
  clear hP hm ht hk hM hmm hlt
  go_enter Try.func25, Try.ntmps25
  go_wp2
  go_quiet (fail)
  have hrg := run_range_nilMap (P := Try.prog) (w.drewN nq) 74 3 9 und_text
  have hnx : ∀ ty, (Instr.next (.pointer (some ⟨(w.drewN nq).heap.size, 0, none⟩)) false ty).run Try.prog ((w.drewN nq).alloc (.mapIter none 0 #[] 0)) = _ := fun ty => run_next_nilMap (w.drewN nq) ty 0 0 #[]
  have hcl : ∀ (ty : TypeId) (w : World), (Builtin.clear_ #[74] ty #[.map none]).run Try.prog w = .ok (.tuple #[]) w := fun ty w => by
    simp [Builtin.clear_, run_underlying und_text, Result.andThen]
  have hsz : (w.drewN nq).heap.size = w.heap.size := rfl
  rw [hsz] at hrg hnx
  have HSZ := Lib.hid hsz
  have hT : Turn [] w ((w.drewN nq).alloc (.mapIter none 0 #[] 0)) := ((Turn.refl _ _).drewN nq).alloc _
  have e2 : ((w.drewN nq).alloc (.mapIter none 0 #[] 0)).cell? ⟨a, 2, none⟩ = some (.int .i64 (t : Int)) := hT.cell c2 (by simp)
  have g2 : ((w.drewN nq).alloc (.mapIter none 0 #[] 0)).frozen? ⟨a, 2, none⟩ = false := by
    rw [World.frozen?_of_block (w := w) (hT.block a HL.out (by simp))]
    exact f2
  have hP2 := HP.out.turn hT (by simp)
  have hg0 : gs σ.top = fun _ => none := HP.out.nils σ.top (fun b e => by rw [HK.out] at e; cases e)
  have hold : ∀ i, i < σ.n → σ.cur i = σ.old σ.top i := by
    intro i hi
    have h5 := HP.out.olds σ.top (Nat.le_refl _) i hi
    rw [if_pos rfl, hg0] at h5
    exact h5.symm
  have hc1 : CellsAt texts 77 σ.n ((w.drewN nq).alloc (.mapIter none 0 #[] 0)) bc (σ.old σ.top) σ.undo.st := cells_congr_text hP2.cells (fun i hi => (hold i hi).symm) (fun i hi => undo_st_text σ i (hold i hi))
  have hP3 : Partstext M (((w.drewN nq).alloc (.mapIter none 0 #[] 0)).setCell ⟨a, 2, none⟩ (.int .i64 ((t : Int) - 1))) a bc bh cap ms (setAt gs σ.top (fun _ => none)) σ.undo :=
    HP.out.undo (by rw [← HT.out]; exact ht0) hc1 (hT.sub (by simp)) rfl (fun b e => by rw [HK.out] at e; cases e) (fun _ => rfl) _ (by rw [← HT.out]; omega)
  have HP3 := Lib.hid hP3
  have HTT := Lib.hid hT
  clear hP2 hg0 hold hc1 hP3 hT hsz
  go_wp2
  refine wp_loop_rounds 1 ?_
  rw [rounds_succ]
  go_wp2
  go_ret
  exact ⟨rfl, _, ⟨bc, bh, cap, ms, _, HP3.out, rfl⟩, (HTT.out.sub (S' := a :: bc :: bh :: blocks ms) (by simp)).setCell (.inl (by simp)) _, fun b hb => .inl hb⟩

theorem undo_text {M : Nat} {w : World} {F : List Nat} {a : Nat} {σ : Tr ByteArray} (h : Attext M w F a σ) (ht0 : 0 < σ.top) (hM : M ≤ 1000000) (hst : ∀ j, 0 ≤ σ.st j ∧ σ.st j ≤ 1000000) :
    Calls Try.prog 25 #[.pointer (some ⟨a, 0, none⟩)] w (Doestext M w F a σ.undo (.returned (.int .i64 0))) := by
  obtain ⟨bc, bh, cap, ms, gs, hP, rfl⟩ := h
  have htm := hP.tops
  obtain ⟨o, ho⟩ : ∃ o, ms[σ.top]? = some o := ⟨_, List.getElem?_eq_getElem htm⟩
  cases o with
  | none => exact undo_nil_text hP ht0 hM ho
  | some b => exact undo_some_text hP ht0 hM ho hst
end Go.Proofs.Ytkajkfapleecaaa
