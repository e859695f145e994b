/-
  What Save does to a trail, cells of type ByteArray.
-/
import Derived.Test.YtkajkfapleecaaaTSetT
import Derived.Deep.AppendLies
namespace Go.Proofs.Ytkajkfapleecaaa
open Go.RowKit

theorem undh_text : Try.prog.underlying 69 = some (.slice 74) := by kernel_rfl
theorem infoh_text : (Try.prog.info? 74).map (fun i => (i.zero, i.size, i.bytes)) = some (some (.map none), 1, 8) := by kernel_rfl

set_option maxRecDepth 100000 in
set_option maxHeartbeats 800000 in
theorem save_grow_text {M : Nat} {w : World} {a bc bh cap : Nat} {ms : List (Option Nat)} {gs : Nat → Nat → Option ByteArray} {σ : Tr ByteArray} (hP : Partstext M w a bc bh cap ms gs σ) (hM : M ≤ 100000) (hr : σ.top + 1 = ms.length) :
    Calls Try.prog 24 #[.pointer (some ⟨a, 0, none⟩)] w (Doestext (M + 1) w (a :: bc :: bh :: blocks ms) a σ.save (.returned (.int .i64 ((σ.top + 1 : Nat) : Int)))) := by
  have hmm := hP.most
  have htm := hP.tops
  have c1 := hP.c1
  have c2 := hP.c2
  have f2 := hP.f 2
  obtain ⟨m, hm⟩ : ∃ m, m = ms.length := ⟨_, rfl⟩
  obtain ⟨t, ht⟩ : ∃ t, t = σ.top := ⟨_, rfl⟩
  rw [← hm] at c1 htm hmm hr
  rw [← ht] at c2 htm hr ⊢
  have h1 : (0 : Int) ≤ (t : Int) := by omega
  have h2 : (t : Int) ≤ 100000 := by omega
  obtain ⟨i0, hi, hz0, hz1, hz2⟩ := info_parts infoh_text
  have hne := hP.ne1
  have hlt := hP.lts
  have hown := hP.owns
  rw [← hm] at hown
  have hd : ((t : Int) + 1 == (m : Int)) = true := by simp; omega
  have HP := Lib.hid hP
  have HM := Lib.hid hm
  have HT := Lib.hid ht
  have HH := Lib.hid hM
  have Hmm := Lib.hid hmm
  have HR := Lib.hid hr
  have HN := Lib.hid hne
  have HL := Lib.hid hlt
  have HO := Lib.hid hown
  clear hP hm ht hM hmm hne hlt hown
  clear hr
  go_enter Try.func24, Try.ntmps24
  go_wp2
  go_quiet (fail)
  have hT1 : Turn [a] w ((w.setCell ⟨a, 2, none⟩ (.int .i64 ((t : Int) + 1))).drewN nq) := ((Turn.refl _ _).setCell (.inl (by simp)) _).drewN nq
  have hT2 : Turn [a] w (((w.setCell ⟨a, 2, none⟩ (.int .i64 ((t : Int) + 1))).drewN nq).alloc (.cells #[.map none] 74)) := hT1.alloc _
  have hown1 := owns_turn HO.out hT2 (by simpa using HN.out.2.1.symm)
  have hX : ∀ (j : Nat) (u : Value), [Value.map none][j]? = some u → (((w.setCell ⟨a, 2, none⟩ (.int .i64 ((t : Int) + 1))).drewN nq).alloc (.cells #[.map none] 74)).cell? ((⟨w.heap.size, 0, none⟩ : Addr).add j) = some u := by
    have := cell_one_new ((w.setCell ⟨a, 2, none⟩ (.int .i64 ((t : Int) + 1))).drewN nq) (.map none) 74
    have e : ((w.setCell ⟨a, 2, none⟩ (.int .i64 ((t : Int) + 1))).drewN nq).heap.size = w.heap.size := by simp [World.setCell, World.drewN]
    rwa [e] at this
  have HX := Lib.hid hX
  clear hX
  have HT1 := Lib.hid hT1
  have HT2 := Lib.hid hT2
  have HO1 := Lib.hid hown1
  clear hT1 hT2 hown1
  go_wp2_with (at_builtin; refine (?_ : True ∧ _).2)
  refine ⟨trivial, ?_⟩
  refine wpList_append_lies _ rfl _ _ 69 rfl 0 74 i0 (.map none) 1 8 undh_text hi hz0 hz1 hz2 rfl (by omega) _ m (ms.map Value.map) rfl HO1.out ⟨w.heap.size, 0, none⟩ 1 1 [.map none] rfl rfl HX.out (by simp [Value.oneCell']) (by omega) (by have := HH.out; have := Hmm.out; unfold maxLen; omega) (by have := HH.out; have := Hmm.out; omega) (by omega) (w.heap.size + 1) (by simp) ?_
  intro g cap' w2 hown2 hgrow2 hat2 hlt2
  have hg2 : (((w.setCell ⟨a, 2, none⟩ (.int .i64 ((t : Int) + 1))).drewN nq).alloc (.cells #[.map none] 74)).grownBy w2 (some bh) := hgrow2
  have hat : bh = g ∨ g = w.heap.size + 1 := by
    rcases hat2 with h3 | h3
    · exact .inl (by have : some bh = some g := h3; injection this)
    · exact .inr h3
  clear hgrow2 hat2
  have hTf : Turn [bh, a] w w2 := (HT2.out.sub (by simp)).grown hg2 (fun k e => by cases e; simp)
  have hhead : w2.heap[a]? = some (.cells #[.slice (some ⟨bc, 0, none⟩) σ.n σ.n, .slice (some ⟨bh, 0, none⟩) m cap, .int .i64 ((t : Int) + 1)] 71 (0, 0)) := by
    have e1 : (w.setCell ⟨a, 2, none⟩ (.int .i64 ((t : Int) + 1))).heap[a]? = some (.cells #[.slice (some ⟨bc, 0, none⟩) σ.n σ.n, .slice (some ⟨bh, 0, none⟩) m cap, .int .i64 ((t : Int) + 1)] 71 (0, 0)) := by
      rw [heap_setCell_same HP.out.head, HM.out]
      rfl
    have hlt : a < w.heap.size := HL.out a (by simp)
    rw [hg2.block a (by simp [World.setCell, World.drewN]; omega) (by simp [HN.out.2.1]), Below.heap_alloc _ _ _ (by simp [World.setCell, World.drewN]; omega)]
    exact e1
  have d2 : w2.cell? ⟨a, 2, none⟩ = some (.int .i64 ((t : Int) + 1)) := by rw [cell_of_heap hhead]; rfl
  have d1 : w2.cell? ⟨a, 1, none⟩ = some (.slice (some ⟨bh, 0, none⟩) m cap) := by rw [cell_of_heap hhead]; rfl
  have e1 : w2.frozen? ⟨a, 1, none⟩ = false := frozen_of_heap hhead
  have HTf := Lib.hid hTf
  have Hhead := Lib.hid hhead
  have Hown2 := Lib.hid hown2
  have Hat := Lib.hid hat
  clear hTf hhead hown2 hat hg2 hlt2
  go_wp2
  go_ret
  have hT3 : Turn [bh, a] w (w2.setCell ⟨a, 1, none⟩ (.slice (some ⟨g, 0, none⟩) (m + 1) cap')) := HTf.out.setCell (.inl (by simp)) _
  have hg : g = bh ∨ w.heap.size ≤ g := by
    rcases Hat.out with h3 | h3
    · exact .inl h3.symm
    · exact .inr (by omega)
  have hag : a ≠ g := by
    rcases Hat.out with h3 | h3
    · rw [← h3]; exact HN.out.2.1
    · have := HL.out a (by simp)
      omega
  obtain ⟨hh, k1, k2, k3, k4, k5⟩ : ∃ hh, w2.heap[g]? = some (.cells hh 74 (0, 0)) ∧ hh.size = cap' ∧ hh.toList.take (m + 1) = ms.map Value.map ++ [.map none] ∧ m + 1 ≤ cap' ∧ cap' ≤ maxLen := by
    rcases Hown2.out.2 with ⟨h1, _⟩ | ⟨g', cap2, cur, h1, h2, h3, h4, h5, h6, h7⟩
    · cases h1
    · obtain ⟨rfl, rfl⟩ : g = g' ∧ cap' = cap2 := by
        injection h1 with q1 _ q2
        injection q1 with q1
        injection q1 with q1
        exact ⟨q1, q2⟩
      exact ⟨cur, h3, by rw [Nat.mul_one] at h6; exact h6, by rw [Nat.mul_one] at h7; exact h7, h4, h5⟩
  have hP3 : Partstext (M + 1) (w2.setCell ⟨a, 1, none⟩ (.slice (some ⟨g, 0, none⟩) (m + 1) cap')) a bc g cap' (ms ++ [none]) gs σ.save := by
    refine HP.out.grow hT3 hg (by have := HR.out; rw [← HM.out, ← HT.out]; omega) ?_ ⟨hh, ?_, k2, by rw [← HM.out]; exact k3⟩ (by rw [← HM.out]; exact ⟨k4, k5⟩)
    · rw [heap_setCell_same Hhead.out, ← HM.out, ← HT.out]
      rfl
    · rw [Below.heap_setCell _ _ _ _ (fun e => hag e.symm)]
      exact k1
  refine ⟨rfl, _, ⟨bc, g, cap', _, gs, hP3, rfl⟩, hT3.sub (by simp), fun b hb => ?_⟩
  have hbl : blocks (ms ++ [none]) = blocks ms := by simp [blocks]
  rw [hbl] at hb
  simp only [List.mem_cons] at hb ⊢
  rcases hb with h1 | h1 | h1 | h1
  · exact .inl (.inl h1)
  · exact .inl (.inr (.inl h1))
  · rcases hg with h2 | h2
    · exact .inl (.inr (.inr (.inl (h1.trans h2))))
    · exact .inr (by omega)
  · exact .inl (.inr (.inr (.inr h1)))

set_option maxRecDepth 100000 in
set_option maxHeartbeats 800000 in
theorem save_room_text {M : Nat} {w : World} {a bc bh cap : Nat} {ms : List (Option Nat)} {gs : Nat → Nat → Option ByteArray} {σ : Tr ByteArray} (hP : Partstext M w a bc bh cap ms gs σ) (hM : M ≤ 100000) (hr : σ.top + 1 < ms.length) :
    Calls Try.prog 24 #[.pointer (some ⟨a, 0, none⟩)] w (Doestext (M + 1) w (a :: bc :: bh :: blocks ms) a σ.save (.returned (.int .i64 ((σ.top + 1 : Nat) : Int)))) := by
  have hmm := hP.most
  have c1 := hP.c1
  have c2 := hP.c2
  have f2 := hP.f 2
  obtain ⟨m, hm⟩ : ∃ m, m = ms.length := ⟨_, rfl⟩
  obtain ⟨t, ht⟩ : ∃ t, t = σ.top := ⟨_, rfl⟩
  rw [← hm] at c1 hmm
  rw [← ht] at c2 ⊢
  have htm : t + 1 < m := by rw [hm, ht]; exact hr
  have h1 : (0 : Int) ≤ (t : Int) := by omega
  have h2 : (t : Int) ≤ 100000 := by omega
  have hd : ((t : Int) + 1 == (m : Int)) = false := by simp; omega
  have HP := Lib.hid hP
  have HM := Lib.hid hm
  have HT := Lib.hid ht
  have HR := Lib.hid hr
  clear hP hm ht hM hmm hr
  go_enter Try.func24, Try.ntmps24
  go_wp2
  go_quiet (fail)
  go_wp2
  go_ret
  have hP3 := (HP.out.save HR.out ((t : Int) + 1) (by rw [HT.out]; omega)).drewN nq
  exact ⟨rfl, _, ⟨bc, bh, cap, ms, gs, hP3.mono (by omega), rfl⟩, ((Turn.refl _ _).setCell (.inl (by simp)) _).drewN nq, fun b hb => .inl hb⟩

theorem save_text {M : Nat} {w : World} {F : List Nat} {a : Nat} {σ : Tr ByteArray} (h : Attext M w F a σ) (hM : M ≤ 100000) :
    Calls Try.prog 24 #[.pointer (some ⟨a, 0, none⟩)] w (Doestext (M + 1) w F a σ.save (.returned (.int .i64 ((σ.top + 1 : Nat) : Int)))) := by
  obtain ⟨bc, bh, cap, ms, gs, hP, rfl⟩ := h
  have htm := hP.tops
  by_cases hr : σ.top + 1 = ms.length
  · exact save_grow_text hP hM hr
  · exact save_room_text hP hM (by omega)
end Go.Proofs.Ytkajkfapleecaaa
