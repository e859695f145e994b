/-
  The document's reader in memory: what Num, Eight, Left and End do.
-/
import Derived.Test.YtamhajeighdjeaaORead
namespace Go.Proofs.Ytamhajeighdjeaa
open Go.RowKit

/-- how a call of the document's reader ends -/
def RDid (w : World) (a b : Nat) (R : Nat × List Nat × Nat) (r : Ending) (w' : World) : Prop :=
  r = .returned (.int .u64 (R.1 : Int)) ∧ RAt 39 w' a b R.2.1 R.2.2 ∧ Turn [a] w w'

set_option maxHeartbeats 1000000 in
theorem rnum_at (a b most : Nat) (ys : List Nat) (e : Nat) (w : World) (h : RAt 39 w a b ys e) :
    Calls Try.prog 21 #[.pointer (some ⟨a, 0, none⟩), .int .u64 most] w (RDid w a b (rnum most ys e)) := by
  unfold rnum
  by_cases he : e = 0
  · subst he
    rw [if_neg (by simp)]
    obtain ⟨p, off, c, h1, h2, h3, h4⟩ := h.ex
    have T := rtake_any p b off c _ ys rfl w (by have := h.len; omega) h2 h.bytes
    have hg : (take ys).2.2 = 0 → 1 ≤ (take ys).2.1 ∧ (take ys).2.1 ≤ ys.length := fun h5 => by
      obtain ⟨_, k1, _, k2, _⟩ := take_good h.bytes h5
      exact ⟨k1, k2⟩
    have c0 : w.cell? ⟨a, 0, none⟩ = some (.slice p ys.length c) := by rw [cell_of_heap h1]; rfl
    have c1 : w.cell? ⟨a, 1, none⟩ = some (.int .i64 0) := by rw [cell_of_heap h1]; rfl
    obtain ⟨len, hl⟩ : ∃ len, len = ys.length := ⟨_, rfl⟩
    obtain ⟨A, hA⟩ : ∃ A, A = (take ys).1 := ⟨_, rfl⟩
    obtain ⟨B, hB⟩ : ∃ B, B = (take ys).2.1 := ⟨_, rfl⟩
    obtain ⟨C, hC⟩ : ∃ C, C = (take ys).2.2 := ⟨_, rfl⟩
    rw [← hB, ← hC, ← hl] at hg
    rw [← hA, ← hB, ← hC, ← hl] at T
    rw [← hl] at c0
    rw [← hA, ← hB, ← hC]
    have T := Lib.hid T
    have H := Lib.hid h
    have HH := Lib.hid (fun (w1 : World) (hb : Below w.heap.size w w1) => (hb.block a h.lt).trans h1)
    have H2 := Lib.hid h2
    have H3 := Lib.hid h3
    have HL := Lib.hid hl
    have HG := Lib.hid hg
    clear h h1 h2 h3 h4 hl hA hB hC hg
    by_cases hc0 : C = 0
    · subst hc0
      rw [if_neg (by simp)]
      by_cases hmo : most < A
      · rw [if_pos hmo]
        go_enter Try.func21, Try.ntmps21
        go_wp2_with fail
        refine T.out.mono ?_
        rintro r w1 ⟨rfl, hb⟩
        have k1 : w1.cell? ⟨a, 1, none⟩ = some (.int .i64 0) := by rw [cell_of_heap (HH.out _ hb)]; rfl
        have f1 : w1.frozen? ⟨a, 1, none⟩ = false := frozen_of_heap (HH.out _ hb)
        have HB := Lib.hid hb
        clear hb
        go_wp2_with fail
        go_ret
        exact ⟨rfl, ((H.out.below HB.out).fail 5).1, (turn_of_below HB.out [a]).trans ((H.out.below HB.out).fail 5).2 (fun x hx => .inl hx)⟩
      · rw [if_neg hmo]
        have HBL := Lib.hid (show 0 < ys.length ∧ B ≤ ys.length by have := HL.out; have := HG.out rfl; omega)
        obtain rfl := H2.out.at_ HBL.out.1
        have hmo2 : A ≤ most := by omega
        have hb1 : (B : Int) ≤ len := by have := HL.out; have := HBL.out; omega
        have hb2 : (B : Int) ≤ c := by have := H3.out; have := HBL.out; omega
        have hb3 : B ≤ c := by omega
        have hb4 : B ≤ len := by omega
        by_cases hcs : c = B
        · obtain rfl : len = B := by have := HL.out; have := H3.out; omega
          subst hcs
          go_enter Try.func21, Try.ntmps21
          go_wp2_with fail
          refine T.out.mono ?_
          rintro r w1 ⟨rfl, hb⟩
          have k0 : w1.cell? ⟨a, 0, none⟩ = some (.slice (some ⟨b, off, none⟩) c c) := by rw [cell_of_heap (HH.out _ hb)]; exact congrArg (fun z => some (Value.slice (some ⟨b, off, none⟩) z c)) HL.out.symm
          have f0 : w1.frozen? ⟨a, 0, none⟩ = false := frozen_of_heap (HH.out _ hb)
          have HB := Lib.hid hb
          clear hb
          go_wp2_with fail
          go_ret
          have hr := (H.out.below HB.out).cut (s := c) (q := ⟨b, off, none⟩) (HH.out _ HB.out) (H2.out.below HB.out) HBL.out.2 H3.out (fun h => by have := HL.out; omega)
          rw [← HL.out, Nat.sub_self] at hr
          exact ⟨rfl, hr.1, (turn_of_below HB.out [a]).trans hr.2 (fun x hx => .inl hx)⟩
        · have hcs2 : c ≠ B := hcs
          have hcs3 : B < c := by omega
          go_enter Try.func21, Try.ntmps21
          go_wp2_with fail
          refine T.out.mono ?_
          rintro r w1 ⟨rfl, hb⟩
          have k0 : w1.cell? ⟨a, 0, none⟩ = some (.slice (some ⟨b, off, none⟩) len c) := by rw [cell_of_heap (HH.out _ hb)]; exact congrArg (fun z => some (Value.slice (some ⟨b, off, none⟩) z c)) HL.out.symm
          have f0 : w1.frozen? ⟨a, 0, none⟩ = false := frozen_of_heap (HH.out _ hb)
          have HB := Lib.hid hb
          clear hb
          go_wp2_with fail
          go_ret
          have hr := (H.out.below HB.out).cut (s := B) (q := ⟨b, off + B, none⟩) (HH.out _ HB.out) (H2.out.below HB.out) HBL.out.2 H3.out (fun _ => rfl)
          rw [← HL.out] at hr
          exact ⟨rfl, hr.1, (turn_of_below HB.out [a]).trans hr.2 (fun x hx => .inl hx)⟩
    · rw [if_pos hc0]
      have hc2 : ((C : Int) == 0) = false := beq_eq_false_iff_ne.2 (by omega)
      go_enter Try.func21, Try.ntmps21
      go_wp2_with fail
      refine T.out.mono ?_
      rintro r w1 ⟨rfl, hb⟩
      have k1 : w1.cell? ⟨a, 1, none⟩ = some (.int .i64 0) := by rw [cell_of_heap (HH.out _ hb)]; rfl
      have f1 : w1.frozen? ⟨a, 1, none⟩ = false := frozen_of_heap (HH.out _ hb)
      have HB := Lib.hid hb
      clear hb
      go_wp2_with fail
      go_ret
      exact ⟨rfl, ((H.out.below HB.out).fail C).1, (turn_of_below HB.out [a]).trans ((H.out.below HB.out).fail C).2 (fun x hx => .inl hx)⟩
  · have he2 : ((e : Int) == 0) = false := beq_eq_false_iff_ne.2 (by omega)
    rw [if_pos he]
    obtain ⟨p, off, c, h1, _⟩ := h.ex
    have c1 : w.cell? ⟨a, 1, none⟩ = some (.int .i64 e) := by rw [cell_of_heap h1]; rfl
    have H := Lib.hid h
    clear h h1
    go_enter Try.func21, Try.ntmps21
    go_wp2_with fail
    go_ret
    exact ⟨rfl, H.out, Turn.refl _ _⟩

set_option maxHeartbeats 400000 in
theorem rleft_any (a b : Nat) (ys : List Nat) (e : Nat) (w : World) (h : RAt 39 w a b ys e) :
    Calls Try.prog 23 #[.pointer (some ⟨a, 0, none⟩)] w fun r w' => r = .returned (.int .i64 ((view ys e).length : Nat)) ∧ w' = w := by
  obtain ⟨p, off, c, h1, _⟩ := h.ex
  have c0 : w.cell? ⟨a, 0, none⟩ = some (.slice p ys.length c) := by rw [cell_of_heap h1]; rfl
  have c1 : w.cell? ⟨a, 1, none⟩ = some (.int .i64 e) := by rw [cell_of_heap h1]; rfl
  clear h1 h
  by_cases he : e = 0
  · subst he
    rw [view_zero]
    go_enter Try.func23, Try.ntmps23
    go_wp2_with fail
    go_ret
    exact ⟨rfl, rfl⟩
  · have he2 : ((e : Int) == 0) = false := beq_eq_false_iff_ne.2 (by omega)
    rw [view_bad _ he]
    go_enter Try.func23, Try.ntmps23
    go_wp2_with fail
    go_ret
    exact ⟨rfl, rfl⟩

theorem ends_view (ys : List Nat) (e : Nat) : ends (view ys e).length e = ends ys.length e := by
  unfold ends view
  by_cases he : e = 0
  · rw [if_pos he]
  · rw [if_neg (fun h => he h.1), if_neg (fun h => he h.1)]

set_option maxHeartbeats 400000 in
theorem rend_any (a b : Nat) (ys : List Nat) (e : Nat) (w : World) (h : RAt 39 w a b ys e) :
    Calls Try.prog 25 #[.pointer (some ⟨a, 0, none⟩)] w fun r w' => r = .returned (.int .i64 (ends ys.length e : Nat)) ∧ w' = w := by
  obtain ⟨p, off, c', h1, _⟩ := h.ex
  obtain ⟨len, hl⟩ : ∃ len, len = ys.length := ⟨_, rfl⟩
  rw [← hl] at h1 ⊢
  have c0 : w.cell? ⟨a, 0, none⟩ = some (.slice p len c') := by rw [cell_of_heap h1]; rfl
  have c1 : w.cell? ⟨a, 1, none⟩ = some (.int .i64 e) := by rw [cell_of_heap h1]; rfl
  clear h h1 hl
  unfold ends
  by_cases he : e = 0
  · subst he
    by_cases hl : 0 < len
    · have hl2 : (0 : Int) < (len : Int) := by omega
      rw [if_pos ⟨rfl, hl⟩]
      go_enter Try.func25, Try.ntmps25
      go_wp2_with fail
      go_ret
      exact ⟨rfl, rfl⟩
    · obtain rfl : len = 0 := by omega
      rw [if_neg (by omega)]
      go_enter Try.func25, Try.ntmps25
      go_wp2_with fail
      go_ret
      exact ⟨rfl, rfl⟩
  · have he2 : ((e : Int) == 0) = false := beq_eq_false_iff_ne.2 (by omega)
    rw [if_neg (by omega)]
    go_enter Try.func25, Try.ntmps25
    go_wp2_with fail
    go_ret
    exact ⟨rfl, rfl⟩

set_option maxHeartbeats 1000000 in
theorem reight_at (a b : Nat) (ys : List Nat) (e : Nat) (w : World) (h : RAt 39 w a b ys e) :
    Calls Try.prog 19 #[.pointer (some ⟨a, 0, none⟩)] w (RDid w a b (reight ys e)) := by
  unfold reight
  by_cases he : e = 0
  · subst he
    rw [if_neg (by simp)]
    obtain ⟨p, off, c, h1, h2, h3, h4⟩ := h.ex
    have c0 : w.cell? ⟨a, 0, none⟩ = some (.slice p ys.length c) := by rw [cell_of_heap h1]; rfl
    have c1 : w.cell? ⟨a, 1, none⟩ = some (.int .i64 0) := by rw [cell_of_heap h1]; rfl
    have f0 : w.frozen? ⟨a, 0, none⟩ = false := frozen_of_heap h1
    have f1 : w.frozen? ⟨a, 1, none⟩ = false := frozen_of_heap h1
    obtain ⟨len, hl⟩ : ∃ len, len = ys.length := ⟨_, rfl⟩
    rw [← hl] at c0 ⊢
    have H := Lib.hid h
    have H1 := Lib.hid h1
    have H2 := Lib.hid h2
    have H3 := Lib.hid h3
    have HL := Lib.hid hl
    clear h h1 h2 h3 h4 hl
    by_cases hl8 : len < 8
    · rw [if_pos hl8]
      go_enter Try.func19, Try.ntmps19
      go_wp2_with fail
      go_ret
      exact ⟨rfl, (H.out.fail 3).1, (H.out.fail 3).2⟩
    · rw [if_neg hl8]
      obtain rfl := H2.out.at_ (by have := HL.out; omega)
      obtain ⟨R, hR⟩ : ∃ R, R = num (ys.take 8) := ⟨_, rfl⟩
      rw [← hR]
      have HR := Lib.hid hR
      clear hR
      have hl2 : (8 : Int) ≤ len := by omega
      have hb2 : (8 : Int) ≤ c := by have := H3.out; have := HL.out; omega
      have hb3 : 8 ≤ c := by omega
      go_enter Try.func19, Try.ntmps19
      go_wp2
      go_loopw [3, 4] (fun z i wr => (∃ k y : Nat, k ≤ 8 ∧ i = .int .i64 k ∧ z = .int .u64 y ∧ y = num (ys.take k)) ∧ wr = w) (fun _ i _ => 8 - (intOf i).toNat)
      case atStart => exact ⟨⟨0, 0, by omega, rfl, rfl, rfl⟩, rfl⟩
      case round =>
        obtain ⟨⟨k, y, hk, rfl, rfl, ey⟩, rfl⟩ := hrel
        by_cases hlt : k < 8
        · have hlx : k < ys.length := by have := HL.out; omega
          have k0 := H2.out.cell k hlx
          have hs : num (ys.take (k + 1)) = 256 * num (ys.take k) + ys.getD k 0 := by
            rw [List.take_add_one, List.getElem?_eq_getElem hlx]
            simp only [Option.toList_some, num_snoc]
            simp [hlx]
          have hlow := num_lt (H.out.bytes.take (k + 1))
          have hlen : (ys.take (k + 1)).length = k + 1 := by rw [List.length_take]; omega
          rw [hlen] at hlow
          have hlow := Nat.lt_of_lt_of_le hlow (show 256 ^ (k + 1) ≤ 256 ^ 8 from Nat.pow_le_pow_right (by decide) (by omega))
          obtain ⟨v, ev⟩ : ∃ v, v = ys.getD k 0 := ⟨_, rfl⟩
          rw [← ev] at k0 hs
          rw [← ey] at hs
          have hlow : 256 * y + v < 18446744073709551616 := by rw [← hs]; exact hlow
          have hkl : (k : Int) < (len : Int) := by omega
          have HS := Lib.hid hs
          clear ev hs ey hlx hlen
          go_wp2_with fail
          go_roundw
          case rel => exact ⟨⟨k + 1, 256 * y + v, by omega, by go_num, by go_num, HS.out.symm⟩, trivial⟩
          case measure => simp [intOf]; omega
        · obtain rfl : k = 8 := by omega
          obtain rfl : y = R := by rw [ey, HR.out]
          clear ey
          by_cases hcs : c = 8
          · obtain rfl : len = 8 := by have := HL.out; have := H3.out; omega
            subst hcs
            go_wp2_with fail
            go_ret
            have hr := H.out.cut (s := 8) (q := ⟨b, off, none⟩) H1.out H2.out (by have := HL.out; omega) H3.out (fun h => by have := HL.out; omega)
            rw [← HL.out] at hr
            exact ⟨rfl, hr.1, hr.2⟩
          · have hcs2 : c ≠ 8 := hcs
            have hcs3 : 8 < c := by omega
            go_wp2_with fail
            go_ret
            have hr := H.out.cut (s := 8) (q := ⟨b, off + 8, none⟩) H1.out H2.out (by have := HL.out; omega) H3.out (fun _ => rfl)
            rw [← HL.out] at hr
            exact ⟨rfl, hr.1, hr.2⟩
  · have he2 : ((e : Int) == 0) = false := beq_eq_false_iff_ne.2 (by omega)
    rw [if_pos he]
    obtain ⟨p, off, c, h1, _⟩ := h.ex
    have c1 : w.cell? ⟨a, 1, none⟩ = some (.int .i64 e) := by rw [cell_of_heap h1]; rfl
    have H := Lib.hid h
    clear h h1
    go_enter Try.func19, Try.ntmps19
    go_wp2_with fail
    go_ret
    exact ⟨rfl, H.out, Turn.refl _ _⟩
end Go.Proofs.Ytamhajeighdjeaa
