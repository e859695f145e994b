/-
  What Scan of the document's answers answers, at every text.
-/
import Derived.Test.YtfkakdpppejehaaGreatZYBG
import Derived.Deep.CutBlock
import Derived.StillTailTactics
namespace Go.Proofs.YtfkakdpppejehaaGreat.Sc
open Go.RowKit

theorem rscan_long (s : ByteArray) (w : World) (hm : 4000 < s.size) :
    Calls Tryz.prog 11 #[.string s] w fun e w' => e = .returned (.tuple #[.slice none 0 0, .int .i64 0, .int .i64 5]) ∧ w' = w := by
  have h1 : (4000 : Int) < ((s.size : Nat) : Int) := by omega
  go_enter Tryz.func11, Tryz.ntmps11
  go_wp2_with fail
  go_ret3
  exact ⟨rfl, rfl⟩

theorem at4_new (w : World) (a b c d : Value) (ty : TypeId) : At4 (w.alloc (.cells #[a, b, c, d] ty)) w.heap.size a b c d := ⟨by go_simp, by go_simp, by go_simp, by go_simp, by go_simp, by go_simp, by go_simp, by go_simp⟩
theorem below_drewN {B n : Nat} {a w : World} (h : Below B a w) : Below B a (w.drewN n) := ⟨h.os, h.tape, h.output, h.size, h.block⟩
theorem At4.drewN {w : World} {b : Nat} {v0 v1 v2 v3 : Value} (h : At4 w b v0 v1 v2 v3) (n : Nat) : At4 (w.drewN n) b v0 v1 v2 v3 := ⟨h.c0, h.c1, h.c2, h.c3, h.f0, h.f1, h.f2, h.f3⟩
theorem owns_drewN {w : World} {base : Nat} {e : TypeId} {size n : Nat} {v : Value} {xs : List Value} (h : w.ownsRow base e size v n xs) (m : Nat) : (w.drewN m).ownsRow base e size v n xs := h
theorem cut_mid (s : ByteArray) (a b : Nat) (h1 : a ≤ b) (h2 : b ≤ s.size) (W : World) : (Instr.slice 9 (.string s) (some (.int .i64 (a : Int))) (some (.int .i64 (b : Int))) none).run Tryz.prog W = .ok (.string (s.extract a b)) W := by
  have := run_slice_string (P := Tryz.prog) W 9 s .i64 .i64 (a : Int) (b : Int) Tryz.underlying9 (by omega) (by omega) (by omega)
  simpa using this

theorem At4.set0 {w : World} {b : Nat} {v0 v1 v2 v3 : Value} (h : At4 w b v0 v1 v2 v3) (x : Value) : At4 (w.setCell ⟨b, 0, none⟩ x) b x v1 v2 v3 := by
  obtain ⟨c0, c1, c2, c3, f0, f1, f2, f3⟩ := h
  exact ⟨by go_simp, by go_simp, by go_simp, by go_simp, by go_simp, by go_simp, by go_simp, by go_simp⟩
theorem At4.set2 {w : World} {b : Nat} {v0 v1 v2 v3 : Value} (h : At4 w b v0 v1 v2 v3) (x : Value) : At4 (w.setCell ⟨b, 2, none⟩ x) b v0 v1 x v3 := by
  obtain ⟨c0, c1, c2, c3, f0, f1, f2, f3⟩ := h
  exact ⟨by go_simp, by go_simp, by go_simp, by go_simp, by go_simp, by go_simp, by go_simp, by go_simp⟩
theorem At4.drew {w : World} {b : Nat} {v0 v1 v2 v3 : Value} (h : At4 w b v0 v1 v2 v3) : At4 w.drew b v0 v1 v2 v3 := ⟨h.c0, h.c1, h.c2, h.c3, h.f0, h.f1, h.f2, h.f3⟩
theorem below_drew {B : Nat} {a w : World} (h : Below B a w) : Below B a w.drew := ⟨h.os, h.tape, h.output, h.size, h.block⟩
theorem one_below {wo W0 w1 : World} {q : Nat} (h : Below wo.heap.size wo W0) (hb : Below (W0.drewN q).heap.size (W0.drewN q) w1) : Below wo.heap.size wo w1 := (below_drewN h).trans (hb.mono h.size)
theorem at_one {W0 w1 : World} {q b : Nat} {v0 v1 v2 v3 : Value} (h : At4 W0 b v0 v1 v2 v3) (hb : Below (W0.drewN q).heap.size (W0.drewN q) w1) : At4 w1 b v0 v1 v2 v3 := (h.drewN q).below hb
/-- how far a loop over a row of bytes of one sort has come -/
def Row (p : UInt8 → Bool) (l : List UInt8) (k j : Nat) : Prop := k + 1 ≤ j ∧ k + ((l.drop k).takeWhile p).length = j + ((l.drop j).takeWhile p).length
theorem row_start {p : UInt8 → Bool} {l : List UInt8} {k : Nat} {c : UInt8} (e : l.drop k = c :: l.drop (k + 1)) (h : p c = true) : Row p l k (k + 1) := by
  refine ⟨Nat.le_refl _, ?_⟩
  rw [e, takeWhile_in _ h]
  omega
theorem row_next {p : UInt8 → Bool} {l : List UInt8} {k j : Nat} {c : UInt8} (h : Row p l k j) (e : l.drop j = c :: l.drop (j + 1)) (hc : p c = true) : Row p l k (j + 1) := by
  obtain ⟨h1, h2⟩ := h
  rw [e, takeWhile_in _ hc] at h2
  exact ⟨by omega, by omega⟩
theorem row_out {p : UInt8 → Bool} {l : List UInt8} {k j : Nat} {c : UInt8} (h : Row p l k j) (e : l.drop j = c :: l.drop (j + 1)) (hc : p c = false) : j = k + ((l.drop k).takeWhile p).length := by
  obtain ⟨h1, h2⟩ := h
  rw [e, takeWhile_out _ hc] at h2
  omega
theorem row_end {p : UInt8 → Bool} {l : List UInt8} {k j : Nat} (h : Row p l k j) (hj : l.length ≤ j) : j = k + ((l.drop k).takeWhile p).length := by
  obtain ⟨h1, h2⟩ := h
  rw [List.drop_of_length_le hj] at h2
  simpa using h2.symm

/-- how far the loop over a number's digits has come -/
def Digs (ds : List UInt8) (j v : Nat) : Prop := numF 0 ds = numF v (ds.drop j) ∧ v ≤ mostV
theorem digs_start (ds : List UInt8) : Digs ds 0 0 := ⟨by simp, by unfold mostV; omega⟩
theorem takeWhile_at {p : UInt8 → Bool} : ∀ (l : List UInt8) (j : Nat), j < (l.takeWhile p).length → ∃ c, l[j]? = some c ∧ p c = true ∧ (l.takeWhile p).drop j = c :: (l.takeWhile p).drop (j + 1)
  | [], j, h => by simp at h
  | c :: r, j, h => by
    by_cases hc : p c = true
    · rw [takeWhile_cons_in _ hc] at h ⊢
      cases j with
      | zero => exact ⟨c, rfl, hc, rfl⟩
      | succ j => simpa using takeWhile_at r j (by simpa using h)
    · rw [takeWhile_cons_out _ (by simpa using hc)] at h
      simp at h
theorem digs_next {ds : List UInt8} {j v : Nat} {c : UInt8} (h : Digs ds j v) (e : ds.drop j = c :: ds.drop (j + 1)) : numF 0 ds = numF (10 * v + (c.toNat - 48)) (ds.drop (j + 1)) := by
  rw [h.1, e, numF_cons]
theorem digs_big {ds : List UInt8} {j v : Nat} {c : UInt8} (h : Digs ds j v) (e : ds.drop j = c :: ds.drop (j + 1)) (hv : mostV < 10 * v + (c.toNat - 48)) : mostV < numF 0 ds := by
  rw [digs_next h e]
  have := num_le (ds.drop (j + 1)) (10 * v + (c.toNat - 48))
  omega
theorem digs_end {ds : List UInt8} {j v : Nat} (h : Digs ds j v) (hj : ds.length ≤ j) : numF 0 ds = v ∧ v ≤ mostV := by
  obtain ⟨h1, h2⟩ := h
  rw [List.drop_of_length_le hj] at h1
  exact ⟨h1, h2⟩
theorem first_letter {c : UInt8} {r : List UInt8} (h : letter c = true) : first c r = .tok 1 ((c :: r).takeWhile inWord).length 0 := by rw [first, if_pos h]
theorem first_num {c : UInt8} {r : List UInt8} (h : letter c = false) (hd : digit c = true) (hv : numF 0 ((c :: r).takeWhile digit) ≤ mostV) : first c r = .tok 2 ((c :: r).takeWhile digit).length (numF 0 ((c :: r).takeWhile digit)) := by
  rw [first, if_neg (by simp [h]), if_pos hd, if_pos hv]
theorem first_over {c : UInt8} {r : List UInt8} (h : letter c = false) (hd : digit c = true) (hv : mostV < numF 0 ((c :: r).takeWhile digit)) : first c r = .bad 5 := by
  rw [first, if_neg (by simp [h]), if_pos hd, if_neg (by omega)]
theorem first_rest {c : UInt8} {r : List UInt8} (h : letter c = false) (hd : digit c = false) : first c r = if mark (c :: r) = 0 then .bad 2 else .tok 3 (mark (c :: r)) 0 := by
  rw [first, if_neg (by simp [h]), if_neg (by simp [hd])]

set_option maxRecDepth 100000 in
set_option maxHeartbeats 4000000 in
theorem rscan_any (s : ByteArray) (w : World) (hm : s.size ≤ 4000) :
    Calls Tryz.prog 11 #[.string s] w fun e w' => ScanPost 63 w.heap.size (scanL 0 (txt s)) e w' ∧ Below w.heap.size w w' := by
  obtain ⟨i0, hi, hz0, hz1, hz2⟩ := info_parts info36
  obtain ⟨n, hn⟩ : ∃ n, n = s.size := ⟨_, rfl⟩
  have hsz : ((s.size : Nat) : Int) = (n : Int) := by rw [hn]
  have HM := Lib.hid hm
  rw [← hn] at hm
  have HN := Lib.hid hn
  have HS := Lib.hid (going_start (txt s))
  have HL := Lib.hid (show n = (txt s).length by rw [hn, txt_size])
  have I := Lib.hid (And.intro hi (And.intro hz0 (And.intro hz1 hz2)))
  clear hi hz0 hz1 hz2 hn
  go_enter Tryz.func11, Tryz.ntmps11
  go_wp2_with fail
  go_loopw [5, 6] (fun l i wr => ∃ k : Nat, k ≤ n ∧ i = .int .i64 k ∧ ∃ A, Going (txt s) k A ∧ OwnsT 63 wr w.heap.size l A ∧ Below w.heap.size w wr) (fun _ i _ => n - (intOf i).toNat)
  case atStart => exact ⟨0, by omega, rfl, [], HS.out, World.ownsRow_made w #[] 0 (Nat.le_refl _) (by decide) rfl, (Below.refl _ w).alloc (Nat.le_refl _) _⟩
  case round =>
    obtain ⟨k, hk, rfl, A, hgo, hown, hB⟩ := hrel
    obtain ⟨wo, rfl⟩ : ∃ wo, wo = wr := ⟨_, rfl⟩
    obtain ⟨p, cp, rfl⟩ := shape hown
    have HG := Lib.hid hgo
    have HO := Lib.hid hown
    have HB := Lib.hid hB
    have hfew := hgo.few
    clear hgo hown hB
    by_cases hlt : k < n
    · obtain ⟨c, ec, ed⟩ := drop_at (l := txt s) (k := k) (by rw [← HL.out]; exact hlt)
      have hx := idx ec
      go_upto_block 2 with fail
      obtain ⟨W0, hW0⟩ : ∃ W0, W0 = wo.alloc (.cells #[.int .i64 3, .string ⟨#[]⟩, .int .i64 0, .int .i64 (k : Int)] 63) := ⟨_, rfl⟩
      rw [← hW0]
      have AT0 : Hid (At4 W0 wo.heap.size (.int .i64 3) (.string ⟨#[]⟩) (.int .i64 0) (.int .i64 (k : Int))) := Lib.hid (by rw [hW0]; exact at4_new wo _ _ _ _ 63)
      have TB0 : Hid (Below wo.heap.size wo W0) := Lib.hid (by rw [hW0]; exact (Below.refl _ wo).alloc (Nat.le_refl _) _)
      clear hW0
      go_cut [6, 9] from 14 to 133 (fun i _ wx => ∃ j kd v : Nat, i = .int .i64 (j : Int) ∧ k < j ∧ j ≤ n ∧ At4 wx wo.heap.size (.int .i64 kd) (.string ⟨#[]⟩) (.int .i64 v) (.int .i64 k) ∧ Below wo.heap.size wo wx ∧ Going (txt s) j (A ++ [⟨kd, ((txt s).drop k).take (j - k), v, k⟩]))
      case first =>
        obtain ⟨b0, b1, b2, b3, f0, f1, f2, f3⟩ := AT0.out
        clear f1 f2 f3
        cases eb : between c
        · have hne : ((c.toNat : Int) == 32) = false ∧ ((c.toNat : Int) == 10) = false := by
            simp [between] at eb
            exact ⟨beq_eq_false_iff_ne.2 (by omega), beq_eq_false_iff_ne.2 (by omega)⟩
          obtain ⟨e32, e10⟩ := hne
          have hwo := rword_any c
          cases el : letter c
          · rw [el] at hwo
            have rd := rdigit_any c
            cases eg : digit c
            · rw [eg] at rd
              have WO := Lib.hid hwo
              have RD := Lib.hid rd
              have hone := fun W => rone_any c W
              have hfr := first_rest (r := (txt s).drop (k + 1)) el eg
              rw [← ed] at hfr
              have JX1 : mark ((txt s).drop k) = 1 → Going (txt s) (k + 1) (A ++ [⟨3, ((txt s).drop k).take (k + 1 - k), 0, k⟩]) := fun h => by
                have := (going_tok (kd := 3) (m := 1) (v := 0) HG.out ed eb (by rw [hfr, h]; rfl)).1
                rw [Nat.add_sub_cancel_left]
                exact this
              have JX2 : mark ((txt s).drop k) = 2 → Going (txt s) (k + 2) (A ++ [⟨3, ((txt s).drop k).take (k + 2 - k), 0, k⟩]) := fun h => by
                have := (going_tok (kd := 3) (m := 2) (v := 0) HG.out ed eb (by rw [hfr, h]; rfl)).1
                rw [Nat.add_sub_cancel_left]
                exact this
              have FB0 : mark ((txt s).drop k) = 0 → scanL 0 (txt s) = .bad k 2 := fun h => going_bad HG.out ed eb (by rw [hfr, h]; rfl)
              by_cases hk1 : k + 1 < n
              · obtain ⟨d, ecd, edd⟩ := drop_at (l := txt s) (k := k + 1) (by rw [← HL.out]; exact hk1)
                have hxd : ∀ W, (Instr.index 9 (.string s) (.int .i64 ((k : Int) + 1))).run Tryz.prog W = .ok (.int .u8 (d.toNat : Int)) W := idx ecd
                have hmk : mark ((txt s).drop k) = if isPair c d then 2 else if isOne c then 1 else 0 := by rw [ed, edd, mark_two]
                have hpr := rpair_any c d
                have hk2 : (k : Int) + 1 < (n : Int) := by omega
                have hk3 : decide ((k : Int) + 1 < (n : Int)) = true := decide_eq_true hk2
                cases ep : isPair c d
                · rw [ep] at hpr hmk
                  have PR := Lib.hid hpr
                  cases eo : isOne c
                  · rw [eo] at hone hmk
                    have RO := Lib.hid hone
                    have FB := Lib.hid (FB0 (by rw [hmk]; rfl))
                    clear hwo rd hone hfr JX1 JX2 FB0 hpr hmk ep eo ecd edd ec ed eb el eg
                    go_wp2_with (first | (go_at_call 24; refine (WO.out _).mono ?_; rintro e W0 ⟨rfl, rfl⟩) | (go_at_call 25; refine (RD.out _).mono ?_; rintro e W0 ⟨rfl, rfl⟩))
                    go_quiet ((go_at_call 26; exact Calls.quiet_of_same (PR.out _)))
                    go_wp2_with (go_at_call 27; refine (RO.out _).mono ?_; rintro e w1 ⟨rfl, hBo⟩)
                    go_ret3
                    refine ⟨?_, HB.out.trans ((one_below TB0.out hBo).mono HB.out.size)⟩
                    rw [FB.out]
                    exact rfl
                  · rw [eo] at hone hmk
                    have RO := Lib.hid hone
                    have JX := Lib.hid (JX1 (by rw [hmk]; rfl))
                    clear hwo rd hone hfr JX1 JX2 FB0 hpr hmk ep eo ecd edd ec ed eb el eg
                    go_wp2_with (first | (go_at_call 24; refine (WO.out _).mono ?_; rintro e W0 ⟨rfl, rfl⟩) | (go_at_call 25; refine (RD.out _).mono ?_; rintro e W0 ⟨rfl, rfl⟩))
                    go_quiet ((go_at_call 26; exact Calls.quiet_of_same (PR.out _)))
                    go_wp2_with (go_at_call 27; refine (RO.out _).mono ?_; rintro e w1 ⟨rfl, hBo⟩)
                    go_meet
                    case rel => exact ⟨k + 1, 3, 0, by go_num, by omega, by omega, at_one AT0.out hBo, one_below TB0.out hBo, JX.out⟩
                · rw [ep] at hpr hmk
                  have PR := Lib.hid hpr
                  have JX := Lib.hid (JX2 (by rw [hmk]; rfl))
                  clear hwo rd hone hfr JX1 JX2 FB0 hpr hmk ep ecd edd ec ed eb el eg
                  go_wp2_with (first | (go_at_call 24; refine (WO.out _).mono ?_; rintro e W0 ⟨rfl, rfl⟩) | (go_at_call 25; refine (RD.out _).mono ?_; rintro e W0 ⟨rfl, rfl⟩))
                  go_quiet ((go_at_call 26; exact Calls.quiet_of_same (PR.out _)))
                  go_wp2_with fail
                  go_meet
                  case rel => exact ⟨k + 2, 3, 0, by go_num, by omega, by omega, AT0.out.drewN _, below_drewN TB0.out, JX.out⟩
              · have hmk : mark ((txt s).drop k) = if isOne c then 1 else 0 := by
                  rw [ed, List.drop_of_length_le (by rw [← HL.out]; omega), mark_one]
                have hk2 : ¬ (k : Int) + 1 < (n : Int) := by omega
                have hk3 : decide ((k : Int) + 1 < (n : Int)) = false := decide_eq_false hk2
                cases eo : isOne c
                · rw [eo] at hone hmk
                  have RO := Lib.hid hone
                  have FB := Lib.hid (FB0 (by rw [hmk]; rfl))
                  clear hwo rd hone hfr JX1 JX2 FB0 hmk eo ec ed eb el eg
                  go_wp2_with (first | (go_at_call 24; refine (WO.out _).mono ?_; rintro e W0 ⟨rfl, rfl⟩) | (go_at_call 25; refine (RD.out _).mono ?_; rintro e W0 ⟨rfl, rfl⟩))
                  go_quiet (fail)
                  go_wp2_with (go_at_call 27; refine (RO.out _).mono ?_; rintro e w1 ⟨rfl, hBo⟩)
                  go_ret3
                  refine ⟨?_, HB.out.trans ((one_below TB0.out hBo).mono HB.out.size)⟩
                  rw [FB.out]
                  exact rfl
                · rw [eo] at hone hmk
                  have RO := Lib.hid hone
                  have JX := Lib.hid (JX1 (by rw [hmk]; rfl))
                  clear hwo rd hone hfr JX1 JX2 FB0 hmk eo ec ed eb el eg
                  go_wp2_with (first | (go_at_call 24; refine (WO.out _).mono ?_; rintro e W0 ⟨rfl, rfl⟩) | (go_at_call 25; refine (RD.out _).mono ?_; rintro e W0 ⟨rfl, rfl⟩))
                  go_quiet (fail)
                  go_wp2_with (go_at_call 27; refine (RO.out _).mono ?_; rintro e w1 ⟨rfl, hBo⟩)
                  go_meet
                  case rel => exact ⟨k + 1, 3, 0, by go_num, by omega, by omega, at_one AT0.out hBo, one_below TB0.out hBo, JX.out⟩
            · rw [eg] at rd
              have WO := Lib.hid hwo
              have RD := Lib.hid rd
              have HR := Lib.hid (row_start (p := digit) ed eg)
              obtain ⟨ds, eds⟩ : ∃ ds, ds = ((txt s).drop k).takeWhile digit := ⟨_, rfl⟩
              obtain ⟨m, em⟩ : ∃ m, m = ds.length := ⟨_, rfl⟩
              have HE : Hid (m = (((txt s).drop k).takeWhile digit).length) := Lib.hid (by rw [em, eds])
              have hml : 0 < m ∧ k + m ≤ n := by
                have h1 := takeWhile_pos (r := (txt s).drop (k + 1)) eg
                have h2 := takeWhile_le digit ((txt s).drop k)
                rw [← ed, ← eds, ← em] at h1
                rw [← eds, ← em, List.length_drop, ← HL.out] at h2
                omega
              obtain ⟨jm, ejm⟩ : ∃ jm, jm = k + m := ⟨_, rfl⟩
              have hjm : k < jm ∧ jm ≤ n := by omega
              have FN : Hid (∀ v, numF 0 ds = v ∧ v ≤ mostV → Going (txt s) jm (A ++ [⟨2, ((txt s).drop k).take (jm - k), v, k⟩])) := Lib.hid (by
                rintro v ⟨rfl, h⟩
                have := (going_tok HG.out ed eb (first_num el eg (by rw [← ed, ← eds]; exact h))).1
                rw [← ed, ← eds, ← em, ← ejm] at this
                rw [ejm, Nat.add_sub_cancel_left, ← ejm]
                exact this)
              have FO : Hid (mostV < numF 0 ds → scanL 0 (txt s) = .bad k 5) := Lib.hid (fun h => going_bad HG.out ed eb (first_over el eg (by rw [← ed, ← eds]; exact h)))
              have DS := Lib.hid eds
              have EM := Lib.hid em
              have JM := Lib.hid ejm
              clear hwo rd em eds ejm ed eb ec el eg hml
              go_upto_block 5 with (first | (go_at_call 24; refine (WO.out _).mono ?_; rintro e W0 ⟨rfl, rfl⟩) | (go_at_call 25; refine (RD.out _).mono ?_; rintro e W0 ⟨rfl, rfl⟩))
              have AT := Lib.hid (AT0.out.set0 (.int .i64 2))
              have TB := Lib.hid (TB0.out.setCell (p := ⟨wo.heap.size, 0, none⟩) (Nat.le_refl _) (.int .i64 2))
              obtain ⟨W1, hW1⟩ : ∃ W1, W1 = W0.setCell ⟨wo.heap.size, 0, none⟩ (.int .i64 2) := ⟨_, rfl⟩
              rw [← hW1] at AT TB ⊢
              clear hW1
              go_cut [6] from 14 to 133 (fun i wx => i = .int .i64 (jm : Int) ∧ wx = W1)
              case first =>
                go_wp2_with fail
                go_loopw [6] (fun i wq => ∃ j : Nat, i = .int .i64 j ∧ j ≤ n ∧ Row digit (txt s) k j ∧ wq = W1) (fun i _ => n - (intOf i).toNat)
                case atStart => exact ⟨k + 1, by go_num, by omega, HR.out, rfl⟩
                case round =>
                  obtain ⟨j, rfl, hj, hrow, rfl⟩ := hrel
                  have RW := Lib.hid hrow
                  have hjk : k < j := hrow.1
                  clear hrow
                  by_cases hjn : j < n
                  · obtain ⟨d, ecd, edd⟩ := drop_at (l := txt s) (k := j) (by rw [← HL.out]; exact hjn)
                    have hxd := idx ecd
                    have hd := rdigit_any d
                    cases eg : digit d
                    · have JE : j = jm := by rw [JM.out, HE.out]; exact row_out RW.out edd eg
                      rw [eg] at hd
                      have D := Lib.hid hd
                      clear hd eg edd ecd
                      subst JE
                      go_wp2_with (go_at_call 25; refine (D.out _).mono ?_; rintro e w' ⟨rfl, rfl⟩)
                      go_meet
                      case rel => exact ⟨rfl, rfl⟩
                    · have NX := Lib.hid (row_next RW.out edd eg)
                      rw [eg] at hd
                      have D := Lib.hid hd
                      clear hd eg edd ecd
                      go_wp2_with (go_at_call 25; refine (D.out _).mono ?_; rintro e w' ⟨rfl, rfl⟩)
                      go_roundw
                      case rel => exact ⟨j + 1, by go_num, by omega, NX.out, trivial⟩
                      case measure => simp [intOf]; omega
                  · have JE : j = jm := by rw [JM.out, HE.out]; exact row_end RW.out (by rw [← HL.out]; omega)
                    subst JE
                    go_wp2_with fail
                    go_meet
                    case rel => exact ⟨rfl, rfl⟩
              case rest =>
                obtain ⟨rfl, rfl⟩ := hcut
                go_wp2_with fail
                go_loopw [9] (fun a wq => ∃ a' v : Nat, a = .int .i64 a' ∧ k ≤ a' ∧ a' ≤ jm ∧ Digs ds (a' - k) v ∧ At4 wq wo.heap.size (.int .i64 2) (.string ⟨#[]⟩) (.int .i64 (v : Int)) (.int .i64 (k : Int)) ∧ Below wo.heap.size wo wq) (fun a _ => jm - (intOf a).toNat)
                case atStart => exact ⟨k, 0, rfl, by omega, by omega, by rw [Nat.sub_self]; exact digs_start ds, AT.out, TB.out⟩
                case round =>
                  obtain ⟨a, v, rfl, hak, haj, hdg, hat, hbw⟩ := hrel
                  have DG := Lib.hid hdg
                  have AT := Lib.hid hat
                  have TB := Lib.hid hbw
                  have hv0 : v ≤ mostV := hdg.2
                  unfold mostV at hv0
                  clear hdg hat hbw
                  by_cases haj2 : a < jm
                  · obtain ⟨d, ecd, egd, edd⟩ := takeWhile_at (p := digit) ((txt s).drop k) (a - k) (by rw [← HE.out]; have := JM.out; omega)
                    rw [← DS.out] at edd
                    rw [List.getElem?_drop, show k + (a - k) = a by omega] at ecd
                    have hxd := idx ecd
                    have hd2 : 48 ≤ d.toNat ∧ d.toNat ≤ 57 := by simpa [digit] using egd
                    obtain ⟨a0, a1, a2, a3, g0, g1, g2, g3⟩ := AT.out
                    have ATd := Lib.hid (fun x => (AT.out.set2 x).drew)
                    have TBd := Lib.hid (fun x => below_drew (TB.out.setCell (p := ⟨wo.heap.size, 2, none⟩) (Nat.le_refl _) x))
                    clear g0 g1 g3 ecd egd
                    by_cases hbig : 1099511627776 < 10 * v + (d.toNat - 48)
                    · have FB := Lib.hid (FO.out (digs_big DG.out edd hbig))
                      clear edd
                      have hb2 : (1099511627776 : Int) < 10 * (v : Int) + (d.toNat : Int) - 48 := by omega
                      go_upto_region 21 with fail
                      go_still_tail 10, (by kernel_rfl)
                      change wpList _ _ _ _ _ wr.drew
                      go_wp2_with fail
                      go_ret3
                      refine ⟨?_, HB.out.trans ((TBd.out _).mono HB.out.size)⟩
                      rw [FB.out]
                      exact rfl
                    · have NX : Hid (Digs ds (a + 1 - k) (10 * v + (d.toNat - 48))) := Lib.hid (by
                        rw [show a + 1 - k = a - k + 1 by omega]
                        exact ⟨digs_next DG.out edd, by unfold mostV; omega⟩)
                      clear edd
                      have hb2 : ¬ (1099511627776 : Int) < 10 * (v : Int) + (d.toNat : Int) - 48 := by omega
                      go_upto_region 21 with fail
                      go_still_tail 10, (by kernel_rfl)
                      change wpList _ _ _ _ _ wr.drew
                      go_wp2_with fail
                      have ev : 10 * (v : Int) + (d.toNat : Int) - 48 = ((10 * v + (d.toNat - 48) : Nat) : Int) := by omega
                      rw [ev]
                      go_roundw
                      case rel => exact ⟨a + 1, 10 * v + (d.toNat - 48), by go_num, by omega, by omega, NX.out, ATd.out _, TBd.out _⟩
                      case measure => simp [intOf]; omega
                  · obtain rfl : a = jm := by omega
                    have JX := Lib.hid (FN.out _ (digs_end DG.out (by rw [← EM.out]; have := JM.out; omega)))
                    go_wp2_with fail
                    go_meet
                    case rel => exact ⟨a, 2, v, rfl, hjm.1, hjm.2, AT.out, TB.out, JX.out⟩
          · rw [el] at hwo
            have WO := Lib.hid hwo
            obtain ⟨m, em⟩ : ∃ m, m = (((txt s).drop k).takeWhile inWord).length := ⟨_, rfl⟩
            have JX : Hid (∀ j, j = k + m → Going (txt s) j (A ++ [⟨1, ((txt s).drop k).take (j - k), 0, k⟩])) := Lib.hid (by
              rintro j rfl
              have := (going_tok HG.out ed eb (first_letter el)).1
              rw [← ed, ← em] at this
              rw [Nat.add_sub_cancel_left]
              exact this)
            have HR := Lib.hid (row_start (p := inWord) ed (letter_inWord el))
            have HE := Lib.hid em
            clear hwo em ed eb ec el
            go_wp2_with (go_at_call 24; refine (WO.out _).mono ?_; rintro e W0 ⟨rfl, rfl⟩)
            have AT := Lib.hid (AT0.out.set0 (.int .i64 1))
            have TB := Lib.hid (TB0.out.setCell (p := ⟨wo.heap.size, 0, none⟩) (Nat.le_refl _) (.int .i64 1))
            obtain ⟨W1, hW1⟩ : ∃ W1, W1 = W0.setCell ⟨wo.heap.size, 0, none⟩ (.int .i64 1) := ⟨_, rfl⟩
            rw [← hW1] at AT TB ⊢
            clear hW1
            go_loopw [6] (fun i wq => ∃ j : Nat, i = .int .i64 j ∧ j ≤ n ∧ Row inWord (txt s) k j ∧ wq = W1) (fun i _ => n - (intOf i).toNat)
            case atStart => exact ⟨k + 1, by go_num, by omega, HR.out, rfl⟩
            case round =>
              obtain ⟨j, rfl, hj, hrow, rfl⟩ := hrel
              have RW := Lib.hid hrow
              have hjk : k < j := hrow.1
              clear hrow
              by_cases hjn : j < n
              · obtain ⟨d, ecd, edd⟩ := drop_at (l := txt s) (k := j) (by rw [← HL.out]; exact hjn)
                have hxd := idx ecd
                have hl := rword_any d
                have hd := rdigit_any d
                have e95 : ((d.toNat : Int) == 95) = decide (d.toNat = 95) := by rw [beq_eq_decide, Bool.eq_iff_iff]; simp; omega
                by_cases hw : inWord d = true
                · have NX := Lib.hid (row_next RW.out edd hw)
                  clear edd ecd
                  cases el : letter d
                  · cases eg : digit d
                    · rw [el] at hl
                      rw [eg] at hd
                      have e5 : ((d.toNat : Int) == 95) = true := by rw [e95]; simpa [inWord, el, eg] using hw
                      have L := Lib.hid hl
                      have D := Lib.hid hd
                      clear hl hd e95 hw el eg
                      go_wp2_with (first | (go_at_call 24; refine (L.out _).mono ?_; rintro e w' ⟨rfl, rfl⟩) | (go_at_call 25; refine (D.out _).mono ?_; rintro e w' ⟨rfl, rfl⟩))
                      go_roundw
                      case rel => exact ⟨j + 1, by go_num, by omega, NX.out, trivial⟩
                      case measure => simp [intOf]; omega
                    · rw [el] at hl
                      rw [eg] at hd
                      have L := Lib.hid hl
                      have D := Lib.hid hd
                      clear hl hd e95 hw el eg
                      go_wp2_with (first | (go_at_call 24; refine (L.out _).mono ?_; rintro e w' ⟨rfl, rfl⟩) | (go_at_call 25; refine (D.out _).mono ?_; rintro e w' ⟨rfl, rfl⟩))
                      go_roundw
                      case rel => exact ⟨j + 1, by go_num, by omega, NX.out, trivial⟩
                      case measure => simp [intOf]; omega
                  · rw [el] at hl
                    have L := Lib.hid hl
                    clear hl hd e95 hw el
                    go_wp2_with (go_at_call 24; refine (L.out _).mono ?_; rintro e w' ⟨rfl, rfl⟩)
                    go_roundw
                    case rel => exact ⟨j + 1, by go_num, by omega, NX.out, trivial⟩
                    case measure => simp [intOf]; omega
                · have hw2 : inWord d = false := by simpa using hw
                  have JE : Hid (j = k + m) := Lib.hid (by rw [HE.out]; exact row_out RW.out edd hw2)
                  have el : letter d = false := by cases e : letter d <;> simp [inWord, e] at hw2 ⊢
                  have eg : digit d = false := by cases e : digit d <;> simp [inWord, e] at hw2 ⊢
                  rw [el] at hl
                  rw [eg] at hd
                  have e5 : ((d.toNat : Int) == 95) = false := by rw [e95]; simpa [inWord, el, eg] using hw2
                  have L := Lib.hid hl
                  have D := Lib.hid hd
                  clear hl hd e95 hw hw2 el eg edd ecd
                  go_wp2_with (first | (go_at_call 24; refine (L.out _).mono ?_; rintro e w' ⟨rfl, rfl⟩) | (go_at_call 25; refine (D.out _).mono ?_; rintro e w' ⟨rfl, rfl⟩))
                  go_meet
                  case rel => exact ⟨j, 1, 0, rfl, hjk, hj, AT.out, TB.out, JX.out _ JE.out⟩
              · have JE : Hid (j = k + m) := Lib.hid (by rw [HE.out]; exact row_end RW.out (by rw [← HL.out]; omega))
                go_wp2_with fail
                go_meet
                case rel => exact ⟨j, 1, 0, rfl, hjk, hj, AT.out, TB.out, JX.out _ JE.out⟩
        · have HX := Lib.hid (going_skip HG.out ed eb)
          have he : ((c.toNat : Int) == 32) = true ∨ ((c.toNat : Int) == 32) = false ∧ ((c.toNat : Int) == 10) = true := by
            simp [between] at eb
            rcases eb with h | h
            · exact .inl (by rw [h]; rfl)
            · exact .inr ⟨by rw [h]; rfl, by rw [h]; rfl⟩
          clear ec ed eb
          rcases he with e32 | ⟨e32, e10⟩
          · go_wp2_with fail
            go_roundw
            case rel => exact ⟨k + 1, by omega, by go_num, A, HX.out, owns_below HO.out TB0.out, HB.out.trans (TB0.out.mono HB.out.size)⟩
            case measure => simp [intOf]; omega
          · go_wp2_with fail
            go_roundw
            case rel => exact ⟨k + 1, by omega, by go_num, A, HX.out, owns_below HO.out TB0.out, HB.out.trans (TB0.out.mono HB.out.size)⟩
            case measure => simp [intOf]; omega
      case rest =>
        obtain ⟨j, kd, v, rfl, hjk, hj, hat, htb, hgo⟩ := hcut
        have AT := Lib.hid hat
        have TB := Lib.hid htb
        have JX := Lib.hid hgo
        obtain ⟨q, eq⟩ : ∃ q, q = s.extract k j := ⟨_, rfl⟩
        have hcut := cut_mid s k j (by omega) (by rw [← HN.out]; omega)
        have hstr := str_cut s k j
        rw [← eq] at hcut hstr
        have HSTR := Lib.hid hstr
        obtain ⟨a0, a1, a2, a3, g0, g1, g2, g3⟩ := AT.out
        have hi := I.out.1
        have hz0 := I.out.2.1
        have hz1 := I.out.2.2.1
        have hz2 := I.out.2.2.2
        have TC := Lib.hid (TB.out.setCell (p := ⟨wo.heap.size, 1, none⟩) (Nat.le_refl _) (.string q))
        have HZ := Lib.hid TC.out.size
        have HZ2 := Lib.hid HB.out.size
        clear g0 g2 g3 hat htb hgo hstr eq
        go_wp2_with (at_builtin; refine append_tok rfl _ _ 53 63 i0 Tryz.underlying53 hi hz0 hz1 hz2 rfl w.heap.size _ _ A ⟨kd, ((txt s).drop k).take (j - k), v, k⟩ rfl rfl (owns_below HO.out (TC.out.alloc HZ.out _)) (cells_tok _ _ _ _ _ _ HSTR.out _ (by simp)) (by omega) (by have := HZ.out; have := HZ2.out; simp at *; omega) ?_; intro v' w2 hown hgrow)
        go_roundw
        case rel =>
          refine ⟨j, by omega, by first | rfl | go_num, _, JX.out, hown, ?_⟩
          exact (HB.out.trans ((TC.out.alloc HZ.out _).mono HZ2.out)).grown hgrow (by have := HZ.out; have := HZ2.out; simp at *; omega) (fun j e => (HO.out.lt j e).1)
        case measure => simp [intOf]; omega
    · have hr := going_end HG.out (by rw [← HL.out]; omega)
      have HR := Lib.hid hr
      clear hr
      go_wp2
      go_ret3
      refine ⟨?_, HB.out⟩
      rw [HR.out]
      exact ⟨_, rfl, HO.out⟩
end Go.Proofs.YtfkakdpppejehaaGreat.Sc
