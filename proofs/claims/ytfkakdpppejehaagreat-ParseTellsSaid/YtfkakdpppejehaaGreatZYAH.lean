/-
  What Alike of the document's answers for models answers, at any two lists of constraints that can be read.
  Names that a reader of tokens takes (the document's answers for texts of models).
  A variable that a reader of tokens takes (the document's answers for texts of models).
  Lists of elements that a call makes, in memory: what each element's cells are. Nothing of the program.
-/
import Derived.Test.YtfkakdpppejehaaGreatZYAG
import Derived.Test.YtfkakdpppejehaaGreatZYAB
import Derived.Maps.AppendAt
namespace Go.Proofs.YtfkakdpppejehaaGreat
open Go.RowKit
set_option maxRecDepth 100000

def sameC (a b : PCon) : Bool := decide (a.kind = b.kind) && (decide (a.rel = b.rel) && (decide (a.const = b.const) && (decide (a.vars = b.vars) && (decide (a.coefs = b.coefs) && decide (a.nums = b.nums)))))
theorem sameC_iff (a b : PCon) : sameC a b = true ↔ a = b := by
  obtain ⟨k, v, c, r, x, n⟩ := a
  obtain ⟨k', v', c', r', x', n'⟩ := b
  simp only [sameC, Bool.and_eq_true, decide_eq_true_eq, PCon.mk.injEq]
  constructor
  · rintro ⟨h1, h2, h3, h4, h5, h6⟩
    exact ⟨h1, h4, h5, h2, h3, h6⟩
  · rintro ⟨h1, h4, h5, h2, h3, h6⟩
    exact ⟨h1, h2, h3, h4, h5, h6⟩

theorem con_at {w : World} {p : Option Addr} {b off len : Nat} {L : List PCon} (h : SliceOf rCon 6 w p b off len L) {k : Nat} (hk : k < len) :
    ∃ (d : PCon) (v1 v2 v3 : Value), L[k]? = some d ∧ (w.cell? ⟨b, off + k * 6, none⟩ = some (.int .i64 d.kind) ∧ w.cell? ⟨b, off + k * 6 + 1, none⟩ = some v1 ∧ w.cell? ⟨b, off + k * 6 + 2, none⟩ = some v2 ∧
      w.cell? ⟨b, off + k * 6 + 3, none⟩ = some (.int .i64 d.rel) ∧ w.cell? ⟨b, off + k * 6 + 4, none⟩ = some (.int .i64 d.const) ∧ w.cell? ⟨b, off + k * 6 + 5, none⟩ = some v3) ∧ (Slc rNum 1 w v1 d.vars ∧ Slc rNum 1 w v2 d.coefs ∧ Slc rNum 1 w v3 d.nums) := by
  have hx : k < L.length := by rw [← h.long]; exact hk
  have e : L[k]? = some L[k] := List.getElem?_eq_getElem hx
  obtain ⟨cs, h1, h2, v1, v2, v3, h3, _, h4⟩ := h.cell k _ e
  subst h3
  exact ⟨_, v1, v2, v3, e, ⟨h2 0 (by omega), h2 1 (by omega), h2 2 (by omega), h2 3 (by omega), h2 4 (by omega), h2 5 (by omega)⟩, h4⟩
theorem slc_shape {α : Type} {R : Reader α} {n : Nat} {w : World} {v : Value} {L : List α} (h : Slc R n w v L) : ∃ (p : Option Addr) (l c : Nat), v = .slice p l c := by
  obtain ⟨p, b, off, c, len, h, _⟩ := h
  exact ⟨p, len, c, h⟩
/-- six cells at the head of a block -/
structure At6 (w : World) (b : Nat) (v0 v1 v2 v3 v4 v5 : Value) : Prop where
  c0 : w.cell? ⟨b, 0, none⟩ = some v0
  c1 : w.cell? ⟨b, 1, none⟩ = some v1
  c2 : w.cell? ⟨b, 2, none⟩ = some v2
  c3 : w.cell? ⟨b, 3, none⟩ = some v3
  c4 : w.cell? ⟨b, 4, none⟩ = some v4
  c5 : w.cell? ⟨b, 5, none⟩ = some v5
theorem two_six (w : World) (a0 a1 a2 a3 a4 a5 b0 b1 b2 b3 b4 b5 : Value) (t : TypeId) : At6 ((w.alloc (.cells #[a0, a1, a2, a3, a4, a5] t)).alloc (.cells #[b0, b1, b2, b3, b4, b5] t)) w.heap.size a0 a1 a2 a3 a4 a5 ∧
    At6 ((w.alloc (.cells #[a0, a1, a2, a3, a4, a5] t)).alloc (.cells #[b0, b1, b2, b3, b4, b5] t)) (w.heap.size + 1) b0 b1 b2 b3 b4 b5 :=
  ⟨⟨by go_simp, by go_simp, by go_simp, by go_simp, by go_simp, by go_simp⟩, ⟨by go_simp, by go_simp, by go_simp, by go_simp, by go_simp, by go_simp⟩⟩
theorem below_drewN {B n : Nat} {a w : World} (h : Below B a w) : Below B a (w.drewN n) := ⟨h.os, h.tape, h.output, h.size, h.block⟩

/-- are the lists of a constraint short? -/
def Short (m : Nat) (c : PCon) : Prop := c.vars.length ≤ m ∧ c.coefs.length ≤ m ∧ c.nums.length ≤ m

set_option maxRecDepth 100000 in
set_option maxHeartbeats 2000000 in
theorem alike_cells (p q : Option Addr) (b off c b' off' c' len len' : Nat) (xs ys : List PCon) (w : World) (hx : SliceOf rCon 6 w p b off len xs) (hy : SliceOf rCon 6 w q b' off' len' ys) (hm : len ≤ 1000000) (hm' : len' ≤ 1000000)
    (sx : ∀ d ∈ xs, Short 1000000 d) (sy : ∀ d ∈ ys, Short 1000000 d) :
    Calls Tryz.prog 18 #[.slice p len c, .slice q len' c'] w fun e w' => e = .returned (.bool (listB sameC xs ys)) ∧ Below w.heap.size w w' := by
  have HX := Lib.hid hx
  have HY := Lib.hid hy
  have SX := Lib.hid sx
  have SY := Lib.hid sy
  have hp := hx.at_
  have hq := hy.at_
  by_cases he : len = len'
  · subst he
    obtain ⟨R, hR⟩ : ∃ R, R = listB sameC xs ys := ⟨_, rfl⟩
    rw [← hR]
    have HS := Lib.hid (show R = listB sameC (xs.drop 0) (ys.drop 0) by rw [hR]; simp)
    clear hx hy hR sx sy
    go_enter Tryz.func18, Tryz.ntmps18
    go_wp2
    go_loopw [5] (fun i wr => ∃ k : Nat, k ≤ len ∧ i = .int .i64 k ∧ R = listB sameC (xs.drop k) (ys.drop k) ∧ Below w.heap.size w wr) (fun i _ => len - (intOf i).toNat)
    case atStart => exact ⟨0, by omega, rfl, HS.out, Below.refl _ _⟩
    case round =>
      obtain ⟨k, hk, rfl, hrel, hB⟩ := hrel
      have HB := Lib.hid hB
      by_cases hlt : k < len
      · obtain rfl := hp (by omega)
        obtain rfl := hq (by omega)
        obtain ⟨d, v1, v2, v3, ex, ⟨a0, a1, a2, a3, a4, a5⟩, sv1, sv2, sv3⟩ := con_at (HX.out.below rCon_stays hB) hlt
        obtain ⟨d', u1, u2, u3, ey, ⟨b0, b1, b2, b3, b4, b5⟩, su1, su2, su3⟩ := con_at (HY.out.below rCon_stays hB) hlt
        have hb1 : b' < wr.heap.size := World.block_lt_of_cell? _ _ b0
        obtain ⟨px1, lx1, cx1, rfl⟩ := slc_shape sv1
        obtain ⟨px2, lx2, cx2, rfl⟩ := slc_shape sv2
        obtain ⟨px3, lx3, cx3, rfl⟩ := slc_shape sv3
        obtain ⟨py1, ly1, cy1, rfl⟩ := slc_shape su1
        obtain ⟨py2, ly2, cy2, rfl⟩ := slc_shape su2
        obtain ⟨py3, ly3, cy3, rfl⟩ := slc_shape su3
        have hstep := hrel.trans (listB_at sameC ex ey)
        obtain ⟨x1, x2, x3⟩ := SX.out d (List.mem_of_getElem? ex)
        obtain ⟨y1, y2, y3⟩ := SY.out d' (List.mem_of_getElem? ey)
        have hsc : sameC d d' = (decide (d.kind = d'.kind) && (decide (d.rel = d'.rel) && (decide (d.const = d'.const) && (decide (d.vars = d'.vars) && (decide (d.coefs = d'.coefs) && decide (d.nums = d'.nums)))))) := rfl
        generalize d.kind = k0 at a0 hsc
        generalize d.rel = r0 at a3 hsc
        generalize d.const = t0 at a4 hsc
        generalize d'.kind = k0' at b0 hsc
        generalize d'.rel = r0' at b3 hsc
        generalize d'.const = t0' at b4 hsc
        clear ex ey hrel hB
        go_upto_region 8 with fail
        obtain ⟨W1, hW1⟩ : ∃ W1, W1 = (wr.alloc (.cells #[.int .i64 k0, .slice px1 lx1 cx1, .slice px2 lx2 cx2, .int .i64 r0, .int .i64 t0, .slice px3 lx3 cx3] 42)).alloc (.cells #[.int .i64 k0', .slice py1 ly1 cy1, .slice py2 ly2 cy2, .int .i64 r0', .int .i64 t0', .slice py3 ly3 cy3] 42) := ⟨_, rfl⟩
        rw [← hW1]
        obtain ⟨⟨m0, m1, m2, m3, m4, m5⟩, ⟨n0, n1, n2, n3, n4, n5⟩⟩ := two_six wr (.int .i64 k0) (.slice px1 lx1 cx1) (.slice px2 lx2 cx2) (.int .i64 r0) (.int .i64 t0) (.slice px3 lx3 cx3) (.int .i64 k0') (.slice py1 ly1 cy1) (.slice py2 ly2 cy2) (.int .i64 r0') (.int .i64 t0') (.slice py3 ly3 cy3) 42
        rw [← hW1] at m0 m1 m2 m3 m4 m5 n0 n1 n2 n3 n4 n5
        have hB1 : Below wr.heap.size wr W1 := by rw [hW1]; exact ((Below.refl _ wr).alloc (Nat.le_refl _) _).alloc (by simp) _
        have HB1 := Lib.hid (HB.out.trans (hB1.mono HB.out.size))
        have NV := Lib.hid (fun m => nsame_any (sv1.below rNum_stays (below_drewN (n := m) hB1)) (su1.below rNum_stays (below_drewN (n := m) hB1)) x1 y1)
        have NC := Lib.hid (fun m => nsame_any (sv2.below rNum_stays (below_drewN (n := m) hB1)) (su2.below rNum_stays (below_drewN (n := m) hB1)) x2 y2)
        have NN := Lib.hid (fun m => nsame_any (sv3.below rNum_stays (below_drewN (n := m) hB1)) (su3.below rNum_stays (below_drewN (n := m) hB1)) x3 y3)
        clear hW1 hB1 sv1 sv2 sv3 su1 su2 su3 a0 a1 a2 a3 a4 a5 b0 b1 b2 b3 b4 b5 hb1
        by_cases h1 : k0 = k0'
        · rw [decide_eq_true h1] at hsc
          subst h1
          by_cases h2 : r0 = r0'
          · rw [decide_eq_true h2] at hsc
            subst h2
            by_cases h3 : t0 = t0'
            · rw [decide_eq_true h3] at hsc
              subst h3
              by_cases h4 : d.vars = d'.vars
              · rw [decide_eq_true h4] at hsc NV
                by_cases h5 : d.coefs = d'.coefs
                · rw [decide_eq_true h5] at hsc NC
                  by_cases h6 : d.nums = d'.nums
                  · rw [decide_eq_true h6] at hsc NN
                    rw [hsc] at hstep
                    have NX := Lib.hid (hstep.trans (Bool.true_and _))
                    clear hstep hsc
                    go_wp2_with fail
                    refine (NV.out 0).mono ?_
                    rintro e w' ⟨rfl, nNV, rfl⟩
                    go_wp2_with fail
                    refine (NC.out _).mono ?_
                    rintro e w' ⟨rfl, nNC, rfl⟩
                    go_wp2_with fail
                    refine (NN.out _).mono ?_
                    rintro e w' ⟨rfl, nNN, rfl⟩
                    go_wp2_with fail
                    go_roundw
                    case rel => exact ⟨k + 1, by omega, by go_num, NX.out, below_drewN HB1.out⟩
                    case measure => simp [intOf]; omega
                  · rw [decide_eq_false h6] at hsc NN
                    have key : R = false := by rw [hstep, hsc]; simp
                    subst key
                    clear hstep hsc
                    go_wp2_with fail
                    refine (NV.out 0).mono ?_
                    rintro e w' ⟨rfl, nNV, rfl⟩
                    go_wp2_with fail
                    refine (NC.out _).mono ?_
                    rintro e w' ⟨rfl, nNC, rfl⟩
                    go_wp2_with fail
                    refine (NN.out _).mono ?_
                    rintro e w' ⟨rfl, nNN, rfl⟩
                    go_wp2_with fail
                    go_ret
                    exact ⟨rfl, below_drewN HB1.out⟩
                · rw [decide_eq_false h5] at hsc NC
                  have key : R = false := by rw [hstep, hsc]; simp
                  subst key
                  clear hstep hsc
                  go_wp2_with fail
                  refine (NV.out 0).mono ?_
                  rintro e w' ⟨rfl, nNV, rfl⟩
                  go_wp2_with fail
                  refine (NC.out _).mono ?_
                  rintro e w' ⟨rfl, nNC, rfl⟩
                  go_wp2_with fail
                  go_ret
                  exact ⟨rfl, below_drewN HB1.out⟩
              · rw [decide_eq_false h4] at hsc NV
                have key : R = false := by rw [hstep, hsc]; simp
                subst key
                clear hstep hsc
                go_wp2_with fail
                refine (NV.out 0).mono ?_
                rintro e w' ⟨rfl, nNV, rfl⟩
                go_wp2_with fail
                go_ret
                exact ⟨rfl, below_drewN HB1.out⟩
            · rw [decide_eq_false h3] at hsc
              have neh3 : (t0 == t0') = false := beq_eq_false_iff_ne.2 h3
              have key : R = false := by rw [hstep, hsc]; simp
              subst key
              clear hstep hsc
              go_wp2_with fail
              go_ret
              exact ⟨rfl, HB1.out⟩
          · rw [decide_eq_false h2] at hsc
            have neh2 : (r0 == r0') = false := beq_eq_false_iff_ne.2 h2
            have key : R = false := by rw [hstep, hsc]; simp
            subst key
            clear hstep hsc
            go_wp2_with fail
            go_ret
            exact ⟨rfl, HB1.out⟩
        · rw [decide_eq_false h1] at hsc
          have neh1 : (k0 == k0') = false := beq_eq_false_iff_ne.2 h1
          have key : R = false := by rw [hstep, hsc]; simp
          subst key
          clear hstep hsc
          go_wp2_with fail
          go_ret
          exact ⟨rfl, HB1.out⟩
      · have key : R = true := by
          rw [hrel]
          exact listB_end sameC (by rw [← HX.out.long]; omega) (by rw [← HY.out.long]; omega)
        subst key
        clear hrel hB
        go_wp2
        go_ret
        exact ⟨rfl, HB.out⟩
  · have key : listB sameC xs ys = false := listB_len _ _ _ (by rw [← hx.long, ← hy.long]; exact he)
    rw [key]
    have he2 : ((len : Int) == (len' : Int)) = false := beq_eq_false_iff_ne.2 (by omega)
    clear hx hy key hp hq sx sy
    go_enter Tryz.func18, Tryz.ntmps18
    go_wp2_with fail
    go_ret
    exact ⟨rfl, Below.refl _ _⟩
theorem alike_any {w : World} {u v : Value} {xs ys : List PCon} (hx : Slc rCon 6 w u xs) (hy : Slc rCon 6 w v ys) (hm : xs.length ≤ 1000000) (hm' : ys.length ≤ 1000000)
    (sx : ∀ d ∈ xs, Short 1000000 d) (sy : ∀ d ∈ ys, Short 1000000 d) :
    Calls Tryz.prog 18 #[u, v] w fun e w' => e = .returned (.bool (listB sameC xs ys)) ∧ Below w.heap.size w w' := by
  obtain ⟨p, b, off, c, len, rfl, _, hs⟩ := hx
  obtain ⟨q, b', off', c', len', rfl, _, ht⟩ := hy
  exact alike_cells p q b off c b' off' c' len len' xs ys w hs ht (by rw [hs.long]; exact hm) (by rw [ht.long]; exact hm') sx sy
end Go.Proofs.YtfkakdpppejehaaGreat
namespace Go.Proofs.YtfkakdpppejehaaGreat.Pa
open Go.RowKit
open Sc (Tok Cells str noTok)
set_option maxRecDepth 100000

section
variable {w : World} {g n : Nat} {pl : Option Addr} {bl ol cl : Nat} {pv : Option Addr} {bv ov m cv : Nat} {T : List Tok} {r : Rd}
set_option maxHeartbeats 2000000 in
theorem named_any (h : RdAt w g n pl bl ol cl pv bv ov m cv T r) :
    Calls Tryz.prog 57 #[.pointer (some ⟨g, 0, none⟩)] w fun e w' => e = .returned (.bool (namedO (next T r))) ∧ Below w.heap.size w w' := by
  have TX := Lib.hid (fun (u : World) (hb : Below w.heap.size w u) (i : Nat) => text_any ((h.below hb).drewN i))
  have KX := Lib.hid (fun (u : World) (hb : Below w.heap.size w u) => kind_any (h.below hb))
  obtain ⟨o, ho⟩ : ∃ o, o = next T r := ⟨_, rfl⟩
  rw [← ho] at TX KX ⊢
  obtain ⟨q0, hq0, hq1⟩ := str_open (textO o)
  rw [hq0] at TX
  have HQ := Lib.hid hq1
  obtain ⟨kd, hkd⟩ : ∃ kd, kd = kindO o := ⟨_, rfl⟩
  rw [← hkd] at KX
  obtain ⟨R, hR⟩ : ∃ R, R = namedO o := ⟨_, rfl⟩
  rw [← hR]
  have hR2 : R = (!wordsL.contains (textO o) && decide (kd = 1)) := by rw [hR, hkd]; rfl
  have HR := Lib.hid hR2
  have HO := Lib.hid (words_at w)
  have HZ := Lib.hid (show ∀ j, j < 0 → textO o ≠ wordsL.getD j [] from fun j h => by omega)
  clear h ho hq0 hq1 hkd hR hR2
  go_enter Tryz.func57, Tryz.ntmps57
  go_wp2_with fail
  go_loopw [4] (fun i wr => ∃ k : Nat, k ≤ 12 ∧ i = .int .i64 k ∧ (∀ j, j < k → textO o ≠ wordsL.getD j []) ∧ WordsAt w wr) (fun i _ => 12 - (intOf i).toNat)
  case atStart => exact ⟨0, by omega, rfl, HZ.out, HO.out⟩
  case round =>
    obtain ⟨k, hk, rfl, hne, hat⟩ := hrel
    have HB := Lib.hid hat.below
    have HA := Lib.hid hat
    have HE := Lib.hid hne
    by_cases hlt : k < 12
    · obtain ⟨q, c0, hq⟩ := hat.cell k hlt
      have he := eql_txt q0 q
      rw [hq, HQ.out] at he
      have TT := Lib.hid (TX.out wr HB.out)
      have hk12 : (k : Int) < 12 := by omega
      clear hat hne
      by_cases hx : textO o = wordsL.getD k []
      · have key : R = false := by rw [HR.out, words_hit hlt hx]; rfl
        subst key
        rw [decide_eq_true hx] at he
        clear hx hq
        go_upto_region 5 with fail
        go_quiet ((go_at_call 12; exact Calls.quiet_of (TT.out _)))
        go_wp2_with fail
        go_ret
        exact ⟨rfl, below_drewN HB.out⟩
      · have NX := Lib.hid (show ∀ j, j < k + 1 → textO o ≠ wordsL.getD j [] from fun j hj => by
          by_cases h : j < k
          · exact HE.out j h
          · obtain rfl : j = k := by omega
            exact hx)
        rw [decide_eq_false hx] at he
        clear hx hq
        go_upto_region 5 with fail
        go_quiet ((go_at_call 12; exact Calls.quiet_of (TT.out _)))
        go_wp2_with fail
        go_roundw
        case rel => exact ⟨k + 1, by omega, by go_num, NX.out, ⟨below_drewN HA.out.below, HA.out.cell⟩⟩
        case measure => simp [intOf]; omega
    · obtain rfl : k = 12 := by omega
      have HW := Lib.hid (words_miss HE.out)
      have KK := Lib.hid (KX.out wr HB.out)
      clear hat hne HA HE
      by_cases h1 : kd = 1
      · have key : R = true := by rw [HR.out, HW.out, decide_eq_true h1]; rfl
        subst key
        have e1 : ((kd : Int) == 1) = true := beq_iff_eq.2 (by omega)
        clear h1
        go_wp2_with fail
        refine KK.out.mono ?_
        rintro e w1 ⟨rfl, q1, hq1⟩
        have HB1 := Lib.hid (show Below w.heap.size w w1 by rw [hq1]; exact below_drewN HB.out)
        clear hq1
        go_wp2_with fail
        go_ret
        exact ⟨rfl, HB1.out⟩
      · have key : R = false := by rw [HR.out, HW.out, decide_eq_false h1]; rfl
        subst key
        have e1 : ((kd : Int) == 1) = false := beq_eq_false_iff_ne.2 (by omega)
        clear h1
        go_wp2_with fail
        refine KK.out.mono ?_
        rintro e w1 ⟨rfl, q1, hq1⟩
        have HB1 := Lib.hid (show Below w.heap.size w w1 by rw [hq1]; exact below_drewN HB.out)
        clear hq1
        go_wp2_with fail
        go_ret
        exact ⟨rfl, HB1.out⟩

set_option maxHeartbeats 1000000 in
theorem nm_any (h : RdAt w g n pl bl ol cl pv bv ov m cv T r) :
    Calls Tryz.prog 29 #[.pointer (some ⟨g, 0, none⟩)] w fun e w' => e = .returned (str (nameF r (next T r)).1) ∧ RdAt w' g n pl bl ol cl pv bv ov m cv T (nameF r (next T r)).2 ∧ Moves g none w w' := by
  have HT := Lib.hid (text_any h)
  have NX := Lib.hid (fun i => named_any (h.drewN i))
  have H := Lib.hid h
  have hfew := h.few
  have htop := h.top
  obtain ⟨o, ho⟩ : ∃ o, o = next T r := ⟨_, rfl⟩
  rw [← ho] at HT NX ⊢
  have HO := Lib.hid ho
  obtain ⟨q, hq, hq2⟩ := str_open (textO o)
  rw [hq] at HT
  have HQ := Lib.hid hq
  obtain ⟨b, hb⟩ : ∃ b, b = namedO o := ⟨_, rfl⟩
  rw [← hb] at NX
  have HBB := Lib.hid hb
  unfold nameF
  rw [← hb]
  clear h hq hq2 ho hb
  cases b
  · rw [if_neg (by simp)]
    go_enter Tryz.func29, Tryz.ntmps29
    go_wp2_with fail
    refine HT.out.mono ?_
    rintro e w1 ⟨rfl, q1, rfl⟩
    go_wp2_with fail
    refine (NX.out q1).mono ?_
    rintro e w2 ⟨rfl, hB⟩
    have H2 := Lib.hid ((H.out.drewN q1).below hB)
    have HM := Lib.hid (((Moves.refl g none w).drewN q1).trans (Moves.of_below hB))
    clear hB
    have c2 := H2.out.c2
    have f2 := H2.out.f2
    go_wp2_with fail
    go_ret
    exact ⟨rfl, H2.out.fail, HM.out.set 2 _⟩
  · rw [if_pos rfl]
    show Calls Tryz.prog 29 _ w fun e w' => e = .returned (str (textO o)) ∧ RdAt w' g n pl bl ol cl pv bv ov m cv T (step1 r) ∧ Moves g none w w'
    rw [HQ.out]
    have hin : r.at_ < n := H.out.in_ (by rw [← HO.out]; exact named_some HBB.out.symm)
    have hw : IntKind.i64.wrap ((r.at_ : Int) + 1) = (r.at_ : Int) + 1 := IntWalk.i64_in _ (by omega)
    go_enter Tryz.func29, Tryz.ntmps29
    go_wp2_with fail
    refine HT.out.mono ?_
    rintro e w1 ⟨rfl, q1, rfl⟩
    go_wp2_with fail
    refine (NX.out q1).mono ?_
    rintro e w2 ⟨rfl, hB⟩
    have H2 := Lib.hid ((H.out.drewN q1).below hB)
    have HM := Lib.hid (((Moves.refl g none w).drewN q1).trans (Moves.of_below hB))
    clear hB
    have c1 := H2.out.c1
    have f1 := H2.out.f1
    go_wp2_with fail
    go_ret
    exact ⟨rfl, H2.out.step hin, HM.out.set 1 _⟩
end
end Go.Proofs.YtfkakdpppejehaaGreat.Pa
namespace Go.Proofs.YtfkakdpppejehaaGreat.Pa
open Go.RowKit
open Sc (Tok Cells str noTok)
set_option maxRecDepth 100000

theorem find_at {s : Txt} : ∀ {l : List Txt} {i : Nat}, (∀ j, j < i → l.getD j [] ≠ s) → i < l.length → l.getD i [] = s → findF s l = some i
  | [], i, _, h, _ => by simp at h
  | x :: l, 0, _, _, e => by
    rw [List.getD_cons_zero] at e
    rw [findF, if_pos e]
  | x :: l, i + 1, h, hi, e => by
    have h0 := h 0 (by omega)
    rw [List.getD_cons_zero] at h0
    rw [findF, if_neg h0, find_at (l := l) (i := i) (fun j hj => by have := h (j + 1) (by omega); rwa [List.getD_cons_succ] at this) (by simpa using hi) (by rwa [List.getD_cons_succ] at e)]
    rfl
theorem find_no {s : Txt} : ∀ {l : List Txt}, (∀ j, j < l.length → l.getD j [] ≠ s) → findF s l = none
  | [], _ => rfl
  | x :: l, h => by
    have h0 := h 0 (by simp)
    rw [List.getD_cons_zero] at h0
    rw [findF, if_neg h0, find_no fun j hj => by have := h (j + 1) (by simpa using hj); rwa [List.getD_cons_succ] at this]
    rfl
section
variable {w : World} {g n : Nat} {pl : Option Addr} {bl ol cl : Nat} {pv : Option Addr} {bv ov m cv : Nat} {T : List Tok} {r : Rd}
theorem RdAt.setBad (h : RdAt w g n pl bl ol cl pv bv ov m cv T r) (p : Nat) : RdAt (w.setCell ⟨g, 4, none⟩ (.int .i64 (p : Int))) g n pl bl ol cl pv bv ov m cv T { r with bad := some p } := by
  obtain ⟨h1, h2⟩ := h.rest 4 (.int .i64 (p : Int))
  have c0 := h.c0
  have c1 := h.c1
  have c2 := h.c2
  have c3 := h.c3
  have c4 := h.c4
  have f1 := h.f1
  have f2 := h.f2
  have f3 := h.f3
  have f4 := h.f4
  exact ⟨by go_simp, by go_simp, by go_simp, by go_simp, by go_simp; simp [badI], by go_simp, by go_simp, by go_simp, by go_simp, h.long, h.few, h.top, h.tl, h1, h.tg, h2, h.ng, (h.kinds _ _).1, (h.kinds _ _).2.1, (h.kinds _ _).2.2⟩

set_option maxHeartbeats 2000000 in
theorem variable_any (h : RdAt w g n pl bl ol cl pv bv ov m cv T r) (hm : m ≤ 1000000) :
    Calls Tryz.prog 59 #[.pointer (some ⟨g, 0, none⟩)] w fun e w' => e = .returned (.int .i64 (variableF r (next T r)).1) ∧ RdAt w' g n pl bl ol cl pv bv ov m cv T (variableF r (next T r)).2 ∧ Moves g none w w' := by
  have HN := Lib.hid (nm_any h)
  have H := Lib.hid h
  have hfew := h.few
  have htop := h.top
  have htl := h.tl
  have c1 := h.c1
  obtain ⟨o, ho⟩ : ∃ o, o = next T r := ⟨_, rfl⟩
  rw [← ho] at HN ⊢
  have HO := Lib.hid ho
  unfold nameF at HN
  unfold variableF
  obtain ⟨k, hk⟩ : ∃ k, k = r.at_ := ⟨_, rfl⟩
  rw [← hk] at c1 htop
  by_cases hb : namedO o = true
  · rw [if_pos hb] at HN
    rw [if_pos hb]
    have hnn : next T r ≠ none := by rw [← ho]; exact named_some hb
    have hin : r.at_ < n := h.in_ hnn
    have hwr : r.wrong = false := by
      cases hw : r.wrong
      · rfl
      · exact absurd (next_wrong hw) hnn
    have ho2 : o = some (T.getD r.at_ noTok) := by rw [ho]; exact next_in hwr (by rw [← h.long]; exact hin)
    obtain ⟨q, hq, hq2⟩ := str_open (textO o)
    rw [hq] at HN
    have HQ := Lib.hid hq2
    obtain ⟨s, hs⟩ : ∃ s, s = textO o := ⟨_, rfl⟩
    rw [← hs] at HQ ⊢
    have hml := h.nm.long
    have hpv := h.nm.at_
    have HML := Lib.hid hml
    have HIN := Lib.hid hin
    have HO2 := Lib.hid ho2
    have hkn : k < n := by rw [hk]; exact hin
    have hbad : badI r.bad = badI (step1 r).bad := rfl
    have HKE := Lib.hid hk
    have HWR := Lib.hid hwr
    by_cases hf : ∃ i, i < m ∧ r.vars.getD i [] = s ∧ ∀ j, j < i → r.vars.getD j [] ≠ s
    · obtain ⟨i, i1, i2, i3⟩ := hf
      rw [find_at i3 (by rw [← hml]; exact i1) i2]
      show Calls Tryz.prog 59 _ w fun e w' => e = .returned (.int .i64 (i : Int)) ∧ RdAt w' g n pl bl ol cl pv bv ov m cv T (step1 r) ∧ Moves g none w w'
      have HI2 := Lib.hid i2
      have HI3 := Lib.hid i3
      have hpv2 := Lib.hid (hpv (by omega))
      clear h ho hk hb hin hwr ho2 hq hq2 hs hml hnn hbad i2 i3 hpv
      go_enter Tryz.func59, Tryz.ntmps59
      go_wp2_with fail
      refine HN.out.mono ?_
      rintro e w1 ⟨rfl, h1, hm1⟩
      have H1 := Lib.hid h1
      have HM := Lib.hid hm1
      have b2 := h1.c2
      rw [show (step1 r).wrong = false from HWR.out] at b2
      have b3 := h1.c3
      rw [hpv2.out] at b3
      clear h1 hm1 c1
      go_wp2_with fail
      go_loopw [5] (fun vi wr => (∃ j : Nat, j ≤ i ∧ vi = .int .i64 j) ∧ wr = w1) (fun vi _ => i - (intOf vi).toNat)
      case atStart => exact ⟨⟨0, by omega, rfl⟩, rfl⟩
      case round =>
        obtain ⟨⟨j, hj, rfl⟩, rfl⟩ := hrel
        have hjm : j < m := by omega
        have a0 := H1.out.nm.cell j hjm
        obtain ⟨q', hq', hq2'⟩ := str_open ((step1 r).vars.getD j [])
        rw [hq'] at a0
        have he := eql_txt q' q
        rw [hq2', HQ.out] at he
        have hji : (j : Int) < (m : Int) := by omega
        clear hq' hq2'
        by_cases hlt : j < i
        · rw [decide_eq_false (show ¬ (step1 r).vars.getD j [] = s from HI3.out j hlt)] at he
          go_wp2_with fail
          go_roundw
          case rel => exact ⟨⟨j + 1, by omega, by go_num⟩, trivial⟩
          case measure => simp [intOf]; omega
        · obtain rfl : j = i := by omega
          rw [decide_eq_true (show (step1 r).vars.getD j [] = s from HI2.out)] at he
          go_wp2_with fail
          go_ret
          exact ⟨rfl, H1.out, HM.out⟩
    · have hno : ∀ j, j < r.vars.length → r.vars.getD j [] ≠ s := fun j hj => by
        have H0 : ∀ j, j < m → (∀ i, i < j → r.vars.getD i [] ≠ s) → r.vars.getD j [] ≠ s := fun j hj hall e => hf ⟨j, hj, e, hall⟩
        induction j using Nat.strongRecOn with
        | ind j ih => exact H0 j (by rw [hml]; exact hj) (fun i hi => ih i hi (by omega))
      rw [find_no hno]
      have HNO := Lib.hid hno
      have hplace : o.map (·.at_) = some (T.getD k noTok).at_ := by rw [ho2, hk]; rfl
      obtain ⟨pz, hpz⟩ : ∃ pz, pz = (T.getD k noTok).at_ := ⟨_, rfl⟩
      have HPZ := Lib.hid hpz
      rw [← hpz] at hplace
      have hkT : k < T.length := by rw [← h.long]; exact hkn
      cases hbd : r.bad with
      | some p =>
        show Calls Tryz.prog 59 _ w fun e w' => e = .returned (.int .i64 0) ∧ RdAt w' g n pl bl ol cl pv bv ov m cv T { step1 r with bad := some p } ∧ Moves g none w w'
        rw [show ({ step1 r with bad := some p } : Rd) = step1 r by rw [show (step1 r) = { step1 r with bad := r.bad } from rfl, hbd]]
        have HBD := Lib.hid hbd
        clear h ho hk hb hin hwr ho2 hq hq2 hs hml hnn hbad hno hplace hpz hbd hf hpv
        go_enter Tryz.func59, Tryz.ntmps59
        go_wp2_with fail
        refine HN.out.mono ?_
        rintro e w1 ⟨rfl, h1, hm1⟩
        have H1 := Lib.hid h1
        have HM := Lib.hid hm1
        have b2 := h1.c2
        rw [show (step1 r).wrong = false from HWR.out] at b2
        have b3 := h1.c3
        have b4 := h1.c4
        rw [show badI (step1 r).bad = (p : Int) by show badI r.bad = _; rw [HBD.out]; rfl] at b4
        have hpv := h1.nm.at_
        have d4 : decide ((p : Int) < 0) = false := decide_eq_false (by omega)
        clear h1 hm1 c1
        go_wp2_with fail
        go_loopw [5] (fun vi wr => (∃ j : Nat, j ≤ m ∧ vi = .int .i64 j) ∧ wr = w1) (fun vi _ => m - (intOf vi).toNat)
        case atStart => exact ⟨⟨0, by omega, rfl⟩, rfl⟩
        case round =>
          obtain ⟨⟨j, hj, rfl⟩, rfl⟩ := hrel
          by_cases hlt : j < m
          · obtain rfl := hpv (by omega)
            have a0 := H1.out.nm.cell j hlt
            obtain ⟨q', hq', hq2'⟩ := str_open ((step1 r).vars.getD j [])
            rw [hq'] at a0
            have he := eql_txt q' q
            rw [hq2', HQ.out, decide_eq_false (show ¬ (step1 r).vars.getD j [] = s from HNO.out j (by rw [← HML.out]; exact hlt))] at he
            clear hq' hq2'
            go_wp2_with fail
            go_roundw
            case rel => exact ⟨⟨j + 1, by omega, by go_num⟩, trivial⟩
            case measure => simp [intOf]; omega
          · go_wp2_with fail
            go_ret
            exact ⟨rfl, H1.out, HM.out⟩
      | none =>
        rw [hplace]
        show Calls Tryz.prog 59 _ w fun e w' => e = .returned (.int .i64 0) ∧ RdAt w' g n pl bl ol cl pv bv ov m cv T { step1 r with bad := some pz } ∧ Moves g none w w'
        have HBD := Lib.hid hbd
        have hpl2 := Lib.hid (htl (by omega))
        clear h ho hk hb hin hwr ho2 hq hq2 hs hml hnn hbad hno hplace hpz hbd hf hpv
        go_enter Tryz.func59, Tryz.ntmps59
        go_wp2_with fail
        refine HN.out.mono ?_
        rintro e w1 ⟨rfl, h1, hm1⟩
        have H1 := Lib.hid h1
        have HM := Lib.hid hm1
        have b2 := h1.c2
        rw [show (step1 r).wrong = false from HWR.out] at b2
        have b3 := h1.c3
        have b4 := h1.c4
        rw [show badI (step1 r).bad = -1 by show badI r.bad = _; rw [HBD.out]; rfl] at b4
        have f4 := h1.f4
        have b0 := h1.c0
        rw [hpl2.out] at b0
        obtain ⟨_, _, _, t3⟩ := h1.tk k hkT
        rw [← HPZ.out] at t3
        have hpv := h1.nm.at_
        have d4 : decide ((-1 : Int) < 0) = true := rfl
        have i1 : (k : Int) < (n : Int) := by omega
        clear h1 hm1 c1
        go_wp2_with fail
        go_loopw [5] (fun vi wr => (∃ j : Nat, j ≤ m ∧ vi = .int .i64 j) ∧ wr = w1) (fun vi _ => m - (intOf vi).toNat)
        case atStart => exact ⟨⟨0, by omega, rfl⟩, rfl⟩
        case round =>
          obtain ⟨⟨j, hj, rfl⟩, rfl⟩ := hrel
          by_cases hlt : j < m
          · obtain rfl := hpv (by omega)
            have a0 := H1.out.nm.cell j hlt
            obtain ⟨q', hq', hq2'⟩ := str_open ((step1 r).vars.getD j [])
            rw [hq'] at a0
            have he := eql_txt q' q
            rw [hq2', HQ.out, decide_eq_false (show ¬ (step1 r).vars.getD j [] = s from HNO.out j (by rw [← HML.out]; exact hlt))] at he
            clear hq' hq2'
            go_wp2_with fail
            go_roundw
            case rel => exact ⟨⟨j + 1, by omega, by go_num⟩, trivial⟩
            case measure => simp [intOf]; omega
          · go_wp2_with fail
            go_ret
            exact ⟨rfl, H1.out.setBad pz, HM.out.set 4 _⟩
  · rw [if_neg hb] at HN
    rw [if_neg hb]
    clear h ho hk hb
    go_enter Tryz.func59, Tryz.ntmps59
    go_wp2_with fail
    refine HN.out.mono ?_
    rintro e w1 ⟨rfl, h1, hm1⟩
    have H1 := Lib.hid h1
    have HM := Lib.hid hm1
    have b2 : w1.cell? ⟨g, 2, none⟩ = some (.bool true) := h1.c2
    clear h1 hm1
    go_wp2_with fail
    go_ret
    exact ⟨rfl, H1.out, HM.out⟩
end
end Go.Proofs.YtfkakdpppejehaaGreat.Pa
namespace Go.Proofs.YtfkakdpppejehaaGreat
open Go.RowKit
set_option maxRecDepth 100000

/-- v is a slice in memory from base on (elements of type e, of n cells each); what R says of each element's cells holds of L's -/
def OwnsP {α : Type} (R : List Value → α → Prop) (n : Nat) (e : TypeId) (base : Nat) (w : World) (v : Value) (L : List α) : Prop :=
  ∃ cs : List Value, w.ownsRow base e n v L.length cs ∧ cs.length = L.length * n ∧ ∀ (k : Nat) (a : α), L[k]? = some a → ∃ c : List Value, c.length = n ∧ (∀ j, j < n → cs[k * n + j]? = c[j]?) ∧ R c a
theorem ownsP_nil {α : Type} (R : List Value → α → Prop) (n : Nat) (e : TypeId) (base : Nat) (w : World) : OwnsP R n e base w (.slice none 0 0) ([] : List α) := ⟨[], World.ownsRow_nil _ _ _ _, by simp, fun k a h => by simp at h⟩
theorem ownsP_made {α : Type} (R : List Value → α → Prop) (n : Nat) (e : TypeId) {base : Nat} (w : World) (h : base ≤ w.heap.size) : OwnsP R n e base (w.alloc (.cells #[] e)) (.slice (some ⟨w.heap.size, 0, none⟩) 0 0) ([] : List α) :=
  ⟨[], World.ownsRow_made w #[] 0 h (by unfold maxLen; omega) (by simp), by simp, fun k a h => by simp at h⟩
section
variable {α : Type} {R : List Value → α → Prop} {n : Nat} {e : TypeId} {base : Nat} {w w' : World} {v : Value} {L : List α}
theorem OwnsP.shape (h : OwnsP R n e base w v L) : ∃ (p : Option Addr) (cap : Nat), v = .slice p L.length cap := by
  obtain ⟨cs, h1, _⟩ := h
  rcases h1.2 with ⟨rfl, hl⟩ | ⟨g, cap, cur, rfl, hb, hg, hn, hc, hs, ht⟩
  · exact ⟨none, 0, by rw [hl]⟩
  · exact ⟨_, cap, rfl⟩
theorem OwnsP.below (h : OwnsP R n e base w v L) (hB : Below w.heap.size w w') : OwnsP R n e base w' v L := by
  obtain ⟨cs, h1, h2⟩ := h
  exact ⟨cs, owns_below h1 hB, h2⟩
theorem OwnsP.lt (h : OwnsP R n e base w v L) : ∀ k, v.ownBlock = some k → base ≤ k ∧ k < w.heap.size := by
  obtain ⟨cs, h1, _⟩ := h
  exact h1.lt
theorem OwnsP.imp {R' : List Value → α → Prop} (h : OwnsP R n e base w v L) (f : ∀ c a, a ∈ L → R c a → R' c a) : OwnsP R' n e base w v L := by
  obtain ⟨cs, h1, h2, h3⟩ := h
  refine ⟨cs, h1, h2, fun k a ha => ?_⟩
  obtain ⟨c, c1, c2, c3⟩ := h3 k a ha
  exact ⟨c, c1, c2, f c a (List.mem_of_getElem? ha) c3⟩
theorem OwnsP.low {low : Nat} (h : OwnsP R n e base w v L) (hl : low ≤ base) : OwnsP R n e low w v L := by
  obtain ⟨cs, h1, h2⟩ := h
  exact ⟨cs, owns_low h1 hl, h2⟩
theorem OwnsP.kept {row : Option Nat} (h : OwnsP R n e base w v L) (hg : w.grownBy w' row) (hne : v.ownBlock = none ∨ v.ownBlock ≠ row) : OwnsP R n e base w' v L := by
  obtain ⟨cs, h1, h2⟩ := h
  exact ⟨cs, h1.kept hg hne, h2⟩
/-- such a list reads as it is -/
theorem OwnsP.slc {R' : Reader α} (h : OwnsP R n e base w v L) (f : ∀ c a, a ∈ L → R c a → R' w c a) : Slc R' n w v L := by
  obtain ⟨cs, h1, h2, h3⟩ := h
  have h0 := h1
  rcases h1.2 with ⟨rfl, hl⟩ | ⟨g, cap, cur, rfl, hb, hg, hn, hc, hs, ht⟩
  · exact ⟨none, 0, 0, 0, 0, rfl, ⟨fun _ => rfl, Nat.le_refl _⟩, hl.symm, fun h => by omega, fun k a ha => by
      have := (List.getElem?_eq_some_iff.1 ha).1
      omega⟩
  · refine ⟨_, g, 0, cap, L.length, rfl, ⟨(fun h => by cases h), hn⟩, rfl, fun _ => rfl, fun k a ha => ?_⟩
    have hk := (List.getElem?_eq_some_iff.1 ha).1
    obtain ⟨c, c1, c2, c3⟩ := h3 k a ha
    refine ⟨c, c1, fun j hj => ?_, f c a (List.mem_of_getElem? ha) c3⟩
    have hlt : k * n + j < L.length * n := by
      have := Nat.mul_le_mul_right n (Nat.succ_le_of_lt hk)
      rw [Nat.succ_mul] at this
      omega
    rw [Nat.zero_add, h0.cellAt (k * n + j) hlt, c2 j hj]
end
/-- lists of elements of unlike types lie in unlike blocks -/
theorem OwnsP.apart {α β : Type} {R : List Value → α → Prop} {S : List Value → β → Prop} {n m : Nat} {e f : TypeId} {b c : Nat} {w : World} {u v : Value} {L : List α} {M : List β} (h : OwnsP R n e b w u L) (k : OwnsP S m f c w v M) (hne : e ≠ f) : u.ownBlock = none ∨ u.ownBlock ≠ v.ownBlock := by
  obtain ⟨_, h1, _⟩ := h
  obtain ⟨_, k1, _⟩ := k
  rcases h1.2 with ⟨rfl, _⟩ | ⟨g, cap, cur, rfl, hb, hg, _⟩
  · exact .inl rfl
  · rcases k1.2 with ⟨rfl, _⟩ | ⟨g', cap', cur', rfl, hb', hg', _⟩
    · exact .inr (by simp [Value.ownBlock])
    · refine .inr fun he => hne ?_
      simp only [Value.ownBlock, Option.some.injEq] at he
      subst he
      rw [hg] at hg'
      simp only [Option.some.injEq, Obj.cells.injEq] at hg'
      exact hg'.2.1

/-- the block of its own is what it was -/
theorem OwnsP.same {α : Type} {R : List Value → α → Prop} {n : Nat} {e : TypeId} {base : Nat} {w w' : World} {v : Value} {L : List α} (h : OwnsP R n e base w v L) (hk : ∀ k, v.ownBlock = some k → w'.heap[k]? = w.heap[k]?) : OwnsP R n e base w' v L := by
  obtain ⟨cs, h1, h2⟩ := h
  refine ⟨cs, ⟨h1.1, ?_⟩, h2⟩
  rcases h1.2 with q | ⟨g, cap, cur, rfl, hb, hg, r⟩
  · exact .inl q
  · exact .inr ⟨g, cap, cur, rfl, hb, (hk g rfl).trans hg, r⟩
/-- its block holds elements of its type -/
theorem OwnsP.kind {α : Type} {R : List Value → α → Prop} {n : Nat} {e : TypeId} {base : Nat} {w : World} {v : Value} {L : List α} (h : OwnsP R n e base w v L) {k : Nat} (hk : v.ownBlock = some k) : ∃ cs, w.heap[k]? = some (.cells cs e) := by
  obtain ⟨cs, h1, _⟩ := h
  rcases h1.2 with ⟨rfl, _⟩ | ⟨g, cap, cur, rfl, hb, hg, r⟩
  · simp [Value.ownBlock] at hk
  · simp only [Value.ownBlock, Option.some.injEq] at hk
    subst hk
    exact ⟨cur, hg⟩

/-- one element, laid out in cells of its own, behind a list -/
theorem append_put {α : Type} {R : List Value → α → Prop} {w : World} {ops : Array Oper} {rest : List Oper} {o : Oper} {a : Act} {Q : Exit → Act → World → Prop} (hgd : o.guard = none) (s x : Operand) (t e : TypeId) (n by_ : Nat) (i0 : TypeInfo) (z : Value)
    (ht : Tryz.prog.underlying t = some (.slice e)) (hi : Tryz.prog.info? e = some i0) (hz0 : i0.zero = some z) (hz1 : i0.size = n) (hz2 : i0.bytes = by_) (hzc : z.cells.size = n) (hpos : 0 < n) (hby2 : by_ ≤ 128)
    (ho : o.op = .call { callee := .builtin .append, args := #[s, x], argTypes := #[t, t] }) (base : Nat) (v : Value) (b c : Nat) (L : List α) (y : α) (cs : List Value) (hs : a.eval s = v) (hx : a.eval x = .slice (some ⟨b, 0, none⟩) 1 c)
    (hown : OwnsP R n e base w v L) (hlen : cs.length = n) (hcell : ∀ i u, cs[i]? = some u → w.cell? ⟨b, i, none⟩ = some u) (h1 : ∀ u ∈ cs, u.oneCell' = true) (hR : R cs y) (hsm : L.length ≤ 100000) (hbase : base ≤ w.heap.size)
    (h : ∀ v' w', OwnsP R n e base w' v' (L ++ [y]) → w.grownBy w' v.ownBlock → (v'.ownBlock = v.ownBlock ∨ v'.ownBlock = some w.heap.size) → wpList Tryz.prog ops Q rest (a.put o.dst v') w') : wpList Tryz.prog ops Q (o :: rest) a w := by
  obtain ⟨os, o1, o2, o3⟩ := hown
  refine wpList_append_own_at w hgd s x t ho base e i0 z n by_ ht hi hz0 hz1 hz2 hzc hpos v L.length os hs o1 ⟨b, 0, none⟩ 1 c cs hx (by rw [hlen, Nat.one_mul]) (fun j u hj => by rw [add_plain', Nat.zero_add]; exact hcell j u hj) h1 (by unfold maxLen; omega) ?_ hbase ?_
  · have : (L.length + 1) * by_ ≤ 100001 * 128 := Nat.mul_le_mul (by omega) hby2
    omega
  · intro v' w' g1 g2 _ g4
    refine h v' w' ⟨os ++ cs, ?_, ?_, fun k b' hk => ?_⟩ g2 g4
    · rw [List.length_append]
      exact g1
    · rw [List.length_append, List.length_append, o2, hlen, Nat.add_mul]
      simp
    · by_cases hlt : k < L.length
      · rw [List.getElem?_append_left hlt] at hk
        obtain ⟨d, d1, d2, d3⟩ := o3 k b' hk
        refine ⟨d, d1, fun j hj => ?_, d3⟩
        have hl : k * n + j < os.length := by
          rw [o2]
          have := Nat.mul_le_mul_right n (Nat.succ_le_of_lt hlt)
          rw [Nat.succ_mul] at this
          omega
        rw [List.getElem?_append_left hl, d2 j hj]
      · rw [List.getElem?_append_right (by omega)] at hk
        have hk1 := (List.getElem?_eq_some_iff.1 hk).1
        obtain rfl : k = L.length := by simp at hk1; omega
        rw [Nat.sub_self] at hk
        obtain rfl : y = b' := by simpa using hk
        refine ⟨cs, hlen, fun j hj => ?_, hR⟩
        rw [List.getElem?_append_right (by rw [o2]; omega), o2, Nat.add_sub_cancel_left]

end Go.Proofs.YtfkakdpppejehaaGreat
