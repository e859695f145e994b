/-
  What Alike of the document's answers for models answers, at any two lists of constraints that can be read.
-/
import Derived.Test.YtfkakdpppejehaaMDecls
namespace Go.Proofs.Ytfkakdpppejehaa
open Go.RowKit
set_option maxRecDepth 100000

def sameC (a b : PCon) : Bool := decide (a.kind = b.kind) && (decide (a.rel = b.rel) && (decide (a.const = b.const) && (decide (a.vars = b.vars) && (decide (a.coefs = b.coefs) && decide (a.nums = b.nums)))))
theorem sameC_iff (a b : PCon) : sameC a b = true ↔ a = b := by
  obtain ⟨k, v, c, r, x, n⟩ := a
  obtain ⟨k', v', c', r', x', n'⟩ := b
  simp only [sameC, Bool.and_eq_true, decide_eq_true_eq, PCon.mk.injEq]
  constructor
  · rintro ⟨h1, h2, h3, h4, h5, h6⟩
    exact ⟨h1, h4, h5, h2, h3, h6⟩
  · rintro ⟨h1, h4, h5, h2, h3, h6⟩
    exact ⟨h1, h2, h3, h4, h5, h6⟩

theorem con_at {w : World} {p : Option Addr} {b off len : Nat} {L : List PCon} (h : SliceOf rCon 6 w p b off len L) {k : Nat} (hk : k < len) :
    ∃ (d : PCon) (v1 v2 v3 : Value), L[k]? = some d ∧ (w.cell? ⟨b, off + k * 6, none⟩ = some (.int .i64 d.kind) ∧ w.cell? ⟨b, off + k * 6 + 1, none⟩ = some v1 ∧ w.cell? ⟨b, off + k * 6 + 2, none⟩ = some v2 ∧
      w.cell? ⟨b, off + k * 6 + 3, none⟩ = some (.int .i64 d.rel) ∧ w.cell? ⟨b, off + k * 6 + 4, none⟩ = some (.int .i64 d.const) ∧ w.cell? ⟨b, off + k * 6 + 5, none⟩ = some v3) ∧ (Slc rNum 1 w v1 d.vars ∧ Slc rNum 1 w v2 d.coefs ∧ Slc rNum 1 w v3 d.nums) := by
  have hx : k < L.length := by rw [← h.long]; exact hk
  have e : L[k]? = some L[k] := List.getElem?_eq_getElem hx
  obtain ⟨cs, h1, h2, v1, v2, v3, h3, _, h4⟩ := h.cell k _ e
  subst h3
  exact ⟨_, v1, v2, v3, e, ⟨h2 0 (by omega), h2 1 (by omega), h2 2 (by omega), h2 3 (by omega), h2 4 (by omega), h2 5 (by omega)⟩, h4⟩
theorem slc_shape {α : Type} {R : Reader α} {n : Nat} {w : World} {v : Value} {L : List α} (h : Slc R n w v L) : ∃ (p : Option Addr) (l c : Nat), v = .slice p l c := by
  obtain ⟨p, b, off, c, len, h, _⟩ := h
  exact ⟨p, len, c, h⟩
/-- six cells at the head of a block -/
structure At6 (w : World) (b : Nat) (v0 v1 v2 v3 v4 v5 : Value) : Prop where
  c0 : w.cell? ⟨b, 0, none⟩ = some v0
  c1 : w.cell? ⟨b, 1, none⟩ = some v1
  c2 : w.cell? ⟨b, 2, none⟩ = some v2
  c3 : w.cell? ⟨b, 3, none⟩ = some v3
  c4 : w.cell? ⟨b, 4, none⟩ = some v4
  c5 : w.cell? ⟨b, 5, none⟩ = some v5
theorem two_six (w : World) (a0 a1 a2 a3 a4 a5 b0 b1 b2 b3 b4 b5 : Value) (t : TypeId) : At6 ((w.alloc (.cells #[a0, a1, a2, a3, a4, a5] t)).alloc (.cells #[b0, b1, b2, b3, b4, b5] t)) w.heap.size a0 a1 a2 a3 a4 a5 ∧
    At6 ((w.alloc (.cells #[a0, a1, a2, a3, a4, a5] t)).alloc (.cells #[b0, b1, b2, b3, b4, b5] t)) (w.heap.size + 1) b0 b1 b2 b3 b4 b5 :=
  ⟨⟨by go_simp, by go_simp, by go_simp, by go_simp, by go_simp, by go_simp⟩, ⟨by go_simp, by go_simp, by go_simp, by go_simp, by go_simp, by go_simp⟩⟩
theorem below_drewN {B n : Nat} {a w : World} (h : Below B a w) : Below B a (w.drewN n) := ⟨h.os, h.tape, h.output, h.size, h.block⟩

/-- are the lists of a constraint short? -/
def Short (m : Nat) (c : PCon) : Prop := c.vars.length ≤ m ∧ c.coefs.length ≤ m ∧ c.nums.length ≤ m

set_option maxRecDepth 100000 in
set_option maxHeartbeats 2000000 in
theorem alike_cells (p q : Option Addr) (b off c b' off' c' len len' : Nat) (xs ys : List PCon) (w : World) (hx : SliceOf rCon 6 w p b off len xs) (hy : SliceOf rCon 6 w q b' off' len' ys) (hm : len ≤ 1000000) (hm' : len' ≤ 1000000)
    (sx : ∀ d ∈ xs, Short 1000000 d) (sy : ∀ d ∈ ys, Short 1000000 d) :
    Calls Try.prog 19 #[.slice p len c, .slice q len' c'] w fun e w' => e = .returned (.bool (listB sameC xs ys)) ∧ Below w.heap.size w w' := by
  have HX := Lib.hid hx
  have HY := Lib.hid hy
  have SX := Lib.hid sx
  have SY := Lib.hid sy
  have hp := hx.at_
  have hq := hy.at_
  by_cases he : len = len'
  · subst he
    obtain ⟨R, hR⟩ : ∃ R, R = listB sameC xs ys := ⟨_, rfl⟩
    rw [← hR]
    have HS := Lib.hid (show R = listB sameC (xs.drop 0) (ys.drop 0) by rw [hR]; simp)
    clear hx hy hR sx sy
    go_enter Try.func19, Try.ntmps19
    go_wp2
    go_loopw [5] (fun i wr => ∃ k : Nat, k ≤ len ∧ i = .int .i64 k ∧ R = listB sameC (xs.drop k) (ys.drop k) ∧ Below w.heap.size w wr) (fun i _ => len - (intOf i).toNat)
    case atStart => exact ⟨0, by omega, rfl, HS.out, Below.refl _ _⟩
    case round =>
      obtain ⟨k, hk, rfl, hrel, hB⟩ := hrel
      have HB := Lib.hid hB
      by_cases hlt : k < len
      · obtain rfl := hp (by omega)
        obtain rfl := hq (by omega)
        obtain ⟨d, v1, v2, v3, ex, ⟨a0, a1, a2, a3, a4, a5⟩, sv1, sv2, sv3⟩ := con_at (HX.out.below rCon_stays hB) hlt
        obtain ⟨d', u1, u2, u3, ey, ⟨b0, b1, b2, b3, b4, b5⟩, su1, su2, su3⟩ := con_at (HY.out.below rCon_stays hB) hlt
        have hb1 : b' < wr.heap.size := World.block_lt_of_cell? _ _ b0
        obtain ⟨px1, lx1, cx1, rfl⟩ := slc_shape sv1
        obtain ⟨px2, lx2, cx2, rfl⟩ := slc_shape sv2
        obtain ⟨px3, lx3, cx3, rfl⟩ := slc_shape sv3
        obtain ⟨py1, ly1, cy1, rfl⟩ := slc_shape su1
        obtain ⟨py2, ly2, cy2, rfl⟩ := slc_shape su2
        obtain ⟨py3, ly3, cy3, rfl⟩ := slc_shape su3
        have hstep := hrel.trans (listB_at sameC ex ey)
        obtain ⟨x1, x2, x3⟩ := SX.out d (List.mem_of_getElem? ex)
        obtain ⟨y1, y2, y3⟩ := SY.out d' (List.mem_of_getElem? ey)
        have hsc : sameC d d' = (decide (d.kind = d'.kind) && (decide (d.rel = d'.rel) && (decide (d.const = d'.const) && (decide (d.vars = d'.vars) && (decide (d.coefs = d'.coefs) && decide (d.nums = d'.nums)))))) := rfl
        generalize d.kind = k0 at a0 hsc
        generalize d.rel = r0 at a3 hsc
        generalize d.const = t0 at a4 hsc
        generalize d'.kind = k0' at b0 hsc
        generalize d'.rel = r0' at b3 hsc
        generalize d'.const = t0' at b4 hsc
        clear ex ey hrel hB
        go_upto_region 8 with fail
        obtain ⟨W1, hW1⟩ : ∃ W1, W1 = (wr.alloc (.cells #[.int .i64 k0, .slice px1 lx1 cx1, .slice px2 lx2 cx2, .int .i64 r0, .int .i64 t0, .slice px3 lx3 cx3] 50)).alloc (.cells #[.int .i64 k0', .slice py1 ly1 cy1, .slice py2 ly2 cy2, .int .i64 r0', .int .i64 t0', .slice py3 ly3 cy3] 50) := ⟨_, rfl⟩
        rw [← hW1]
        obtain ⟨⟨m0, m1, m2, m3, m4, m5⟩, ⟨n0, n1, n2, n3, n4, n5⟩⟩ := two_six wr (.int .i64 k0) (.slice px1 lx1 cx1) (.slice px2 lx2 cx2) (.int .i64 r0) (.int .i64 t0) (.slice px3 lx3 cx3) (.int .i64 k0') (.slice py1 ly1 cy1) (.slice py2 ly2 cy2) (.int .i64 r0') (.int .i64 t0') (.slice py3 ly3 cy3) 50
        rw [← hW1] at m0 m1 m2 m3 m4 m5 n0 n1 n2 n3 n4 n5
        have hB1 : Below wr.heap.size wr W1 := by rw [hW1]; exact ((Below.refl _ wr).alloc (Nat.le_refl _) _).alloc (by simp) _
        have HB1 := Lib.hid (HB.out.trans (hB1.mono HB.out.size))
        have NV := Lib.hid (fun m => nsame_any (sv1.below rNum_stays (below_drewN (n := m) hB1)) (su1.below rNum_stays (below_drewN (n := m) hB1)) x1 y1)
        have NC := Lib.hid (fun m => nsame_any (sv2.below rNum_stays (below_drewN (n := m) hB1)) (su2.below rNum_stays (below_drewN (n := m) hB1)) x2 y2)
        have NN := Lib.hid (fun m => nsame_any (sv3.below rNum_stays (below_drewN (n := m) hB1)) (su3.below rNum_stays (below_drewN (n := m) hB1)) x3 y3)
        clear hW1 hB1 sv1 sv2 sv3 su1 su2 su3 a0 a1 a2 a3 a4 a5 b0 b1 b2 b3 b4 b5 hb1
        by_cases h1 : k0 = k0'
        · rw [decide_eq_true h1] at hsc
          subst h1
          by_cases h2 : r0 = r0'
          · rw [decide_eq_true h2] at hsc
            subst h2
            by_cases h3 : t0 = t0'
            · rw [decide_eq_true h3] at hsc
              subst h3
              by_cases h4 : d.vars = d'.vars
              · rw [decide_eq_true h4] at hsc NV
                by_cases h5 : d.coefs = d'.coefs
                · rw [decide_eq_true h5] at hsc NC
                  by_cases h6 : d.nums = d'.nums
                  · rw [decide_eq_true h6] at hsc NN
                    rw [hsc] at hstep
                    have NX := Lib.hid (hstep.trans (Bool.true_and _))
                    clear hstep hsc
                    go_wp2_with fail
                    refine (NV.out 0).mono ?_
                    rintro e w' ⟨rfl, nNV, rfl⟩
                    go_wp2_with fail
                    refine (NC.out _).mono ?_
                    rintro e w' ⟨rfl, nNC, rfl⟩
                    go_wp2_with fail
                    refine (NN.out _).mono ?_
                    rintro e w' ⟨rfl, nNN, rfl⟩
                    go_wp2_with fail
                    go_roundw
                    case rel => exact ⟨k + 1, by omega, by go_num, NX.out, below_drewN HB1.out⟩
                    case measure => simp [intOf]; omega
                  · rw [decide_eq_false h6] at hsc NN
                    have key : R = false := by rw [hstep, hsc]; simp
                    subst key
                    clear hstep hsc
                    go_wp2_with fail
                    refine (NV.out 0).mono ?_
                    rintro e w' ⟨rfl, nNV, rfl⟩
                    go_wp2_with fail
                    refine (NC.out _).mono ?_
                    rintro e w' ⟨rfl, nNC, rfl⟩
                    go_wp2_with fail
                    refine (NN.out _).mono ?_
                    rintro e w' ⟨rfl, nNN, rfl⟩
                    go_wp2_with fail
                    go_ret
                    exact ⟨rfl, below_drewN HB1.out⟩
                · rw [decide_eq_false h5] at hsc NC
                  have key : R = false := by rw [hstep, hsc]; simp
                  subst key
                  clear hstep hsc
                  go_wp2_with fail
                  refine (NV.out 0).mono ?_
                  rintro e w' ⟨rfl, nNV, rfl⟩
                  go_wp2_with fail
                  refine (NC.out _).mono ?_
                  rintro e w' ⟨rfl, nNC, rfl⟩
                  go_wp2_with fail
                  go_ret
                  exact ⟨rfl, below_drewN HB1.out⟩
              · rw [decide_eq_false h4] at hsc NV
                have key : R = false := by rw [hstep, hsc]; simp
                subst key
                clear hstep hsc
                go_wp2_with fail
                refine (NV.out 0).mono ?_
                rintro e w' ⟨rfl, nNV, rfl⟩
                go_wp2_with fail
                go_ret
                exact ⟨rfl, below_drewN HB1.out⟩
            · rw [decide_eq_false h3] at hsc
              have neh3 : (t0 == t0') = false := beq_eq_false_iff_ne.2 h3
              have key : R = false := by rw [hstep, hsc]; simp
              subst key
              clear hstep hsc
              go_wp2_with fail
              go_ret
              exact ⟨rfl, HB1.out⟩
          · rw [decide_eq_false h2] at hsc
            have neh2 : (r0 == r0') = false := beq_eq_false_iff_ne.2 h2
            have key : R = false := by rw [hstep, hsc]; simp
            subst key
            clear hstep hsc
            go_wp2_with fail
            go_ret
            exact ⟨rfl, HB1.out⟩
        · rw [decide_eq_false h1] at hsc
          have neh1 : (k0 == k0') = false := beq_eq_false_iff_ne.2 h1
          have key : R = false := by rw [hstep, hsc]; simp
          subst key
          clear hstep hsc
          go_wp2_with fail
          go_ret
          exact ⟨rfl, HB1.out⟩
      · have key : R = true := by
          rw [hrel]
          exact listB_end sameC (by rw [← HX.out.long]; omega) (by rw [← HY.out.long]; omega)
        subst key
        clear hrel hB
        go_wp2
        go_ret
        exact ⟨rfl, HB.out⟩
  · have key : listB sameC xs ys = false := listB_len _ _ _ (by rw [← hx.long, ← hy.long]; exact he)
    rw [key]
    have he2 : ((len : Int) == (len' : Int)) = false := beq_eq_false_iff_ne.2 (by omega)
    clear hx hy key hp hq sx sy
    go_enter Try.func19, Try.ntmps19
    go_wp2_with fail
    go_ret
    exact ⟨rfl, Below.refl _ _⟩
theorem alike_any {w : World} {u v : Value} {xs ys : List PCon} (hx : Slc rCon 6 w u xs) (hy : Slc rCon 6 w v ys) (hm : xs.length ≤ 1000000) (hm' : ys.length ≤ 1000000)
    (sx : ∀ d ∈ xs, Short 1000000 d) (sy : ∀ d ∈ ys, Short 1000000 d) :
    Calls Try.prog 19 #[u, v] w fun e w' => e = .returned (.bool (listB sameC xs ys)) ∧ Below w.heap.size w w' := by
  obtain ⟨p, b, off, c, len, rfl, _, hs⟩ := hx
  obtain ⟨q, b', off', c', len', rfl, _, ht⟩ := hy
  exact alike_cells p q b off c b' off' c' len len' xs ys w hs ht (by rw [hs.long]; exact hm) (by rw [ht.long]; exact hm') sx sy
end Go.Proofs.Ytfkakdpppejehaa
