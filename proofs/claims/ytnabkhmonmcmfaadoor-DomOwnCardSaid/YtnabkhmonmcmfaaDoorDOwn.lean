/-
  DomOwn answers true, at every domain and every number, where the table of the library lies in its variable.
-/
import Derived.Test.YtnabkhmonmcmfaaDoorDAwake
import Derived.Test.YtnabkhmonmcmfaaDoorSApp
namespace Go.Proofs.YtnabkhmonmcmfaaDoor
open Go.RowKit

theorem held2 {W0 u u' : World} {p0 p1 : Addr} {a0 a1 : Value} (h : u.cell? p0 = some a0 ∧ u.cell? p1 = some a1 ∧ Below W0.heap.size W0 u) (hb : Below u.heap.size u u') :
    u'.cell? p0 = some a0 ∧ u'.cell? p1 = some a1 ∧ Below W0.heap.size W0 u' :=
  ⟨cell_below hb h.1, cell_below hb h.2.1, below_two h.2.2 hb⟩
theorem held2b {W0 u : World} {p0 p1 : Addr} {a0 a1 : Value} (h : u.cell? p0 = some a0 ∧ u.cell? p1 = some a1 ∧ Below W0.heap.size W0 u) : Below W0.heap.size W0 u := h.2.2
theorem keepX_le (xs : List Int) (x : Nat) : (keepX xs x).length ≤ xs.length := by
  unfold keepX
  split <;> simp
/-- v is a slice in memory from base on, of n numbers -/
def Room (w : World) (base : Nat) (v : Value) (n : Nat) : Prop := ∃ ys, OwnsI w base v ys ∧ ys.length = n
theorem room_set {w : World} {base : Nat} {v : Value} {n : Nat} {a : Addr} (h : Room w base v n) (ha : a.block < base) (y : Value) : Room (w.setCell a y) base v n := by
  obtain ⟨ys, h1, h2⟩ := h
  exact ⟨ys, ownsRow_setCell_below h1 ha _, h2⟩
theorem room_below {w w' : World} {base : Nat} {v : Value} {n : Nat} (h : Room w base v n) (hb : Below w.heap.size w w') : Room w' base v n := by
  obtain ⟨ys, h1, h2⟩ := h
  exact ⟨ys, owns_below h1 hb, h2⟩
theorem room_store {w : World} {base n : Nat} {p : Option Addr} {m c : Nat} (h : Room w base (.slice p m c) n) {k : Nat} (hk : k < n) :
    ∃ g z, p = some ⟨g, 0, none⟩ ∧ m = n ∧ base ≤ g ∧ g < w.heap.size ∧ w.cell? ⟨g, k, none⟩ = some z ∧ w.frozen? ⟨g, k, none⟩ = false ∧ ∀ y : Int, Room (w.setCell ⟨g, k, none⟩ (.int .i64 y)) base (.slice p m c) n := by
  obtain ⟨ys, h1, h2⟩ := h
  obtain ⟨g, cap, he, hb, hc, hf, hs⟩ := ints_store h1 (k := k) (by omega)
  injection he with e1 e2 e3
  exact ⟨g, _, e1, by omega, hb, cell_lt hc, hc, hf, fun y => ⟨_, hs y, by simp; omega⟩⟩
theorem room_len {w : World} {base n : Nat} {p : Option Addr} {m c : Nat} (h : Room w base (.slice p m c) n) : m = n := by
  obtain ⟨ys, h1, h2⟩ := h
  rcases h1.2 with ⟨e, h3⟩ | ⟨g, cap, cur, e, _⟩
  · injection e with e1 e2 e3
    omega
  · injection e with e1 e2 e3
    omega

theorem index0 (a b c d : Value) (w : World) : (Instr.index 56 (.agg #[a, b, c, d]) (.int .i64 0)).run Tryd.prog w = .ok (.agg #[a, b]) w := by kernel_rfl
theorem index1 (a b c d : Value) (w : World) : (Instr.index 56 (.agg #[a, b, c, d]) (.int .i64 1)).run Tryd.prog w = .ok (.agg #[c, d]) w := by kernel_rfl

theorem room_lt {w : World} {base n g m c : Nat} (h : Room w base (.slice (some ⟨g, 0, none⟩) m c) n) : base ≤ g ∧ g < w.heap.size := by
  obtain ⟨ys, h1, _⟩ := h
  exact h1.lt g rfl

set_option maxRecDepth 100000 in
set_option maxHeartbeats 8000000 in
theorem own_law (v : Value) (xs : List Int) (x : Nat) (y : Int) (w : World) (hx : x < 18446744073709551616) (hT : B.Tab w) (h0 : 0 < w.heap.size) (hr : ReadsN w v xs) (hlen : xs.length ≤ maxLen) :
    Calls Tryd.prog 5 #[.agg #[v, .int .u64 x], .int .i64 y] w (Yes w) := by
  obtain ⟨p, n, c, rfl⟩ := reads_slice (reads_of_readsN hr)
  have hn : n = xs.length := by
    rcases hr with ⟨h, rfl⟩ | ⟨ad, c, h, rfl⟩ | ⟨b, off, c, h, _⟩
    · injection h
    · injection h
    · injection h
  obtain ⟨W0, hW0⟩ : ∃ W0, W0 = w.alloc (.cells #[.slice p n c, .int .u64 x] 26) := ⟨_, rfl⟩
  have hB0 : Below w.heap.size w W0 := by rw [hW0]; exact below_alloc _ _
  have A := Lib.hid (awake_any W0 (B.Tab.below hT h0 hB0) (Nat.lt_of_lt_of_le h0 hB0.size))
  have q0 := new_two w (.slice p n c) (.int .u64 x) 26 w.heap.size rfl
  rw [← hW0] at q0
  have HT := Lib.hid hT
  have H0 := Lib.hid h0
  have HR := Lib.hid hr
  have HB0 := Lib.hid hB0
  have HQ := Lib.hid q0
  have HW := Lib.hid hW0
  have HN := Lib.hid hn
  unfold maxLen at hlen
  rw [← hn] at hlen
  clear hT h0 hr hB0 q0 hW0 hn
  go_enter Tryd.func5, Tryd.ntmps5
  go_wp2_with fail
  rw [← HW.out]
  refine A.out.mono ?_
  rintro e w1 ⟨rfl, hB⟩
  have k0 := cell_below hB HQ.out.1
  have k1 := cell_below hB HQ.out.2.1
  have B1 := Lib.hid (below_two HB0.out hB)
  clear hB A
  by_cases h100 : 100 < n
  · have d100 : (100 : Int) < (n : Int) := by omega
    go_wp2_with fail
    go_ret
    exact ⟨rfl, B1.out⟩
  · have d100 : (n : Int) ≤ 100 := by omega
    have hxl : xs.length ≤ 100 := by have := HN.out; omega
    have O1 := Lib.hid (show OwnsI (w1.alloc (.cells #[] 3)) w1.heap.size (.slice (some ⟨w1.heap.size, 0, none⟩) 0 0) [] from World.ownsRow_made w1 #[] 0 (Nat.le_refl _) (by decide) rfl)
    have k0' := cell_below (below_alloc w1 (.cells #[] 3)) k0
    have k1' := cell_below (below_alloc w1 (.cells #[] 3)) k1
    have RN := Lib.hid (readsN_below HR.out (below_two B1.out (below_alloc w1 (.cells #[] 3))))
    have KK := Lib.hid (And.intro k0' k1')
    go_wp2_with (at_builtin; refine wpList_append_ints rfl _ _ rfl w1.heap.size _ _ [] xs rfl rfl O1.out RN.out (by simp; omega) (by simp) ?_; intro v2 w2 ho2 hg2; obtain ⟨p2, n2, c2, rfl⟩ := reads_slice (reads_of_owns ho2); have hb2 := (below_alloc w1 (.cells #[] 3)).grown hg2 (by simp) (fun j e => (O1.out.lt j e).1))
    have R2 := Lib.hid (reads_of_owns ho2)
    have B2 := Lib.hid (below_two B1.out hb2)
    have c0 := cell_below hb2 k0
    have c1 := cell_below hb2 k1
    have H2 := Lib.hid (And.intro c0 (And.intro c1 (Below.refl w2.heap.size w2)))
    have LE := Lib.hid (fun u (hb : Below w2.heap.size w2 u) => dless_any (w := u) (reads_below (reads_of_readsN HR.out) (below_two B2.out hb)) (Nat.le_trans hxl (by decide)) x hx y)
    have ON := Lib.hid (fun u (hb : Below w2.heap.size w2 u) => donly_any (w := u) (reads_below (reads_of_readsN HR.out) (below_two B2.out hb)) (Nat.le_trans hxl (by decide)) x hx y)
    generalize hy1 : keepL xs x (fun z => !(decide (y ≤ z) && decide (z ≤ y))) = y1 at LE
    generalize hy2 : keepL xs x (fun z => decide (y ≤ z) && decide (z ≤ y)) = y2 at ON
    have HL := Lib.hid (keepX_le xs x)
    clear k0 k1 k0' k1' c0 c1 ho2 hg2 hb2 O1 RN KK hy1 hy2
    go_region_held3 (fun w' => w'.cell? ⟨w.heap.size, 0, none⟩ = some (.slice p n c) ∧ w'.cell? ⟨w.heap.size, 1, none⟩ = some (.int .u64 x) ∧ Below w2.heap.size w2 w')
      (first | exact held2 (by assumption) (by assumption) | exact held2 H2.out (below_drewN (n := 1) (Below.refl _ _)))
      (first
        | (go_at_call 26; refine (LE.out _ (held2b (by assumption))).mono ?_; rintro e w3 ⟨r, rfl, hd, hB⟩; obtain ⟨v3, rfl, ho3⟩ := hd; obtain ⟨p3, n3, c3, rfl⟩ := reads_slice (reads_of_owns ho3); have BL := Lib.hid (below_two (below_drewN (n := 1) (Below.refl w2.heap.size w2)) hB); have O3 := Lib.hid ho3; clear ho3)
        | (go_at_call 24; refine (ON.out _ (held2b (by assumption))).mono ?_; rintro e w4 ⟨r, rfl, hd, hB⟩; obtain ⟨v4, rfl, ho4⟩ := hd; obtain ⟨p4, n4, c4, rfl⟩ := reads_slice (reads_of_owns ho4); have O4 := Lib.hid ho4; have O3' := Lib.hid (owns_below O3.out hB); have S3 := Lib.hid (fun j e => (O3.out.lt j e).2); have BL4 := Lib.hid (below_two BL.out hB); clear ho4))
    have HM3 := Lib.hid (show Room w4 w2.heap.size (.slice p3 n3 c3) (keepX xs x).length from ⟨_, O3'.out, rfl⟩)
    have HM4 := Lib.hid (show Room w4 w3.heap.size (.slice p4 n4 c4) (keepX xs x).length from ⟨_, O4.out, rfl⟩)
    have HW23 : Hid (w2.heap.size ≤ w3.heap.size) := BL.out.size
    have hml : (keepX xs x).length ≤ 100 := Nat.le_trans HL.out hxl
    generalize (keepX xs x).length = m at HM3 HM4 hml
    obtain rfl := room_len HM3.out
    obtain rfl := room_len HM4.out
    rename_i hHeld
    clear O3 O3' O4 HL LE ON hB hHeld BL
    obtain ⟨m, em⟩ : ∃ m, m = n4 := ⟨_, rfl⟩
    rw [← em] at HM3 HM4 S3 hml ⊢
    clear em
    go_wp2_with fail
    go_loopw [28] (fun i wr => ∃ k : Nat, k ≤ 2 ∧ i = .int .i64 k ∧ Below w2.heap.size w2 wr ∧ (k = 0 → Room wr w2.heap.size (.slice p3 m c3) m ∧ Room wr w3.heap.size (.slice p4 m c4) m) ∧ (k = 1 → Room wr w3.heap.size (.slice p4 m c4) m)) (fun i _ => 2 - (intOf i).toNat)
    case atStart => exact ⟨0, by omega, rfl, BL4.out, fun _ => ⟨HM3.out, HM4.out⟩, fun h => by omega⟩
    case round =>
      obtain ⟨k, hk, rfl, hB, hk0, hk1⟩ := hrel
      by_cases e0 : k = 0
      · subst e0
        obtain ⟨hro, hr4⟩ := hk0 rfl
        have hs3 : ∀ g, p3 = some ⟨g, 0, none⟩ → g < w3.heap.size := fun g e => S3.out g (by subst e; rfl)
        clear hk0 hk1
        have hlt0 : ∀ g, p3 = some ⟨g, 0, none⟩ → g < wr.heap.size := fun g e => by subst e; exact (room_lt hro).2
        have HG := Lib.hid hlt0
        have HBL := Lib.hid (hB.alloc hB.size (.cells #[.slice p3 m c3, .int .u64 y1] 26))
        have HRO := Lib.hid (room_below hro (below_alloc wr (.cells #[.slice p3 m c3, .int .u64 y1] 26)))
        have HR4 := Lib.hid (room_below hr4 (below_alloc wr (.cells #[.slice p3 m c3, .int .u64 y1] 26)))
        have HG4 := Lib.hid hs3
        have HY := Lib.hid (new_two wr (.slice p3 m c3) (.int .u64 y1) 26 wr.heap.size rfl).1
        clear hlt0 hB hro hr4 hs3
        have ix0 := index0
        go_wp2_with fail
        go_loopw [34] (fun i wq => ∃ j : Nat, j ≤ m ∧ i = .int .i64 j ∧ Below w2.heap.size w2 wq ∧ Room wq w2.heap.size (.slice p3 m c3) m ∧ wq.cell? ⟨wr.heap.size, 0, none⟩ = some (.slice p3 m c3) ∧ Room wq w3.heap.size (.slice p4 m c4) m) (fun i _ => m - (intOf i).toNat)
        case atStart => exact ⟨0, by omega, rfl, HBL.out, HRO.out, HY.out, HR4.out⟩
        case round =>
          obtain ⟨j, hj, rfl, hB, hro, hbox, hr4⟩ := hrel
          by_cases hjm : j < m
          · obtain ⟨g, z, rfl, _, hbg, hgl, hc, hf, hst⟩ := room_store hro hjm
            have hgn := HG.out g rfl
            have hne : g ≠ _ := Nat.ne_of_lt hgn
            have NX := Lib.hid (show _ ∧ _ ∧ _ ∧ _ from ⟨hB.setCell (p := ⟨g, j, none⟩) hbg (.int .i64 y), hst y, cell_set (a := ⟨g, j, none⟩) (y := .int .i64 y) hbox (Ne.symm hne), room_set (a := ⟨g, j, none⟩) hr4 (HG4.out g rfl) (.int .i64 y)⟩)
            have d5 : (j : Int) < (m : Int) := by omega
            clear hB hro hst hne hgn hbg hgl hr4
            go_wp2_with fail
            go_roundw
            case rel => exact ⟨j + 1, by omega, by go_num, NX.out⟩
            case measure => simp [intOf]; omega
          · have HB2 := Lib.hid hB
            have HR5 := Lib.hid hr4
            clear hB hro hbox hr4
            go_wp2_with fail
            go_roundw
            case rel => exact ⟨1, by omega, by go_num, HB2.out, fun h => by omega, fun h => HR5.out⟩
            case measure => simp [intOf]
      · by_cases e1 : k = 1
        · subst e1
          have hro := hk1 rfl
          clear hk0 hk1 e0
          have hlt0 : ∀ g, p4 = some ⟨g, 0, none⟩ → g < wr.heap.size := fun g e => by subst e; exact (room_lt hro).2
          have HG := Lib.hid hlt0
          have HBL := Lib.hid (hB.alloc hB.size (.cells #[.slice p4 m c4, .int .u64 y2] 26))
          have HRO := Lib.hid (room_below hro (below_alloc wr (.cells #[.slice p4 m c4, .int .u64 y2] 26)))
          have HY := Lib.hid (new_two wr (.slice p4 m c4) (.int .u64 y2) 26 wr.heap.size rfl).1
          clear hlt0 hB hro 
          have ix1 := index1
          go_wp2_with fail
          go_loopw [34] (fun i wq => ∃ j : Nat, j ≤ m ∧ i = .int .i64 j ∧ Below w2.heap.size w2 wq ∧ Room wq w3.heap.size (.slice p4 m c4) m ∧ wq.cell? ⟨wr.heap.size, 0, none⟩ = some (.slice p4 m c4)) (fun i _ => m - (intOf i).toNat)
          case atStart => exact ⟨0, by omega, rfl, HBL.out, HRO.out, HY.out⟩
          case round =>
            obtain ⟨j, hj, rfl, hB, hro, hbox⟩ := hrel
            by_cases hjm : j < m
            · obtain ⟨g, z, rfl, _, hbg, hgl, hc, hf, hst⟩ := room_store hro hjm
              have hgn := HG.out g rfl
              have hne : g ≠ _ := Nat.ne_of_lt hgn
              have NX := Lib.hid (show _ ∧ _ ∧ _ from ⟨hB.setCell (p := ⟨g, j, none⟩) (Nat.le_trans HW23.out hbg) (.int .i64 y), hst y, cell_set (a := ⟨g, j, none⟩) (y := .int .i64 y) hbox (Ne.symm hne)⟩)
              have d5 : (j : Int) < (m : Int) := by omega
              clear hB hro hst hne hgn hbg hgl
              go_wp2_with fail
              go_roundw
              case rel => exact ⟨j + 1, by omega, by go_num, NX.out⟩
              case measure => simp [intOf]; omega
            · have HB2 := Lib.hid hB
              clear hB hro hbox
              go_wp2_with fail
              go_roundw
              case rel => exact ⟨2, by omega, by go_num, HB2.out, fun h => by omega, fun h => by omega⟩
              case measure => simp [intOf]
        · have e2 : k = 2 := by omega
          subst e2
          clear hk0 hk1 e0 e1
          have hbw := below_two B2.out hB
          have k0 := cell_below hB H2.out.1
          have k1 := cell_below hB H2.out.2.1
          have LI := Lib.hid (dlist_any (reads_below (reads_of_readsN HR.out) hbw) (Nat.le_trans hxl (by decide)) x hx (B.Tab.below HT.out H0.out hbw) (Nat.lt_of_lt_of_le H0.out hbw.size))
          have HBW := Lib.hid hB
          have HLM := Lib.hid (leftM_le xs x)
          clear hbw hB
          go_wp2_with fail
          refine LI.out.mono ?_
          rintro e w5 ⟨r, rfl, ho, hB⟩
          obtain ⟨p5, n5, c5, rfl⟩ := reads_slice (reads_of_owns ho)
          have HM5 := Lib.hid (show Room w5 wr.heap.size (.slice p5 n5 c5) (leftM xs x).length from ⟨_, ho, rfl⟩)
          have hl5 := HLM.out
          generalize (leftM xs x).length = m5 at HM5 hl5
          obtain rfl := room_len HM5.out
          have HB5 := Lib.hid (below_two HBW.out hB)
          clear ho hB LI HLM k0 k1
          go_wp2_with fail
          go_loopw [48] (fun i wq => ∃ j : Nat, j ≤ n5 ∧ i = .int .i64 j ∧ Below w2.heap.size w2 wq ∧ Room wq wr.heap.size (.slice p5 n5 c5) n5) (fun i _ => n5 - (intOf i).toNat)
          case atStart => exact ⟨0, by omega, rfl, HB5.out, HM5.out⟩
          case round =>
            obtain ⟨j, hj, rfl, hB, hro⟩ := hrel
            by_cases hjm : j < n5
            · obtain ⟨g, z, rfl, _, hbg, hgl, hc, hf, hst⟩ := room_store hro hjm
              have NX := Lib.hid (show _ ∧ _ from ⟨hB.setCell (p := ⟨g, j, none⟩) (Nat.le_trans HBW.out.size hbg) (.int .i64 y), hst y⟩)
              have d5 : (j : Int) < (n5 : Int) := by omega
              clear hB hro hst hbg hgl
              go_wp2_with fail
              go_roundw
              case rel => exact ⟨j + 1, by omega, by go_num, NX.out⟩
              case measure => simp [intOf]; omega
            · have c0 := cell_below hB H2.out.1
              have SA := Lib.hid (rsameI_any (reads_below (reads_of_readsN HR.out) (below_two B2.out hB)) (reads_below R2.out hB) (Nat.le_trans hxl (by decide)) (by simp; omega))
              have HBF := Lib.hid (below_two B2.out hB)
              clear hB hro
              go_wp2_with fail
              refine SA.out.mono ?_
              rintro e w6 ⟨rfl, q, rfl⟩
              have HBF := Lib.hid (below_drewN (n := q) HBF.out)
              go_wp2_with fail
              go_ret
              exact ⟨by simp, HBF.out⟩
end Go.Proofs.YtnabkhmonmcmfaaDoor
