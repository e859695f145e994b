/-
  What slices.Equal, slices.EqualFunc, and Same of package model, answer, at any two things that can be read.
-/
import Derived.Test.YthoakeekfajhaaaPEnds
namespace Go.Proofs.Ythoakeekfajhaaa
open Go.RowKit

set_option maxHeartbeats 400000 in
theorem eqn_cells (p q : Option Addr) (b off c b' off' c' len len' : Nat) (xs ys : List Int) (w : World) (hx : Nums w p b off len xs) (hy : Nums w q b' off' len' ys) (hm : len ≤ 1000000) (hm' : len' ≤ 1000000) :
    Calls Try.prog 57 #[.slice p len c, .slice q len' c'] w fun e w' => e = .returned (.bool (decide (xs = ys))) ∧ ∃ n, w' = w.drewN n := by
  have HX := Lib.hid hx
  have HY := Lib.hid hy
  have hp := hx.at_
  have hq := hy.at_
  by_cases he : len = len'
  · subst he
    obtain ⟨R, hR⟩ : ∃ R, R = decide (xs = ys) := ⟨_, rfl⟩
    rw [← hR]
    have HR := Lib.hid hR
    have HS := Lib.hid (show ∀ j, j < 0 → xs.getD j 0 = ys.getD j 0 from fun j h => by omega)
    clear hx hy hR
    go_enter Try.func57, Try.ntmps57
    go_wp2
    go_loopw [13] (fun i wr => (∃ k : Nat, k ≤ len ∧ i = .int .i64 k ∧ ∀ j, j < k → xs.getD j 0 = ys.getD j 0) ∧ ∃ n, wr = w.drewN n) (fun i _ => len - (intOf i).toNat)
    case atStart => exact ⟨⟨0, by omega, rfl, HS.out⟩, 0, rfl⟩
    case round =>
      obtain ⟨⟨k, hk, rfl, hrel⟩, hw⟩ := hrel
      have HW := Lib.hid hw
      have HE := Lib.hid hrel
      clear hw hrel
      by_cases hlt : k < len
      · obtain rfl := hp (by omega)
        obtain rfl := hq (by omega)
        have cx : wr.cell? ⟨b, off + k, none⟩ = some (.int .i64 (xs.getD k 0)) := by obtain ⟨n, rfl⟩ := HW.out; exact HX.out.cell k hlt
        have cy : wr.cell? ⟨b', off' + k, none⟩ = some (.int .i64 (ys.getD k 0)) := by obtain ⟨n, rfl⟩ := HW.out; exact HY.out.cell k hlt
        obtain ⟨x, ex⟩ : ∃ x, x = xs.getD k 0 := ⟨_, rfl⟩
        obtain ⟨y, ey⟩ : ∃ y, y = ys.getD k 0 := ⟨_, rfl⟩
        rw [← ex] at cx
        rw [← ey] at cy
        by_cases hxy : x = y
        · subst hxy
          have EK := Lib.hid (show ∀ j, j < k + 1 → xs.getD j 0 = ys.getD j 0 from fun j hj => by
            by_cases h : j < k
            · exact HE.out j h
            · obtain rfl : j = k := by omega
              rw [← ex, ← ey])
          clear ex ey
          go_wp2
          go_quiet (fail)
          go_wp2_with fail
          go_roundw
          case rel => exact ⟨⟨k + 1, by omega, by go_num, EK.out⟩, drewN_on HW.out⟩
          case measure => simp [intOf]; omega
        · have hxy2 : (x == y) = false := beq_eq_false_iff_ne.2 hxy
          have key : R = false := by
            rw [HR.out]
            refine decide_eq_false fun h => hxy ?_
            rw [ex, ey, h]
          subst key
          clear ex ey
          go_wp2
          go_quiet (fail)
          go_wp2_with fail
          go_ret
          exact ⟨rfl, drewN_on HW.out⟩
      · have key : R = true := by
          rw [HR.out]
          refine decide_eq_true (List.ext_getElem (by rw [← HX.out.long, ← HY.out.long]) fun j h1 h2 => ?_)
          have := HE.out j (by have := HX.out.long; omega)
          simpa [h1, h2] using this
        subst key
        go_wp2
        go_ret
        exact ⟨rfl, HW.out⟩
  · have key : decide (xs = ys) = false := decide_eq_false fun h => he (by rw [hx.long, hy.long, h])
    rw [key]
    have he2 : ((len : Int) == (len' : Int)) = false := beq_eq_false_iff_ne.2 (by omega)
    clear hx hy key hp hq
    go_enter Try.func57, Try.ntmps57
    go_wp2_with fail
    go_ret
    exact ⟨rfl, 0, rfl⟩
theorem eqn_any {w : World} {u v : Value} {xs ys : List Int} (hx : Slc rNum 1 w u xs) (hy : Slc rNum 1 w v ys) (hm : xs.length ≤ 1000000) (hm' : ys.length ≤ 1000000) :
    Calls Try.prog 57 #[u, v] w fun e w' => e = .returned (.bool (decide (xs = ys))) ∧ ∃ n, w' = w.drewN n := by
  obtain ⟨p, b, off, c, len, rfl, _, hs⟩ := hx
  obtain ⟨q, b', off', c', len', rfl, _, ht⟩ := hy
  exact eqn_cells p q b off c b' off' c' len len' xs ys w (nums_of hs) (nums_of ht) (by rw [hs.long]; exact hm) (by rw [ht.long]; exact hm')
set_option maxHeartbeats 400000 in
theorem eqs_cells (p q : Option Addr) (b off c b' off' c' len len' : Nat) (xs ys : List (Int × Int)) (w : World) (hx : SliceOf rSpan 2 w p b off len xs) (hy : SliceOf rSpan 2 w q b' off' len' ys) (hm : len ≤ 1000000) (hm' : len' ≤ 1000000) :
    Calls Try.prog 67 #[.slice p len c, .slice q len' c'] w fun e w' => e = .returned (.bool (decide (xs = ys))) ∧ ∃ n, w' = w.drewN n := by
  have HX := Lib.hid hx
  have HY := Lib.hid hy
  have hp := hx.at_
  have hq := hy.at_
  by_cases he : len = len'
  · subst he
    obtain ⟨R, hR⟩ : ∃ R, R = decide (xs = ys) := ⟨_, rfl⟩
    rw [← hR]
    have HR := Lib.hid hR
    have HS := Lib.hid (show ∀ j, j < 0 → xs.getD j (0, 0) = ys.getD j (0, 0) from fun j h => by omega)
    clear hx hy hR
    go_enter Try.func67, Try.ntmps67
    go_wp2
    go_loopw [13] (fun i wr => (∃ k : Nat, k ≤ len ∧ i = .int .i64 k ∧ ∀ j, j < k → xs.getD j (0, 0) = ys.getD j (0, 0)) ∧ ∃ n, wr = w.drewN n) (fun i _ => len - (intOf i).toNat)
    case atStart => exact ⟨⟨0, by omega, rfl, HS.out⟩, 0, rfl⟩
    case round =>
      obtain ⟨⟨k, hk, rfl, hrel⟩, hw⟩ := hrel
      have HW := Lib.hid hw
      have HE := Lib.hid hrel
      clear hw hrel
      by_cases hlt : k < len
      · obtain rfl := hp (by omega)
        obtain rfl := hq (by omega)
        have cx : SliceOf rSpan 2 wr (some ⟨b, off, none⟩) b off len xs := by obtain ⟨n, rfl⟩ := HW.out; exact HX.out.drewN rSpan_stays n
        have cy : SliceOf rSpan 2 wr (some ⟨b', off', none⟩) b' off' len ys := by obtain ⟨n, rfl⟩ := HW.out; exact HY.out.drewN rSpan_stays n
        obtain ⟨a0, a1⟩ := span_at cx hlt
        obtain ⟨b0, b1⟩ := span_at cy hlt
        obtain ⟨⟨x0, x1⟩, ex⟩ : ∃ x, x = xs.getD k (0, 0) := ⟨_, rfl⟩
        obtain ⟨⟨y0, y1⟩, ey⟩ : ∃ y, y = ys.getD k (0, 0) := ⟨_, rfl⟩
        rw [← ex] at a0 a1
        rw [← ey] at b0 b1
        have hne := neq52 x0 x1 y0 y1
        by_cases hxy : (x0, x1) = (y0, y1)
        · have EK := Lib.hid (show ∀ j, j < k + 1 → xs.getD j (0, 0) = ys.getD j (0, 0) from fun j hj => by
            by_cases h : j < k
            · exact HE.out j h
            · obtain rfl : j = k := by omega
              rw [← ex, ← ey, hxy])
          rw [decide_eq_true hxy] at hne
          clear ex ey cx cy hxy
          go_wp2
          go_quiet (fail)
          go_wp2_with fail
          go_roundw
          case rel => exact ⟨⟨k + 1, by omega, by go_num, EK.out⟩, drewN_on HW.out⟩
          case measure => simp [intOf]; omega
        · have key : R = false := by
            rw [HR.out]
            refine decide_eq_false fun h => hxy ?_
            rw [ex, ey, h]
          subst key
          rw [decide_eq_false hxy] at hne
          clear ex ey cx cy hxy
          go_wp2
          go_quiet (fail)
          go_wp2_with fail
          go_ret
          exact ⟨rfl, drewN_on HW.out⟩
      · have key : R = true := by
          rw [HR.out]
          refine decide_eq_true (List.ext_getElem (by rw [← HX.out.long, ← HY.out.long]) fun j h1 h2 => ?_)
          have := HE.out j (by have := HX.out.long; omega)
          simpa [h1, h2] using this
        subst key
        go_wp2
        go_ret
        exact ⟨rfl, HW.out⟩
  · have key : decide (xs = ys) = false := decide_eq_false fun h => he (by rw [hx.long, hy.long, h])
    rw [key]
    have he2 : ((len : Int) == (len' : Int)) = false := beq_eq_false_iff_ne.2 (by omega)
    clear hx hy key hp hq
    go_enter Try.func67, Try.ntmps67
    go_wp2_with fail
    go_ret
    exact ⟨rfl, 0, rfl⟩
theorem eqs_any {w : World} {u v : Value} {xs ys : List (Int × Int)} (hx : Slc rSpan 2 w u xs) (hy : Slc rSpan 2 w v ys) (hm : xs.length ≤ 1000000) (hm' : ys.length ≤ 1000000) :
    Calls Try.prog 67 #[u, v] w fun e w' => e = .returned (.bool (decide (xs = ys))) ∧ ∃ n, w' = w.drewN n := by
  obtain ⟨p, b, off, c, len, rfl, _, hs⟩ := hx
  obtain ⟨q, b', off', c', len', rfl, _, ht⟩ := hy
  exact eqs_cells p q b off c b' off' c' len len' xs ys w hs ht (by rw [hs.long]; exact hm) (by rw [ht.long]; exact hm')

set_option maxRecDepth 100000 in
set_option maxHeartbeats 2000000 in
theorem efB_cells (g : Nat) (hE : Enters Try.prog g) (f : PBlock → PBlock → Bool) (p q : Option Addr) (b off c b' off' c' len len' : Nat) (xs ys : List PBlock) (w : World) (hx : SliceOf rBlock 3 w p b off len xs) (hy : SliceOf rBlock 3 w q b' off' len' ys) (hm : len ≤ 1000000) (hm' : len' ≤ 1000000)
    (hf : ∀ (u : World) (x y : PBlock) (v1 v2 u1 u2 : Value), Below w.heap.size w u → x ∈ xs → y ∈ ys → rBlock u [.bool x.all, v1, v2] x → rBlock u [.bool y.all, u1, u2] y → Calls Try.prog g #[.agg #[.bool x.all, v1, v2], .agg #[.bool y.all, u1, u2]] u fun e w' => e = .returned (.bool (f x y)) ∧ Below u.heap.size u w') :
    Calls Try.prog 39 #[.slice p len c, .slice q len' c', .func (.func g) #[] #[]] w fun e w' => e = .returned (.bool (listB f xs ys)) ∧ Below w.heap.size w w' := by
  have HX := Lib.hid hx
  have HY := Lib.hid hy
  have HF := Lib.hid hf
  have HE := Lib.hid hE
  have hp := hx.at_
  have hq := hy.at_
  by_cases he : len = len'
  · subst he
    obtain ⟨R, hR⟩ : ∃ R, R = listB f xs ys := ⟨_, rfl⟩
    rw [← hR]
    have HS := Lib.hid (show R = listB f (xs.drop 0) (ys.drop 0) by rw [hR]; simp)
    clear hx hy hR hf hE
    go_enter Try.func39, Try.ntmps39
    go_wp2
    go_loopw [17] (fun i wr => ∃ k : Nat, k ≤ len ∧ i = .int .i64 k ∧ R = listB f (xs.drop k) (ys.drop k) ∧ Below w.heap.size w wr) (fun i _ => len - (intOf i).toNat)
    case atStart => exact ⟨0, by omega, rfl, HS.out, Below.refl _ _⟩
    case round =>
      obtain ⟨k, hk, rfl, hrel, hB⟩ := hrel
      by_cases hlt : k < len
      · obtain rfl := hp (by omega)
        obtain rfl := hq (by omega)
        obtain ⟨x, v1, v2, ex, ⟨a0, a1, a2⟩, hx⟩ := block_at2 (HX.out.below rBlock_stays hB) hlt
        obtain ⟨y, u1, u2, ey, ⟨b0, b1, b2⟩, hy⟩ := block_at2 (HY.out.below rBlock_stays hB) hlt
        have hb1 : b' < wr.heap.size := World.block_lt_of_cell? _ _ b0
        obtain ⟨⟨p1, l1, c1, rfl⟩, ⟨p2, l2, c2, rfl⟩⟩ := rBlock_shape hx
        obtain ⟨⟨q1, k1, d1, rfl⟩, ⟨q2, k2, d2, rfl⟩⟩ := rBlock_shape hy
        have hstep := hrel.trans (listB_at f ex ey)
        obtain ⟨W1, hW1⟩ : ∃ W1, W1 = (wr.alloc (.cells #[.bool x.all, .slice p1 l1 c1, .slice p2 l2 c2] 45)).alloc (.cells #[.bool y.all, .slice q1 k1 d1, .slice q2 k2 d2] 45) := ⟨_, rfl⟩
        have hB1 : Below wr.heap.size wr W1 := by rw [hW1]; exact ((Below.refl _ wr).alloc (Nat.le_refl _) _).alloc (by simp) _
        have m0 : W1.cell? ⟨wr.heap.size, 0, none⟩ = some (.bool x.all) := by rw [hW1]; go_simp
        have n0 : W1.cell? ⟨wr.heap.size + 1, 0, none⟩ = some (.bool y.all) := by rw [hW1]; go_simp
        have m1 : W1.cell? ⟨wr.heap.size, 1, none⟩ = some (.slice p1 l1 c1) := by rw [hW1]; go_simp
        have n1 : W1.cell? ⟨wr.heap.size + 1, 1, none⟩ = some (.slice q1 k1 d1) := by rw [hW1]; go_simp
        have m2 : W1.cell? ⟨wr.heap.size, 2, none⟩ = some (.slice p2 l2 c2) := by rw [hW1]; go_simp
        have n2 : W1.cell? ⟨wr.heap.size + 1, 2, none⟩ = some (.slice q2 k2 d2) := by rw [hW1]; go_simp
        have HB1 := Lib.hid (hB.trans (hB1.mono hB.size))
        have C := Lib.hid (HF.out W1 x y _ _ _ _ (hB.trans (hB1.mono hB.size)) (List.mem_of_getElem? ex) (List.mem_of_getElem? ey) (rBlock_stays _ _ _ _ hB1 hx) (rBlock_stays _ _ _ _ hB1 hy))
        have HW1 := Lib.hid hW1
        generalize x.all = xa at a0 C HW1 m0
        generalize y.all = ya at b0 C HW1 n0
        obtain ⟨B, hBf⟩ : ∃ B, B = f x y := ⟨_, rfl⟩
        rw [← hBf] at C hstep
        clear hrel hB ex ey hx hy hW1 hB1 hBf
        cases B
        · have key : R = false := hstep.trans (Bool.false_and _)
          subst key
          clear hstep
          go_upto_region 7 with fail
          rw [← HW1.out]
          clear a0 a1 a2 b0 b1 b2 hb1
          go_wp2_with fail
          simp only [HE.out _ _]
          refine C.out.mono ?_
          rintro e w2 ⟨rfl, hB2⟩
          have HB2 := Lib.hid (HB1.out.trans (hB2.mono HB1.out.size))
          clear hB2
          go_wp2_with fail
          go_ret
          exact ⟨rfl, HB2.out⟩
        · have NX := Lib.hid (hstep.trans (Bool.true_and _))
          clear hstep
          go_upto_region 7 with fail
          rw [← HW1.out]
          clear a0 a1 a2 b0 b1 b2 hb1
          go_wp2_with fail
          simp only [HE.out _ _]
          refine C.out.mono ?_
          rintro e w2 ⟨rfl, hB2⟩
          have HB2 := Lib.hid (HB1.out.trans (hB2.mono HB1.out.size))
          clear hB2
          go_wp2_with fail
          go_roundw
          case rel => exact ⟨k + 1, by omega, by go_num, NX.out, HB2.out⟩
          case measure => simp [intOf]; omega
      · have key : R = true := by
          rw [hrel]
          exact listB_end f (by rw [← HX.out.long]; omega) (by rw [← HY.out.long]; omega)
        subst key
        have HB := Lib.hid hB
        clear hrel hB
        go_wp2
        go_ret
        exact ⟨rfl, HB.out⟩
  · have key : listB f xs ys = false := listB_len _ _ _ (by rw [← hx.long, ← hy.long]; exact he)
    rw [key]
    have he2 : ((len : Int) == (len' : Int)) = false := beq_eq_false_iff_ne.2 (by omega)
    clear hx hy key hp hq hf hE
    go_enter Try.func39, Try.ntmps39
    go_wp2_with fail
    go_ret
    exact ⟨rfl, Below.refl _ _⟩
theorem efB_any (g : Nat) (hE : Enters Try.prog g) (f : PBlock → PBlock → Bool) {u v : Value} {xs ys : List PBlock} {w : World} (hx : Slc rBlock 3 w u xs) (hy : Slc rBlock 3 w v ys) (hm : xs.length ≤ 1000000) (hm' : ys.length ≤ 1000000)
    (hf : ∀ (u : World) (x y : PBlock) (v1 v2 u1 u2 : Value), Below w.heap.size w u → x ∈ xs → y ∈ ys → rBlock u [.bool x.all, v1, v2] x → rBlock u [.bool y.all, u1, u2] y → Calls Try.prog g #[.agg #[.bool x.all, v1, v2], .agg #[.bool y.all, u1, u2]] u fun e w' => e = .returned (.bool (f x y)) ∧ Below u.heap.size u w') :
    Calls Try.prog 39 #[u, v, .func (.func g) #[] #[]] w fun e w' => e = .returned (.bool (listB f xs ys)) ∧ Below w.heap.size w w' := by
  obtain ⟨p, b, off, c, len, rfl, _, hs⟩ := hx
  obtain ⟨q, b', off', c', len', rfl, _, ht⟩ := hy
  exact efB_cells g hE f p q b off c b' off' c' len len' xs ys w hs ht (by rw [hs.long]; exact hm) (by rw [ht.long]; exact hm') hf

set_option maxRecDepth 100000 in
set_option maxHeartbeats 2000000 in
theorem efD_cells (g : Nat) (hE : Enters Try.prog g) (f : PDecl → PDecl → Bool) (p q : Option Addr) (b off c b' off' c' len len' : Nat) (xs ys : List PDecl) (w : World) (hx : SliceOf rDecl 2 w p b off len xs) (hy : SliceOf rDecl 2 w q b' off' len' ys) (hm : len ≤ 1000000) (hm' : len' ≤ 1000000)
    (hf : ∀ (u : World) (x y : PDecl) (s : ByteArray) (v1 : Value) (t : ByteArray) (u1 : Value), Below w.heap.size w u → x ∈ xs → y ∈ ys → rDecl u [.string s, v1] x → rDecl u [.string t, u1] y → Calls Try.prog g #[.agg #[.string s, v1], .agg #[.string t, u1]] u fun e w' => e = .returned (.bool (f x y)) ∧ Below u.heap.size u w') :
    Calls Try.prog 55 #[.slice p len c, .slice q len' c', .func (.func g) #[] #[]] w fun e w' => e = .returned (.bool (listB f xs ys)) ∧ Below w.heap.size w w' := by
  have HX := Lib.hid hx
  have HY := Lib.hid hy
  have HF := Lib.hid hf
  have HE := Lib.hid hE
  have hp := hx.at_
  have hq := hy.at_
  by_cases he : len = len'
  · subst he
    obtain ⟨R, hR⟩ : ∃ R, R = listB f xs ys := ⟨_, rfl⟩
    rw [← hR]
    have HS := Lib.hid (show R = listB f (xs.drop 0) (ys.drop 0) by rw [hR]; simp)
    clear hx hy hR hf hE
    go_enter Try.func55, Try.ntmps55
    go_wp2
    go_loopw [17] (fun i wr => ∃ k : Nat, k ≤ len ∧ i = .int .i64 k ∧ R = listB f (xs.drop k) (ys.drop k) ∧ Below w.heap.size w wr) (fun i _ => len - (intOf i).toNat)
    case atStart => exact ⟨0, by omega, rfl, HS.out, Below.refl _ _⟩
    case round =>
      obtain ⟨k, hk, rfl, hrel, hB⟩ := hrel
      by_cases hlt : k < len
      · obtain rfl := hp (by omega)
        obtain rfl := hq (by omega)
        obtain ⟨x, s, v1, ex, ⟨a0, a1⟩, hx⟩ := decl_at2 (HX.out.below rDecl_stays hB) hlt
        obtain ⟨y, t, u1, ey, ⟨b0, b1⟩, hy⟩ := decl_at2 (HY.out.below rDecl_stays hB) hlt
        have hb1 : b' < wr.heap.size := World.block_lt_of_cell? _ _ b0
        obtain ⟨p1, l1, c1, rfl⟩ := rDecl_shape hx
        obtain ⟨q1, k1, d1, rfl⟩ := rDecl_shape hy
        have hstep := hrel.trans (listB_at f ex ey)
        obtain ⟨W1, hW1⟩ : ∃ W1, W1 = (wr.alloc (.cells #[.string s, .slice p1 l1 c1] 48)).alloc (.cells #[.string t, .slice q1 k1 d1] 48) := ⟨_, rfl⟩
        have hB1 : Below wr.heap.size wr W1 := by rw [hW1]; exact ((Below.refl _ wr).alloc (Nat.le_refl _) _).alloc (by simp) _
        have m0 : W1.cell? ⟨wr.heap.size, 0, none⟩ = some (.string s) := by rw [hW1]; go_simp
        have n0 : W1.cell? ⟨wr.heap.size + 1, 0, none⟩ = some (.string t) := by rw [hW1]; go_simp
        have m1 : W1.cell? ⟨wr.heap.size, 1, none⟩ = some (.slice p1 l1 c1) := by rw [hW1]; go_simp
        have n1 : W1.cell? ⟨wr.heap.size + 1, 1, none⟩ = some (.slice q1 k1 d1) := by rw [hW1]; go_simp
        have HB1 := Lib.hid (hB.trans (hB1.mono hB.size))
        have C := Lib.hid (HF.out W1 x y s _ t _ (hB.trans (hB1.mono hB.size)) (List.mem_of_getElem? ex) (List.mem_of_getElem? ey) (rDecl_stays _ _ _ _ hB1 hx) (rDecl_stays _ _ _ _ hB1 hy))
        have HW1 := Lib.hid hW1
        skip
        obtain ⟨B, hBf⟩ : ∃ B, B = f x y := ⟨_, rfl⟩
        rw [← hBf] at C hstep
        clear hrel hB ex ey hx hy hW1 hB1 hBf
        cases B
        · have key : R = false := hstep.trans (Bool.false_and _)
          subst key
          clear hstep
          go_upto_region 7 with fail
          rw [← HW1.out]
          clear a0 a1 b0 b1 hb1
          go_wp2_with fail
          simp only [HE.out _ _]
          refine C.out.mono ?_
          rintro e w2 ⟨rfl, hB2⟩
          have HB2 := Lib.hid (HB1.out.trans (hB2.mono HB1.out.size))
          clear hB2
          go_wp2_with fail
          go_ret
          exact ⟨rfl, HB2.out⟩
        · have NX := Lib.hid (hstep.trans (Bool.true_and _))
          clear hstep
          go_upto_region 7 with fail
          rw [← HW1.out]
          clear a0 a1 b0 b1 hb1
          go_wp2_with fail
          simp only [HE.out _ _]
          refine C.out.mono ?_
          rintro e w2 ⟨rfl, hB2⟩
          have HB2 := Lib.hid (HB1.out.trans (hB2.mono HB1.out.size))
          clear hB2
          go_wp2_with fail
          go_roundw
          case rel => exact ⟨k + 1, by omega, by go_num, NX.out, HB2.out⟩
          case measure => simp [intOf]; omega
      · have key : R = true := by
          rw [hrel]
          exact listB_end f (by rw [← HX.out.long]; omega) (by rw [← HY.out.long]; omega)
        subst key
        have HB := Lib.hid hB
        clear hrel hB
        go_wp2
        go_ret
        exact ⟨rfl, HB.out⟩
  · have key : listB f xs ys = false := listB_len _ _ _ (by rw [← hx.long, ← hy.long]; exact he)
    rw [key]
    have he2 : ((len : Int) == (len' : Int)) = false := beq_eq_false_iff_ne.2 (by omega)
    clear hx hy key hp hq hf hE
    go_enter Try.func55, Try.ntmps55
    go_wp2_with fail
    go_ret
    exact ⟨rfl, Below.refl _ _⟩
theorem efD_any (g : Nat) (hE : Enters Try.prog g) (f : PDecl → PDecl → Bool) {u v : Value} {xs ys : List PDecl} {w : World} (hx : Slc rDecl 2 w u xs) (hy : Slc rDecl 2 w v ys) (hm : xs.length ≤ 1000000) (hm' : ys.length ≤ 1000000)
    (hf : ∀ (u : World) (x y : PDecl) (s : ByteArray) (v1 : Value) (t : ByteArray) (u1 : Value), Below w.heap.size w u → x ∈ xs → y ∈ ys → rDecl u [.string s, v1] x → rDecl u [.string t, u1] y → Calls Try.prog g #[.agg #[.string s, v1], .agg #[.string t, u1]] u fun e w' => e = .returned (.bool (f x y)) ∧ Below u.heap.size u w') :
    Calls Try.prog 55 #[u, v, .func (.func g) #[] #[]] w fun e w' => e = .returned (.bool (listB f xs ys)) ∧ Below w.heap.size w w' := by
  obtain ⟨p, b, off, c, len, rfl, _, hs⟩ := hx
  obtain ⟨q, b', off', c', len', rfl, _, ht⟩ := hy
  exact efD_cells g hE f p q b off c b' off' c' len len' xs ys w hs ht (by rw [hs.long]; exact hm) (by rw [ht.long]; exact hm') hf

set_option maxRecDepth 100000 in
set_option maxHeartbeats 2000000 in
theorem efC_cells (g : Nat) (hE : Enters Try.prog g) (f : PCon → PCon → Bool) (p q : Option Addr) (b off c b' off' c' len len' : Nat) (xs ys : List PCon) (w : World) (hx : SliceOf rCon 6 w p b off len xs) (hy : SliceOf rCon 6 w q b' off' len' ys) (hm : len ≤ 1000000) (hm' : len' ≤ 1000000)
    (hf : ∀ (u : World) (x y : PCon) (v1 v2 v3 u1 u2 u3 : Value), Below w.heap.size w u → x ∈ xs → y ∈ ys → rCon u [.int .i64 x.kind, v1, v2, .int .i64 x.rel, .int .i64 x.const, v3] x → rCon u [.int .i64 y.kind, u1, u2, .int .i64 y.rel, .int .i64 y.const, u3] y → Calls Try.prog g #[.agg #[.int .i64 x.kind, v1, v2, .int .i64 x.rel, .int .i64 x.const, v3], .agg #[.int .i64 y.kind, u1, u2, .int .i64 y.rel, .int .i64 y.const, u3]] u fun e w' => e = .returned (.bool (f x y)) ∧ Below u.heap.size u w') :
    Calls Try.prog 41 #[.slice p len c, .slice q len' c', .func (.func g) #[] #[]] w fun e w' => e = .returned (.bool (listB f xs ys)) ∧ Below w.heap.size w w' := by
  have HX := Lib.hid hx
  have HY := Lib.hid hy
  have HF := Lib.hid hf
  have HE := Lib.hid hE
  have hp := hx.at_
  have hq := hy.at_
  by_cases he : len = len'
  · subst he
    obtain ⟨R, hR⟩ : ∃ R, R = listB f xs ys := ⟨_, rfl⟩
    rw [← hR]
    have HS := Lib.hid (show R = listB f (xs.drop 0) (ys.drop 0) by rw [hR]; simp)
    clear hx hy hR hf hE
    go_enter Try.func41, Try.ntmps41
    go_wp2
    go_loopw [17] (fun i wr => ∃ k : Nat, k ≤ len ∧ i = .int .i64 k ∧ R = listB f (xs.drop k) (ys.drop k) ∧ Below w.heap.size w wr) (fun i _ => len - (intOf i).toNat)
    case atStart => exact ⟨0, by omega, rfl, HS.out, Below.refl _ _⟩
    case round =>
      obtain ⟨k, hk, rfl, hrel, hB⟩ := hrel
      by_cases hlt : k < len
      · obtain rfl := hp (by omega)
        obtain rfl := hq (by omega)
        obtain ⟨x, v1, v2, v3, ex, ⟨a0, a1, a2, a3, a4, a5⟩, hx⟩ := con_at2 (HX.out.below rCon_stays hB) hlt
        obtain ⟨y, u1, u2, u3, ey, ⟨b0, b1, b2, b3, b4, b5⟩, hy⟩ := con_at2 (HY.out.below rCon_stays hB) hlt
        have hb1 : b' < wr.heap.size := World.block_lt_of_cell? _ _ b0
        obtain ⟨⟨p1, l1, c1, rfl⟩, ⟨p2, l2, c2, rfl⟩, ⟨p3, l3, c3, rfl⟩⟩ := rCon_shape hx
        obtain ⟨⟨q1, k1, d1, rfl⟩, ⟨q2, k2, d2, rfl⟩, ⟨q3, k3, d3, rfl⟩⟩ := rCon_shape hy
        have hstep := hrel.trans (listB_at f ex ey)
        obtain ⟨W1, hW1⟩ : ∃ W1, W1 = (wr.alloc (.cells #[.int .i64 x.kind, .slice p1 l1 c1, .slice p2 l2 c2, .int .i64 x.rel, .int .i64 x.const, .slice p3 l3 c3] 28)).alloc (.cells #[.int .i64 y.kind, .slice q1 k1 d1, .slice q2 k2 d2, .int .i64 y.rel, .int .i64 y.const, .slice q3 k3 d3] 28) := ⟨_, rfl⟩
        have hB1 : Below wr.heap.size wr W1 := by rw [hW1]; exact ((Below.refl _ wr).alloc (Nat.le_refl _) _).alloc (by simp) _
        have m0 : W1.cell? ⟨wr.heap.size, 0, none⟩ = some (.int .i64 x.kind) := by rw [hW1]; go_simp
        have n0 : W1.cell? ⟨wr.heap.size + 1, 0, none⟩ = some (.int .i64 y.kind) := by rw [hW1]; go_simp
        have m1 : W1.cell? ⟨wr.heap.size, 1, none⟩ = some (.slice p1 l1 c1) := by rw [hW1]; go_simp
        have n1 : W1.cell? ⟨wr.heap.size + 1, 1, none⟩ = some (.slice q1 k1 d1) := by rw [hW1]; go_simp
        have m2 : W1.cell? ⟨wr.heap.size, 2, none⟩ = some (.slice p2 l2 c2) := by rw [hW1]; go_simp
        have n2 : W1.cell? ⟨wr.heap.size + 1, 2, none⟩ = some (.slice q2 k2 d2) := by rw [hW1]; go_simp
        have m3 : W1.cell? ⟨wr.heap.size, 3, none⟩ = some (.int .i64 x.rel) := by rw [hW1]; go_simp
        have n3 : W1.cell? ⟨wr.heap.size + 1, 3, none⟩ = some (.int .i64 y.rel) := by rw [hW1]; go_simp
        have m4 : W1.cell? ⟨wr.heap.size, 4, none⟩ = some (.int .i64 x.const) := by rw [hW1]; go_simp
        have n4 : W1.cell? ⟨wr.heap.size + 1, 4, none⟩ = some (.int .i64 y.const) := by rw [hW1]; go_simp
        have m5 : W1.cell? ⟨wr.heap.size, 5, none⟩ = some (.slice p3 l3 c3) := by rw [hW1]; go_simp
        have n5 : W1.cell? ⟨wr.heap.size + 1, 5, none⟩ = some (.slice q3 k3 d3) := by rw [hW1]; go_simp
        have HB1 := Lib.hid (hB.trans (hB1.mono hB.size))
        have C := Lib.hid (HF.out W1 x y _ _ _ _ _ _ (hB.trans (hB1.mono hB.size)) (List.mem_of_getElem? ex) (List.mem_of_getElem? ey) (rCon_stays _ _ _ _ hB1 hx) (rCon_stays _ _ _ _ hB1 hy))
        have HW1 := Lib.hid hW1
        generalize x.kind = xk at a0 C HW1 m0
        generalize x.rel = xr at a3 C HW1 m3
        generalize x.const = xt at a4 C HW1 m4
        generalize y.kind = yk at b0 C HW1 n0
        generalize y.rel = yr at b3 C HW1 n3
        generalize y.const = yt at b4 C HW1 n4
        obtain ⟨B, hBf⟩ : ∃ B, B = f x y := ⟨_, rfl⟩
        rw [← hBf] at C hstep
        clear hrel hB ex ey hx hy hW1 hB1 hBf
        cases B
        · have key : R = false := hstep.trans (Bool.false_and _)
          subst key
          clear hstep
          go_upto_region 7 with fail
          rw [← HW1.out]
          clear a0 a1 a2 a3 a4 a5 b0 b1 b2 b3 b4 b5 hb1
          go_wp2_with fail
          simp only [HE.out _ _]
          refine C.out.mono ?_
          rintro e w2 ⟨rfl, hB2⟩
          have HB2 := Lib.hid (HB1.out.trans (hB2.mono HB1.out.size))
          clear hB2
          go_wp2_with fail
          go_ret
          exact ⟨rfl, HB2.out⟩
        · have NX := Lib.hid (hstep.trans (Bool.true_and _))
          clear hstep
          go_upto_region 7 with fail
          rw [← HW1.out]
          clear a0 a1 a2 a3 a4 a5 b0 b1 b2 b3 b4 b5 hb1
          go_wp2_with fail
          simp only [HE.out _ _]
          refine C.out.mono ?_
          rintro e w2 ⟨rfl, hB2⟩
          have HB2 := Lib.hid (HB1.out.trans (hB2.mono HB1.out.size))
          clear hB2
          go_wp2_with fail
          go_roundw
          case rel => exact ⟨k + 1, by omega, by go_num, NX.out, HB2.out⟩
          case measure => simp [intOf]; omega
      · have key : R = true := by
          rw [hrel]
          exact listB_end f (by rw [← HX.out.long]; omega) (by rw [← HY.out.long]; omega)
        subst key
        have HB := Lib.hid hB
        clear hrel hB
        go_wp2
        go_ret
        exact ⟨rfl, HB.out⟩
  · have key : listB f xs ys = false := listB_len _ _ _ (by rw [← hx.long, ← hy.long]; exact he)
    rw [key]
    have he2 : ((len : Int) == (len' : Int)) = false := beq_eq_false_iff_ne.2 (by omega)
    clear hx hy key hp hq hf hE
    go_enter Try.func41, Try.ntmps41
    go_wp2_with fail
    go_ret
    exact ⟨rfl, Below.refl _ _⟩
theorem efC_any (g : Nat) (hE : Enters Try.prog g) (f : PCon → PCon → Bool) {u v : Value} {xs ys : List PCon} {w : World} (hx : Slc rCon 6 w u xs) (hy : Slc rCon 6 w v ys) (hm : xs.length ≤ 1000000) (hm' : ys.length ≤ 1000000)
    (hf : ∀ (u : World) (x y : PCon) (v1 v2 v3 u1 u2 u3 : Value), Below w.heap.size w u → x ∈ xs → y ∈ ys → rCon u [.int .i64 x.kind, v1, v2, .int .i64 x.rel, .int .i64 x.const, v3] x → rCon u [.int .i64 y.kind, u1, u2, .int .i64 y.rel, .int .i64 y.const, u3] y → Calls Try.prog g #[.agg #[.int .i64 x.kind, v1, v2, .int .i64 x.rel, .int .i64 x.const, v3], .agg #[.int .i64 y.kind, u1, u2, .int .i64 y.rel, .int .i64 y.const, u3]] u fun e w' => e = .returned (.bool (f x y)) ∧ Below u.heap.size u w') :
    Calls Try.prog 41 #[u, v, .func (.func g) #[] #[]] w fun e w' => e = .returned (.bool (listB f xs ys)) ∧ Below w.heap.size w w' := by
  obtain ⟨p, b, off, c, len, rfl, _, hs⟩ := hx
  obtain ⟨q, b', off', c', len', rfl, _, ht⟩ := hy
  exact efC_cells g hE f p q b off c b' off' c' len len' xs ys w hs ht (by rw [hs.long]; exact hm) (by rw [ht.long]; exact hm') hf
end Go.Proofs.Ythoakeekfajhaaa
