/-
  DomFalls answers true, at every domain and every three numbers, where the table of the library lies in its variable.
-/
import Derived.Test.YtnabkhmonmcmfaaDoorDFallR
import Derived.Test.YtnabkhmonmcmfaaDoorDAwake
import Derived.Laws.BitsAllLaws
namespace Go.Proofs.YtnabkhmonmcmfaaDoor
open Go.RowKit

/-- what the calls lean on, behind the first region -/
structure StC (w : World) (sd sa sb sc : Value) (xs : List Int) (u : World) : Prop where
  tab : B.Tab u
  pos : 0 < u.heap.size
  rd : Reads u sd xs
  ra : Reads u sa xs
  rb : Reads u sb xs
  rc : Reads u sc xs
  below : Below w.heap.size w u
theorem StC.on {w u u' : World} {sd sa sb sc : Value} {xs : List Int} (h : StC w sd sa sb sc xs u) (hb : Below u.heap.size u u') : StC w sd sa sb sc xs u' :=
  ⟨B.Tab.below h.tab h.pos hb, Nat.lt_of_lt_of_le h.pos hb.size, reads_below h.rd hb, reads_below h.ra hb, reads_below h.rb hb, reads_below h.rc hb, below_two h.below hb⟩
theorem heldC {w u u' : World} {p0 p1 p2 p3 p4 p5 p6 p7 : Addr} {a0 a1 a2 a3 a4 a5 a6 a7 sd sa sb sc : Value} {xs : List Int}
    (h : u.cell? p0 = some a0 ∧ u.cell? p1 = some a1 ∧ u.cell? p2 = some a2 ∧ u.cell? p3 = some a3 ∧ u.cell? p4 = some a4 ∧ u.cell? p5 = some a5 ∧ u.cell? p6 = some a6 ∧ u.cell? p7 = some a7 ∧ Hid (StC w sd sa sb sc xs u)) (hb : Below u.heap.size u u') :
    u'.cell? p0 = some a0 ∧ u'.cell? p1 = some a1 ∧ u'.cell? p2 = some a2 ∧ u'.cell? p3 = some a3 ∧ u'.cell? p4 = some a4 ∧ u'.cell? p5 = some a5 ∧ u'.cell? p6 = some a6 ∧ u'.cell? p7 = some a7 ∧ Hid (StC w sd sa sb sc xs u') :=
  ⟨cell_below hb h.1, cell_below hb h.2.1, cell_below hb h.2.2.1, cell_below hb h.2.2.2.1, cell_below hb h.2.2.2.2.1, cell_below hb h.2.2.2.2.2.1, cell_below hb h.2.2.2.2.2.2.1, cell_below hb h.2.2.2.2.2.2.2.1, h.2.2.2.2.2.2.2.2.out.on hb⟩
theorem heldCs {w u : World} {p0 p1 p2 p3 p4 p5 p6 p7 : Addr} {a0 a1 a2 a3 a4 a5 a6 a7 sd sa sb sc : Value} {xs : List Int}
    (h : u.cell? p0 = some a0 ∧ u.cell? p1 = some a1 ∧ u.cell? p2 = some a2 ∧ u.cell? p3 = some a3 ∧ u.cell? p4 = some a4 ∧ u.cell? p5 = some a5 ∧ u.cell? p6 = some a6 ∧ u.cell? p7 = some a7 ∧ Hid (StC w sd sa sb sc xs u)) : StC w sd sa sb sc xs u := h.2.2.2.2.2.2.2.2.out

theorem agg_inj {a b c d : Value} (h : Value.agg #[a, b] = .agg #[c, d]) : c = a ∧ d = b := by
  injection h with h1
  injection h1 with h2
  injection h2 with h3 h4
  injection h4 with h5
  exact ⟨h3.symm, h5.symm⟩

set_option maxRecDepth 100000 in
set_option maxHeartbeats 16000000 in
theorem falls_law (sd : Value) (xs : List Int) (x : Nat) (y low high : Int) (w : World) (hT : B.Tab w) (h0 : 0 < w.heap.size)
    (hd : ReadsN w sd xs) (hx : x < 18446744073709551616) (hxl : xs.length ≤ maxLen) :
    Calls Tryd.prog 4 #[.agg #[sd, .int .u64 x], .int .i64 y, .int .i64 low, .int .i64 high] w (Yes w) := by
  obtain ⟨pd, nd, cd, rfl⟩ := reads_slice (reads_of_readsN hd)
  have hnd : nd = xs.length := by
    rcases hd with ⟨h, rfl⟩ | ⟨ad, c, h, rfl⟩ | ⟨b, off, c, h, _⟩
    · injection h
    · injection h
    · injection h
  obtain ⟨W0, hW0⟩ : ∃ W0, W0 = w.alloc (.cells #[.slice pd nd cd, .int .u64 x] 26) := ⟨_, rfl⟩
  have hB0 : Below w.heap.size w W0 := by rw [hW0]; exact below_alloc _ _
  have q0 := new_two w (.slice pd nd cd) (.int .u64 x) 26 w.heap.size rfl
  rw [← hW0] at q0
  have A := Lib.hid (awake_any W0 (B.Tab.below hT h0 hB0) (Nat.lt_of_lt_of_le h0 hB0.size))
  have HC := Lib.hid q0
  have HT := Lib.hid hT
  have H0 := Lib.hid h0
  have HR := Lib.hid (reads_of_readsN hd)
  have HB0 := Lib.hid hB0
  have HW := Lib.hid hW0
  have HND := Lib.hid hnd
  unfold maxLen at hxl
  rw [← hnd] at hxl
  clear hT h0 hd hB0 hW0 q0 hnd
  go_enter Tryd.func4, Tryd.ntmps4
  go_wp2_with fail
  rw [← HW.out]
  refine A.out.mono ?_
  rintro e w1 ⟨rfl, hB⟩
  have k0 := cell_below hB HC.out.1
  have k1 := cell_below hB HC.out.2.1
  have B1 := Lib.hid (below_two HB0.out hB)
  clear hB A
  by_cases hm2 : 100 < nd
  · have d2 : (100 : Int) < (nd : Int) := by omega
    go_wp2_with fail
    go_ret
    exact ⟨rfl, B1.out⟩
  · have d2 : decide ((100 : Int) < (nd : Int)) = false := decide_eq_false (by omega)
    have hx1 : xs.length ≤ 100 := by have := HND.out; omega
    cases hmay : mayL xs x with
    | false =>
      have M := Lib.hid (te_may (reads_below HR.out B1.out) hx1 x hx)
      rw [hmay] at M
      have HM := Lib.hid hmay
      clear hmay
      go_wp2_with fail
      refine M.out.mono ?_
      rintro e w2 ⟨rfl, hB⟩
      have B2 := Lib.hid (below_two B1.out hB)
      clear hB
      go_wp2_with fail
      go_ret
      exact ⟨rfl, B2.out⟩
    | true =>
      have M := Lib.hid (te_may (reads_below HR.out B1.out) hx1 x hx)
      rw [hmay] at M
      have HM := Lib.hid hmay
      clear hmay
      go_wp2_with fail
      refine M.out.mono ?_
      rintro e w2 ⟨rfl, hB⟩
      have B2 := Lib.hid (below_two B1.out hB)
      have k0 := cell_below hB k0
      have k1 := cell_below hB k1
      clear hB
      go_wp2_with fail
      have HB : Hid (StB w (.slice pd nd cd) xs (.slice pd nd cd) (.int .u64 x) w2.drew) := (show StB w (.slice pd nd cd) xs (.slice pd nd cd) (.int .u64 x) w2 from ⟨B.Tab.below HT.out H0.out B2.out, Nat.lt_of_lt_of_le H0.out B2.out.size, reads_below HR.out B2.out, k0, k1, B2.out⟩).on (below_drewN (n := 1) (Below.refl _ _))
      obtain ⟨YA, hYA⟩ : ∃ YA, YA = keepN xs x (pOnly y) := ⟨_, rfl⟩
      obtain ⟨YB, hYB⟩ : ∃ YB, YB = keepN xs x (pLess y) := ⟨_, rfl⟩
      obtain ⟨YC, hYC⟩ : ∃ YC, YC = keepN xs x (pBetween low high) := ⟨_, rfl⟩
      have OA : Hid (∀ u s, Reads u s xs → Calls Tryd.prog 24 #[.agg #[s, .int .u64 x], .int .i64 y] u (MadeL u xs YA)) := fun u s h => hYA ▸ fa_only HM.out h hx1 hx y
      have OB : Hid (∀ u s, Reads u s xs → Calls Tryd.prog 26 #[.agg #[s, .int .u64 x], .int .i64 y] u (MadeL u xs YB)) := fun u s h => hYB ▸ fa_less HM.out h hx1 hx y
      have OC : Hid (∀ u s, Reads u s xs → Calls Tryd.prog 28 #[.agg #[s, .int .u64 x], .int .i64 low, .int .i64 high] u (MadeL u xs YC)) := fun u s h => hYC ▸ fa_between HM.out h hx1 hx low high
      have HYA := Lib.hid hYA
      have HYB := Lib.hid hYB
      have HYC := Lib.hid hYC
      clear hYA hYB hYC k0 k1 M
      refine wp_region_at (γ := GF) (JF w (.slice pd nd cd) xs (.agg #[.slice pd nd cd, .int .u64 x]) (.int .i64 y) (.int .i64 low) (.int .i64 high) YA YB YC (.slice pd nd cd) (.int .u64 x)) putF ⟨0, 0, 0, undef, undef, undef, undef, undef, undef, undef, undef, undef, undef, undef, undef, undef⟩ ?hm ?ho ?hput ?h0 ?hs ?hd
      case hm => kernel_rfl
      case ho => kernel_rfl
      case hput => (simp only [putF, List.setIfInBounds_toArray, List.set_cons_zero, List.set_cons_succ])
      case h0 => exact ⟨HB.out, nofun, nofun, nofun, nofun, nofun, nofun, nofun, nofun, nofun, nofun, nofun, nofun, nofun, nofun, nofun, nofun, nofun, nofun, nofun, nofun, nofun, nofun⟩
      case hs =>
        as_aux_lemma =>
        refine ⟨?s0, ?s1, ?s2, ?s3, ?s4, ?s5, ?s6, ?s7, ?s8, ?s9, ?s10, ?s11, ?s12, ?s13, ?s14, ?s15, trivial⟩
        case s0 =>
          rintro l ⟨b9, b10, b11, v23, v24, v25, v26, v27, v28, v29, v30, v31, v32, v9, v10, v11⟩ u hl haf S K hK
          simp only [JF] at S
          have c0 := S.base.c0
          have c1 := S.base.c1
          refine ⟨?_⟩
          simp only [putF, List.setIfInBounds_toArray, List.set_cons_zero, List.set_cons_succ]
          go_simp
          have nx := hK.out ⟨b9, b10, b11, (.agg #[.slice pd nd cd, .int .u64 x]), v24, v25, v26, v27, v28, v29, v30, v31, v32, v9, v10, v11⟩ u (S.s0)
          clear hK
          simp only [putF, List.setIfInBounds_toArray, List.set_cons_zero, List.set_cons_succ] at nx
          exact nx
        case s1 =>
          rintro l ⟨b9, b10, b11, v23, v24, v25, v26, v27, v28, v29, v30, v31, v32, v9, v10, v11⟩ u hl haf S K hK
          simp only [JF] at S
          have c0 := S.base.c0
          have c1 := S.base.c1
          refine ⟨?_⟩
          simp only [putF, List.setIfInBounds_toArray, List.set_cons_zero, List.set_cons_succ]
          go_simp
          have nx := hK.out ⟨b9, b10, b11, v23, (.int .i64 y), v25, v26, v27, v28, v29, v30, v31, v32, v9, v10, v11⟩ u (S.s1)
          clear hK
          simp only [putF, List.setIfInBounds_toArray, List.set_cons_zero, List.set_cons_succ] at nx
          exact nx
        case s2 =>
          rintro l ⟨b9, b10, b11, v23, v24, v25, v26, v27, v28, v29, v30, v31, v32, v9, v10, v11⟩ u hl haf S K hK
          simp only [JF] at S
          obtain rfl := S.f0 (haf 0 (by kernel_rfl))
          obtain rfl := S.f1 (haf 1 (by kernel_rfl))
          refine ⟨?_⟩
          simp only [putF, List.setIfInBounds_toArray, List.set_cons_zero, List.set_cons_succ]
          go_simp
          refine (OA.out _ _ S.base.rd).mono ?_
          rintro e u2 ⟨p, n, c, rfl, hr, hB⟩
          have nx := hK.out ⟨b9, b10, b11, _, _, (.agg #[.slice p n c, .int .u64 YA]), v26, v27, v28, v29, v30, v31, v32, v9, v10, v11⟩ u2 (S.s2 hl hB ⟨p, n, c, rfl, hr⟩)
          clear hK
          simp only [putF, List.setIfInBounds_toArray, List.set_cons_zero, List.set_cons_succ] at nx
          exact nx
        case s3 =>
          rintro l ⟨b9, b10, b11, v23, v24, v25, v26, v27, v28, v29, v30, v31, v32, v9, v10, v11⟩ u hl haf S K hK
          simp only [JF] at S
          have c0 := S.base.c0
          have c1 := S.base.c1
          refine ⟨?_⟩
          simp only [putF, List.setIfInBounds_toArray, List.set_cons_zero, List.set_cons_succ]
          go_simp
          have nx := hK.out ⟨b9, b10, b11, v23, v24, v25, (.agg #[.slice pd nd cd, .int .u64 x]), v27, v28, v29, v30, v31, v32, v9, v10, v11⟩ u (S.s3)
          clear hK
          simp only [putF, List.setIfInBounds_toArray, List.set_cons_zero, List.set_cons_succ] at nx
          exact nx
        case s4 =>
          rintro l ⟨b9, b10, b11, v23, v24, v25, v26, v27, v28, v29, v30, v31, v32, v9, v10, v11⟩ u hl haf S K hK
          simp only [JF] at S
          have c0 := S.base.c0
          have c1 := S.base.c1
          refine ⟨?_⟩
          simp only [putF, List.setIfInBounds_toArray, List.set_cons_zero, List.set_cons_succ]
          go_simp
          have nx := hK.out ⟨b9, b10, b11, v23, v24, v25, v26, (.int .i64 y), v28, v29, v30, v31, v32, v9, v10, v11⟩ u (S.s4)
          clear hK
          simp only [putF, List.setIfInBounds_toArray, List.set_cons_zero, List.set_cons_succ] at nx
          exact nx
        case s5 =>
          rintro l ⟨b9, b10, b11, v23, v24, v25, v26, v27, v28, v29, v30, v31, v32, v9, v10, v11⟩ u hl haf S K hK
          simp only [JF] at S
          obtain rfl := S.f3 (haf 3 (by kernel_rfl))
          obtain rfl := S.f4 (haf 4 (by kernel_rfl))
          refine ⟨?_⟩
          simp only [putF, List.setIfInBounds_toArray, List.set_cons_zero, List.set_cons_succ]
          go_simp
          refine (OB.out _ _ S.base.rd).mono ?_
          rintro e u2 ⟨p, n, c, rfl, hr, hB⟩
          have nx := hK.out ⟨b9, b10, b11, v23, v24, v25, _, _, (.agg #[.slice p n c, .int .u64 YB]), v29, v30, v31, v32, v9, v10, v11⟩ u2 (S.s5 hl hB ⟨p, n, c, rfl, hr⟩)
          clear hK
          simp only [putF, List.setIfInBounds_toArray, List.set_cons_zero, List.set_cons_succ] at nx
          exact nx
        case s6 =>
          rintro l ⟨b9, b10, b11, v23, v24, v25, v26, v27, v28, v29, v30, v31, v32, v9, v10, v11⟩ u hl haf S K hK
          simp only [JF] at S
          have c0 := S.base.c0
          have c1 := S.base.c1
          refine ⟨?_⟩
          simp only [putF, List.setIfInBounds_toArray, List.set_cons_zero, List.set_cons_succ]
          go_simp
          have nx := hK.out ⟨b9, b10, b11, v23, v24, v25, v26, v27, v28, (.agg #[.slice pd nd cd, .int .u64 x]), v30, v31, v32, v9, v10, v11⟩ u (S.s6)
          clear hK
          simp only [putF, List.setIfInBounds_toArray, List.set_cons_zero, List.set_cons_succ] at nx
          exact nx
        case s7 =>
          rintro l ⟨b9, b10, b11, v23, v24, v25, v26, v27, v28, v29, v30, v31, v32, v9, v10, v11⟩ u hl haf S K hK
          simp only [JF] at S
          have c0 := S.base.c0
          have c1 := S.base.c1
          refine ⟨?_⟩
          simp only [putF, List.setIfInBounds_toArray, List.set_cons_zero, List.set_cons_succ]
          go_simp
          have nx := hK.out ⟨b9, b10, b11, v23, v24, v25, v26, v27, v28, v29, (.int .i64 low), v31, v32, v9, v10, v11⟩ u (S.s7)
          clear hK
          simp only [putF, List.setIfInBounds_toArray, List.set_cons_zero, List.set_cons_succ] at nx
          exact nx
        case s8 =>
          rintro l ⟨b9, b10, b11, v23, v24, v25, v26, v27, v28, v29, v30, v31, v32, v9, v10, v11⟩ u hl haf S K hK
          simp only [JF] at S
          have c0 := S.base.c0
          have c1 := S.base.c1
          refine ⟨?_⟩
          simp only [putF, List.setIfInBounds_toArray, List.set_cons_zero, List.set_cons_succ]
          go_simp
          have nx := hK.out ⟨b9, b10, b11, v23, v24, v25, v26, v27, v28, v29, v30, (.int .i64 high), v32, v9, v10, v11⟩ u (S.s8)
          clear hK
          simp only [putF, List.setIfInBounds_toArray, List.set_cons_zero, List.set_cons_succ] at nx
          exact nx
        case s9 =>
          rintro l ⟨b9, b10, b11, v23, v24, v25, v26, v27, v28, v29, v30, v31, v32, v9, v10, v11⟩ u hl haf S K hK
          simp only [JF] at S
          obtain rfl := S.f6 (haf 6 (by kernel_rfl))
          obtain rfl := S.f7 (haf 7 (by kernel_rfl))
          obtain rfl := S.f8 (haf 8 (by kernel_rfl))
          refine ⟨?_⟩
          simp only [putF, List.setIfInBounds_toArray, List.set_cons_zero, List.set_cons_succ]
          go_simp
          refine (OC.out _ _ S.base.rd).mono ?_
          rintro e u2 ⟨p, n, c, rfl, hr, hB⟩
          have nx := hK.out ⟨b9, b10, b11, v23, v24, v25, v26, v27, v28, _, _, _, (.agg #[.slice p n c, .int .u64 YC]), v9, v10, v11⟩ u2 (S.s9 hl hB ⟨p, n, c, rfl, hr⟩)
          clear hK
          simp only [putF, List.setIfInBounds_toArray, List.set_cons_zero, List.set_cons_succ] at nx
          exact nx
        case s10 =>
          rintro l ⟨b9, b10, b11, v23, v24, v25, v26, v27, v28, v29, v30, v31, v32, v9, v10, v11⟩ u hl haf S K hK
          simp only [JF] at S
          refine ⟨?_⟩
          simp only [putF, List.setIfInBounds_toArray, List.set_cons_zero, List.set_cons_succ]
          go_simp
          have nx := hK.out ⟨u.heap.size, b10, b11, v23, v24, v25, v26, v27, v28, v29, v30, v31, v32, (.pointer (some ⟨u.heap.size, 0, none⟩)), v10, v11⟩ _ (S.s10 hl _ rfl)
          clear hK
          simp only [putF, List.setIfInBounds_toArray, List.set_cons_zero, List.set_cons_succ] at nx
          exact nx
        case s11 =>
          rintro l ⟨b9, b10, b11, v23, v24, v25, v26, v27, v28, v29, v30, v31, v32, v9, v10, v11⟩ u hl haf S K hK
          simp only [JF] at S
          refine ⟨?_⟩
          simp only [putF, List.setIfInBounds_toArray, List.set_cons_zero, List.set_cons_succ]
          go_simp
          have nx := hK.out ⟨b9, u.heap.size, b11, v23, v24, v25, v26, v27, v28, v29, v30, v31, v32, v9, (.pointer (some ⟨u.heap.size, 0, none⟩)), v11⟩ _ (S.s11 hl _ rfl)
          clear hK
          simp only [putF, List.setIfInBounds_toArray, List.set_cons_zero, List.set_cons_succ] at nx
          exact nx
        case s12 =>
          rintro l ⟨b9, b10, b11, v23, v24, v25, v26, v27, v28, v29, v30, v31, v32, v9, v10, v11⟩ u hl haf S K hK
          simp only [JF] at S
          refine ⟨?_⟩
          simp only [putF, List.setIfInBounds_toArray, List.set_cons_zero, List.set_cons_succ]
          go_simp
          have nx := hK.out ⟨b9, b10, u.heap.size, v23, v24, v25, v26, v27, v28, v29, v30, v31, v32, v9, v10, (.pointer (some ⟨u.heap.size, 0, none⟩))⟩ _ (S.s12 hl _ rfl)
          clear hK
          simp only [putF, List.setIfInBounds_toArray, List.set_cons_zero, List.set_cons_succ] at nx
          exact nx
        case s13 =>
          rintro l ⟨b9, b10, b11, v23, v24, v25, v26, v27, v28, v29, v30, v31, v32, v9, v10, v11⟩ u hl haf S K hK
          simp only [JF] at S
          have h10 := haf 10 (by kernel_rfl)
          have h11 := haf 11 (by kernel_rfl)
          have h12 := haf 12 (by kernel_rfl)
          have hc := haf 2 (by kernel_rfl)
          obtain ⟨p, n, c, hv, hr⟩ := S.f2 hc
          obtain ⟨hp, hlo, hf0, hf1, ⟨q0, q1, q2, hq⟩, q3, hq3⟩ := S.f10 h10
          refine ⟨?_⟩
          simp only [hv, hp, putF, List.setIfInBounds_toArray, List.set_cons_zero, List.set_cons_succ]
          go_simp
          have nx := hK.out ⟨b9, b10, b11, v23, v24, v25, v26, v27, v28, v29, v30, v31, v32, v9, v10, v11⟩ _ (S.s13 h10 h11 h12 hc hv ⟨_, _, _, rfl⟩ ⟨_, rfl⟩)
          clear hK
          simp only [hv, hp, putF, List.setIfInBounds_toArray, List.set_cons_zero, List.set_cons_succ] at nx
          exact nx
        case s14 =>
          rintro l ⟨b9, b10, b11, v23, v24, v25, v26, v27, v28, v29, v30, v31, v32, v9, v10, v11⟩ u hl haf S K hK
          simp only [JF] at S
          have h10 := haf 10 (by kernel_rfl)
          have h11 := haf 11 (by kernel_rfl)
          have h12 := haf 12 (by kernel_rfl)
          have hc := haf 5 (by kernel_rfl)
          obtain ⟨p, n, c, hv, hr⟩ := S.f5 hc
          obtain ⟨hp, hlo, hf0, hf1, ⟨q0, q1, q2, hq⟩, q3, hq3⟩ := S.f11 h11
          refine ⟨?_⟩
          simp only [hv, hp, putF, List.setIfInBounds_toArray, List.set_cons_zero, List.set_cons_succ]
          go_simp
          have nx := hK.out ⟨b9, b10, b11, v23, v24, v25, v26, v27, v28, v29, v30, v31, v32, v9, v10, v11⟩ _ (S.s14 h10 h11 h12 hc hv ⟨_, _, _, rfl⟩ ⟨_, rfl⟩)
          clear hK
          simp only [hv, hp, putF, List.setIfInBounds_toArray, List.set_cons_zero, List.set_cons_succ] at nx
          exact nx
        case s15 =>
          rintro l ⟨b9, b10, b11, v23, v24, v25, v26, v27, v28, v29, v30, v31, v32, v9, v10, v11⟩ u hl haf S K hK
          simp only [JF] at S
          have h10 := haf 10 (by kernel_rfl)
          have h11 := haf 11 (by kernel_rfl)
          have h12 := haf 12 (by kernel_rfl)
          have hc := haf 9 (by kernel_rfl)
          obtain ⟨p, n, c, hv, hr⟩ := S.f9 hc
          obtain ⟨hp, hlo, hf0, hf1, ⟨q0, q1, q2, hq⟩, q3, hq3⟩ := S.f12 h12
          refine ⟨?_⟩
          simp only [hv, hp, putF, List.setIfInBounds_toArray, List.set_cons_zero, List.set_cons_succ]
          go_simp
          have nx := hK.out ⟨b9, b10, b11, v23, v24, v25, v26, v27, v28, v29, v30, v31, v32, v9, v10, v11⟩ _ (S.s15 h10 h11 h12 hc hv ⟨_, _, _, rfl⟩ ⟨_, rfl⟩)
          clear hK
          simp only [hv, hp, putF, List.setIfInBounds_toArray, List.set_cons_zero, List.set_cons_succ] at nx
          exact nx
      case hd =>
        clear HB
        rintro ⟨b9, b10, b11, v23, v24, v25, v26, v27, v28, v29, v30, v31, v32, v9, v10, v11⟩ u l hall S
        simp only [JF] at S
        obtain ⟨pa, na, ca, ha, ra⟩ := S.f2 (hall 2 (by decide))
        obtain ⟨pb, nb, cb, hb, rb⟩ := S.f5 (hall 5 (by decide))
        obtain ⟨pc, nc, cc, hc, rc⟩ := S.f9 (hall 9 (by decide))
        obtain ⟨hp9, -⟩ := S.f10 (hall 10 (by decide))
        obtain ⟨hp10, -⟩ := S.f11 (hall 11 (by decide))
        obtain ⟨hp11, -⟩ := S.f12 (hall 12 (by decide))
        obtain ⟨s0, t0, h13, d0, d1⟩ := S.f13 (hall 13 (by decide))
        obtain ⟨s1, t1, h14, e0, e1⟩ := S.f14 (hall 14 (by decide))
        obtain ⟨s2, t2, h15, g0, g1⟩ := S.f15 (hall 15 (by decide))
        obtain ⟨i0, i1⟩ := agg_inj (ha.symm.trans h13)
        obtain ⟨i2, i3⟩ := agg_inj (hb.symm.trans h14)
        obtain ⟨i4, i5⟩ := agg_inj (hc.symm.trans h15)
        rw [i0] at d0
        rw [i1] at d1
        rw [i2] at e0
        rw [i3] at e1
        rw [i4] at g0
        rw [i5] at g1
        refine ⟨?_⟩
        simp only [hp9, hp10, hp11, ha, hb, hc, putF, List.setIfInBounds_toArray, List.set_cons_zero, List.set_cons_succ]
        have c0 := S.base.c0
        have c1 := S.base.c1
        have HH : Hid (u.cell? ⟨w.heap.size, 0, none⟩ = some (.slice pd nd cd) ∧ u.cell? ⟨w.heap.size, 1, none⟩ = some (.int .u64 x) ∧ u.cell? ⟨b9, 0, none⟩ = some (.slice pa na ca) ∧ u.cell? ⟨b9, 1, none⟩ = some (.int .u64 YA) ∧ u.cell? ⟨b10, 0, none⟩ = some (.slice pb nb cb) ∧ u.cell? ⟨b10, 1, none⟩ = some (.int .u64 YB) ∧ u.cell? ⟨b11, 0, none⟩ = some (.slice pc nc cc) ∧ u.cell? ⟨b11, 1, none⟩ = some (.int .u64 YC) ∧ Hid (StC w (.slice pd nd cd) (.slice pa na ca) (.slice pb nb cb) (.slice pc nc cc) xs u)) :=
          ⟨c0, c1, d0, d1, e0, e1, g0, g1, Lib.hid ⟨S.base.tab, S.base.pos, S.base.rd, ra, rb, rc, S.base.below⟩⟩
        have lA : YA < 18446744073709551616 := HYA.out ▸ keep_lt _ _ _
        have lB : YB < 18446744073709551616 := HYB.out ▸ keep_lt _ _ _
        have lC : YC < 18446744073709551616 := HYC.out ▸ keep_lt _ _ _
        have f1 : bits .or .u64 (YA : Int) (YB : Int) = (x : Int) := by
          rw [bits_or_u64_nat _ _ lA lB, HYA.out, HYB.out, fn_or HM.out]
        have f2 : bits .and .u64 (YA : Int) (YB : Int) = 0 := by
          rw [bits_and_u64_nat _ _ lA lB, HYA.out, HYB.out, fn_and]
          rfl
        have f3 : bits .andNot .u64 (YC : Int) (x : Int) = 0 := by
          rw [u64_andNot_nat _ _ lC hx, HYC.out, fn_not HM.out]
          rfl
        have mA : mayL xs YA = true := HYA.out ▸ keep_may HM.out _
        have mB : mayL xs YB = true := HYB.out ▸ keep_may HM.out _
        have mC : mayL xs YC = true := HYC.out ▸ keep_may HM.out _
        obtain ⟨Z1, hZ1⟩ : ∃ Z1, Z1 = keepN xs YC (pLess y) := ⟨_, rfl⟩
        obtain ⟨Z2, hZ2⟩ : ∃ Z2, Z2 = keepN xs YC (pOnly y) := ⟨_, rfl⟩
        have tB : keepN xs YB (pBetween low high) = Z1 := by
          have := fn_turn HM.out (pLess y) (pBetween low high)
          rw [← HYB.out, ← HYC.out, keepL, keepL, if_pos mB, if_pos mC] at this
          rw [this, hZ1]
        have tA : keepN xs YA (pBetween low high) = Z2 := by
          have := fn_turn HM.out (pOnly y) (pBetween low high)
          rw [← HYA.out, ← HYC.out, keepL, keepL, if_pos mA, if_pos mC] at this
          rw [this, hZ2]
        have tC : keepN xs YC (pBetween low high) = YC := by
          have := fn_again HM.out (pBetween low high)
          rw [← HYC.out, keepL, if_pos mC] at this
          exact this
        have G1 : Hid (∀ u s, Reads u s xs → Calls Tryd.prog 26 #[.agg #[s, .int .u64 YC], .int .i64 y] u (MadeL u xs Z1)) := fun u s h => hZ1 ▸ fa_less mC h hx1 lC y
        have G2 : Hid (∀ u s, Reads u s xs → Calls Tryd.prog 28 #[.agg #[s, .int .u64 YB], .int .i64 low, .int .i64 high] u (MadeL u xs Z1)) := fun u s h => tB ▸ fa_between mB h hx1 lB low high
        have G3 : Hid (∀ u s, Reads u s xs → Calls Tryd.prog 24 #[.agg #[s, .int .u64 YC], .int .i64 y] u (MadeL u xs Z2)) := fun u s h => hZ2 ▸ fa_only mC h hx1 lC y
        have G4 : Hid (∀ u s, Reads u s xs → Calls Tryd.prog 28 #[.agg #[s, .int .u64 YA], .int .i64 low, .int .i64 high] u (MadeL u xs Z2)) := fun u s h => tA ▸ fa_between mA h hx1 lA low high
        have G5 : Hid (∀ u s, Reads u s xs → Calls Tryd.prog 28 #[.agg #[s, .int .u64 YC], .int .i64 low, .int .i64 high] u (MadeL u xs YC)) := fun u s h => (show MadeL u xs (keepN xs YC (pBetween low high)) = MadeL u xs YC by rw [tC]) ▸ fa_between mC h hx1 lC low high
        obtain ⟨na', hna⟩ : ∃ n, (leftM xs YA).length = n := ⟨_, rfl⟩
        obtain ⟨nb', hnb⟩ : ∃ n, (leftM xs YB).length = n := ⟨_, rfl⟩
        obtain ⟨nd', hnd'⟩ : ∃ n, (leftM xs x).length = n := ⟨_, rfl⟩
        have Z5 : Hid (∀ u s, Reads u s xs → Calls Tryd.prog 16 #[.agg #[s, .int .u64 YA]] u fun e w' => e = .returned (.int .i64 (na' : Nat)) ∧ Below u.heap.size u w') := fun u s h => hna ▸ te_size h hx1 YA lA
        have Z6 : Hid (∀ u s, Reads u s xs → Calls Tryd.prog 16 #[.agg #[s, .int .u64 YB]] u fun e w' => e = .returned (.int .i64 (nb' : Nat)) ∧ Below u.heap.size u w') := fun u s h => hnb ▸ te_size h hx1 YB lB
        have Z7 : Hid (∀ u s, Reads u s xs → Calls Tryd.prog 16 #[.agg #[s, .int .u64 x]] u fun e w' => e = .returned (.int .i64 (nd' : Nat)) ∧ Below u.heap.size u w') := fun u s h => hnd' ▸ te_size h hx1 x hx
        have hsum : na' + nb' = nd' := by
          have := fn_size HM.out y
          rw [← HYA.out, ← HYB.out, hna, hnb, hnd'] at this
          exact this
        have hle : nd' ≤ 64 := hnd' ▸ leftM_le xs x
        have M1 : Hid (∀ u s, Reads u s xs → Calls Tryd.prog 14 #[.agg #[s, .int .u64 YA]] u fun e w' => e = .returned (.bool true) ∧ Below u.heap.size u w') := fun u s h => fa_may mA h hx1 lA
        have M2 : Hid (∀ u s, Reads u s xs → Calls Tryd.prog 14 #[.agg #[s, .int .u64 YB]] u fun e w' => e = .returned (.bool true) ∧ Below u.heap.size u w') := fun u s h => fa_may mB h hx1 lB
        have M3 : Hid (∀ u s, Reads u s xs → Calls Tryd.prog 14 #[.agg #[s, .int .u64 YC]] u fun e w' => e = .returned (.bool true) ∧ Below u.heap.size u w') := fun u s h => fa_may mC h hx1 lC
        have HX : Hid (xs.length ≤ 1000000) := Nat.le_trans hx1 (by decide)
        have hS : IntKind.i64.wrap ((na' : Int) + (nb' : Int)) = (nd' : Int) := by
          rw [IntWalk.i64_in _ (by omega)]
          omega
        clear hna hnb hnd' hsum tA tB tC hZ1 hZ2 mA mB mC S ra rb rc ha hb hc hp9 hp10 hp11 h13 h14 h15 i0 i1 i2 i3 i4 i5 OA OB OC HYA HYB HYC hle hx1 lA lB lC
        go_wp2_with fail
        refine (M1.out _ _ (heldCs HH.out).ra).mono ?_
        rintro e u1 ⟨rfl, hB⟩
        have HH := Lib.hid (heldC HH.out hB)
        clear hB c0 c1 d0 d1 e0 e1 g0 g1 f1 f2 f3
        obtain ⟨-, -, -, -, e0, e1, -⟩ := HH.out
        go_wp2_with fail
        refine (M2.out _ _ (heldCs HH.out).rb).mono ?_
        rintro e u2 ⟨rfl, hB⟩
        have HH := Lib.hid (heldC HH.out hB)
        clear hB e0 e1
        obtain ⟨-, -, -, -, -, -, g0, g1, -⟩ := HH.out
        go_wp2_with fail
        refine (M3.out _ _ (heldCs HH.out).rc).mono ?_
        rintro e u3 ⟨rfl, hB⟩
        have HH := Lib.hid (heldC HH.out hB)
        clear hB g0 g1
        go_wp2_with fail
        as_aux_lemma =>
          go_region_held3 (fun u => u.cell? ⟨w.heap.size, 0, none⟩ = some (.slice pd nd cd) ∧ u.cell? ⟨w.heap.size, 1, none⟩ = some (.int .u64 x) ∧ u.cell? ⟨b9, 0, none⟩ = some (.slice pa na ca) ∧ u.cell? ⟨b9, 1, none⟩ = some (.int .u64 YA) ∧ u.cell? ⟨b10, 0, none⟩ = some (.slice pb nb cb) ∧ u.cell? ⟨b10, 1, none⟩ = some (.int .u64 YB) ∧ u.cell? ⟨b11, 0, none⟩ = some (.slice pc nc cc) ∧ u.cell? ⟨b11, 1, none⟩ = some (.int .u64 YC) ∧ Hid (StC w (.slice pd nd cd) (.slice pa na ca) (.slice pb nb cb) (.slice pc nc cc) xs u))
            (first | exact heldC (by assumption) (by assumption) | exact heldC HH.out (below_drewN (n := 1) (Below.refl _ _)))
            (first
              | (go_at_call 26; refine (G1.out _ _ (heldCs (by assumption)).rc).mono ?_; rintro e wq ⟨p1, n1, c1, rfl, hr1, hB⟩)
              | (go_at_call_of 28 YB; refine (G2.out _ _ (heldCs (by assumption)).rb).mono ?_; rintro e wq ⟨p2, n2, c2, rfl, hr2, hB⟩; have hr1 := reads_below hr1 hB)
              | (go_at_call 24; refine (G3.out _ _ (heldCs (by assumption)).rc).mono ?_; rintro e wq ⟨p1, n1, c1, rfl, hr1, hB⟩)
              | (go_at_call_of 28 YA; refine (G4.out _ _ (heldCs (by assumption)).ra).mono ?_; rintro e wq ⟨p2, n2, c2, rfl, hr2, hB⟩; have hr1 := reads_below hr1 hB)
              | (go_at_call_of 28 YC; refine (G5.out _ _ (heldCs (by assumption)).rc).mono ?_; rintro e wq ⟨p1, n1, c1, rfl, hr1, hB⟩)
              | (go_at_call_of 16 YA; refine (Z5.out _ _ (heldCs (by assumption)).ra).mono ?_; rintro e wq ⟨rfl, hB⟩)
              | (go_at_call_of 16 YB; refine (Z6.out _ _ (heldCs (by assumption)).rb).mono ?_; rintro e wq ⟨rfl, hB⟩)
              | (go_at_call 16; refine (Z7.out _ _ (heldCs (by assumption)).rd).mono ?_; rintro e wq ⟨rfl, hB⟩)
              | (go_at_call_of 29 YC; refine (fa_same hr1 (heldCs (by assumption)).rc HX.out).mono ?_; rintro e wq ⟨rfl, hB⟩)
              | (go_at_call 29; refine (fa_same hr1 hr2 HX.out).mono ?_; rintro e wq ⟨rfl, hB⟩))
          all_goals
            have hbF := (heldCs (w := w) (sd := .slice pd nd cd) (by assumption)).below
            have HBF := Lib.hid hbF
            clear hbF
            go_wp2_with fail
            go_ret
            exact ⟨by simp, HBF.out⟩
end Go.Proofs.YtnabkhmonmcmfaaDoor
