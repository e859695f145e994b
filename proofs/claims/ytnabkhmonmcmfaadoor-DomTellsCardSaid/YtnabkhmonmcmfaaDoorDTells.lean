/-
  DomTells answers true, at every list of spans, every two domains and every three numbers, where the table of the library lies in its variable.
-/
import Derived.Test.YtnabkhmonmcmfaaDoorDTell
import Derived.Test.YtnabkhmonmcmfaaDoorDAwake
namespace Go.Proofs.YtnabkhmonmcmfaaDoor
open Go.RowKit

/-- what the calls lean on -/
structure StD (w : World) (sd so sa sb sl ss : Value) (xs zs ax ls : List Int) (M : List (Int × Int)) (u : World) : Prop where
  tab : B.Tab u
  pos : 0 < u.heap.size
  rd : ReadsN u sd xs
  ro : ReadsN u so zs
  ra : Reads u sa ax
  rb : Reads u sb ax
  rl : Reads u sl ls
  rs : Sees u ss M
  below : Below w.heap.size w u
theorem StD.on {w u u' : World} {sd so sa sb sl ss : Value} {xs zs ax ls : List Int} {M : List (Int × Int)} (h : StD w sd so sa sb sl ss xs zs ax ls M u) (hb : Below u.heap.size u u') : StD w sd so sa sb sl ss xs zs ax ls M u' :=
  ⟨B.Tab.below h.tab h.pos hb, Nat.lt_of_lt_of_le h.pos hb.size, readsN_below h.rd hb, readsN_below h.ro hb, reads_below h.ra hb, reads_below h.rb hb, reads_below h.rl hb, sees_below h.rs hb, below_two h.below hb⟩
theorem StD.d {w u : World} {sd so sa sb sl ss : Value} {xs zs ax ls : List Int} {M : List (Int × Int)} (h : StD w sd so sa sb sl ss xs zs ax ls M u) : Reads u sd xs := reads_of_readsN h.rd

theorem newX_le (L : List (Int × Int)) : (newX L).length ≤ 1000000 := by
  unfold newX
  split
  · rename_i h
    have h1 : cntL L ≠ 0 := fun e => by simp [newE, e] at h
    have h2 : cntL L ≤ 64 := by
      rw [newE, if_neg h1] at h
      split at h
      · omega
      · omega
    obtain ⟨_, h3, h4⟩ := new_some h1 h2
    have := values_length h3
    omega
  · simp

theorem heldT {w u u' : World} {p0 p1 p2 p3 p4 p5 p6 p7 p8 p9 : Addr} {a0 a1 a2 a3 a4 a5 a6 a7 a8 a9 sd so sa sb sl ss : Value} {xs zs ax ls : List Int} {M : List (Int × Int)}
    (h : u.cell? p0 = some a0 ∧ u.cell? p1 = some a1 ∧ u.cell? p2 = some a2 ∧ u.cell? p3 = some a3 ∧ u.cell? p4 = some a4 ∧ u.cell? p5 = some a5 ∧ u.cell? p6 = some a6 ∧ u.cell? p7 = some a7 ∧ u.cell? p8 = some a8 ∧ u.cell? p9 = some a9 ∧ Hid (StD w sd so sa sb sl ss xs zs ax ls M u)) (hb : Below u.heap.size u u') :
    u'.cell? p0 = some a0 ∧ u'.cell? p1 = some a1 ∧ u'.cell? p2 = some a2 ∧ u'.cell? p3 = some a3 ∧ u'.cell? p4 = some a4 ∧ u'.cell? p5 = some a5 ∧ u'.cell? p6 = some a6 ∧ u'.cell? p7 = some a7 ∧ u'.cell? p8 = some a8 ∧ u'.cell? p9 = some a9 ∧ Hid (StD w sd so sa sb sl ss xs zs ax ls M u') :=
  ⟨cell_below hb h.1, cell_below hb h.2.1, cell_below hb h.2.2.1, cell_below hb h.2.2.2.1, cell_below hb h.2.2.2.2.1, cell_below hb h.2.2.2.2.2.1, cell_below hb h.2.2.2.2.2.2.1, cell_below hb h.2.2.2.2.2.2.2.1, cell_below hb h.2.2.2.2.2.2.2.2.1, cell_below hb h.2.2.2.2.2.2.2.2.2.1, h.2.2.2.2.2.2.2.2.2.2.out.on hb⟩
theorem ends {u : World} {p : Option Addr} {c : Nat} {ls : List Int} {z1 : Int} (h : Reads u (.slice p ls.length c) ls) (hz : (if ls.length = 1 then ls.getD 0 0 else 0) = z1) :
    (ls.length = 0 ∧ ls[0]?.getD 0 = 0 ∧ ls[ls.length - 1]?.getD 0 = 0 ∧ z1 = 0) ∨ ∃ b o n, ls.length = n + 1 ∧ p = some ⟨b, o, none⟩ ∧ u.cell? ⟨b, o, none⟩ = some (.int .i64 (ls[0]?.getD 0)) ∧ u.cell? ⟨b, o + n, none⟩ = some (.int .i64 (ls[ls.length - 1]?.getD 0)) ∧ (n = 0 → ls[ls.length - 1]?.getD 0 = ls[0]?.getD 0 ∧ z1 = ls[0]?.getD 0) ∧ (n ≠ 0 → z1 = 0) := by
  subst hz
  obtain ⟨q, b, o, c', e, hq, hc⟩ := reads_shape h
  cases hn : ls.length with
  | zero =>
    have : ls = [] := List.eq_nil_of_length_eq_zero hn
    subst this
    exact .inl ⟨rfl, rfl, rfl, rfl⟩
  | succ n =>
    have hp : p = some ⟨b, o, none⟩ := by
      have := hq (by omega)
      injection e with e1 _ _
      rw [e1, this]
    have c0 := hc 0 (by omega)
    have c1 := hc n (by omega)
    rw [List.getD_eq_getElem?_getD] at c0 c1
    rw [Nat.add_zero] at c0
    have e2 : n + 1 - 1 = n := by omega
    refine .inr ⟨b, o, n, rfl, hp, c0, by rw [e2]; exact c1, fun e0 => ?_, fun e0 => if_neg (by omega)⟩
    subst e0
    exact ⟨rfl, by simp⟩
theorem keepX_len (xs : List Int) (x : Nat) : (keepX xs x).length ≤ xs.length := by
  unfold keepX
  split <;> simp
theorem litI1 (w : World) (q : Nat) (hq : q = w.heap.size) (a : Int) : Reads (w.alloc (.cells #[.int .i64 a] 3)) (.slice (some ⟨q, 0, none⟩) 1 1) [a] := by
  subst hq
  refine .inr ⟨w.heap.size, 0, 1, rfl, fun k hk => ?_⟩
  have : k = 0 := by simpa using hk
  subst this
  simp
theorem heldM {w u : World} {p0 p1 p2 p3 p4 p5 p6 p7 p8 p9 : Addr} {a0 a1 a2 a3 a4 a5 a6 a7 a8 a9 sd so sa sb sl ss ss' : Value} {xs zs ax ls : List Int} {M M' : List (Int × Int)}
    (h : u.cell? p0 = some a0 ∧ u.cell? p1 = some a1 ∧ u.cell? p2 = some a2 ∧ u.cell? p3 = some a3 ∧ u.cell? p4 = some a4 ∧ u.cell? p5 = some a5 ∧ u.cell? p6 = some a6 ∧ u.cell? p7 = some a7 ∧ u.cell? p8 = some a8 ∧ u.cell? p9 = some a9 ∧ Hid (StD w sd so sa sb sl ss xs zs ax ls M u)) (hs : Sees u ss' M') :
    u.cell? p0 = some a0 ∧ u.cell? p1 = some a1 ∧ u.cell? p2 = some a2 ∧ u.cell? p3 = some a3 ∧ u.cell? p4 = some a4 ∧ u.cell? p5 = some a5 ∧ u.cell? p6 = some a6 ∧ u.cell? p7 = some a7 ∧ u.cell? p8 = some a8 ∧ u.cell? p9 = some a9 ∧ Hid (StD w sd so sa sb sl ss' xs zs ax ls M' u) :=
  ⟨h.1, h.2.1, h.2.2.1, h.2.2.2.1, h.2.2.2.2.1, h.2.2.2.2.2.1, h.2.2.2.2.2.2.1, h.2.2.2.2.2.2.2.1, h.2.2.2.2.2.2.2.2.1, h.2.2.2.2.2.2.2.2.2.1, have d := h.2.2.2.2.2.2.2.2.2.2.out; Lib.hid ⟨d.tab, d.pos, d.rd, d.ro, d.ra, d.rb, d.rl, hs, d.below⟩⟩
theorem heldTs {w u : World} {p0 p1 p2 p3 p4 p5 p6 p7 p8 p9 : Addr} {a0 a1 a2 a3 a4 a5 a6 a7 a8 a9 sd so sa sb sl ss : Value} {xs zs ax ls : List Int} {M : List (Int × Int)}
    (h : u.cell? p0 = some a0 ∧ u.cell? p1 = some a1 ∧ u.cell? p2 = some a2 ∧ u.cell? p3 = some a3 ∧ u.cell? p4 = some a4 ∧ u.cell? p5 = some a5 ∧ u.cell? p6 = some a6 ∧ u.cell? p7 = some a7 ∧ u.cell? p8 = some a8 ∧ u.cell? p9 = some a9 ∧ Hid (StD w sd so sa sb sl ss xs zs ax ls M u)) : StD w sd so sa sb sl ss xs zs ax ls M u := h.2.2.2.2.2.2.2.2.2.2.out

set_option maxRecDepth 100000 in
set_option maxHeartbeats 16000000 in
theorem tells_law (p : Option Addr) (m c : Nat) (L : List (Int × Int)) (sd so : Value) (xs zs : List Int) (x z : Nat) (y low high : Int) (w : World) (hT : B.Tab w) (h0 : 0 < w.heap.size) (hS : Sees w (.slice p m c) L) (hmL : m = L.length)
    (hd : ReadsN w sd xs) (ho : ReadsN w so zs) (hx : x < 18446744073709551616) (hxl : xs.length ≤ maxLen) (hzl : zs.length ≤ maxLen) :
    Calls Tryd.prog 3 #[.slice p m c, .agg #[sd, .int .u64 x], .agg #[so, .int .u64 z], .int .i64 y, .int .i64 low, .int .i64 high] w (Yes w) := by
  obtain ⟨pd, nd, cd, rfl⟩ := reads_slice (reads_of_readsN hd)
  obtain ⟨po, no, co, rfl⟩ := reads_slice (reads_of_readsN ho)
  have hnd : nd = xs.length := by
    rcases hd with ⟨h, rfl⟩ | ⟨ad, c, h, rfl⟩ | ⟨b, off, c, h, _⟩
    · injection h
    · injection h
    · injection h
  have hno : no = zs.length := by
    rcases ho with ⟨h, rfl⟩ | ⟨ad, c, h, rfl⟩ | ⟨b, off, c, h, _⟩
    · injection h
    · injection h
    · injection h
  obtain ⟨W0, hW0⟩ : ∃ W0, W0 = (w.alloc (.cells #[.slice pd nd cd, .int .u64 x] 26)).alloc (.cells #[.slice po no co, .int .u64 z] 26) := ⟨_, rfl⟩
  have hB0 : Below w.heap.size w W0 := by rw [hW0]; exact below_two (below_alloc _ _) (below_alloc _ _)
  have q0 := new_two w (.slice pd nd cd) (.int .u64 x) 26 w.heap.size rfl
  have e0 : W0.cell? ⟨w.heap.size, 0, none⟩ = some (.slice pd nd cd) := by rw [hW0]; exact cell_below (below_alloc _ _) q0.1
  have e1 : W0.cell? ⟨w.heap.size, 1, none⟩ = some (.int .u64 x) := by rw [hW0]; exact cell_below (below_alloc _ _) q0.2.1
  have q1 : W0.cell? ⟨w.heap.size + 1, 0, none⟩ = some (.slice po no co) ∧ W0.cell? ⟨w.heap.size + 1, 1, none⟩ = some (.int .u64 z) := by
    rw [hW0]
    have := new_two (w.alloc (.cells #[.slice pd nd cd, .int .u64 x] 26)) (.slice po no co) (.int .u64 z) 26 (w.heap.size + 1) (by simp)
    exact ⟨this.1, this.2.1⟩
  have A := Lib.hid (awake_any W0 (B.Tab.below hT h0 hB0) (Nat.lt_of_lt_of_le h0 hB0.size))
  have HC := Lib.hid (And.intro e0 (And.intro e1 q1))
  have HT := Lib.hid hT
  have H0 := Lib.hid h0
  have HS := Lib.hid hS
  have HRD := Lib.hid hd
  have HRO := Lib.hid ho
  have HB0 := Lib.hid hB0
  have HW := Lib.hid hW0
  have HND := Lib.hid hnd
  have HNO := Lib.hid hno
  have HML := Lib.hid hmL
  unfold maxLen at hxl hzl
  rw [← hnd] at hxl
  rw [← hno] at hzl
  clear hT h0 hS hd ho hB0 hW0 q0 q1 e0 e1 hnd hno hmL
  go_enter Tryd.func3, Tryd.ntmps3
  go_wp2_with fail
  rw [← HW.out]
  refine A.out.mono ?_
  rintro e w1 ⟨rfl, hB⟩
  have k0 := cell_below hB HC.out.1
  have k1 := cell_below hB HC.out.2.1
  have k2 := cell_below hB HC.out.2.2.1
  have k3 := cell_below hB HC.out.2.2.2
  have B1 := Lib.hid (below_two HB0.out hB)
  clear hB A
  by_cases hm1 : 100 < m
  · have d1 : (100 : Int) < (m : Int) := by omega
    go_wp2_with fail
    go_ret
    exact ⟨rfl, B1.out⟩
  · have d1 : decide ((100 : Int) < (m : Int)) = false := decide_eq_false (by omega)
    by_cases hm2 : 100 < nd
    · have d2 : (100 : Int) < (nd : Int) := by omega
      go_wp2_with fail
      go_ret
      exact ⟨rfl, B1.out⟩
    · have d2 : decide ((100 : Int) < (nd : Int)) = false := decide_eq_false (by omega)
      by_cases hm3 : 100 < no
      · have d3 : (100 : Int) < (no : Int) := by omega
        go_wp2_with fail
        go_ret
        exact ⟨rfl, B1.out⟩
      · have d3 : decide ((100 : Int) < (no : Int)) = false := decide_eq_false (by omega)
        have hx1 : xs.length ≤ 100 := by have := HND.out; omega
        have hz1 : zs.length ≤ 100 := by have := HNO.out; omega
        have hL1 : L.length ≤ 1000000 := by have := HML.out; omega
        have HAX : Hid ((newX L).length ≤ 1000000) := newX_le L
        have NA := Lib.hid ((new_any (sees_below HS.out B1.out) hL1).mono fun e w' h => told_of h)
        go_wp2_with fail
        refine NA.out.mono ?_
        rintro e w2 ⟨pa, na, ca, rfl, hra, hB⟩
        have k0 := cell_below hB k0
        have k1 := cell_below hB k1
        have k2 := cell_below hB k2
        have k3 := cell_below hB k3
        have RA := Lib.hid hra
        have B2 := Lib.hid (below_two B1.out hB)
        have NB := Lib.hid ((rnew_any (sees_below HS.out (below_two B2.out (below_alloc w2 (.cells #[.slice pa na ca, .int .u64 (newY L)] 26)))) hL1).mono fun e w' h => told_of h)
        clear hB hra NA
        go_wp2_with fail
        refine NB.out.mono ?_
        rintro e w3 ⟨pb, nb, cb, rfl, hrb, hB⟩
        have hB' := below_two (below_alloc w2 (.cells #[.slice pa na ca, .int .u64 (newY L)] 26)) hB
        have qa := new_two w2 (.slice pa na ca) (.int .u64 (newY L)) 26 w2.heap.size rfl
        obtain ⟨W4, hW4⟩ : ∃ W4, W4 = (w3.alloc (.cells #[.slice pb nb cb, .int .u64 (newY L)] 31)).alloc (.cells #[.slice pd nd cd, .int .u64 x] 31) := ⟨_, rfl⟩
        have hb4 : Below w3.heap.size w3 W4 := by rw [hW4]; exact below_two (below_alloc _ _) (below_alloc _ _)
        have qb := new_two w3 (.slice pb nb cb) (.int .u64 (newY L)) 31 w3.heap.size rfl
        have qw : W4.cell? ⟨w3.heap.size + 1, 0, none⟩ = some (.slice pd nd cd) ∧ W4.cell? ⟨w3.heap.size + 1, 1, none⟩ = some (.int .u64 x) := by
          rw [hW4]
          have := new_two (w3.alloc (.cells #[.slice pb nb cb, .int .u64 (newY L)] 31)) (.slice pd nd cd) (.int .u64 x) 31 (w3.heap.size + 1) (by simp)
          exact ⟨this.1, this.2.1⟩
        have qb0 : W4.cell? ⟨w3.heap.size, 0, none⟩ = some (.slice pb nb cb) := by rw [hW4]; exact cell_below (below_alloc _ _) qb.1
        have qb1 : W4.cell? ⟨w3.heap.size, 1, none⟩ = some (.int .u64 (newY L)) := by rw [hW4]; exact cell_below (below_alloc _ _) qb.2.1
        have k0' := cell_below hB' k0
        have k1' := cell_below hB' k1
        have B4 := Lib.hid (below_two B2.out (below_two hB' hb4))
        have RA4 := Lib.hid (reads_below RA.out (below_two hB' hb4))
        have RB4 := Lib.hid (reads_below hrb hb4)
        have CE := Lib.hid (And.intro (cell_below hb4 k0') (And.intro (cell_below hb4 k1') (And.intro (cell_below hb4 (cell_below hB' k2)) (And.intro (cell_below hb4 (cell_below hB' k3)) (And.intro (cell_below hb4 (cell_below hB qa.1)) (And.intro (cell_below hb4 (cell_below hB qa.2.1)) (And.intro qb0 (And.intro qb1 (And.intro qw.1 qw.2)))))))))
        have HW4 := Lib.hid hW4
        have LI := Lib.hid (te_list (reads_of_readsN (readsN_below HRD.out B4.out)) hx1 x hx)
        obtain ⟨Y, hY⟩ : ∃ Y, Y = newY L := ⟨_, rfl⟩
        rw [← hY] at CE HW4 ⊢
        have EN := newE L
        clear hB hB' qa qb qw qb0 qb1 hb4 hW4 hrb k0 k1 k2 k3 NB EN hY
        have k0 := cell_below (below_alloc w3 (.cells #[.slice pb nb cb, .int .u64 Y] 31)) k0'
        have k1 := cell_below (below_alloc w3 (.cells #[.slice pb nb cb, .int .u64 Y] 31)) k1'
        clear k0' k1'
        go_wp2_with fail
        rw [← HW4.out]
        clear k0 k1
        refine LI.out.mono ?_
        rintro e w5 ⟨pl, cl, rfl, hrl, hB⟩
        have HH : Hid (w5.cell? ⟨w.heap.size, 0, none⟩ = some (.slice pd nd cd) ∧ w5.cell? ⟨w.heap.size, 1, none⟩ = some (.int .u64 x) ∧ w5.cell? ⟨w.heap.size + 1, 0, none⟩ = some (.slice po no co) ∧ w5.cell? ⟨w.heap.size + 1, 1, none⟩ = some (.int .u64 z) ∧ w5.cell? ⟨w2.heap.size, 0, none⟩ = some (.slice pa na ca) ∧ w5.cell? ⟨w2.heap.size, 1, none⟩ = some (.int .u64 Y) ∧ w5.cell? ⟨w3.heap.size, 0, none⟩ = some (.slice pb nb cb) ∧ w5.cell? ⟨w3.heap.size, 1, none⟩ = some (.int .u64 Y) ∧ w5.cell? ⟨w3.heap.size + 1, 0, none⟩ = some (.slice pd nd cd) ∧ w5.cell? ⟨w3.heap.size + 1, 1, none⟩ = some (.int .u64 x) ∧ Hid (StD w (.slice pd nd cd) (.slice po no co) (.slice pa na ca) (.slice pb nb cb) (.slice pl (leftM xs x).length cl) (.slice none 0 0) xs zs (newX L) (leftM xs x) [] w5)) := by
          have b5 := below_two B4.out hB
          have c := CE.out
          exact ⟨cell_below hB c.1, cell_below hB c.2.1, cell_below hB c.2.2.1, cell_below hB c.2.2.2.1, cell_below hB c.2.2.2.2.1, cell_below hB c.2.2.2.2.2.1, cell_below hB c.2.2.2.2.2.2.1, cell_below hB c.2.2.2.2.2.2.2.1, cell_below hB c.2.2.2.2.2.2.2.2.1, cell_below hB c.2.2.2.2.2.2.2.2.2, Lib.hid ⟨B.Tab.below HT.out H0.out b5, Nat.lt_of_lt_of_le H0.out b5.size, readsN_below HRD.out b5, readsN_below HRO.out b5, reads_below RA4.out hB, reads_below RB4.out hB, hrl, ⟨none, 0, 0, 0, rfl, fun h => by simp at h, fun k hk => by simp at hk⟩, b5⟩⟩
        have hle := leftM_le xs x
        clear hB hrl CE RA4 RB4 B4 LI RA B2 B1
        obtain ⟨k0, k1, _⟩ := HH.out
        go_wp2_with fail
        refine (te_least (heldTs HH.out).d hx1 x hx (heldTs HH.out).tab (heldTs HH.out).pos).mono ?_
        rintro e w6 ⟨rfl, hB⟩
        have HH := Lib.hid (heldT HH.out hB)
        clear hB k0 k1
        obtain ⟨k0, k1, _⟩ := HH.out
        go_wp2_with fail
        refine (te_greatest (heldTs HH.out).d hx1 x hx).mono ?_
        rintro e w7 ⟨rfl, hB⟩
        have HH := Lib.hid (heldT HH.out hB)
        clear hB k0 k1
        obtain ⟨k0, k1, _⟩ := HH.out
        go_wp2_with fail
        have SI := Lib.hid (te_single (heldTs HH.out).d hx1 x hx (heldTs HH.out).tab (heldTs HH.out).pos)
        obtain ⟨z1, hz1'⟩ : ∃ z1, (if (leftM xs x).length = 1 then (leftM xs x).getD 0 0 else 0) = z1 := ⟨_, rfl⟩
        rw [hz1'] at SI
        have HZV := Lib.hid hz1'
        clear hz1'
        refine SI.out.mono ?_
        rintro e w8 ⟨rfl, hB⟩
        have HH := Lib.hid (heldT HH.out hB)
        have hle' := leftM_le xs x
        have HX1 := Lib.hid hx1
        have HZ1 := Lib.hid hz1
        clear hB k0 k1 SI
        go_upto_region 12 with fail
        go_cut [121] (fun v wx => v = .bool false ∧ Hid (wx.cell? ⟨w.heap.size, 0, none⟩ = some (.slice pd nd cd) ∧ wx.cell? ⟨w.heap.size, 1, none⟩ = some (.int .u64 x) ∧ wx.cell? ⟨w.heap.size + 1, 0, none⟩ = some (.slice po no co) ∧ wx.cell? ⟨w.heap.size + 1, 1, none⟩ = some (.int .u64 z) ∧ wx.cell? ⟨w2.heap.size, 0, none⟩ = some (.slice pa na ca) ∧ wx.cell? ⟨w2.heap.size, 1, none⟩ = some (.int .u64 Y) ∧ wx.cell? ⟨w3.heap.size, 0, none⟩ = some (.slice pb nb cb) ∧ wx.cell? ⟨w3.heap.size, 1, none⟩ = some (.int .u64 Y) ∧ wx.cell? ⟨w3.heap.size + 1, 0, none⟩ = some (.slice pd nd cd) ∧ wx.cell? ⟨w3.heap.size + 1, 1, none⟩ = some (.int .u64 x) ∧ Hid (StD w (.slice pd nd cd) (.slice po no co) (.slice pa na ca) (.slice pb nb cb) (.slice pl (leftM xs x).length cl) (.slice none 0 0) xs zs (newX L) (leftM xs x) [] wx)))
        case first =>
          as_aux_lemma =>
            go_region_held3 (fun w' => w'.cell? ⟨w.heap.size, 0, none⟩ = some (.slice pd nd cd) ∧ w'.cell? ⟨w.heap.size, 1, none⟩ = some (.int .u64 x) ∧ w'.cell? ⟨w.heap.size + 1, 0, none⟩ = some (.slice po no co) ∧ w'.cell? ⟨w.heap.size + 1, 1, none⟩ = some (.int .u64 z) ∧ w'.cell? ⟨w2.heap.size, 0, none⟩ = some (.slice pa na ca) ∧ w'.cell? ⟨w2.heap.size, 1, none⟩ = some (.int .u64 Y) ∧ w'.cell? ⟨w3.heap.size, 0, none⟩ = some (.slice pb nb cb) ∧ w'.cell? ⟨w3.heap.size, 1, none⟩ = some (.int .u64 Y) ∧ w'.cell? ⟨w3.heap.size + 1, 0, none⟩ = some (.slice pd nd cd) ∧ w'.cell? ⟨w3.heap.size + 1, 1, none⟩ = some (.int .u64 x) ∧ Hid (StD w (.slice pd nd cd) (.slice po no co) (.slice pa na ca) (.slice pb nb cb) (.slice pl (leftM xs x).length cl) (.slice none 0 0) xs zs (newX L) (leftM xs x) [] w'))
              (first | exact heldT (by assumption) (by assumption) | exact heldT HH.out (below_drewN (n := 1) (Below.refl _ _)))
              (first
                | (go_at_call 13; refine (te_same (heldTs (by assumption)).ra (heldTs (by assumption)).rb HAX.out).mono ?_; rintro e wq ⟨rfl, hB⟩)
                | (go_at_call 14; refine (te_may (heldTs (by assumption)).d hx1 x hx).mono ?_; rintro e wq ⟨rfl, hB⟩)
                | (go_at_call 15; refine (te_rmay (heldTs (by assumption)).d hx1 x hx).mono ?_; rintro e wq ⟨rfl, hB⟩)
                | (go_at_call 16; refine (te_size (heldTs (by assumption)).d hx1 x hx).mono ?_; rintro e wq ⟨rfl, hB⟩)
                | (go_at_call 18; refine (te_dlist (heldTs (by assumption)).d hx1 x hx (heldTs (by assumption)).tab (heldTs (by assumption)).pos).mono ?_; rintro e wq ⟨pq, cq, rfl, hrq, hB⟩)
                | (go_at_call 17; refine (aw_ints hrq (heldTs (by assumption)).rl (Nat.le_trans hle' (by decide))).mono ?_; rintro e wq ⟨rfl, hB⟩))
            have HHF := Lib.hid (heldT (w := w) (sd := .slice pd nd cd) (by assumption) (Below.refl _ _))
            go_wp2_with fail
            go_meet
            exact ⟨rfl, HHF⟩
        case rest =>
          obtain ⟨rfl, HH⟩ := hcut
          have rl := (heldTs HH.out).rl
          have RL := Lib.hid rl
          go_upto_region 14 with fail
          have en := ends rl HZV.out
          obtain ⟨gl, hgl⟩ : ∃ gl, (leftM xs x)[(leftM xs x).length - 1]?.getD 0 = gl := ⟨_, rfl⟩
          obtain ⟨fl, hfl⟩ : ∃ fl, (leftM xs x)[0]?.getD 0 = fl := ⟨_, rfl⟩
          obtain ⟨bi, hbi⟩ : ∃ bi, decide (0 < (leftM xs x).length) = bi := ⟨_, rfl⟩
          obtain ⟨b1, hb1⟩ : ∃ b1, ((((leftM xs x).length : Nat) : Int) == 1) = b1 := ⟨_, rfl⟩
          obtain ⟨nl, hnl⟩ : ∃ nl, (leftM xs x).length = nl := ⟨_, rfl⟩
          rw [hgl, hfl] at en
          rw [hgl, hfl, hbi, hb1]
          have hl64 : (leftM xs x).length ≤ 64 := hle'
          rw [hnl] at en hbi hb1 hl64 ⊢
          have EN := Lib.hid (And.intro en (And.intro hbi (And.intro hb1 hl64)))
          have HNL := Lib.hid hnl
          clear hgl hfl hbi hb1 en rl hnl hl64
          go_cut [169] (fun v wx => v = .bool false ∧ wx = wc)
          case first =>
            as_aux_lemma =>
              obtain ⟨en, hbi, hb1, hl64⟩ := EN.out
              clear EN HNL
              rcases en with ⟨rfl, rfl, rfl, rfl⟩ | ⟨b, o, n, rfl, rfl, c0, c1, hn0, hn1⟩
              · obtain rfl : bi = false := by simpa using hbi.symm
                obtain rfl : b1 = false := by simpa using hb1.symm
                clear hbi hb1
                go_wp2_with fail
                go_meet
                exact ⟨rfl, rfl⟩
              · obtain rfl : bi = true := by rw [← hbi]; exact decide_eq_true (by omega)
                by_cases e0 : n = 0
                · obtain ⟨h1, h2⟩ := hn0 e0
                  subst e0
                  subst h1
                  subst h2
                  obtain rfl : b1 = true := by simpa using hb1.symm
                  clear hn0 hn1 c1 hbi hb1
                  go_wp2_with fail
                  go_meet
                  exact ⟨rfl, rfl⟩
                · obtain rfl := hn1 e0
                  obtain rfl : b1 = false := by rw [← hb1, beq_eq_false_iff_ne]; omega
                  have d4 : n ≤ 63 := by omega
                  have d5 : (n : Int) < ((n + 1 : Nat) : Int) := by omega
                  have d6 : (0 : Int) < ((n + 1 : Nat) : Int) := by omega
                  clear hn0 hn1 e0 hbi hb1
                  go_wp2_with fail
                  go_meet
                  exact ⟨rfl, rfl⟩
          case rest =>
            obtain ⟨rfl, rfl⟩ := hcut
            obtain rfl := HNL.out
            clear EN HNL HZV
            go_wp2_with fail
            refine (te_rof RL.out).mono ?_
            rintro e w13 ⟨p5, c5, M, rfl, hM1, hM2, hM3, hsM, hB⟩
            have HH := Lib.hid (heldM (heldT HH.out hB) hsM)
            have HM1 := Lib.hid hM1
            have HM2 := Lib.hid hM2
            clear hB hsM hM1 hM2 RL
            go_wp2_with fail
            refine (te_rbetween (heldTs HH.out).rl hle' y y).mono ?_
            rintro e w14 ⟨p6, c6, rfl, hr6, hB⟩
            have HH := Lib.hid (heldT HH.out hB)
            have HA := Lib.hid (fun u (h : Reads u (.slice pd nd cd) xs) => te_has (u := u) h hx1 x hx y)
            have EO := Lib.hid (only_eq xs x y)
            have EL := Lib.hid (less_eq xs x y)
            have EB := Lib.hid (between_eqL xs x low high)
            have KX := Lib.hid (Nat.le_trans (keepX_len xs x) (Nat.le_trans hx1 (by decide : 100 ≤ 1000000)))
            have FL := Lib.hid (fun q => Nat.le_trans (List.length_filter_le q (leftM xs x)) hle')
            have X6 := Lib.hid (Nat.le_trans hx1 (by decide : 100 ≤ 1000000))
            have Z6 := Lib.hid (Nat.le_trans hz1 (by decide : 100 ≤ 1000000))
            clear hB hr6
            have HA : Hid (∀ u, Reads u (.slice pd nd cd) xs → Calls Tryd.prog 21 #[.agg #[.slice pd nd cd, .int .u64 x], .int .i64 y] u fun e w' => e = .returned (.bool (decide ((0 : Int) < (((leftM xs x).filter (pBetween y y)).length : Nat)))) ∧ Below u.heap.size u w') := HA
            go_wp2_with fail
            as_aux_lemma =>
              go_region_held3 (fun w' => w'.cell? ⟨w.heap.size, 0, none⟩ = some (.slice pd nd cd) ∧ w'.cell? ⟨w.heap.size, 1, none⟩ = some (.int .u64 x) ∧ w'.cell? ⟨w.heap.size + 1, 0, none⟩ = some (.slice po no co) ∧ w'.cell? ⟨w.heap.size + 1, 1, none⟩ = some (.int .u64 z) ∧ w'.cell? ⟨w2.heap.size, 0, none⟩ = some (.slice pa na ca) ∧ w'.cell? ⟨w2.heap.size, 1, none⟩ = some (.int .u64 Y) ∧ w'.cell? ⟨w3.heap.size, 0, none⟩ = some (.slice pb nb cb) ∧ w'.cell? ⟨w3.heap.size, 1, none⟩ = some (.int .u64 Y) ∧ w'.cell? ⟨w3.heap.size + 1, 0, none⟩ = some (.slice pd nd cd) ∧ w'.cell? ⟨w3.heap.size + 1, 1, none⟩ = some (.int .u64 x) ∧ Hid (StD w (.slice pd nd cd) (.slice po no co) (.slice pa na ca) (.slice pb nb cb) (.slice pl (leftM xs x).length cl) (.slice p5 M.length c5) xs zs (newX L) (leftM xs x) M w'))
                (first | exact heldT (by assumption) (by assumption) | exact heldT (by assumption) (below_alloc _ _) | exact heldT HH.out (below_drewN (n := 1) (Below.refl _ _)))
                (first
                  | (go_at_call 21; refine (HA.out _ (heldTs (by assumption)).d).mono ?_; rintro e wq ⟨rfl, hB⟩)
                  | (go_at_call 23; refine (te_spans (heldTs (by assumption)).d hx1 x hx (heldTs (by assumption)).tab (heldTs (by assumption)).pos M HM1.out HM2.out).mono ?_; rintro e wq ⟨pq, cq, rfl, hrS, hB⟩)
                  | (go_at_call 22; refine (same_any hrS (heldTs (by assumption)).rs (Nat.le_trans hM3 (by decide))).mono ?_; rintro e wq ⟨rfl, hB⟩)
                  | (go_at_call 24; refine (te_only (heldTs (by assumption)).d hx1 x hx y).mono ?_; rintro e wq ⟨p7, n7, c7, rfl, hrA, hB⟩; have hBO := hB)
                  | (go_at_call 26; refine (te_less (heldTs (by assumption)).d hx1 x hx y).mono ?_; rintro e wq ⟨p7, n7, c7, rfl, hrA, hB⟩)
                  | (go_at_call 28; refine (te_between (heldTs (by assumption)).d hx1 x hx low high).mono ?_; rintro e wq ⟨p7, n7, c7, rfl, hrA, hB⟩)
                  | (go_at_call 27; refine (te_rless (heldTs (by assumption)).rl hle' y).mono ?_; rintro e wq ⟨p8, c8, rfl, hrL, hB⟩; have hrA := reads_below hrA hB; have EY := EL)
                  | (go_at_call 20; refine (te_rbetween (heldTs (by assumption)).rl hle' low high).mono ?_; rintro e wq ⟨p8, c8, rfl, hrL, hB⟩; have hrA := reads_below hrA hB; have EY := EB)
                  | (go_at_call_of 25 (p8); refine (te_keep (heldTs (by assumption)).rd hrL hx1 (FL.out _) x hx _ EY.out).mono ?_; rintro e wq ⟨p9, n9, c9, rfl, hrK, hB⟩; have hrA := reads_below hrA hB)
                  | (go_at_call 25; refine (te_keep (heldTs (by assumption)).rd (litI1 _ _ rfl y) hx1 (by simp) x hx _ EO.out).mono ?_; rintro e wq ⟨p9, n9, c9, rfl, hrK, hB⟩; have hrA := reads_below hrA (below_two (below_alloc _ _) hB))
                  | (go_at_call 25; refine (te_keep (heldTs (by assumption)).rd (reads_below (litI1 _ _ rfl y) hBO) hx1 (by simp) x hx _ EO.out).mono ?_; rintro e wq ⟨p9, n9, c9, rfl, hrK, hB⟩; have hrA := reads_below hrA hB)
                  | (go_at_call_of 13 (po); refine (rdsame_any (heldTs (by assumption)).d (reads_of_readsN (heldTs (by assumption)).ro) X6.out Z6.out x z).mono ?_; rintro e wq ⟨rfl, hB⟩)
                  | (go_at_call 13; refine (te_same hrA hrK KX.out).mono ?_; rintro e wq ⟨rfl, hB⟩)
                  | (go_at_call 29; refine (dsame_any (heldTs (by assumption)).d (reads_of_readsN (heldTs (by assumption)).ro) X6.out Z6.out x z).mono ?_; rintro e wq ⟨rfl, hB⟩))
              all_goals
                have hbF := (heldTs (w := w) (sd := .slice pd nd cd) (by assumption)).below
                have HBF := Lib.hid hbF
                clear hbF
                go_wp2_with fail
                go_ret
                exact ⟨by simp, HBF.out⟩
end Go.Proofs.YtnabkhmonmcmfaaDoor
