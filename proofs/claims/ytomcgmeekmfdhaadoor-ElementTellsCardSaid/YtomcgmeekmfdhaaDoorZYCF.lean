/-
  What at of the document's answers for elements answers; two lists of numbers side by side, one of which grows.
  An append of one number to a row's copy, stored in the row's place, in whichever order: the relation of what has come up.
  What Step of the document's answers for elements answers.
-/
import Derived.Test.YtomcgmeekmfdhaaDoorZYCA
import Derived.Test.YtomcgmeekmfdhaaDoorZIStep
import Derived.Test.YtomcgmeekmfdhaaDoorZJMem
import Derived.Test.YtomcgmeekmfdhaaDoorZYBI
import Derived.Test.YtomcgmeekmfdhaaDoorZYAZ
import Derived.Test.YtomcgmeekmfdhaaDoorZDRkeep
import Derived.Test.YtomcgmeekmfdhaaDoorZYBB
import Derived.Test.YtomcgmeekmfdhaaDoorZYAX
import Derived.Test.YtomcgmeekmfdhaaDoorZYAU
import Derived.Deep.RegionHeld3
namespace Go.Proofs.YtomcgmeekmfdhaaDoor.Ge
open Go.RowKit St
set_option maxRecDepth 100000

set_option maxHeartbeats 1000000 in
theorem rat_any {w : World} {p : Option Addr} {b off len cc : Nat} {xs : List Int} (h : Nums w p b off len xs) (u z : Int) :
    Calls Tryd.prog 28 #[.slice p len cc, .int .i64 u, .int .i64 z] w fun e w' => e = .returned (.bool (atB xs u z)) ∧ Below w.heap.size w w' := by
  obtain ⟨R, hR⟩ : ∃ R, R = atB xs u z := ⟨_, rfl⟩
  rw [← hR]
  have hl := h.long
  by_cases h0 : 0 ≤ u
  · obtain ⟨n, rfl⟩ := Int.eq_ofNat_of_zero_le h0
    by_cases h1 : n < len
    · obtain rfl := h.at_ (by omega)
      have c0 := h.cell n h1
      have HR := Lib.hid (show R = decide (xs.getD n 0 = z) by rw [hR]; unfold atB; simp; omega)
      obtain ⟨y, hy⟩ : ∃ y, y = xs.getD n 0 := ⟨_, rfl⟩
      rw [← hy] at c0 HR
      have d1 : (n : Int) < (len : Int) := by omega
      clear hR hy h hl
      by_cases e : y = z
      · have HR2 := Lib.hid (show R = true by rw [HR.out]; exact decide_eq_true e)
        have de : (y == z) = true := by simpa using e
        clear HR e
        go_enter Tryd.func28, Tryd.ntmps28
        go_wp2_with fail
        go_ret
        exact ⟨by rw [HR2.out]; rfl, Below.refl _ _⟩
      · have HR2 := Lib.hid (show R = false by rw [HR.out]; exact decide_eq_false e)
        have de : (y == z) = false := by simpa using e
        clear HR e
        go_enter Tryd.func28, Tryd.ntmps28
        go_wp2_with fail
        go_ret
        exact ⟨by rw [HR2.out]; rfl, Below.refl _ _⟩
    · have HR2 := Lib.hid (show R = false by rw [hR]; unfold atB; rw [decide_eq_false (show ¬ (n : Int) < (xs.length : Int) by omega)]; simp)
      have d1 : ¬ ((n : Int) < (len : Int)) := by omega
      clear hR h hl
      go_enter Tryd.func28, Tryd.ntmps28
      go_wp2_with fail
      go_ret
      exact ⟨by rw [HR2.out]; rfl, Below.refl _ _⟩
  · have HR2 := Lib.hid (show R = false by rw [hR]; unfold atB; rw [decide_eq_false h0]; rfl)
    have d0 : decide ((0 : Int) ≤ u) = false := decide_eq_false h0
    clear hR h hl
    go_enter Tryd.func28, Tryd.ntmps28
    go_wp2_with fail
    go_ret
    exact ⟨by rw [HR2.out]; rfl, Below.refl _ _⟩

/- rows of numbers as rows of elements -/
def intP (cs : List Value) (x : Int) : Prop := cs = [.int .i64 x]
theorem infoI : (Tryd.prog.info? 3).map (fun i => (i.zero, i.size, i.bytes)) = some (some (.int .i64 0), 1, 8) := by kernel_rfl
theorem ints_rows {w : World} {base : Nat} {v : Value} {l : List Int} : Dm.OwnsI w base v l ↔ OwnsP intP 1 3 base w v l := by
  constructor
  · intro h
    refine ⟨l.map (Value.int .i64), h, by simp, fun k a hk => ⟨[.int .i64 a], rfl, fun j hj => ?_, rfl⟩⟩
    obtain rfl : j = 0 := by omega
    simp [hk]
  · rintro ⟨os, h1, h2, h3⟩
    have e : os = l.map (Value.int .i64) := by
      refine List.ext_getElem (by simpa using h2) fun i i1 i2 => ?_
      have hi : i < l.length := by simpa using i2
      obtain ⟨c, c1, c2, c3⟩ := h3 i _ (List.getElem?_eq_getElem hi)
      have := c2 0 (by omega)
      rw [c3, Nat.mul_one, Nat.add_zero, List.getElem?_eq_getElem i1] at this
      simpa using this
    rw [e] at h1
    exact h1
theorem put_int {w : World} {ops : Array Oper} {rest : List Oper} {o : Oper} {a : Act} {Q : Exit → Act → World → Prop} {base b c : Nat} {v : Value} {L : List Int} {y : Int} (hgd : o.guard = none) (s x : Operand) (ho : o.op = .call { callee := .builtin .append, args := #[s, x], argTypes := #[22, 22] }) (hs : a.eval s = v) (hx : a.eval x = .slice (some ⟨b, 0, none⟩) 1 c)
    (hown : Dm.OwnsI w base v L) (hcell : w.cell? ⟨b, 0, none⟩ = some (.int .i64 y)) (hsm : L.length ≤ 100000) (hbase : base ≤ w.heap.size)
    (h : ∀ p cap w', Dm.OwnsI w' base (.slice p (L.length + 1) cap) (L ++ [y]) → w.grownBy w' v.ownBlock → ((Value.slice p (L.length + 1) cap).ownBlock = v.ownBlock ∨ (Value.slice p (L.length + 1) cap).ownBlock = some w.heap.size) → wpList Tryd.prog ops Q rest (a.put o.dst (.slice p (L.length + 1) cap)) w') : wpList Tryd.prog ops Q (o :: rest) a w :=
  put_row infoI rfl (by decide) (by decide) Tryd.underlying22 hgd s x ho hs hx (ints_rows.1 hown) (cs := [.int .i64 y]) rfl (fun j u hj => by
    have hj0 : j = 0 := by
      have := (List.getElem?_eq_some_iff.1 hj).1
      simp at this
      omega
    subst hj0
    simp at hj
    subst hj
    exact hcell) (by simp [Value.oneCell']) rfl hsm hbase fun p cap w' g1 g2 g3 => h p cap w' (ints_rows.2 g1) g2 g3
/-- two lists of one's own, in blocks apart -/
structure Two (w : World) (base : Nat) (f s : Value) (F S : List Int) : Prop where
  one : Dm.OwnsI w base f F
  two : Dm.OwnsI w base s S
  apart : ∀ i, f.ownBlock = some i → s.ownBlock ≠ some i
section
variable {w w' : World} {base : Nat} {f s v : Value} {F S T : List Int}
theorem Two.swap (h : Two w base f s F S) : Two w base s f S F := ⟨h.two, h.one, fun i e q => h.apart i q e⟩
theorem Two.below (h : Two w base f s F S) (hb : Below w.heap.size w w') : Two w' base f s F S := ⟨owns_below h.one hb, owns_below h.two hb, h.apart⟩
theorem Two.put (h : Two w base f s F S) (hg : w.grownBy w' f.ownBlock) (ho : Dm.OwnsI w' base v T) (hv : v.ownBlock = f.ownBlock ∨ v.ownBlock = some w.heap.size) : Two w' base v s T S :=
  ⟨ho, ints_same h.two fun k hk => hg.block k (ints_kind h.two hk).2.1 (fun e => h.apart k e.symm hk), fun i e q => by
    rcases hv with r | r
    · exact h.apart i (r.symm.trans e) q
    · have h1 := (ints_kind h.two q).2.1
      have h2 : w.heap.size = i := Option.some.inj (r.symm.trans e)
      omega⟩
end
theorem two_made (w : World) (base : Nat) (hb : base ≤ w.heap.size) : Two ((w.alloc (.cells #[] 3)).alloc (.cells #[] 3)) base (.slice (some ⟨w.heap.size, 0, none⟩) 0 0) (.slice (some ⟨w.heap.size + 1, 0, none⟩) 0 0) [] [] := by
  have h1 := owns_below (made_ints w base hb) (new_below (w.alloc (.cells #[] 3)) (.cells #[] 3))
  have h2 := made_ints (w.alloc (.cells #[] 3)) base (by simp; omega)
  rw [World.size_alloc] at h2
  exact ⟨h1, h2, fun i e q => by
    have e1 : w.heap.size = i := Option.some.inj e
    have e2 : w.heap.size + 1 = i := Option.some.inj q
    omega⟩
/-- three cells that a region reads -/
theorem held3m {W0 u u' : World} {p0 p1 p2 : Addr} {a0 a1 a2 : Value} (h : u.cell? p0 = some a0 ∧ u.cell? p1 = some a1 ∧ u.cell? p2 = some a2 ∧ Below W0.heap.size W0 u) (hb : Below u.heap.size u u') :
    u'.cell? p0 = some a0 ∧ u'.cell? p1 = some a1 ∧ u'.cell? p2 = some a2 ∧ Below W0.heap.size W0 u' := ⟨cell_below hb h.1, cell_below hb h.2.1, cell_below hb h.2.2.1, below_two h.2.2.2 hb⟩
theorem held3o {W0 u : World} {p0 p1 p2 : Addr} {a0 a1 a2 : Value} (h : u.cell? p0 = some a0 ∧ u.cell? p1 = some a1 ∧ u.cell? p2 = some a2 ∧ Below W0.heap.size W0 u) : Below W0.heap.size W0 u := h.2.2.2
end Go.Proofs.YtomcgmeekmfdhaaDoor.Ge
namespace Go.Proofs.YtomcgmeekmfdhaaDoor.Ge
open Go.RowKit St
set_option maxRecDepth 100000

theorem own_one {base : Nat} (w : World) (z : Int) (hb : base ≤ w.heap.size) : Dm.OwnsI (w.alloc (.cells #[.int .i64 z] 3)) base (.slice (some ⟨w.heap.size, 0, none⟩) 1 1) [z] :=
  World.ownsRow_lit w #[.int .i64 z] 1 hb (by decide) rfl
theorem own_none (w : World) (base : Nat) (hb : base ≤ w.heap.size) : Dm.OwnsI (w.alloc (.cells #[] 3)) base (.slice (some ⟨w.heap.size, 0, none⟩) 0 0) [] := made_ints w base hb
theorem own_apart {w w' : World} {base a b l c l2 c2 : Nat} {T : List Int} (h : Dm.OwnsI w base (.slice (some ⟨a, 0, none⟩) l c) T) (hg : w.grownBy w' (Value.slice (some ⟨b, 0, none⟩) l2 c2).ownBlock) (hne : a ≠ b) : Dm.OwnsI w' base (.slice (some ⟨a, 0, none⟩) l c) T :=
  ints_same h fun k hk => hg.block k (ints_kind h hk).2.1 fun e => hne (by
    have e1 : a = k := Option.some.inj hk
    have e2 : b = k := Option.some.inj e.symm
    omega)
structure A13 (W : World) (go y g0 gu k n lm capm capo cu cq lO : Nat) (pq : Option Addr) (x : Int) (O : List Int) (b2 b15 : Nat) (v50 v51 v52 v53 v54 v55 v56 v57 v58 v59 v60 v61 v62 v63 v64 v65 v66 v67 : Value) (l : Nat → Bool) (u : World) : Prop where
  base : l 18 = false → Below W.heap.size W u
  p0 : l 0 = true → v50 = (.slice (some ⟨go, 0, none⟩) lm capo)
  p1 : l 1 = true → v51 = (.int .i64 (y : Nat))
  p3 : l 3 = true → v53 = (.slice (some ⟨go, 0, none⟩) lm capo)
  p4 : l 4 = true → v54 = (.int .i64 (y : Nat))
  p5 : l 5 = true → v55 = (.pointer (some ⟨go, y, none⟩))
  p6 : l 6 = true → v56 = (.slice pq lO cq)
  p8 : l 8 = true → v58 = (.slice (some ⟨g0, 0, none⟩) lm capm)
  p9 : l 9 = true → v59 = (.int .i64 (y : Nat))
  p10 : l 10 = true → v60 = (.pointer (some ⟨g0, y, none⟩))
  p11 : l 11 = true → v61 = (.slice (some ⟨gu, 0, none⟩) n cu)
  p12 : l 12 = true → v62 = (.int .i64 (k : Nat))
  p13 : l 13 = true → v63 = (.pointer (some ⟨gu, k, none⟩))
  p14 : l 14 = true → v64 = (.int .i64 x)
  p17 : l 17 = true → v67 = (.pointer (some ⟨go, y, none⟩))
  c13 : l 13 = true → l 11 = true
  c14 : l 14 = true → l 13 = true
  f2 : l 2 = true → v52 = .slice (some ⟨b2, 0, none⟩) 0 0 ∧ W.heap.size ≤ b2 ∧ b2 < u.heap.size ∧ (l 7 = false → Dm.OwnsI u W.heap.size v52 [])
  f7 : l 7 = true → (l 2 = true ∧ l 6 = true) ∧ (l 16 = false → Dm.OwnsI u W.heap.size v57 O)
  f15 : l 15 = true → l 14 = true ∧ v65 = .slice (some ⟨b15, 0, none⟩) 1 1 ∧ b15 < u.heap.size ∧ (l 16 = false → Dm.OwnsI u W.heap.size v65 [x])
  ne : l 2 = true → l 15 = true → b2 ≠ b15
  f16 : l 16 = true → (l 7 = true ∧ l 15 = true) ∧ (l 18 = false → Dm.OwnsI u W.heap.size v66 (O ++ [x]))
  f18 : l 18 = true → l 16 = true ∧ ∃ u0, Below W.heap.size W u0 ∧ Dm.OwnsI u0 W.heap.size v66 (O ++ [x]) ∧ u = u0.setCell ⟨go, y, none⟩ v66
structure GA13 where
  (b2 b15 : Nat)
  (v50 v51 v52 v53 v54 v55 v56 v57 v58 v59 v60 v61 v62 v63 v64 v65 v66 v67 : Value)
def putA13 (g : GA13) (tm : Array Value) : Array Value := ((((((((((((((((((((((((((((((((((((tm).setIfInBounds 50 g.v50)).setIfInBounds 51 g.v51)).setIfInBounds 52 g.v52)).setIfInBounds 53 g.v53)).setIfInBounds 54 g.v54)).setIfInBounds 55 g.v55)).setIfInBounds 56 g.v56)).setIfInBounds 57 g.v57)).setIfInBounds 58 g.v58)).setIfInBounds 59 g.v59)).setIfInBounds 60 g.v60)).setIfInBounds 61 g.v61)).setIfInBounds 62 g.v62)).setIfInBounds 63 g.v63)).setIfInBounds 64 g.v64)).setIfInBounds 65 g.v65)).setIfInBounds 66 g.v66)).setIfInBounds 67 g.v67)
def JA13 (W : World) (go y g0 gu k n lm capm capo cu cq lO : Nat) (pq : Option Addr) (x : Int) (O : List Int) (g : GA13) (l : Nat → Bool) (u : World) : Prop := A13 W go y g0 gu k n lm capm capo cu cq lO pq x O g.b2 g.b15 g.v50 g.v51 g.v52 g.v53 g.v54 g.v55 g.v56 g.v57 g.v58 g.v59 g.v60 g.v61 g.v62 g.v63 g.v64 g.v65 g.v66 g.v67 l u
section
variable {W : World} {go y g0 gu k n lm capm capo cu cq lO : Nat} {pq : Option Addr} {x : Int} {O : List Int} {b2 b15 : Nat} {v50 v51 v52 v53 v54 v55 v56 v57 v58 v59 v60 v61 v62 v63 v64 v65 v66 v67 : Value} {l : Nat → Bool} {u u2 : World}
theorem A13.no16 (S : A13 W go y g0 gu k n lm capm capo cu cq lO pq x O b2 b15 v50 v51 v52 v53 v54 v55 v56 v57 v58 v59 v60 v61 v62 v63 v64 v65 v66 v67 l u) (h : l 16 = false) : l 18 = false := by
  cases q : l 18
  · rfl
  · exact absurd (S.f18 q).1 (by rw [h]; decide)
theorem A13.no7 (S : A13 W go y g0 gu k n lm capm capo cu cq lO pq x O b2 b15 v50 v51 v52 v53 v54 v55 v56 v57 v58 v59 v60 v61 v62 v63 v64 v65 v66 v67 l u) (h : l 7 = false) : l 16 = false := by
  cases q : l 16
  · rfl
  · exact absurd (S.f16 q).1.1 (by rw [h]; decide)
theorem A13.no15 (S : A13 W go y g0 gu k n lm capm capo cu cq lO pq x O b2 b15 v50 v51 v52 v53 v54 v55 v56 v57 v58 v59 v60 v61 v62 v63 v64 v65 v66 v67 l u) (h : l 15 = false) : l 16 = false := by
  cases q : l 16
  · rfl
  · exact absurd (S.f16 q).1.2 (by rw [h]; decide)
theorem A13.no2 (S : A13 W go y g0 gu k n lm capm capo cu cq lO pq x O b2 b15 v50 v51 v52 v53 v54 v55 v56 v57 v58 v59 v60 v61 v62 v63 v64 v65 v66 v67 l u) (h : l 2 = false) : l 7 = false := by
  cases q : l 7
  · rfl
  · exact absurd (S.f7 q).1.1 (by rw [h]; decide)
theorem A13.no6 (S : A13 W go y g0 gu k n lm capm capo cu cq lO pq x O b2 b15 v50 v51 v52 v53 v54 v55 v56 v57 v58 v59 v60 v61 v62 v63 v64 v65 v66 v67 l u) (h : l 6 = false) : l 18 = false := S.no16 (S.no7 (by
  cases q : l 7
  · rfl
  · exact absurd (S.f7 q).1.2 (by rw [h]; decide)))
theorem A13.no14 (S : A13 W go y g0 gu k n lm capm capo cu cq lO pq x O b2 b15 v50 v51 v52 v53 v54 v55 v56 v57 v58 v59 v60 v61 v62 v63 v64 v65 v66 v67 l u) (h : l 14 = false) : l 18 = false := S.no16 (S.no15 (by
  cases q : l 15
  · rfl
  · exact absurd (S.f15 q).1 (by rw [h]; decide)))
theorem A13.no11 (S : A13 W go y g0 gu k n lm capm capo cu cq lO pq x O b2 b15 v50 v51 v52 v53 v54 v55 v56 v57 v58 v59 v60 v61 v62 v63 v64 v65 v66 v67 l u) (h : l 11 = false) : l 18 = false := S.no14 (by
  cases q : l 14
  · rfl
  · exact absurd (S.c13 (S.c14 q)) (by rw [h]; decide))
theorem A13.s0 (S : A13 W go y g0 gu k n lm capm capo cu cq lO pq x O b2 b15 v50 v51 v52 v53 v54 v55 v56 v57 v58 v59 v60 v61 v62 v63 v64 v65 v66 v67 l u) : A13 W go y g0 gu k n lm capm capo cu cq lO pq x O b2 b15 (.slice (some ⟨go, 0, none⟩) lm capo) v51 v52 v53 v54 v55 v56 v57 v58 v59 v60 v61 v62 v63 v64 v65 v66 v67 (upd l 0) u := by
  exact {
    base := S.base
    p0 := fun _ => rfl
    p1 := S.p1
    p3 := S.p3
    p4 := S.p4
    p5 := S.p5
    p6 := S.p6
    p8 := S.p8
    p9 := S.p9
    p10 := S.p10
    p11 := S.p11
    p12 := S.p12
    p13 := S.p13
    p14 := S.p14
    p17 := S.p17
    c13 := S.c13
    c14 := S.c14
    f2 := S.f2
    f7 := S.f7
    f15 := S.f15
    ne := S.ne
    f16 := S.f16
    f18 := S.f18 }
theorem A13.s1 (S : A13 W go y g0 gu k n lm capm capo cu cq lO pq x O b2 b15 v50 v51 v52 v53 v54 v55 v56 v57 v58 v59 v60 v61 v62 v63 v64 v65 v66 v67 l u) : A13 W go y g0 gu k n lm capm capo cu cq lO pq x O b2 b15 v50 (.int .i64 (y : Nat)) v52 v53 v54 v55 v56 v57 v58 v59 v60 v61 v62 v63 v64 v65 v66 v67 (upd l 1) u := by
  exact {
    base := S.base
    p0 := S.p0
    p1 := fun _ => rfl
    p3 := S.p3
    p4 := S.p4
    p5 := S.p5
    p6 := S.p6
    p8 := S.p8
    p9 := S.p9
    p10 := S.p10
    p11 := S.p11
    p12 := S.p12
    p13 := S.p13
    p14 := S.p14
    p17 := S.p17
    c13 := S.c13
    c14 := S.c14
    f2 := S.f2
    f7 := S.f7
    f15 := S.f15
    ne := S.ne
    f16 := S.f16
    f18 := S.f18 }
theorem A13.s3 (S : A13 W go y g0 gu k n lm capm capo cu cq lO pq x O b2 b15 v50 v51 v52 v53 v54 v55 v56 v57 v58 v59 v60 v61 v62 v63 v64 v65 v66 v67 l u) : A13 W go y g0 gu k n lm capm capo cu cq lO pq x O b2 b15 v50 v51 v52 (.slice (some ⟨go, 0, none⟩) lm capo) v54 v55 v56 v57 v58 v59 v60 v61 v62 v63 v64 v65 v66 v67 (upd l 3) u := by
  exact {
    base := S.base
    p0 := S.p0
    p1 := S.p1
    p3 := fun _ => rfl
    p4 := S.p4
    p5 := S.p5
    p6 := S.p6
    p8 := S.p8
    p9 := S.p9
    p10 := S.p10
    p11 := S.p11
    p12 := S.p12
    p13 := S.p13
    p14 := S.p14
    p17 := S.p17
    c13 := S.c13
    c14 := S.c14
    f2 := S.f2
    f7 := S.f7
    f15 := S.f15
    ne := S.ne
    f16 := S.f16
    f18 := S.f18 }
theorem A13.s4 (S : A13 W go y g0 gu k n lm capm capo cu cq lO pq x O b2 b15 v50 v51 v52 v53 v54 v55 v56 v57 v58 v59 v60 v61 v62 v63 v64 v65 v66 v67 l u) : A13 W go y g0 gu k n lm capm capo cu cq lO pq x O b2 b15 v50 v51 v52 v53 (.int .i64 (y : Nat)) v55 v56 v57 v58 v59 v60 v61 v62 v63 v64 v65 v66 v67 (upd l 4) u := by
  exact {
    base := S.base
    p0 := S.p0
    p1 := S.p1
    p3 := S.p3
    p4 := fun _ => rfl
    p5 := S.p5
    p6 := S.p6
    p8 := S.p8
    p9 := S.p9
    p10 := S.p10
    p11 := S.p11
    p12 := S.p12
    p13 := S.p13
    p14 := S.p14
    p17 := S.p17
    c13 := S.c13
    c14 := S.c14
    f2 := S.f2
    f7 := S.f7
    f15 := S.f15
    ne := S.ne
    f16 := S.f16
    f18 := S.f18 }
theorem A13.s5 (S : A13 W go y g0 gu k n lm capm capo cu cq lO pq x O b2 b15 v50 v51 v52 v53 v54 v55 v56 v57 v58 v59 v60 v61 v62 v63 v64 v65 v66 v67 l u) : A13 W go y g0 gu k n lm capm capo cu cq lO pq x O b2 b15 v50 v51 v52 v53 v54 (.pointer (some ⟨go, y, none⟩)) v56 v57 v58 v59 v60 v61 v62 v63 v64 v65 v66 v67 (upd l 5) u := by
  exact {
    base := S.base
    p0 := S.p0
    p1 := S.p1
    p3 := S.p3
    p4 := S.p4
    p5 := fun _ => rfl
    p6 := S.p6
    p8 := S.p8
    p9 := S.p9
    p10 := S.p10
    p11 := S.p11
    p12 := S.p12
    p13 := S.p13
    p14 := S.p14
    p17 := S.p17
    c13 := S.c13
    c14 := S.c14
    f2 := S.f2
    f7 := S.f7
    f15 := S.f15
    ne := S.ne
    f16 := S.f16
    f18 := S.f18 }
theorem A13.s6 (S : A13 W go y g0 gu k n lm capm capo cu cq lO pq x O b2 b15 v50 v51 v52 v53 v54 v55 v56 v57 v58 v59 v60 v61 v62 v63 v64 v65 v66 v67 l u) : A13 W go y g0 gu k n lm capm capo cu cq lO pq x O b2 b15 v50 v51 v52 v53 v54 v55 (.slice pq lO cq) v57 v58 v59 v60 v61 v62 v63 v64 v65 v66 v67 (upd l 6) u := by
  exact {
    base := S.base
    p0 := S.p0
    p1 := S.p1
    p3 := S.p3
    p4 := S.p4
    p5 := S.p5
    p6 := fun _ => rfl
    p8 := S.p8
    p9 := S.p9
    p10 := S.p10
    p11 := S.p11
    p12 := S.p12
    p13 := S.p13
    p14 := S.p14
    p17 := S.p17
    c13 := S.c13
    c14 := S.c14
    f2 := S.f2
    f7 := fun q => ⟨⟨(S.f7 q).1.1, rfl⟩, (S.f7 q).2⟩
    f15 := S.f15
    ne := S.ne
    f16 := S.f16
    f18 := S.f18 }
theorem A13.s8 (S : A13 W go y g0 gu k n lm capm capo cu cq lO pq x O b2 b15 v50 v51 v52 v53 v54 v55 v56 v57 v58 v59 v60 v61 v62 v63 v64 v65 v66 v67 l u) : A13 W go y g0 gu k n lm capm capo cu cq lO pq x O b2 b15 v50 v51 v52 v53 v54 v55 v56 v57 (.slice (some ⟨g0, 0, none⟩) lm capm) v59 v60 v61 v62 v63 v64 v65 v66 v67 (upd l 8) u := by
  exact {
    base := S.base
    p0 := S.p0
    p1 := S.p1
    p3 := S.p3
    p4 := S.p4
    p5 := S.p5
    p6 := S.p6
    p8 := fun _ => rfl
    p9 := S.p9
    p10 := S.p10
    p11 := S.p11
    p12 := S.p12
    p13 := S.p13
    p14 := S.p14
    p17 := S.p17
    c13 := S.c13
    c14 := S.c14
    f2 := S.f2
    f7 := S.f7
    f15 := S.f15
    ne := S.ne
    f16 := S.f16
    f18 := S.f18 }
theorem A13.s9 (S : A13 W go y g0 gu k n lm capm capo cu cq lO pq x O b2 b15 v50 v51 v52 v53 v54 v55 v56 v57 v58 v59 v60 v61 v62 v63 v64 v65 v66 v67 l u) : A13 W go y g0 gu k n lm capm capo cu cq lO pq x O b2 b15 v50 v51 v52 v53 v54 v55 v56 v57 v58 (.int .i64 (y : Nat)) v60 v61 v62 v63 v64 v65 v66 v67 (upd l 9) u := by
  exact {
    base := S.base
    p0 := S.p0
    p1 := S.p1
    p3 := S.p3
    p4 := S.p4
    p5 := S.p5
    p6 := S.p6
    p8 := S.p8
    p9 := fun _ => rfl
    p10 := S.p10
    p11 := S.p11
    p12 := S.p12
    p13 := S.p13
    p14 := S.p14
    p17 := S.p17
    c13 := S.c13
    c14 := S.c14
    f2 := S.f2
    f7 := S.f7
    f15 := S.f15
    ne := S.ne
    f16 := S.f16
    f18 := S.f18 }
theorem A13.s10 (S : A13 W go y g0 gu k n lm capm capo cu cq lO pq x O b2 b15 v50 v51 v52 v53 v54 v55 v56 v57 v58 v59 v60 v61 v62 v63 v64 v65 v66 v67 l u) : A13 W go y g0 gu k n lm capm capo cu cq lO pq x O b2 b15 v50 v51 v52 v53 v54 v55 v56 v57 v58 v59 (.pointer (some ⟨g0, y, none⟩)) v61 v62 v63 v64 v65 v66 v67 (upd l 10) u := by
  exact {
    base := S.base
    p0 := S.p0
    p1 := S.p1
    p3 := S.p3
    p4 := S.p4
    p5 := S.p5
    p6 := S.p6
    p8 := S.p8
    p9 := S.p9
    p10 := fun _ => rfl
    p11 := S.p11
    p12 := S.p12
    p13 := S.p13
    p14 := S.p14
    p17 := S.p17
    c13 := S.c13
    c14 := S.c14
    f2 := S.f2
    f7 := S.f7
    f15 := S.f15
    ne := S.ne
    f16 := S.f16
    f18 := S.f18 }
theorem A13.s11 (S : A13 W go y g0 gu k n lm capm capo cu cq lO pq x O b2 b15 v50 v51 v52 v53 v54 v55 v56 v57 v58 v59 v60 v61 v62 v63 v64 v65 v66 v67 l u) : A13 W go y g0 gu k n lm capm capo cu cq lO pq x O b2 b15 v50 v51 v52 v53 v54 v55 v56 v57 v58 v59 v60 (.slice (some ⟨gu, 0, none⟩) n cu) v62 v63 v64 v65 v66 v67 (upd l 11) u := by
  exact {
    base := S.base
    p0 := S.p0
    p1 := S.p1
    p3 := S.p3
    p4 := S.p4
    p5 := S.p5
    p6 := S.p6
    p8 := S.p8
    p9 := S.p9
    p10 := S.p10
    p11 := fun _ => rfl
    p12 := S.p12
    p13 := S.p13
    p14 := S.p14
    p17 := S.p17
    c13 := fun _ => rfl
    c14 := S.c14
    f2 := S.f2
    f7 := S.f7
    f15 := S.f15
    ne := S.ne
    f16 := S.f16
    f18 := S.f18 }
theorem A13.s12 (S : A13 W go y g0 gu k n lm capm capo cu cq lO pq x O b2 b15 v50 v51 v52 v53 v54 v55 v56 v57 v58 v59 v60 v61 v62 v63 v64 v65 v66 v67 l u) : A13 W go y g0 gu k n lm capm capo cu cq lO pq x O b2 b15 v50 v51 v52 v53 v54 v55 v56 v57 v58 v59 v60 v61 (.int .i64 (k : Nat)) v63 v64 v65 v66 v67 (upd l 12) u := by
  exact {
    base := S.base
    p0 := S.p0
    p1 := S.p1
    p3 := S.p3
    p4 := S.p4
    p5 := S.p5
    p6 := S.p6
    p8 := S.p8
    p9 := S.p9
    p10 := S.p10
    p11 := S.p11
    p12 := fun _ => rfl
    p13 := S.p13
    p14 := S.p14
    p17 := S.p17
    c13 := S.c13
    c14 := S.c14
    f2 := S.f2
    f7 := S.f7
    f15 := S.f15
    ne := S.ne
    f16 := S.f16
    f18 := S.f18 }
theorem A13.s13 (S : A13 W go y g0 gu k n lm capm capo cu cq lO pq x O b2 b15 v50 v51 v52 v53 v54 v55 v56 v57 v58 v59 v60 v61 v62 v63 v64 v65 v66 v67 l u) (h11 : l 11 = true) : A13 W go y g0 gu k n lm capm capo cu cq lO pq x O b2 b15 v50 v51 v52 v53 v54 v55 v56 v57 v58 v59 v60 v61 v62 (.pointer (some ⟨gu, k, none⟩)) v64 v65 v66 v67 (upd l 13) u := by
  exact {
    base := S.base
    p0 := S.p0
    p1 := S.p1
    p3 := S.p3
    p4 := S.p4
    p5 := S.p5
    p6 := S.p6
    p8 := S.p8
    p9 := S.p9
    p10 := S.p10
    p11 := S.p11
    p12 := S.p12
    p13 := fun _ => rfl
    p14 := S.p14
    p17 := S.p17
    c13 := fun _ => h11
    c14 := fun _ => rfl
    f2 := S.f2
    f7 := S.f7
    f15 := S.f15
    ne := S.ne
    f16 := S.f16
    f18 := S.f18 }
theorem A13.s14 (S : A13 W go y g0 gu k n lm capm capo cu cq lO pq x O b2 b15 v50 v51 v52 v53 v54 v55 v56 v57 v58 v59 v60 v61 v62 v63 v64 v65 v66 v67 l u) (h13 : l 13 = true) : A13 W go y g0 gu k n lm capm capo cu cq lO pq x O b2 b15 v50 v51 v52 v53 v54 v55 v56 v57 v58 v59 v60 v61 v62 v63 (.int .i64 x) v65 v66 v67 (upd l 14) u := by
  exact {
    base := S.base
    p0 := S.p0
    p1 := S.p1
    p3 := S.p3
    p4 := S.p4
    p5 := S.p5
    p6 := S.p6
    p8 := S.p8
    p9 := S.p9
    p10 := S.p10
    p11 := S.p11
    p12 := S.p12
    p13 := S.p13
    p14 := fun _ => rfl
    p17 := S.p17
    c13 := S.c13
    c14 := fun _ => h13
    f2 := S.f2
    f7 := S.f7
    f15 := fun q => ⟨rfl, (S.f15 q).2⟩
    ne := S.ne
    f16 := S.f16
    f18 := S.f18 }
theorem A13.s17 (S : A13 W go y g0 gu k n lm capm capo cu cq lO pq x O b2 b15 v50 v51 v52 v53 v54 v55 v56 v57 v58 v59 v60 v61 v62 v63 v64 v65 v66 v67 l u) : A13 W go y g0 gu k n lm capm capo cu cq lO pq x O b2 b15 v50 v51 v52 v53 v54 v55 v56 v57 v58 v59 v60 v61 v62 v63 v64 v65 v66 (.pointer (some ⟨go, y, none⟩)) (upd l 17) u := by
  exact {
    base := S.base
    p0 := S.p0
    p1 := S.p1
    p3 := S.p3
    p4 := S.p4
    p5 := S.p5
    p6 := S.p6
    p8 := S.p8
    p9 := S.p9
    p10 := S.p10
    p11 := S.p11
    p12 := S.p12
    p13 := S.p13
    p14 := S.p14
    p17 := fun _ => rfl
    c13 := S.c13
    c14 := S.c14
    f2 := S.f2
    f7 := S.f7
    f15 := S.f15
    ne := S.ne
    f16 := S.f16
    f18 := S.f18 }
theorem A13.s2 (S : A13 W go y g0 gu k n lm capm capo cu cq lO pq x O b2 b15 v50 v51 v52 v53 v54 v55 v56 v57 v58 v59 v60 v61 v62 v63 v64 v65 v66 v67 l u) (h : l 2 = false) : A13 W go y g0 gu k n lm capm capo cu cq lO pq x O u.heap.size b15 v50 v51 (.slice (some ⟨u.heap.size, 0, none⟩) 0 0) v53 v54 v55 v56 v57 v58 v59 v60 v61 v62 v63 v64 v65 v66 v67 (upd l 2) (u.alloc (.cells #[] 3)) := by
  have n7 := S.no2 h
  have n16 := S.no7 n7
  have n18 := S.no16 n16
  have hB := new_below u (.cells #[] 3)
  have hW := (S.base n18).size
  exact {
    base := fun q => (S.base q).trans (hB.mono (S.base q).size)
    p0 := S.p0
    p1 := S.p1
    p3 := S.p3
    p4 := S.p4
    p5 := S.p5
    p6 := S.p6
    p8 := S.p8
    p9 := S.p9
    p10 := S.p10
    p11 := S.p11
    p12 := S.p12
    p13 := S.p13
    p14 := S.p14
    p17 := S.p17
    c13 := S.c13
    c14 := S.c14
    f2 := fun _ => ⟨rfl, hW, by rw [World.size_alloc]; exact Nat.lt_succ_self _, fun _ => own_none u _ hW⟩
    f7 := fun q => absurd (show l 7 = true from q) (by rw [n7]; decide)
    f15 := fun q => ⟨(S.f15 q).1, (S.f15 q).2.1, Nat.lt_of_lt_of_le (S.f15 q).2.2.1 hB.size, fun z => owns_below ((S.f15 q).2.2.2 z) hB⟩
    ne := fun _ q => Nat.ne_of_gt (S.f15 q).2.2.1
    f16 := fun q => absurd (show l 16 = true from q) (by rw [n16]; decide)
    f18 := fun q => absurd (show l 18 = true from q) (by rw [n18]; decide) }
theorem A13.s7 (S : A13 W go y g0 gu k n lm capm capo cu cq lO pq x O b2 b15 v50 v51 v52 v53 v54 v55 v56 v57 v58 v59 v60 v61 v62 v63 v64 v65 v66 v67 l u) (h : l 7 = false) (h2 : l 2 = true) (h6 : l 6 = true) {vn : Value} (hg : u.grownBy u2 v52.ownBlock) (ho : Dm.OwnsI u2 W.heap.size vn O) : A13 W go y g0 gu k n lm capm capo cu cq lO pq x O b2 b15 v50 v51 v52 v53 v54 v55 v56 vn v58 v59 v60 v61 v62 v63 v64 v65 v66 v67 (upd l 7) u2 := by
  have n16 := S.no7 h
  have n18 := S.no16 n16
  obtain ⟨e2, hw2, hl2, _⟩ := S.f2 h2
  have hW := (S.base n18).size
  have hs := hg.size
  exact {
    base := fun q => (S.base q).trans ((Below.refl _ _).grown hg hW (fun j e => by rw [e2] at e; obtain rfl : b2 = j := Option.some.inj e; exact hw2))
    p0 := S.p0
    p1 := S.p1
    p3 := S.p3
    p4 := S.p4
    p5 := S.p5
    p6 := S.p6
    p8 := S.p8
    p9 := S.p9
    p10 := S.p10
    p11 := S.p11
    p12 := S.p12
    p13 := S.p13
    p14 := S.p14
    p17 := S.p17
    c13 := S.c13
    c14 := S.c14
    f2 := fun _ => ⟨e2, hw2, Nat.lt_of_lt_of_le hl2 hs, fun q => absurd (show true = false from q) (by decide)⟩
    f7 := fun _ => ⟨⟨h2, h6⟩, fun _ => ho⟩
    f15 := fun q => ⟨(S.f15 q).1, (S.f15 q).2.1, Nat.lt_of_lt_of_le (S.f15 q).2.2.1 hs, fun z => by
      have o := (S.f15 q).2.2.2 z
      rw [e2] at hg
      rw [(S.f15 q).2.1] at o ⊢
      exact own_apart o hg (Ne.symm (S.ne h2 q))⟩
    ne := S.ne
    f16 := fun q => absurd (show l 16 = true from q) (by rw [n16]; decide)
    f18 := fun q => absurd (show l 18 = true from q) (by rw [n18]; decide) }
theorem A13.s15 (S : A13 W go y g0 gu k n lm capm capo cu cq lO pq x O b2 b15 v50 v51 v52 v53 v54 v55 v56 v57 v58 v59 v60 v61 v62 v63 v64 v65 v66 v67 l u) (h : l 15 = false) (h14 : l 14 = true) : A13 W go y g0 gu k n lm capm capo cu cq lO pq x O b2 u.heap.size v50 v51 v52 v53 v54 v55 v56 v57 v58 v59 v60 v61 v62 v63 v64 (.slice (some ⟨u.heap.size, 0, none⟩) 1 1) v66 v67 (upd l 15) (u.alloc (.cells #[.int .i64 x] 3)) := by
  have n16 := S.no15 h
  have n18 := S.no16 n16
  have hB := new_below u (.cells #[.int .i64 x] 3)
  have hW := (S.base n18).size
  exact {
    base := fun q => (S.base q).trans (hB.mono (S.base q).size)
    p0 := S.p0
    p1 := S.p1
    p3 := S.p3
    p4 := S.p4
    p5 := S.p5
    p6 := S.p6
    p8 := S.p8
    p9 := S.p9
    p10 := S.p10
    p11 := S.p11
    p12 := S.p12
    p13 := S.p13
    p14 := S.p14
    p17 := S.p17
    c13 := S.c13
    c14 := S.c14
    f2 := fun q => ⟨(S.f2 q).1, (S.f2 q).2.1, Nat.lt_of_lt_of_le (S.f2 q).2.2.1 hB.size, fun z => owns_below ((S.f2 q).2.2.2 z) hB⟩
    f7 := fun q => ⟨(S.f7 q).1, fun z => owns_below ((S.f7 q).2 z) hB⟩
    f15 := fun _ => ⟨h14, rfl, by rw [World.size_alloc]; exact Nat.lt_succ_self _, fun _ => own_one u _ hW⟩
    ne := fun q _ => Nat.ne_of_lt (S.f2 q).2.2.1
    f16 := fun q => absurd (show l 16 = true from q) (by rw [n16]; decide)
    f18 := fun q => absurd (show l 18 = true from q) (by rw [n18]; decide) }
theorem A13.s16 (S : A13 W go y g0 gu k n lm capm capo cu cq lO pq x O b2 b15 v50 v51 v52 v53 v54 v55 v56 v57 v58 v59 v60 v61 v62 v63 v64 v65 v66 v67 l u) (h : l 16 = false) (h7 : l 7 = true) (h15 : l 15 = true) {vn : Value} (hg : u.grownBy u2 v57.ownBlock) (ho : Dm.OwnsI u2 W.heap.size vn (O ++ [x])) : A13 W go y g0 gu k n lm capm capo cu cq lO pq x O b2 b15 v50 v51 v52 v53 v54 v55 v56 v57 v58 v59 v60 v61 v62 v63 v64 v65 vn v67 (upd l 16) u2 := by
  have n18 := S.no16 h
  have hW := (S.base n18).size
  have hs := hg.size
  exact {
    base := fun q => (S.base q).trans ((Below.refl _ _).grown hg hW (fun j e => (ints_kind ((S.f7 h7).2 h) e).1))
    p0 := S.p0
    p1 := S.p1
    p3 := S.p3
    p4 := S.p4
    p5 := S.p5
    p6 := S.p6
    p8 := S.p8
    p9 := S.p9
    p10 := S.p10
    p11 := S.p11
    p12 := S.p12
    p13 := S.p13
    p14 := S.p14
    p17 := S.p17
    c13 := S.c13
    c14 := S.c14
    f2 := fun q => ⟨(S.f2 q).1, (S.f2 q).2.1, Nat.lt_of_lt_of_le (S.f2 q).2.2.1 hs, fun z => absurd (show l 7 = false from z) (by rw [h7]; decide)⟩
    f7 := fun q => ⟨(S.f7 q).1, fun z => absurd (show true = false from z) (by decide)⟩
    f15 := fun q => ⟨(S.f15 q).1, (S.f15 q).2.1, Nat.lt_of_lt_of_le (S.f15 q).2.2.1 hs, fun z => absurd (show true = false from z) (by decide)⟩
    ne := S.ne
    f16 := fun _ => ⟨⟨h7, h15⟩, fun _ => ho⟩
    f18 := fun q => absurd (show l 18 = true from q) (by rw [n18]; decide) }
theorem A13.s18 (S : A13 W go y g0 gu k n lm capm capo cu cq lO pq x O b2 b15 v50 v51 v52 v53 v54 v55 v56 v57 v58 v59 v60 v61 v62 v63 v64 v65 v66 v67 l u) (h : l 18 = false) (h16 : l 16 = true) : A13 W go y g0 gu k n lm capm capo cu cq lO pq x O b2 b15 v50 v51 v52 v53 v54 v55 v56 v57 v58 v59 v60 v61 v62 v63 v64 v65 v66 v67 (upd l 18) (u.setCell ⟨go, y, none⟩ v66) := by
  have h7 := (S.f16 h16).1.1
  exact {
    base := fun q => absurd (show true = false from q) (by decide)
    p0 := S.p0
    p1 := S.p1
    p3 := S.p3
    p4 := S.p4
    p5 := S.p5
    p6 := S.p6
    p8 := S.p8
    p9 := S.p9
    p10 := S.p10
    p11 := S.p11
    p12 := S.p12
    p13 := S.p13
    p14 := S.p14
    p17 := S.p17
    c13 := S.c13
    c14 := S.c14
    f2 := fun q => ⟨(S.f2 q).1, (S.f2 q).2.1, by rw [World.size_setCell]; exact (S.f2 q).2.2.1, fun z => absurd (show l 7 = false from z) (by rw [h7]; decide)⟩
    f7 := fun q => ⟨(S.f7 q).1, fun z => absurd (show l 16 = false from z) (by rw [h16]; decide)⟩
    f15 := fun q => ⟨(S.f15 q).1, (S.f15 q).2.1, by rw [World.size_setCell]; exact (S.f15 q).2.2.1, fun z => absurd (show l 16 = false from z) (by rw [h16]; decide)⟩
    ne := S.ne
    f16 := fun q => ⟨(S.f16 q).1, fun z => absurd (show true = false from z) (by decide)⟩
    f18 := fun _ => ⟨h16, u, S.base h, (S.f16 h16).2 h, rfl⟩ }
end
end Go.Proofs.YtomcgmeekmfdhaaDoor.Ge
namespace Go.Proofs.YtomcgmeekmfdhaaDoor.Ge
open Go.RowKit St
set_option maxRecDepth 100000

theorem any_take2 {O : List Int} {p : Int → Bool} {j : Nat} (h : j < O.length) : (O.take (j + 1)).any p = ((O.take j).any p || p (O.getD j 0)) := by
  have e : O.getD j 0 = O[j] := by rw [List.getD_eq_getElem?_getD, List.getElem?_eq_getElem h]; rfl
  rw [List.take_succ_eq_append_getElem h, List.any_append, e]
  simp
theorem filter_next {l : List Int} {p : Int → Bool} {m : Nat} (h : m < l.length) : (l.take (m + 1)).filter p = (l.take m).filter p ++ (if p (l.getD m 0) = true then [l.getD m 0] else []) := by
  have e : l.getD m 0 = l[m] := by rw [List.getD_eq_getElem?_getD, List.getElem?_eq_getElem h]; rfl
  rw [List.take_succ_eq_append_getElem h, List.filter_append, e, List.filter_cons, List.filter_nil]
theorem elem_set {M : List (List Int)} {c : PCon} (hl : c.vars.length = 2) : setTo M c.vars (elemRow M c) c.vars.length = (M.set (c.vars.getD 0 0).toNat (firstE c.nums (M.getD (c.vars.getD 0 0).toNat []) (M.getD (c.vars.getD 1 0).toNat []))).set (c.vars.getD 1 0).toNat (secondE c.nums (M.getD (c.vars.getD 0 0).toNat []) (M.getD (c.vars.getD 1 0).toNat [])) := by
  rw [hl, setTo_succ, setTo_succ]
  rfl

set_option maxHeartbeats 8000000 in
theorem rstep_any {w : World} {v v1 v2 v3 : Value} {c : PCon} {L : List (List Int × Nat)} (hc : rCon w [.int .i64 c.kind, v1, v2, .int .i64 c.rel, .int .i64 c.const, v3] c) (hs : Short 1000 c) (h : Slc rDom 2 w v L) (hn : L.length ≤ 1000) (hm : ∀ d ∈ L, d.1.length ≤ 1000) :
    Calls Tryd.prog 10 #[.agg #[.int .i64 c.kind, v1, v2, .int .i64 c.rel, .int .i64 c.const, v3], v] w fun e w' => ∃ x, e = .returned (.tuple #[x, .int .i64 (stepG c L).2]) ∧ DomsAt w' w.heap.size x (stepG c L).1 ∧ Below w.heap.size w w' := by
  obtain ⟨W0, hW0⟩ : ∃ W0, W0 = w.alloc (.cells #[.int .i64 c.kind, v1, v2, .int .i64 c.rel, .int .i64 c.const, v3] 24) := ⟨_, rfl⟩
  obtain ⟨W1, hW1⟩ : ∃ W1, W1 = W0.alloc (.cells #[.int .i64 4] 3) := ⟨_, rfl⟩
  have hsz : W0.heap.size = w.heap.size + 1 := by rw [hW0, World.size_alloc]
  have HB1 := Lib.hid (show Below w.heap.size w W1 by rw [hW1, hW0]; exact below_two (new_below _ _) (new_below _ _))
  have Q1 := Lib.hid (show ConAt W1 w.heap.size [.int .i64 c.kind, v1, v2, .int .i64 c.rel, .int .i64 c.const, v3] from ConAt.below (w := W0) (by rw [hW0]; exact six_at _ _ _ _ _ _ _ _) (by rw [hW1]; exact new_below _ _))
  have hK : Dm.Reads W1 (.slice (some ⟨w.heap.size + 1, 0, none⟩) 1 1) [4] := by rw [hW1, ← hsz]; exact Dm.reads_of_readsN (St.one_reads _ _)
  have HW := Lib.hid (show W1 = (w.alloc (.cells #[.int .i64 c.kind, v1, v2, .int .i64 c.rel, .int .i64 c.const, v3] 24)).alloc (.cells #[.int .i64 4] 3) by rw [hW1, hW0])
  have CR := Lib.hid (rsright_any (rCon_stays _ _ _ _ HB1.out hc) hs (h.below rDom_stays HB1.out) hn hm hK (by decide))
  have LX := Lib.hid (fun u (hb : Below w.heap.size w u) => rlists_any (h.below rDom_stays hb) hn hm)
  have KX := Lib.hid (fun u (hb : Below w.heap.size w u) b x M (hx : ListsAt u b x M) (hl : L.length = M.length) (hml : ∀ l ∈ M, l.length ≤ 1000) => rskeep_any (h.below rDom_stays hb) (hx.low (Nat.zero_le _)) hn hm hl hml)
  have HSL := Lib.hid (show stepG c L = if rightS c L [4] = true then (keepTo L (setTo (leftsOf L) c.vars (elemRow (leftsOf L) c) c.vars.length) L.length, 0) else ([], 1) from stepL_G.symm)
  have HRP := Lib.hid (show rightS c L [4] = true → c.kind ∈ ([4] : List Int) ∧ rightC c L.length = true ∧ _ from fun q => rightK_parts ((rightS_K c L [4]).symm.trans q))
  obtain ⟨RS, hRS⟩ : ∃ b, b = rightS c L [4] := ⟨_, rfl⟩
  rw [← hRS] at CR HSL HRP
  have hc2 := hc
  clear hW0 hW1 hsz hK hc hs h hm hRS
  go_enter Tryd.func10, Tryd.ntmps10
  go_wp2_with fail
  rw [← HW.out]
  refine CR.out.mono ?_
  rintro e w2 ⟨rfl, hB2⟩
  have HB2 := Lib.hid (below_two HB1.out hB2)
  have Q2 := Lib.hid (Q1.out.below hB2)
  clear hB2
  cases RS
  · go_wp2_with fail
    go_ret2
    exact ⟨.slice none 0 0, by rw [HSL.out]; rfl, by rw [HSL.out]; exact doms_nil _ _, HB2.out⟩
  · obtain ⟨hkd, hrc, _⟩ := HRP.out rfl
    obtain ⟨hl2, hn1, hn2, hnn⟩ := right_elem hrc (by simpa using hkd)
    have hvt := vars_to hrc
    have HVM := Lib.hid (show ∀ v ∈ c.vars, 0 ≤ v ∧ v < ((leftsOf L).length : Int) by rw [lefts_length]; exact vars_mem hvt)
    have HL2 := Lib.hid hl2
    have HSM := Lib.hid (lefts_small L)
    have HLL := Lib.hid (lefts_length L)
    have hmn : (leftsOf L).length ≤ 1000 := by rw [lefts_length]; exact hn
    have HES := Lib.hid (elem_set (M := leftsOf L) hl2)
    obtain ⟨M, hM⟩ : ∃ M, M = leftsOf L := ⟨_, rfl⟩
    rw [← hM] at HVM HSM HLL HSL LX hmn HES
    clear hkd hrc hvt hl2 hM hn1 hn2 hnn
    obtain ⟨q0, q1, q2, q3, q4, q5⟩ := Q2.out.six
    go_wp2_with fail
    refine (LX.out _ HB2.out).mono ?_
    rintro e w3 ⟨x3, rfl, hx3, hB3⟩
    have X3 := Lib.hid hx3
    have HB3 := Lib.hid (below_two HB2.out hB3)
    have Q3 := Lib.hid (Q2.out.below hB3)
    clear hB3 hx3 q0 q1 q2 q3 q4 q5
    obtain ⟨q0, q1, q2, q3, q4, q5⟩ := Q3.out.six
    obtain ⟨u1, u2, u3, e, hft, ⟨p1, b1, o1, c1, l1, e1, hcap1, h1⟩, hr2, ⟨p3, b3, o3, c3, l3, e3, hcap3, h3⟩⟩ := hc2
    subst e1 e3
    simp only [List.cons.injEq, and_true] at e
    obtain ⟨_, rfl, rfl, _, _, rfl⟩ := e
    obtain rfl : l1 = 2 := by have := h1.long; have := HL2.out; omega
    obtain rfl := h1.at_ (by omega)
    have HNV := Lib.hid (nums_of h1)
    have HNU := Lib.hid (nums_of h3)
    obtain ⟨pm, capm, rfl⟩ := X3.out.shape
    have v0 := HVM.out (c.vars.getD 0 0) (St.getD_memS (by rw [HL2.out]; omega))
    have v1' := HVM.out (c.vars.getD 1 0) (St.getD_memS (by rw [HL2.out]; omega))
    have k0 := cell_below HB3.out (HNV.out.cell 0 (by omega))
    have k1 := cell_below HB3.out (HNV.out.cell 1 (by omega))
    rw [Nat.add_zero] at k0
    obtain ⟨x, hx⟩ : ∃ y, y = c.vars.getD 0 0 := ⟨_, rfl⟩
    obtain ⟨y, hy⟩ : ∃ y, y = c.vars.getD 1 0 := ⟨_, rfl⟩
    rw [← hx] at v0 k0 HES
    rw [← hy] at v1' k1 HES
    obtain ⟨x, rfl⟩ := Int.eq_ofNat_of_zero_le v0.1
    obtain ⟨y, rfl⟩ := Int.eq_ofNat_of_zero_le v1'.1
    simp only [Int.toNat_natCast] at HES
    have zx : x < M.length := by omega
    have zy : y < M.length := by omega
    obtain ⟨g, cap, ua, em, _, _, _, g0, _, s0⟩ := X3.out.row zx
    simp only [Value.slice.injEq] at em
    obtain ⟨rfl, _, rfl⟩ := em
    obtain ⟨g', cap', ub, em, _, _, _, g1, _, s1⟩ := X3.out.row zy
    simp only [Value.slice.injEq, Option.some.injEq, Addr.mk.injEq, true_and, and_true] at em
    obtain ⟨rfl, rfl⟩ := em
    have SMA := Lib.hid (HSM.out _ (St.getL_mem zx))
    have SMB := Lib.hid (HSM.out _ (St.getL_mem zy))
    obtain ⟨pa, ga, ca, rfl, hpa, hca⟩ := Dm.ints_shape s0
    obtain ⟨pb, gb, cb, rfl, hpb, hcb⟩ := Dm.ints_shape s1
    obtain ⟨a, ha⟩ : ∃ l, l = M.getD x [] := ⟨_, rfl⟩
    obtain ⟨b, hb⟩ : ∃ l, l = M.getD y [] := ⟨_, rfl⟩
    rw [← ha] at g0 hpa hca SMA HES
    rw [← hb] at g1 hpb hcb SMB HES
    have HCA := Lib.hid hca
    have HCB := Lib.hid hcb
    obtain ⟨na, hna⟩ : ∃ n, n = a.length := ⟨_, rfl⟩
    obtain ⟨nb, hnb⟩ : ∃ n, n = b.length := ⟨_, rfl⟩
    rw [← hna] at g0 hpa
    rw [← hnb] at g1 hpb
    have HNN := Lib.hid (And.intro hna hnb)
    have bna : na ≤ 1000 := by rw [hna]; exact SMA.out.1
    have bnb : nb ≤ 1000 := by rw [hnb]; exact SMB.out.1
    have dx : (x : Int) < (M.length : Int) := by omega
    have dy : (y : Int) < (M.length : Int) := by omega
    have HZ := Lib.hid (And.intro zx zy)
    have HKG := Lib.hid (And.intro k0 k1)
    have AT := Lib.hid (fun u (hu : Below w3.heap.size w3 u) (i j : Int) => rat_any (cc := c3) (nums_below HNU.out (below_two HB3.out hu)) i j)
    clear ha hb hna hnb s0 s1 hca hcb hft hr2 h1 h3 v0 v1' hx hy zx zy
    obtain ⟨W5, hW5⟩ : ∃ z, z = (w3.alloc (.cells #[] 3)).alloc (.cells #[] 3) := ⟨_, rfl⟩
    have HT5 := Lib.hid (show Two W5 w3.heap.size (.slice (some ⟨w3.heap.size, 0, none⟩) 0 0) (.slice (some ⟨w3.heap.size + 1, 0, none⟩) 0 0) [] [] by rw [hW5]; exact two_made _ _ (Nat.le_refl _))
    have HB5 := Lib.hid (show Below w3.heap.size w3 W5 by rw [hW5]; exact below_two (new_below _ _) (new_below _ _))
    have HW5 := Lib.hid hW5
    clear hW5
    go_wp2_with fail
    rw [← HW5.out]
    go_loopw [9, 11] (fun f i wr => ∃ j : Nat, j ≤ na ∧ i = .int .i64 j ∧ Two wr w3.heap.size f (.slice (some ⟨w3.heap.size + 1, 0, none⟩) 0 0) ((a.take j).filter fun u => b.any fun z => atB c.nums u z) [] ∧ Below w3.heap.size w3 wr) (fun _ i _ => na - (intOf i).toNat)
    case atStart => exact ⟨0, by omega, rfl, HT5.out, HB5.out⟩
    case round =>
      rename_i wr
      obtain ⟨j, hj, rfl, ht, hB⟩ := hrel
      have HT := Lib.hid ht
      have HB := Lib.hid hB
      clear ht hB q0 q1 q2 q3 q4 q5 k0 k1 g0 g1
      by_cases hlt : j < na
      · obtain rfl := hpa (by omega)
        have hja : j < a.length := by have := HNN.out.1; omega
        have HCX := Lib.hid (HCA.out j hja)
        have HFN := Lib.hid (filter_next (p := fun u => b.any fun z => atB c.nums u z) hja)
        obtain ⟨u, hu⟩ : ∃ u, u = a.getD j 0 := ⟨_, rfl⟩
        rw [← hu] at HCX HFN
        have d5 : (j : Int) < (na : Int) := by omega
        have hFl : ((a.take j).filter (fun u => b.any fun z => atB c.nums u z)).length ≤ 1000 := Nat.le_trans (List.length_filter_le _ _) (by rw [List.length_take]; omega)
        obtain ⟨F, hF⟩ : ∃ F, F = (a.take j).filter (fun u => b.any fun z => atB c.nums u z) := ⟨_, rfl⟩
        rw [← hF] at HFN HT hFl
        clear hu hja hF
        go_wp2_with fail
        go_loopw [12, 13] (fun s i wx => ∃ k : Nat, k ≤ nb ∧ i = .int .i64 k ∧ s = .bool ((b.take k).any (fun z => atB c.nums u z)) ∧ Below wr.heap.size wr wx) (fun _ i _ => nb - (intOf i).toNat)
        case atStart => exact ⟨0, by omega, rfl, rfl, Below.refl _ _⟩
        case round =>
          obtain ⟨k, hk, rfl, rfl, hBx⟩ := hrel
          obtain ⟨wx, rfl⟩ : ∃ z, z = wr := ⟨_, rfl⟩
          have HBX := Lib.hid (show Below w3.heap.size w3 wx from HB.out.trans (hBx.mono HB.out.size))
          have HBx := Lib.hid hBx
          clear hBx
          obtain ⟨q0, q1, q2, q3, q4, q5⟩ := (Q3.out.below HBX.out).six
          have cx := cell_below HBX.out HCX.out
          by_cases hlt2 : k < nb
          · obtain rfl := hpb (by omega)
            have hkb : k < b.length := by have := HNN.out.2; omega
            have cz := cell_below HBX.out (HCB.out k hkb)
            have HAN := Lib.hid (any_take2 (p := fun z => atB c.nums u z) hkb)
            obtain ⟨z, hz⟩ : ∃ z, z = b.getD k 0 := ⟨_, rfl⟩
            rw [← hz] at cz HAN
            have d6 : (k : Int) < (nb : Int) := by omega
            obtain ⟨B0, hB0⟩ : ∃ B0, B0 = (b.take k).any (fun z => atB c.nums u z) := ⟨_, rfl⟩
            rw [← hB0] at HAN ⊢
            have ATX := Lib.hid (fun w5 (hw : Below wx.heap.size wx w5) => AT.out w5 (HBX.out.trans (hw.mono HBX.out.size)) u z)
            obtain ⟨B1, hB1⟩ : ∃ B1, B1 = atB c.nums u z := ⟨_, rfl⟩
            rw [← hB1] at HAN ATX
            clear hz hkb hB0 hB1
            cases B0
            · have H0 := Lib.hid (And.intro q5 (And.intro cx (And.intro cz (Below.refl wx.heap.size wx))))
              go_upto_region 15 with fail
              go_region_held3 (fun w' => w'.cell? ⟨w.heap.size, 5, none⟩ = some (.slice p3 l3 c3) ∧ w'.cell? ⟨ga, j, none⟩ = some (.int .i64 u) ∧ w'.cell? ⟨gb, k, none⟩ = some (.int .i64 z) ∧ Below wx.heap.size wx w')
                (first | exact held3m (by assumption) (by assumption) | exact held3m H0.out (below_drewN (n := 1) (Below.refl _ _)))
                (first | (go_at_call 28; refine (ATX.out _ (held3o (by assumption))).mono ?_; rintro e w5 ⟨rfl, hB5⟩; have HB5x := Lib.hid hB5))
              have hH := held3o (W0 := wx) (by assumption)
              have HH := Lib.hid hH
              clear hH
              go_wp2_with fail
              go_roundw
              case rel => exact ⟨k + 1, by omega, by go_num, by rw [HAN.out]; rfl, below_two HBx.out HH.out⟩
              case measure => simp [intOf]; omega
            · have HA2 := Lib.hid (show (b.take (k + 1)).any (fun z => atB c.nums u z) = true by rw [HAN.out]; rfl)
              clear HAN
              go_wp2
              go_quiet (fail)
              go_wp2_with fail
              go_roundw
              case rel => exact ⟨k + 1, by omega, by go_num, by rw [HA2.out], below_two HBx.out (below_drewN (Below.refl _ _))⟩
              case measure => simp [intOf]; omega
          · have d6 : ¬ ((k : Int) < (nb : Int)) := by omega
            have hall : (b.take k).any (fun z => atB c.nums u z) = b.any (fun z => atB c.nums u z) := by rw [List.take_of_length_le (by have := HNN.out.2; omega)]
            rw [hall]
            have HTX := Lib.hid (HT.out.below HBx.out)
            obtain ⟨B0, hB0⟩ : ∃ B0, B0 = b.any (fun z => atB c.nums u z) := ⟨_, rfl⟩
            rw [← hB0] at HFN ⊢
            clear hall hB0
            cases B0
            · have HF2 := Lib.hid (show (a.take (j + 1)).filter (fun u => b.any fun z => atB c.nums u z) = F by rw [HFN.out]; simp)
              go_wp2_with fail
              go_roundw
              case rel => exact ⟨j + 1, by omega, by go_num, by rw [HF2.out]; exact HTX.out, HBX.out⟩
              case measure => simp [intOf]; omega
            · have HF2 := Lib.hid (show (a.take (j + 1)).filter (fun u => b.any fun z => atB c.nums u z) = F ++ [u] by rw [HFN.out]; simp)
              have HTA := Lib.hid (HTX.out.below (new_below wx (.cells #[.int .i64 u] 3)))
              have HCU := Lib.hid (show (wx.alloc (.cells #[.int .i64 u] 3)).cell? ⟨wx.heap.size, 0, none⟩ = some (.int .i64 u) from one_cell _ _ _ 0 _ rfl)
              have HBA := Lib.hid (show Below w3.heap.size w3 (wx.alloc (.cells #[.int .i64 u] 3)) from HBX.out.trans ((new_below wx _).mono HBX.out.size))
              have hFl2 : F.length ≤ 100000 := by omega
              go_wp2_with (at_builtin; refine put_int rfl _ _ rfl rfl rfl HTA.out.one HCU.out hFl2 HBA.out.size ?_; intro p8 cap8 w8 hp1 hp2 hp3; have HN := Lib.hid (And.intro (HTA.out.put hp2 hp1 hp3) (ints_grown HTA.out.one hp2 HBA.out HBA.out.size)); clear hp1 hp2 hp3)
              go_roundw
              case rel => exact ⟨j + 1, by omega, by go_num, by rw [HF2.out]; exact HN.out.1, HN.out.2⟩
              case measure => simp [intOf]; omega
      · have d5 : ¬ ((j : Int) < (na : Int)) := by omega
        have hall : (a.take j).filter (fun u => b.any fun z => atB c.nums u z) = firstE c.nums a b := by rw [List.take_of_length_le (by have := HNN.out.1; omega)]; rfl
        rw [hall] at HT
        clear hall
        obtain ⟨vf, hvf⟩ : ∃ z, z = u9 := ⟨_, rfl⟩
        rw [← hvf] at HT
        subst hvf
        go_wp2_with fail
        go_loopw [10, 14] (fun f i wr => ∃ j : Nat, j ≤ nb ∧ i = .int .i64 j ∧ Two wr w3.heap.size vf f (firstE c.nums a b) ((b.take j).filter fun u => a.any fun z => atB c.nums z u) ∧ Below w3.heap.size w3 wr) (fun _ i _ => nb - (intOf i).toNat)
        case atStart => exact ⟨0, by omega, rfl, HT.out, HB.out⟩
        case round =>
          rename_i wr
          obtain ⟨j, hj, rfl, ht, hB⟩ := hrel
          have HT := Lib.hid ht
          have HB := Lib.hid hB
          clear ht hB 
          by_cases hlt : j < nb
          · obtain rfl := hpb (by omega)
            have hja : j < b.length := by have := HNN.out.2; omega
            have HCX := Lib.hid (HCB.out j hja)
            have HFN := Lib.hid (filter_next (p := fun u => a.any fun z => atB c.nums z u) hja)
            obtain ⟨u, hu⟩ : ∃ u, u = b.getD j 0 := ⟨_, rfl⟩
            rw [← hu] at HCX HFN
            have d5 : (j : Int) < (nb : Int) := by omega
            have hFl : ((b.take j).filter (fun u => a.any fun z => atB c.nums z u)).length ≤ 1000 := Nat.le_trans (List.length_filter_le _ _) (by rw [List.length_take]; omega)
            obtain ⟨F, hF⟩ : ∃ F, F = (b.take j).filter (fun u => a.any fun z => atB c.nums z u) := ⟨_, rfl⟩
            rw [← hF] at HFN HT hFl
            clear hu hja hF
            go_wp2_with fail
            go_loopw [15, 16] (fun s i wx => ∃ k : Nat, k ≤ na ∧ i = .int .i64 k ∧ s = .bool ((a.take k).any (fun z => atB c.nums z u)) ∧ Below wr.heap.size wr wx) (fun _ i _ => na - (intOf i).toNat)
            case atStart => exact ⟨0, by omega, rfl, rfl, Below.refl _ _⟩
            case round =>
              obtain ⟨k, hk, rfl, rfl, hBx⟩ := hrel
              obtain ⟨wx, rfl⟩ : ∃ z, z = wr := ⟨_, rfl⟩
              have HBX := Lib.hid (show Below w3.heap.size w3 wx from HB.out.trans (hBx.mono HB.out.size))
              have HBx := Lib.hid hBx
              clear hBx
              obtain ⟨q0, q1, q2, q3, q4, q5⟩ := (Q3.out.below HBX.out).six
              have cx := cell_below HBX.out HCX.out
              by_cases hlt2 : k < na
              · obtain rfl := hpa (by omega)
                have hkb : k < a.length := by have := HNN.out.1; omega
                have cz := cell_below HBX.out (HCA.out k hkb)
                have HAN := Lib.hid (any_take2 (p := fun z => atB c.nums z u) hkb)
                obtain ⟨z, hz⟩ : ∃ z, z = a.getD k 0 := ⟨_, rfl⟩
                rw [← hz] at cz HAN
                have d6 : (k : Int) < (na : Int) := by omega
                obtain ⟨B0, hB0⟩ : ∃ B0, B0 = (a.take k).any (fun z => atB c.nums z u) := ⟨_, rfl⟩
                rw [← hB0] at HAN ⊢
                have ATX := Lib.hid (fun w5 (hw : Below wx.heap.size wx w5) => AT.out w5 (HBX.out.trans (hw.mono HBX.out.size)) z u)
                obtain ⟨B1, hB1⟩ : ∃ B1, B1 = atB c.nums z u := ⟨_, rfl⟩
                rw [← hB1] at HAN ATX
                clear hz hkb hB0 hB1
                cases B0
                · have H0 := Lib.hid (And.intro q5 (And.intro cx (And.intro cz (Below.refl wx.heap.size wx))))
                  go_upto_region 25 with fail
                  go_region_held3 (fun w' => w'.cell? ⟨w.heap.size, 5, none⟩ = some (.slice p3 l3 c3) ∧ w'.cell? ⟨gb, j, none⟩ = some (.int .i64 u) ∧ w'.cell? ⟨ga, k, none⟩ = some (.int .i64 z) ∧ Below wx.heap.size wx w')
                    (first | exact held3m (by assumption) (by assumption) | exact held3m H0.out (below_drewN (n := 1) (Below.refl _ _)))
                    (first | (go_at_call 28; refine (ATX.out _ (held3o (by assumption))).mono ?_; rintro e w5 ⟨rfl, hB5⟩; have HB5x := Lib.hid hB5))
                  have hH := held3o (W0 := wx) (by assumption)
                  have HH := Lib.hid hH
                  clear hH
                  go_wp2_with fail
                  go_roundw
                  case rel => exact ⟨k + 1, by omega, by go_num, by rw [HAN.out]; rfl, below_two HBx.out HH.out⟩
                  case measure => simp [intOf]; omega
                · have HA2 := Lib.hid (show (a.take (k + 1)).any (fun z => atB c.nums z u) = true by rw [HAN.out]; rfl)
                  clear HAN
                  go_wp2
                  go_quiet (fail)
                  go_wp2_with fail
                  go_roundw
                  case rel => exact ⟨k + 1, by omega, by go_num, by rw [HA2.out], below_two HBx.out (below_drewN (Below.refl _ _))⟩
                  case measure => simp [intOf]; omega
              · have d6 : ¬ ((k : Int) < (na : Int)) := by omega
                have hall : (a.take k).any (fun z => atB c.nums z u) = a.any (fun z => atB c.nums z u) := by rw [List.take_of_length_le (by have := HNN.out.1; omega)]
                rw [hall]
                have HTX := Lib.hid (HT.out.below HBx.out)
                obtain ⟨B0, hB0⟩ : ∃ B0, B0 = a.any (fun z => atB c.nums z u) := ⟨_, rfl⟩
                rw [← hB0] at HFN ⊢
                clear hall hB0
                cases B0
                · have HF2 := Lib.hid (show (b.take (j + 1)).filter (fun u => a.any fun z => atB c.nums z u) = F by rw [HFN.out]; simp)
                  go_wp2_with fail
                  go_roundw
                  case rel => exact ⟨j + 1, by omega, by go_num, by rw [HF2.out]; exact HTX.out, HBX.out⟩
                  case measure => simp [intOf]; omega
                · have HF2 := Lib.hid (show (b.take (j + 1)).filter (fun u => a.any fun z => atB c.nums z u) = F ++ [u] by rw [HFN.out]; simp)
                  have HTA := Lib.hid (HTX.out.below (new_below wx (.cells #[.int .i64 u] 3)))
                  have HCU := Lib.hid (show (wx.alloc (.cells #[.int .i64 u] 3)).cell? ⟨wx.heap.size, 0, none⟩ = some (.int .i64 u) from one_cell _ _ _ 0 _ rfl)
                  have HBA := Lib.hid (show Below w3.heap.size w3 (wx.alloc (.cells #[.int .i64 u] 3)) from HBX.out.trans ((new_below wx _).mono HBX.out.size))
                  have hFl2 : F.length ≤ 100000 := by omega
                  go_wp2_with (at_builtin; refine put_int rfl _ _ rfl rfl rfl HTA.out.two HCU.out hFl2 HBA.out.size ?_; intro p8 cap8 w8 hp1 hp2 hp3; have HN := Lib.hid (And.intro ((HTA.out.swap.put hp2 hp1 hp3).swap) (ints_grown HTA.out.two hp2 HBA.out HBA.out.size)); clear hp1 hp2 hp3)
                  go_roundw
                  case rel => exact ⟨j + 1, by omega, by go_num, by rw [HF2.out]; exact HN.out.1, HN.out.2⟩
                  case measure => simp [intOf]; omega
          · have d5 : ¬ ((j : Int) < (nb : Int)) := by omega
            have hall : (b.take j).filter (fun u => a.any fun z => atB c.nums z u) = secondE c.nums a b := by rw [List.take_of_length_le (by have := HNN.out.2; omega)]; rfl
            rw [hall] at HT
            clear hall
            obtain ⟨vs, hvs⟩ : ∃ z, z = u10 := ⟨_, rfl⟩
            rw [← hvs] at HT
            subst hvs
            obtain ⟨pf, _, cf, rfl, _, _⟩ := Dm.ints_shape HT.out.one
            obtain ⟨ps, _, cs, rfl, _, _⟩ := Dm.ints_shape HT.out.two
            have hFs : (firstE c.nums a b).length ≤ 1000 := Nat.le_trans (List.length_filter_le _ _) SMA.out.1
            have hSs : (secondE c.nums a b).length ≤ 1000 := Nat.le_trans (List.length_filter_le _ _) SMB.out.1
            obtain ⟨F, hF⟩ : ∃ F, F = firstE c.nums a b := ⟨_, rfl⟩
            obtain ⟨S, hS⟩ : ∃ S, S = secondE c.nums a b := ⟨_, rfl⟩
            rw [← hF] at HT HES hFs ⊢
            rw [← hS] at HT HES hSs ⊢
            clear hF hS
            have HOF := Lib.hid HT.out.one
            have HOS := Lib.hid HT.out.two
            obtain ⟨lF, hlF⟩ : ∃ n, n = F.length := ⟨_, rfl⟩
            obtain ⟨lS, hlS⟩ : ∃ n, n = S.length := ⟨_, rfl⟩
            rw [← hlF] at HOF ⊢
            rw [← hlS] at HOS ⊢
            clear HT hlF hlS
            have HBR := Lib.hid (below_two HB3.out HB.out)
            obtain ⟨W9, hW9⟩ : ∃ z, z = wr.alloc (.cells #[] 22) := ⟨_, rfl⟩
            have HB9 := Lib.hid (show Below wr.heap.size wr W9 by rw [hW9]; exact new_below _ _)
            have HOWN := Lib.hid (show ListsAt W9 wr.heap.size (.slice (some ⟨wr.heap.size, 0, none⟩) 0 0) [] by rw [hW9]; exact ownsP_made _ _ _ _ (Nat.le_refl _))
            have HM1 := Lib.hid (((X3.out.below HB.out).below HB9.out).low (Nat.zero_le _))
            have hsm : ([] : List (List Int)).length + M.length ≤ 100000 := by simp; omega
            have HW9 := Lib.hid hW9
            clear hW9
            go_upto_region 28 with fail
            go_cut [17] (fun o wx => ListsAt wx wr.heap.size o M ∧ Below wr.heap.size wr wx)
            case first =>
              go_wp2_with (at_builtin; rw [← HW9.out]; refine put_all rfl _ _ rfl rfl rfl HOWN.out HM1.out hsm HB9.out.size ?_; intro p8 cap8 w8 hp1 hp2; rw [List.nil_append] at hp1; have HN := Lib.hid (lists_all HOWN.out hp1 hp2 HB9.out HB9.out.size); clear hp1 hp2; rw [List.length_nil, Nat.zero_add] at *)
              go_meet
              exact HN.out
            case rest =>
             obtain ⟨hx8, hB8⟩ := hcut
             obtain ⟨w8, rfl⟩ : ∃ z, z = wc := ⟨_, rfl⟩
             obtain ⟨p8, cap8, rfl⟩ := hx8.shape
             have HN := Lib.hid (And.intro hx8 hB8)
             clear hx8 hB8
             obtain ⟨g9, cap9, r9, ev, hg9, _, _, cr0, fr0, _⟩ := HN.out.1.row HZ.out.1
             simp only [Value.slice.injEq] at ev
             obtain ⟨rfl, hq, rfl⟩ := ev
             clear hq
             have HB38 := Lib.hid (show Below w3.heap.size w3 w8 from HB.out.trans (HN.out.2.mono HB.out.size))
             obtain ⟨q0, q1, q2, q3, q4, q5⟩ := (Q3.out.below HB38.out).six
             have k0 := cell_below HB38.out HKG.out.1
             have hg9' : wr.heap.size ≤ g9 := hg9
             obtain ⟨W10, hW10⟩ : ∃ z, z = w8.setCell ⟨g9, x, none⟩ (.slice pf lF cf) := ⟨_, rfl⟩
             have X10 := Lib.hid (show ListsAt W10 wr.heap.size (.slice (some ⟨g9, 0, none⟩) M.length cap8) (M.set x F) by rw [hW10]; exact HN.out.1.stored HZ.out.1 (owns_low (owns_below HOF.out HN.out.2) (Nat.zero_le _)))
             have HB10 := Lib.hid (show Below wr.heap.size wr W10 by rw [hW10]; exact HN.out.2.setCell hg9 _)
             have HW10 := Lib.hid hW10
             clear hW10 hg9
             go_upto_region 30 with fail
             rw [← HW10.out]
             clear q0 q1 q2 q3 q4 q5 k0 cr0 fr0
             obtain ⟨g10, cap10, r10, ev, hg10, _, _, cr0, fr0, _⟩ := X10.out.row (k := y) (by rw [List.length_set]; exact HZ.out.2)
             simp only [Value.slice.injEq, Option.some.injEq, Addr.mk.injEq, and_true] at ev
             obtain ⟨rfl, hq, rfl⟩ := ev
             clear hq
             have HB310 := Lib.hid (show Below w3.heap.size w3 W10 from HB.out.trans (HB10.out.mono HB.out.size))
             obtain ⟨q0, q1, q2, q3, q4, q5⟩ := (Q3.out.below HB310.out).six
             have k1 := cell_below HB310.out HKG.out.2
             obtain ⟨W11, hW11⟩ : ∃ z, z = W10.setCell ⟨g9, y, none⟩ (.slice ps lS cs) := ⟨_, rfl⟩
             have X11 := Lib.hid (show ListsAt W11 wr.heap.size (.slice (some ⟨g9, 0, none⟩) M.length cap8) ((M.set x F).set y S) by rw [hW11]; exact X10.out.stored (by rw [List.length_set]; exact HZ.out.2) (owns_low (owns_below HOS.out HB10.out) (Nat.zero_le _)))
             have HB11 := Lib.hid (show Below wr.heap.size wr W11 by rw [hW11]; exact HB10.out.setCell hg10 _)
             have HW11 := Lib.hid hW11
             clear hW11 hg10
             go_upto_region 31 with fail
             rw [← HW11.out]
             clear q0 q1 q2 q3 q4 q5 k1 cr0 fr0
             have KY := Lib.hid (KX.out _ (below_two HBR.out HB11.out) _ _ _ X11.out (by rw [List.length_set, List.length_set]; exact HLL.out.symm) (set_short (set_short (fun l hl => (HSM.out l hl).1) hFs) hSs))
             go_wp2_with fail
             refine KY.out.mono ?_
             rintro e w20 ⟨x20, rfl, hx20, hB20⟩
             have X20 := Lib.hid hx20
             have HB20 := Lib.hid (below_two (below_two HBR.out HB11.out) hB20)
             clear hx20 hB20
             go_wp2_with fail
             go_ret2
             exact ⟨x20, by rw [HSL.out]; rfl, by rw [HSL.out]; show DomsAt _ _ _ (keepTo L (setTo M c.vars (elemRow M c) c.vars.length) L.length); rw [HES.out]; exact X20.out.low (below_two HBR.out HB11.out).size, HB20.out⟩
end Go.Proofs.YtomcgmeekmfdhaaDoor.Ge
