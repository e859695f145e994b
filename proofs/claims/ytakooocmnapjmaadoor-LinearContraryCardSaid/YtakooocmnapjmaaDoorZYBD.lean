/-
  What Add, unsigned, bits.Mul64, Mul and Holds of the program answer, at every input.
  What Contrary, none, all and mayHold of package linear answer.
  What bySum of package linear answers: a function that keeps values by a sum.
-/
import Derived.Test.YtakooocmnapjmaaDoorRows
import Derived.Test.YtakooocmnapjmaaDoorZYBA
import Derived.WalkKit
import Derived.ProofKit
import Derived.OpenShut
import Derived.Outline
import Derived.WalkMore
import Derived.ScopeJumps
import Derived.Lib.Hide
import Derived.Test.YtakooocmnapjmaaDoorZYAX
import Derived.Test.YtakooocmnapjmaaDoorZYBC
namespace Go.Proofs.YtakooocmnapjmaaDoor.Su
open Go.RowKit

theorem tup_int {k l : IntKind} {a b c d : Int} (h : a = b) (h' : c = d) : Ending.returned (.tuple #[.int k a, .int l c]) = .returned (.tuple #[.int k b, .int l d]) := by rw [h, h']
theorem ret_int {k : IntKind} {a b : Int} (h : a = b) : Ending.returned (.int k a) = .returned (.int k b) := by rw [h]
theorem ret_bool {a b : Bool} (h : a = b) : Ending.returned (.bool a) = .returned (.bool b) := by rw [h]

theorem ne_dec {x y : Int} : (!decide (x < 0) == decide (y < 0)) = true → (x < 0 ∧ 0 ≤ y) ∨ (0 ≤ x ∧ y < 0) := by
  by_cases h : x < 0 <;> by_cases k : y < 0 <;> simp [h, k] <;> omega
theorem eq_dec {x y : Int} : (!decide (x < 0) == decide (y < 0)) = false → (x < 0 ∧ y < 0) ∨ (0 ≤ x ∧ 0 ≤ y) := by
  by_cases h : x < 0 <;> by_cases k : y < 0 <;> simp [h, k] <;> omega

/-- a product by the signs and the halves of the product without signs -/
theorem halves {a b X Y H L : Int} (ha : -9223372036854775808 ≤ a ∧ a ≤ 9223372036854775807) (hb : -9223372036854775808 ≤ b ∧ b ≤ 9223372036854775807)
    (hX : X = (a.natAbs : Int)) (hY : Y = (b.natAbs : Int)) (hH : H = X * Y / 18446744073709551616) (hL : L = X * Y % 18446744073709551616) :
    ∃ N : Int, 0 ≤ N ∧ H = N / 18446744073709551616 ∧ L = N % 18446744073709551616 ∧ (((a < 0 ∧ 0 ≤ b) ∨ (0 ≤ a ∧ b < 0)) → a * b = -N) ∧ (((a < 0 ∧ b < 0) ∨ (0 ≤ a ∧ 0 ≤ b)) → a * b = N) := by
  refine ⟨X * Y, ?_, hH, hL, ?_, ?_⟩
  · rw [hX, hY]; exact Int.mul_nonneg (by omega) (by omega)
  · rintro (⟨h1, h2⟩ | ⟨h1, h2⟩)
    · have e1 : X = -a := by omega
      have e2 : Y = b := by omega
      rw [e1, e2, Int.neg_mul]; omega
    · have e1 : X = a := by omega
      have e2 : Y = -b := by omega
      rw [e1, e2, Int.mul_neg]; omega
  · rintro (⟨h1, h2⟩ | ⟨h1, h2⟩)
    · have e1 : X = -a := by omega
      have e2 : Y = -b := by omega
      rw [e1, e2, Int.neg_mul_neg]
    · have e1 : X = a := by omega
      have e2 : Y = b := by omega
      rw [e1, e2]

/-- no number of 64 bits -/
def Over (n : Int) : Prop := ¬ (-9223372036854775808 ≤ n ∧ n ≤ 9223372036854775807)
theorem over_mk {n : Int} (h : n < -9223372036854775808 ∨ 9223372036854775807 < n) : Over n := by unfold Over; omega

set_option maxHeartbeats 400000 in
theorem holds_any (a r b : Int) (w : World) :
    Calls Tryd.prog 69 #[.int .i64 a, .int .i64 r, .int .i64 b] w fun e w' => e = .returned (.bool (holdsB a r b)) ∧ w = w' := by
  go_enter Tryd.func69, Tryd.ntmps69
  go_wp2
  all_goals
    go_ret
    refine ⟨ret_bool ?_, rfl⟩
    simp_all [holdsB]
  all_goals (rw [Bool.eq_iff_iff]; simp)
end Go.Proofs.YtakooocmnapjmaaDoor.Su
namespace Go.Proofs.YtakooocmnapjmaaDoor.St
open Go.RowKit
set_option maxRecDepth 100000

set_option maxHeartbeats 4000000 in
theorem pcontrary_any (rel : Int) (w : World) : Calls Tryd.prog 19 #[.int .i64 rel] w fun e w' => e = .returned (.int .i64 (contrary rel)) ∧ Below w.heap.size w w' := by
  by_cases h2 : rel = 0 ∨ rel = 1 ∨ rel = 2 ∨ rel = 3 ∨ rel = 4 ∨ rel = 5
  · rcases h2 with rfl | rfl | rfl | rfl | rfl | rfl
    all_goals
      go_enter Tryd.func19, Tryd.ntmps19
      go_wp2_with fail
      go_ret
      exact ⟨rfl, Below.refl _ _⟩
  · have e : contrary rel = rel := by
      unfold contrary
      by_cases h : rel < 0 ∨ 5 < rel
      · rw [if_pos h]
      · omega
    have d0 : (rel == 0) = false := by rw [beq_eq_false_iff_ne]; omega
    have d1 : (rel == 1) = false := by rw [beq_eq_false_iff_ne]; omega
    have d2 : (rel == 2) = false := by rw [beq_eq_false_iff_ne]; omega
    have d3 : (rel == 3) = false := by rw [beq_eq_false_iff_ne]; omega
    have d4 : (rel == 4) = false := by rw [beq_eq_false_iff_ne]; omega
    have d5 : (rel == 5) = false := by rw [beq_eq_false_iff_ne]; omega
    rw [e]
    clear e h2
    go_enter Tryd.func19, Tryd.ntmps19
    go_wp2_with fail
    go_ret
    exact ⟨rfl, Below.refl _ _⟩

theorem pnone_any (a x : Int) (w : World) : Calls Tryd.prog 46 #[.int .i64 a, .int .i64 x] w fun e w' => e = .returned (.bool false) ∧ Below w.heap.size w w' := by
  go_enter Tryd.func46, Tryd.ntmps46
  go_wp2_with fail
  go_ret
  exact ⟨rfl, Below.refl _ _⟩
theorem pall_any (a x : Int) (w : World) : Calls Tryd.prog 71 #[.int .i64 a, .int .i64 x] w fun e w' => e = .returned (.bool true) ∧ Below w.heap.size w w' := by
  go_enter Tryd.func71, Tryd.ntmps71
  go_wp2_with fail
  go_ret
  exact ⟨rfl, Below.refl _ _⟩

theorem may_two {a b n : Int} : mayG a b 2 n = Su.holdsB a 2 n := by simp [mayG, Su.holdsB]
theorem may_three {a b n : Int} : mayG a b 3 n = Su.holdsB a 3 n := by simp [mayG, Su.holdsB]
theorem may_four {a b n : Int} : mayG a b 4 n = Su.holdsB b 4 n := by simp [mayG, Su.holdsB]
theorem may_five {a b n : Int} : mayG a b 5 n = Su.holdsB b 5 n := by simp [mayG, Su.holdsB]

set_option maxHeartbeats 4000000 in
theorem mayHold_any (a b rel n : Int) (hr : 0 ≤ rel ∧ rel ≤ 5) (w : World) : Calls Tryd.prog 50 #[.agg #[.int .i64 a, .int .i64 b], .int .i64 rel, .int .i64 n] w fun e w' => e = .returned (.bool (mayG a b rel n)) ∧ Below w.heap.size w w' := by
  have fin : ∀ (b2 : Bool) (x : Value), x = .bool b2 → b2 = mayG a b rel n → Ending.returned x = Ending.returned (Value.bool (mayG a b rel n)) := fun b x e h => by rw [e, h]
  have FIN := Lib.hid fin
  have HB0 := Lib.hid (new_below w (.cells #[.int .i64 a, .int .i64 b] 78))
  clear fin
  rcases (by omega : rel = 0 ∨ rel = 1 ∨ rel = 2 ∨ rel = 3 ∨ rel = 4 ∨ rel = 5) with rfl | rfl | rfl | rfl | rfl | rfl
  · go_enter Tryd.func50, Tryd.ntmps50
    go_wp2_with fail
    all_goals go_ret
    all_goals refine ⟨FIN.out _ _ rfl ?_, new_below _ _⟩
    all_goals simp [mayG]
    all_goals omega
  · go_enter Tryd.func50, Tryd.ntmps50
    go_wp2_with fail
    all_goals go_ret
    all_goals refine ⟨FIN.out _ _ rfl ?_, new_below _ _⟩
    all_goals simp [mayG]
    all_goals first | (left; assumption) | (rename_i q; rw [Bool.eq_iff_iff]; simp [q])
  · rw [may_two]
    have S := Lib.hid (fun u => Su.holds_any a 2 n u)
    obtain ⟨R, hR⟩ : ∃ R, R = Su.holdsB a 2 n := ⟨_, rfl⟩
    rw [← hR] at S ⊢
    clear hR FIN hr
    go_enter Tryd.func50, Tryd.ntmps50
    go_wp2_with fail
    refine (S.out _).mono ?_
    rintro e w1 ⟨rfl, rfl⟩
    go_wp2_with fail
    go_ret
    exact ⟨rfl, HB0.out⟩
  · rw [may_three]
    have S := Lib.hid (fun u => Su.holds_any a 3 n u)
    obtain ⟨R, hR⟩ : ∃ R, R = Su.holdsB a 3 n := ⟨_, rfl⟩
    rw [← hR] at S ⊢
    clear hR FIN hr
    go_enter Tryd.func50, Tryd.ntmps50
    go_wp2_with fail
    refine (S.out _).mono ?_
    rintro e w1 ⟨rfl, rfl⟩
    go_wp2_with fail
    go_ret
    exact ⟨rfl, HB0.out⟩
  · rw [may_four]
    have S := Lib.hid (fun u => Su.holds_any b 4 n u)
    obtain ⟨R, hR⟩ : ∃ R, R = Su.holdsB b 4 n := ⟨_, rfl⟩
    rw [← hR] at S ⊢
    clear hR FIN hr
    go_enter Tryd.func50, Tryd.ntmps50
    go_wp2_with fail
    refine (S.out _).mono ?_
    rintro e w1 ⟨rfl, rfl⟩
    go_wp2_with fail
    go_ret
    exact ⟨rfl, HB0.out⟩
  · rw [may_five]
    have S := Lib.hid (fun u => Su.holds_any b 5 n u)
    obtain ⟨R, hR⟩ : ∃ R, R = Su.holdsB b 5 n := ⟨_, rfl⟩
    rw [← hR] at S ⊢
    clear hR FIN hr
    go_enter Tryd.func50, Tryd.ntmps50
    go_wp2_with fail
    refine (S.out _).mono ?_
    rintro e w1 ⟨rfl, rfl⟩
    go_wp2_with fail
    go_ret
    exact ⟨rfl, HB0.out⟩
end Go.Proofs.YtakooocmnapjmaaDoor.St
namespace Go.Proofs.YtakooocmnapjmaaDoor.St
open Go.RowKit
set_option maxRecDepth 100000

/-- from one world to a later one all blocks are as they were, but for some -/
def Fr (X : Nat → Prop) (w u : World) : Prop := w.heap.size ≤ u.heap.size ∧ ∀ k, k < w.heap.size → ¬ X k → u.heap[k]? = w.heap[k]?
theorem Fr.of_below {X : Nat → Prop} {w u : World} (h : Below w.heap.size w u) : Fr X w u := ⟨h.size, fun k hk _ => h.block k hk⟩
theorem Fr.refl (X : Nat → Prop) (w : World) : Fr X w w := ⟨Nat.le_refl _, fun _ _ _ => rfl⟩
theorem Fr.trans {X : Nat → Prop} {w u z : World} (h : Fr X w u) (k : Fr X u z) : Fr X w z := ⟨Nat.le_trans h.1 k.1, fun i hi hx => (k.2 i (Nat.lt_of_lt_of_le hi h.1) hx).trans (h.2 i hi hx)⟩
theorem Fr.next {X : Nat → Prop} {w u z : World} (h : Fr X w u) (k : Below u.heap.size u z) : Fr X w z := h.trans (.of_below k)
theorem Fr.cell {X : Nat → Prop} {w u : World} (h : Fr X w u) {p : Addr} {v : Value} (hp : ¬ X p.block) (hc : w.cell? p = some v) : u.cell? p = some v := by
  have hlt := Dm.cell_lt hc
  have e := h.2 p.block hlt hp
  rw [World.cell?_of_block e]
  exact hc
theorem Fr.set {X : Nat → Prop} {w u : World} (h : Fr X w u) {b : Nat} (hb : X b) (off : Nat) (z : Value) : Fr X w (u.setCell ⟨b, off, none⟩ z) :=
  ⟨by simpa [World.setCell] using h.1, fun k hk hx => (Below.heap_setCell u ⟨b, off, none⟩ z k (fun e => hx (by show X k; rw [e]; exact hb))).trans (h.2 k hk hx)⟩
/-- with a block more, that is not there yet -/
theorem Fr.less {X Y : Nat → Prop} {w u z : World} (h : Fr X w u) (hY : ∀ k, Y k → X k ∨ w.heap.size ≤ k) (k : Fr Y u z) : Fr X w z :=
  ⟨Nat.le_trans h.1 k.1, fun i hi hx => (k.2 i (Nat.lt_of_lt_of_le hi h.1) (fun hy => (hY i hy).elim hx (fun q => by omega))).trans (h.2 i hi hx)⟩
/-- a function that tells of the variable at a place, one of n, whether it keeps a value; it leans on all blocks but some -/
def Keeps (X : Nat → Prop) (w : World) (v : Value) (n : Nat) (K : Nat → Int → Bool) : Prop :=
  ∃ g env, v = .func (.func g) #[] env ∧ Enters Tryd.prog g ∧ ∀ (u : World) (a : Nat) (x : Int), Fr X w u → a < n → -1048576 ≤ x ∧ x ≤ 1048576 → Calls Tryd.prog g (#[.int .i64 a, .int .i64 x] ++ env) u fun e w' => e = .returned (.bool (K a x)) ∧ Below u.heap.size u w'
theorem Keeps.frame {X : Nat → Prop} {w w' : World} {v : Value} {n : Nat} {K : Nat → Int → Bool} (h : Keeps X w v n K) (hB : Fr X w w') : Keeps X w' v n K := by
  obtain ⟨g, env, h1, h2, h3⟩ := h
  exact ⟨g, env, h1, h2, fun u a x hu => h3 u a x (hB.trans hu)⟩
theorem Keeps.less {X Y : Nat → Prop} {w w' : World} {v : Value} {n : Nat} {K : Nat → Int → Bool} (h : Keeps X w v n K) (hB : Fr X w w') (hY : ∀ k, Y k → X k ∨ w.heap.size ≤ k) : Keeps Y w' v n K := by
  obtain ⟨g, env, h1, h2, h3⟩ := h
  exact ⟨g, env, h1, h2, fun u a x hu => h3 u a x (hB.less hY hu)⟩
theorem keeps_none (X : Nat → Prop) (w : World) (n : Nat) : Keeps X w (.func (.func 46) #[] #[]) n (fun _ _ => false) :=
  ⟨_, _, rfl, enters_of Tryd.func46 (by kernel_rfl) rfl, fun u a x _ _ _ => pnone_any a x u⟩
theorem keeps_all (X : Nat → Prop) (w : World) (n : Nat) : Keeps X w (.func (.func 71) #[] #[]) n (fun _ _ => true) :=
  ⟨_, _, rfl, enters_of Tryd.func71 (by kernel_rfl) rfl, fun u a x _ _ _ => pall_any a x u⟩

/-- what is kept by a sum -/
def sumK (ks : List Int) (P : Nat → Int × Int) (n : Nat) (rel ag : Int) (a : Nat) (x : Int) : Bool := mayG ((totTo P n).1 - (P a).1 + ks.getD a 0 * x) ((totTo P n).2 - (P a).2 + ks.getD a 0 * x) rel ag

/-- what a closure of bySum has -/
structure SumAt (w : World) (bp bc bt br : Nat) (g len : Nat) (k r t : Int) (v1 v3 : Value) (p2 : Option Addr) (l2 c2 : Nat) (P : Nat → Int × Int) (rel : Int) : Prop where
  pt : w.cell? ⟨bp, 0, none⟩ = some (.slice (some ⟨g, 0, none⟩) len len)
  con : ∀ j u, [Value.int .i64 k, v1, .slice p2 l2 c2, .int .i64 r, .int .i64 t, v3][j]? = some u → w.cell? ⟨bc, j, none⟩ = some u
  tot : w.cell? ⟨bt, 0, none⟩ = some (.int .i64 (totTo P len).1) ∧ w.cell? ⟨bt, 1, none⟩ = some (.int .i64 (totTo P len).2)
  rl : w.cell? ⟨br, 0, none⟩ = some (.int .i64 rel)
  row : Row2 len 78 w g (fun j => cellP (P j))
theorem Row2.frame {X : Nat → Prop} {s b : Nat} {t : TypeId} {w w' : World} {f : Nat → Value × Value} (h : Row2 s t w b f) (hB : Fr X w w') (hb : ¬ X b) : Row2 s t w' b f := by
  have hlt := h.lt
  obtain ⟨cc, h1, h2⟩ := h
  exact ⟨cc, (hB.2 b hlt hb).trans h1, h2⟩
theorem SumAt.frame {X : Nat → Prop} {w w' : World} {bp bc bt br g len l2 c2 : Nat} {k r t rel : Int} {v1 v3 : Value} {p2 : Option Addr} {P : Nat → Int × Int} (h : SumAt w bp bc bt br g len k r t v1 v3 p2 l2 c2 P rel) (hB : Fr X w w') (x0 : ¬ X bp) (x1 : ¬ X bc) (x2 : ¬ X bt) (x3 : ¬ X br) (x4 : ¬ X g) : SumAt w' bp bc bt br g len k r t v1 v3 p2 l2 c2 P rel :=
  ⟨hB.cell x0 h.pt, fun j u e => hB.cell x1 (h.con j u e), ⟨hB.cell x2 h.tot.1, hB.cell x2 h.tot.2⟩, hB.cell x3 h.rl, h.row.frame hB x4⟩
theorem SumAt.below {w w' : World} {bp bc bt br g len l2 c2 : Nat} {k r t rel : Int} {v1 v3 : Value} {p2 : Option Addr} {P : Nat → Int × Int} (h : SumAt w bp bc bt br g len k r t v1 v3 p2 l2 c2 P rel) (hB : Below w.heap.size w w') : SumAt w' bp bc bt br g len k r t v1 v3 p2 l2 c2 P rel :=
  h.frame (X := fun _ => False) (.of_below hB) id id id id id

set_option maxHeartbeats 4000000 in
theorem sum1_any {u : World} {bp bc bt br g len b2 o2 l2 c2 : Nat} {k r t rel : Int} {v1 v3 : Value} {p2 : Option Addr} {P : Nat → Int × Int} {ks : List Int} (h : SumAt u bp bc bt br g len k r t v1 v3 p2 l2 c2 P rel) (hk : Nums u p2 b2 o2 l2 ks) (hlk : len ≤ l2) (hl : len ≤ 1000) (hr : 0 ≤ rel ∧ rel ≤ 5)
    (hkb : ∀ k, k < ks.length → -1048576 ≤ ks.getD k 0 ∧ ks.getD k 0 ≤ 1048576) (hP : ∀ k, k < len → (-1099511627776 ≤ (P k).1 ∧ (P k).1 ≤ 1099511627776) ∧ (-1099511627776 ≤ (P k).2 ∧ (P k).2 ≤ 1099511627776)) (a : Nat) (x : Int) (ha : a < len) (hx : -1048576 ≤ x ∧ x ≤ 1048576) :
    Calls Tryd.prog 66 #[.int .i64 a, .int .i64 x, .pointer (some ⟨bp, 0, none⟩), .pointer (some ⟨bc, 0, none⟩), .pointer (some ⟨bt, 0, none⟩), .pointer (some ⟨br, 0, none⟩)] u fun e w' => e = .returned (.bool (sumK ks P len rel t a x)) ∧ Below u.heap.size u w' := by
  have hkl : a < l2 := by omega
  have m1 := mul_le (hkb a (by rw [← hk.long]; exact hkl)) hx
  obtain rfl := hk.at_ (by omega)
  have ck := hk.cell a hkl
  have tb := tot_small hP len (Nat.le_refl _)
  have pb := hP a ha
  have M := Lib.hid (fun z => mayHold_any ((totTo P len).1 - (P a).1 + ks.getD a 0 * x) ((totTo P len).2 - (P a).2 + ks.getD a 0 * x) rel t hr z)
  have r0 := h.row.cell0 ha
  have r1 := h.row.cell1 ha
  rw [show cellP (P a) = (.int .i64 (P a).1, .int .i64 (P a).2) from rfl] at r0 r1
  obtain ⟨R, hR⟩ : ∃ R, R = sumK ks P len rel t a x := ⟨_, rfl⟩
  rw [← hR]
  rw [show mayG ((totTo P len).1 - (P a).1 + ks.getD a 0 * x) ((totTo P len).2 - (P a).2 + ks.getD a 0 * x) rel t = R from hR.symm] at M
  have H := Lib.hid h
  have e1 := h.pt
  have e2 := h.con 2 _ rfl
  have e3 := h.tot.1
  have e4 := h.tot.2
  have e5 := h.rl
  have e6 := h.con 4 _ rfl
  obtain ⟨kk, hkk⟩ : ∃ z, z = ks.getD a 0 := ⟨_, rfl⟩
  rw [← hkk] at m1 ck M
  obtain ⟨s1, hs1⟩ : ∃ z, z = (totTo P len).1 := ⟨_, rfl⟩
  obtain ⟨s2, hs2⟩ : ∃ z, z = (totTo P len).2 := ⟨_, rfl⟩
  obtain ⟨p1, hp1⟩ : ∃ z, z = (P a).1 := ⟨_, rfl⟩
  obtain ⟨q1, hq1⟩ : ∃ z, z = (P a).2 := ⟨_, rfl⟩
  rw [← hs1, ← hs2, ← hp1, ← hq1] at M
  rw [← hs1] at e3
  rw [← hs2] at e4
  rw [← hp1] at r0
  rw [← hq1] at r1
  rw [← hs1, ← hs2] at tb
  rw [← hp1, ← hq1] at pb
  have bb1 : -1099511627776000 ≤ s1 ∧ s1 ≤ 1099511627776000 := by omega
  have bb2 : -1099511627776000 ≤ s2 ∧ s2 ≤ 1099511627776000 := by omega
  have i1 : -2199023255552000 ≤ s1 - p1 ∧ s1 - p1 ≤ 2199023255552000 := by omega
  have i2 : -2199023255552000 ≤ s2 - q1 ∧ s2 - q1 ≤ 2199023255552000 := by omega
  have j1 : -4398046511104000 ≤ s1 - p1 + kk * x ∧ s1 - p1 + kk * x ≤ 4398046511104000 := by omega
  have j2 : -4398046511104000 ≤ s2 - q1 + kk * x ∧ s2 - q1 + kk * x ≤ 4398046511104000 := by omega
  have l0 : bp < u.heap.size := Dm.cell_lt e1
  have l1 : bc < u.heap.size := Dm.cell_lt e2
  have l2' : bt < u.heap.size := Dm.cell_lt e3
  have l3 : br < u.heap.size := Dm.cell_lt e5
  have l4 : g < u.heap.size := Dm.cell_lt r0
  have l5 : b2 < u.heap.size := Dm.cell_lt ck
  have d1 : (0 : Int) ≤ (a : Int) := by omega
  have d2 : (a : Int) < (len : Int) := by omega
  have d3 : (a : Int) < (l2 : Int) := by omega
  clear hk h hkb hP hx hlk hl hR hkk hp1 hq1 tb pb bb1 bb2 hr hkl
  have hwr : IntKind.i64.wrap (kk * x) = kk * x := IntWalk.i64_in _ (by omega)
  go_enter Tryd.func66, Tryd.ntmps66
  go_upto_region 1 with fail
  go_cut [9, 10] (fun p q wx => p = .pointer (some ⟨u.heap.size, 0, none⟩) ∧ q = .int .i64 (kk * x) ∧ wx.cell? ⟨u.heap.size, 0, none⟩ = some (.int .i64 p1) ∧ wx.cell? ⟨u.heap.size, 1, none⟩ = some (.int .i64 q1) ∧ Below u.heap.size u wx)
  case first =>
    go_region_law (fail)
    all_goals go_wp2_with fail
    all_goals go_meet
    all_goals exact ⟨rfl, rfl, by simp, by simp, (new_below _ _).drew⟩
  case rest =>
    obtain ⟨rfl, rfl, z0, z1, hB⟩ := hcut
    have HB := Lib.hid hB
    have H2 := H.out.below hB
    have e3 := H2.tot.1
    have e4 := H2.tot.2
    have e5 := H2.rl
    have e6 := H2.con 4 _ rfl
    rw [← hs1] at e3
    rw [← hs2] at e4
    have l2' : bt < wc.heap.size := Dm.cell_lt e3
    have l3 : br < wc.heap.size := Dm.cell_lt e5
    have l1 : bc < wc.heap.size := Dm.cell_lt e6
    have l6 : u.heap.size < wc.heap.size := Dm.cell_lt z0
    clear hB H2 hs1 hs2
    go_wp2_with fail
    refine (M.out _).mono ?_
    rintro e w9 ⟨rfl, hB9⟩
    have HB9 := Lib.hid hB9
    clear hB9
    go_wp2_with fail
    go_ret
    exact ⟨rfl, below_two (HB.out.trans ((new_below _ _).mono HB.out.size)) HB9.out⟩

end Go.Proofs.YtakooocmnapjmaaDoor.St
