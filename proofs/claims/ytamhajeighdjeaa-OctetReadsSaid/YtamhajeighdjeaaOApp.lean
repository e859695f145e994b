/-
  Bytes behind other ones, in new memory; a copy of bytes.
-/
import Derived.Test.YtamhajeighdjeaaOTake
import Derived.Laws.AppendOwnNone
import Derived.Sort.Grow
namespace Go.Proofs.Ytamhajeighdjeaa
open Go.RowKit

theorem addr_add (b off j : Nat) : (⟨b, off, none⟩ : Addr).add j = ⟨b, off + j, none⟩ := by
  unfold Addr.add
  split <;> simp_all
theorem grown_refl (w : World) (r : Option Nat) : w.grownBy w r := ⟨rfl, rfl, rfl, Nat.le_refl _, fun _ _ _ => rfl⟩

theorem wpList_append_bytes {w : World} {ops : Array Oper} {rest : List Oper} {o : Oper} {a : Act} {Q : Exit → Act → World → Prop} (hgd : o.guard = none) (s x : Operand)
    (ho : o.op = .call { callee := .builtin .append, args := #[s, x], argTypes := #[23, 23] }) (base : Nat) (v : Value) (p : Option Addr) (b off c len : Nat) (xs ys : List Nat) (hs : a.eval s = v) (hx : a.eval x = .slice p len c)
    (hown : Owns w base v xs) (hl : len = ys.length) (hu : Lies w p b off ys) (hp : p = none → c = 0) (hlen : xs.length + ys.length ≤ 100000) (hbase : base ≤ w.heap.size)
    (h : ∀ v' w', Owns w' base v' (xs ++ ys) → w.grownBy w' v.ownBlock → wpList Try.prog ops Q rest (a.put o.dst v') w') : wpList Try.prog ops Q (o :: rest) a w := by
  obtain ⟨i0, hi, hz0, hz1, hz2⟩ := info_parts info5
  subst hl
  by_cases h0 : ys = []
  · subst h0
    cases p with
    | none =>
      obtain rfl := hp rfl
      refine wpList_append_own_none hgd s x 23 ho base 5 i0 1 Try.underlying23 hi v xs.length _ hs hown hx ?_
      exact h v w (by rw [List.append_nil]; exact hown) (grown_refl w _)
    | some ad =>
      refine wpList_append_own w hgd s x 23 ho base 5 i0 (.int .u8 0) 1 1 Try.underlying23 hi hz0 hz1 hz2 rfl (by decide) v xs.length _ hs hown ad 0 c [] hx (by simp) (fun j z hj => by simp at hj) (fun z hz => by simp at hz) ?_ (by omega) hbase ?_
      · unfold maxLen
        omega
      · intro v' w' h1 h2 _
        refine h v' w' ?_ h2
        rw [List.append_nil]
        simpa [Owns] using h1
  · obtain rfl := hu.at_ (List.length_pos_iff.2 h0)
    refine wpList_append_own w hgd s x 23 ho base 5 i0 (.int .u8 0) 1 1 Try.underlying23 hi hz0 hz1 hz2 rfl (by decide) v xs.length _ hs hown ⟨b, off, none⟩ ys.length c (ys.map enc) hx (by simp) ?_ ?_ ?_ (by omega) hbase ?_
    · intro j z hj
      rw [List.getElem?_map] at hj
      by_cases hlt : j < ys.length
      · have := hu.cell j hlt
        rw [List.getElem?_eq_getElem hlt] at hj
        simp only [Option.map_some, Option.some.injEq] at hj
        rw [addr_add, this, ← hj]
        simp [hlt, enc]
      · rw [List.getElem?_eq_none (by omega)] at hj
        simp at hj
    · intro z hz
      obtain ⟨y, _, rfl⟩ := List.mem_map.1 hz
      rfl
    · unfold maxLen
      omega
    · intro v' w' h1 h2 _
      refine h v' w' ?_ h2
      unfold Owns
      rw [List.length_append, List.map_append]
      exact h1

theorem owns_empty (w : World) : Owns (w.alloc (.cells #[] 5)) w.heap.size (.slice (some ⟨w.heap.size, 0, none⟩) 0 0) [] := World.ownsRow_made w #[] 0 (Nat.le_refl _) (by decide) rfl

theorem nil_eq (w : World) : Sem.run Try.prog (binOp BinOp.eql 23 (Value.slice none 0 0) (Value.slice none 0 0)) w = Result.ok (Value.bool true) w := by kernel_rfl
theorem nil_ne (ad : Addr) (len c : Nat) (w : World) : Sem.run Try.prog (binOp BinOp.eql 23 (Value.slice (some ad) len c) (Value.slice none 0 0)) w = Result.ok (Value.bool false) w := by kernel_rfl

set_option maxHeartbeats 400000 in
theorem clone_any (p : Option Addr) (b off c len : Nat) (xs : List Nat) (hl : len = xs.length) (w : World) (hm : len ≤ 1000) (hx : Lies w p b off xs) (hp : p = none → len = 0 ∧ c = 0) :
    Calls Try.prog 32 #[.slice p len c] w fun e w' => ∃ v, e = .returned v ∧ Owns w' w.heap.size v xs ∧ Below w.heap.size w w' := by
  cases p with
  | none =>
    obtain ⟨rfl, rfl⟩ := hp rfl
    obtain rfl : xs = [] := List.eq_nil_of_length_eq_zero hl.symm
    clear hx hl hp
    have q1 := nil_eq
    go_enter Try.func32, Try.ntmps32
    go_wp2
    go_ret
    exact ⟨_, rfl, World.ownsRow_nil _ _ _ _, Below.refl _ _⟩
  | some ad =>
    have HX := Lib.hid hx
    have HL := Lib.hid hl
    clear hx hl hp
    have q1 := nil_ne ad len c
    have HB := Lib.hid ((Below.refl w.heap.size w).alloc (Nat.le_refl _) (.cells #[] 5))
    have HX2 := Lib.hid (HX.out.below HB.out)
    have HO := Lib.hid (owns_empty w)
    go_enter Try.func32, Try.ntmps32
    go_wp2_with (at_builtin; refine wpList_append_bytes rfl _ _ rfl w.heap.size (.slice (some ⟨w.heap.size, 0, none⟩) 0 0) _ b off c len [] xs rfl rfl HO.out HL.out HX2.out (by simp) (by have := HL.out; simp; omega) (by simp) ?_; intro v' w1 hown hgrow)
    go_ret
    exact ⟨_, rfl, hown, HB.out.grown hgrow (by simp) (fun k hk => by simp only [Value.ownBlock, Option.some.injEq] at hk; omega)⟩
end Go.Proofs.Ytamhajeighdjeaa
