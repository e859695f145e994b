/-
  What the copies of a text, and of a list of spans, answer.
-/
import Derived.Test.YthoakeekfajhaaaPCheck
import Derived.Test.YthoakeekfajhaaaCShelf
namespace Go.Proofs.Ythoakeekfajhaaa
open Go.RowKit

theorem sclone_any (s : ByteArray) (w : World) (hm : s.size ≤ 100000) :
    Calls Try.prog 37 #[.string s] w fun e w' => e = .returned (.string s) ∧ Below w.heap.size w w' := by
  go_enter Try.func37, Try.ntmps37
  go_wp2_with (go_at_call 54; refine (Try.stringslite_Clone _ _ (by omega)).mono ?_; rintro e w' ⟨rfl, hB⟩)
  go_ret
  exact ⟨rfl, hB⟩

theorem nil_eq46 (w : World) : Sem.run Try.prog (binOp BinOp.eql 46 (Value.slice none 0 0) (Value.slice none 0 0)) w = Result.ok (Value.bool true) w := by kernel_rfl
theorem nil_ne46 (ad : Addr) (len c : Nat) (w : World) : Sem.run Try.prog (binOp BinOp.eql 46 (Value.slice (some ad) len c) (Value.slice none 0 0)) w = Result.ok (Value.bool false) w := by kernel_rfl
theorem rSpan_one : rSpan.One := fun w cs a ⟨h1, _⟩ u hu => by
  subst h1
  simp at hu
  rcases hu with rfl | rfl <;> rfl
theorem info52 : (Try.prog.info? 52).map (fun i => (i.zero, i.size, i.bytes)) = some (some (.agg #[.int .i64 0, .int .i64 0]), 2, 16) := by kernel_rfl

set_option maxHeartbeats 1000000 in
theorem spclone_any {w : World} {v : Value} {L : List (Int × Int)} (h : Slc rSpan 2 w v L) (hl : L.length ≤ 100000) :
    Calls Try.prog 38 #[v] w fun e w' => ∃ v', e = .returned v' ∧ OwnsOf rSpan 2 52 w w' v' L ∧ Below w.heap.size w w' := by
  obtain ⟨i0, hi, hz0, hz1, hz2⟩ := info_parts info52
  obtain ⟨p, b, off, c, len, rfl, hc, hs⟩ := h
  have hlen := hs.long
  cases p with
  | none =>
    obtain rfl := hc.1 rfl
    obtain rfl : len = 0 := by omega
    have hL : L = [] := List.eq_nil_of_length_eq_zero hlen.symm
    subst hL
    have q1 := nil_eq46
    clear hs hi hz0 hz1 hz2 hlen hc hl
    go_enter Try.func38, Try.ntmps38
    go_wp2
    go_ret
    exact ⟨_, rfl, ownsOf_nil _ _ _ _ _, Below.refl _ _⟩
  | some ad =>
    have q1 := nil_ne46 ad len c
    have HB := Lib.hid ((Below.refl w.heap.size w).alloc (Nat.le_refl _) (.cells #[] 52))
    have HO := Lib.hid (ownsOf_made rSpan 2 52 w w (Nat.le_refl _))
    have HS := Lib.hid hs
    have HLN := Lib.hid hlen
    have hml : len ≤ 100000 := by omega
    clear hs hc hlen
    go_enter Try.func38, Try.ntmps38
    go_wp2_with (at_builtin; refine append_of rSpan_one rfl _ _ 46 52 2 16 i0 _ Try.underlying46 hi hz0 hz1 hz2 rfl (by decide) (by decide) rfl _ _ b off c len [] L rfl rfl HO.out HS.out (fun h => by cases h) HB.out (by simp; omega) HB.out.size ?_; intro v' w1 hown' hgrow)
    go_ret
    exact ⟨_, rfl, hown', HB.out.grown hgrow HB.out.size (fun j e => (HO.out.lt j e).1)⟩
end Go.Proofs.Ythoakeekfajhaaa
