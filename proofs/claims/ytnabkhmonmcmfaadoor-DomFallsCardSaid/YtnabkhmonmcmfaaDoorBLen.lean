/-
  What Len64 answers, at every input.
-/
import Derived.Test.YtnabkhmonmcmfaaDoorRows
import Derived.WalkKit
import Derived.Deep.Light
import Derived.Lib.BitFns
namespace Go.Proofs.YtnabkhmonmcmfaaDoor.B
open Go.RowKit

theorem len_tab (q : Nat) (h : q < Lib.len8tab.size) : ((Lib.len8tab[q]'h).toNat : Int) = (Lib.bitLen q : Int) := by
  have h' : q < 256 := by rw [Lib.len8tab_size] at h; exact h
  have e := Lib.len8_eq ⟨q, h'⟩
  simp only [Lib.len8, Int.toNat_natCast, ByteArray.getElem?_lt' _ _ h, Option.getD_some] at e
  exact e

theorem len_part (a x : Int) (k s : Nat) (hs : Lib.bitLen x.toNat = k + Lib.bitLen s) (ha : a.toNat = s) (h : a.toNat < Lib.len8tab.size) (hk : k ≤ 56) :
    wrap64 (k + wrap64 ((Lib.len8tab[a.toNat]'h).toNat : Int)) = (Lib.bitLen x.toNat : Int) := by
  rw [len_tab]
  have l : Lib.bitLen a.toNat ≤ 8 := Lib.bitLen_le8 ⟨a.toNat, by rw [Lib.len8tab_size] at h; exact h⟩
  rw [ha] at l ⊢
  unfold wrap64
  omega

theorem len_whole (x : Int) (h : x.toNat < Lib.len8tab.size) : wrap64 (wrap64 ((Lib.len8tab[x.toNat]'h).toNat : Int)) = (Lib.bitLen x.toNat : Int) := by
  rw [len_tab]
  have l : Lib.bitLen x.toNat ≤ 8 := Lib.bitLen_le8 ⟨x.toNat, by rw [Lib.len8tab_size] at h; exact h⟩
  unfold wrap64
  omega

set_option maxHeartbeats 4000000 in
set_option maxRecDepth 100000 in
theorem len_any (x : Int) (w : World) (h0 : 0 ≤ x) (h1 : x ≤ 18446744073709551615) :
    Calls Tryd.prog 61 #[.int .u64 x] w fun e w' => e = .returned (.int .i64 (Lib.bitLen x.toNat)) ∧ w' = w := by
  go_enter Tryd.func61, Tryd.ntmps61
  go_wp2
  all_goals go_light
  all_goals first
    | (go_ret; refine ⟨congrArg Ending.returned (congrArg (Value.int IntKind.i64) ?_), rfl⟩)
    | (exfalso; have hs := Lib.len8tab_size; omega)
  · exact len_part _ x 56 _ (Lib.bitLen_shift56 x.toNat (by omega) (by omega)) (by omega) _ (by omega)
  · exact len_part _ x 48 _ (Lib.bitLen_shift48 x.toNat (by omega) (by omega)) (by omega) _ (by omega)
  · exact len_part _ x 40 _ (Lib.bitLen_shift40 x.toNat (by omega) (by omega)) (by omega) _ (by omega)
  · exact len_part _ x 32 _ (Lib.bitLen_shift32 x.toNat (by omega) (by omega)) (by omega) _ (by omega)
  · exact len_part _ x 24 _ (Lib.bitLen_shift24 x.toNat (by omega) (by omega)) (by omega) _ (by omega)
  · exact len_part _ x 16 _ (Lib.bitLen_shift16 x.toNat (by omega) (by omega)) (by omega) _ (by omega)
  · exact len_part _ x 8 _ (Lib.bitLen_shift8 x.toNat (by omega) (by omega)) (by omega) _ (by omega)
  · exact len_whole x _
end Go.Proofs.YtnabkhmonmcmfaaDoor.B
