/-
  Six steps of sums side by side count the bits of a number of 64 bits. Nothing of the program.
  What Len64 answers, at every input.
-/
import Derived.Test.YtiaibggbbkhjlaaDoorZYAC
import Derived.Test.YtiaibggbbkhjlaaDoorRows
import Derived.WalkKit
import Derived.Deep.Light
import Derived.Lib.BitFns
namespace Go.Proofs.YtiaibggbbkhjlaaDoor.B

/-- f of each of the n low bytes -/
def bm (f : Nat → Nat) : Nat → Nat → Nat
  | 0, _ => 0
  | n + 1, x => f (x % 256) + 256 * bm f n (x / 256)

def f1 (y : Nat) : Nat := (y / 2 &&& 85) + (y &&& 85)
def f2 (y : Nat) : Nat := (y / 4 &&& 51) + (y &&& 51)
def f3 (y : Nat) : Nat := (y / 16 + y) % 16

/-- the byte c, n times -/
def rep (c : Nat) : Nat → Nat
  | 0 => 0
  | n + 1 => c + 256 * rep c n

theorem and_byte (t a b : Nat) (ha : a < 256) : t &&& (a + 256 * b) = (t % 256 &&& a) + 256 * (t / 256 &&& b) := by
  have h1 : (t &&& (a + 256 * b)) % 256 = t % 256 &&& a := by
    have h : (t &&& (a + 256 * b)) % 256 = (t % 256) &&& ((a + 256 * b) % 256) := Nat.and_mod_two_pow (n := 8)
    rw [h]
    congr 1
    omega
  have h2 : (t &&& (a + 256 * b)) / 256 = t / 256 &&& b := by
    have h : (t &&& (a + 256 * b)) / 256 = (t / 256) &&& ((a + 256 * b) / 256) := Nat.and_div_two_pow (n := 8)
    rw [h]
    congr 1
    omega
  omega

theorem low1 : ∀ y, y < 512 → (y / 2) % 256 &&& 85 = (y % 256) / 2 &&& 85 := by decide +kernel
theorem low2 : ∀ y, y < 1024 → (y / 4) % 256 &&& 51 = (y % 256) / 4 &&& 51 := by decide +kernel

theorem step1 : ∀ n x, (x / 2 &&& rep 85 n) + (x &&& rep 85 n) = bm f1 n x
  | 0, x => by simp [rep, bm]
  | n + 1, x => by
    have h := step1 n (x / 256)
    have l := low1 (x % 512) (by omega)
    have e1 : (x % 512) / 2 % 256 = x / 2 % 256 := by omega
    have e2 : x % 512 % 256 = x % 256 := by omega
    have e3 : x / 2 / 256 = x / 256 / 2 := by omega
    rw [e1, e2] at l
    rw [rep, and_byte _ _ _ (by omega), and_byte _ _ _ (by omega), bm, ← h, e3, l, f1]
    omega

theorem step2 : ∀ n x, (x / 4 &&& rep 51 n) + (x &&& rep 51 n) = bm f2 n x
  | 0, x => by simp [rep, bm]
  | n + 1, x => by
    have h := step2 n (x / 256)
    have l := low2 (x % 1024) (by omega)
    have e1 : (x % 1024) / 4 % 256 = x / 4 % 256 := by omega
    have e2 : x % 1024 % 256 = x % 256 := by omega
    have e3 : x / 4 / 256 = x / 256 / 4 := by omega
    rw [e1, e2] at l
    rw [rep, and_byte _ _ _ (by omega), and_byte _ _ _ (by omega), bm, ← h, e3, l, f2]
    omega

theorem bm_bm {f g : Nat → Nat} (hg : ∀ y, y < 256 → g y < 256) : ∀ n x, bm f n (bm g n x) = bm (fun y => f (g y)) n x
  | 0, x => by simp [bm]
  | n + 1, x => by
    have h := bm_bm (f := f) hg n (x / 256)
    have hb := hg (x % 256) (by omega)
    have e1 : (g (x % 256) + 256 * bm g n (x / 256)) % 256 = g (x % 256) := by omega
    have e2 : (g (x % 256) + 256 * bm g n (x / 256)) / 256 = bm g n (x / 256) := by omega
    rw [bm, bm, bm, e1, e2, h]

theorem step3 {g : Nat → Nat} (hg : ∀ y, y < 256 → g y % 16 ≤ 4 ∧ g y / 16 ≤ 4) : ∀ n x, (bm g n x / 16 + bm g n x) &&& rep 15 n = bm (fun y => f3 (g y)) n x
  | 0, x => by simp [rep, bm]
  | n + 1, x => by
    have h := step3 hg n (x / 256)
    obtain ⟨b1, b2⟩ := hg (x % 256) (by omega)
    have hz : bm g n (x / 256) % 16 ≤ 4 := by
      cases n with
      | zero => simp [bm]
      | succ n =>
        have := (hg (x / 256 % 256) (by omega)).1
        rw [bm]
        omega
    rw [rep, and_byte _ _ _ (by omega), bm, bm, ← h, f3]
    have q : ∀ z, z % 256 &&& 15 = z % 16 := fun z => by
      have : z % 256 &&& 15 = z % 256 % 16 := Nat.and_two_pow_sub_one_eq_mod (z % 256) 4
      omega
    rw [q]
    have e1 : ((g (x % 256) + 256 * bm g n (x / 256)) / 16 + (g (x % 256) + 256 * bm g n (x / 256))) % 16 = (g (x % 256) / 16 + g (x % 256)) % 16 := by omega
    have e2 : ((g (x % 256) + 256 * bm g n (x / 256)) / 16 + (g (x % 256) + 256 * bm g n (x / 256))) / 256 = bm g n (x / 256) / 16 + bm g n (x / 256) := by omega
    rw [e1, e2]

theorem f1_lt : ∀ y, y < 256 → f1 y < 256 := by decide +kernel
theorem f21_small : ∀ y, y < 256 → f2 (f1 y) % 16 ≤ 4 ∧ f2 (f1 y) / 16 ≤ 4 := by decide +kernel
theorem f321 : ∀ y, y < 256 → f3 (f2 (f1 y)) = Lib.popAux 8 y := by decide +kernel
theorem pop8_le : ∀ y, y < 256 → Lib.popAux 8 y ≤ 8 := by decide +kernel

theorem bm_congr {f g : Nat → Nat} (h : ∀ y, y < 256 → f y = g y) : ∀ n x, bm f n x = bm g n x
  | 0, x => rfl
  | n + 1, x => by rw [bm, bm, h _ (by omega), bm_congr h n]

theorem rep55 : rep 85 8 = 6148914691236517205 := by decide
theorem rep33 : rep 51 8 = 3689348814741910323 := by decide
theorem rep0f : rep 15 8 = 1085102592571150095 := by decide

theorem three (x : Nat) (y1 y2 : Nat) (e1 : (x / 2 &&& 6148914691236517205) + (x &&& 6148914691236517205) = y1) (e2 : (y1 / 4 &&& 3689348814741910323) + (y1 &&& 3689348814741910323) = y2) :
    (y2 / 16 + y2) &&& 1085102592571150095 = bm (Lib.popAux 8) 8 x := by
  rw [← rep55, step1] at e1
  rw [← rep33, step2] at e2
  subst e1
  rw [bm_bm f1_lt] at e2
  subst e2
  rw [← rep0f, step3 f21_small]
  exact bm_congr f321 8 x

theorem pop_byte (n x : Nat) : Lib.popAux (n + 8) x = Lib.popAux 8 (x % 256) + Lib.popAux n (x / 256) := by
  simp only [Lib.popAux, Nat.div_div_eq_div_mul, Nat.reduceMul]
  have e1 : x % 256 % 2 = x % 2 := by omega
  have e2 : x % 256 / 2 % 2 = x / 2 % 2 := by omega
  have e3 : x % 256 / 4 % 2 = x / 4 % 2 := by omega
  have e4 : x % 256 / 8 % 2 = x / 8 % 2 := by omega
  have e5 : x % 256 / 16 % 2 = x / 16 % 2 := by omega
  have e6 : x % 256 / 32 % 2 = x / 32 % 2 := by omega
  have e7 : x % 256 / 64 % 2 = x / 64 % 2 := by omega
  have e8 : x % 256 / 128 % 2 = x / 128 % 2 := by omega
  rw [e1, e2, e3, e4, e5, e6, e7, e8]
  simp only [Nat.add_assoc, Nat.add_zero]

theorem pop_bytes (x : Nat) : Lib.popAux 64 x = Lib.popAux 8 (x % 256) + (Lib.popAux 8 (x / 256 % 256) + (Lib.popAux 8 (x / 256 / 256 % 256) + (Lib.popAux 8 (x / 256 / 256 / 256 % 256)
    + (Lib.popAux 8 (x / 256 / 256 / 256 / 256 % 256) + (Lib.popAux 8 (x / 256 / 256 / 256 / 256 / 256 % 256) + (Lib.popAux 8 (x / 256 / 256 / 256 / 256 / 256 / 256 % 256) + Lib.popAux 8 (x / 256 / 256 / 256 / 256 / 256 / 256 / 256 % 256))))))) := by
  rw [pop_byte 56 x, pop_byte 48, pop_byte 40, pop_byte 32, pop_byte 24, pop_byte 16, pop_byte 8, show Lib.popAux 8 (x / 256 / 256 / 256 / 256 / 256 / 256 / 256) = _ from pop_byte 0 _]
  have h0 : ∀ z, Lib.popAux 0 z = 0 := fun _ => rfl
  rw [h0, Nat.add_zero]

theorem sums (Y0 Y1 Y2 Y3 Y4 Y5 Y6 c0 c1 c2 c3 c4 c5 c6 c7 : Nat) (h0 : c0 ≤ 8) (h1 : c1 ≤ 8) (h2 : c2 ≤ 8) (h3 : c3 ≤ 8) (h4 : c4 ≤ 8) (h5 : c5 ≤ 8) (h6 : c6 ≤ 8) (h7 : c7 ≤ 8)
    (e0 : Y0 = c0 + 256 * Y1) (e1 : Y1 = c1 + 256 * Y2) (e2 : Y2 = c2 + 256 * Y3) (e3 : Y3 = c3 + 256 * Y4) (e4 : Y4 = c4 + 256 * Y5) (e5 : Y5 = c5 + 256 * Y6) (e6 : Y6 = c6 + 256 * c7) :
    ∃ y4 y5 y6, Y0 + Y0 / 256 = y4 ∧ y4 + y4 / 65536 = y5 ∧ y5 + y5 / 4294967296 = y6 ∧ y6 < 9223372036854775808 ∧ y6 % 128 = c0 + (c1 + (c2 + (c3 + (c4 + (c5 + (c6 + c7)))))) := by
  have d1 : Y0 / 256 = Y1 := by clear e1 e2 e3 e4 e5 e6; omega
  have d2 : (Y0 + Y1) / 65536 = Y2 + Y3 := by
    have : Y0 + Y1 = (c0 + c1 + 256 * (c1 + c2)) + 65536 * (Y2 + Y3) := by clear e3 e4 e5 e6 h0 h1 h2 h3 h4 h5 h6 h7; omega
    rw [this]; clear this e0 e1 e2 e3 e4 e5 e6; omega
  have d3 : (Y0 + Y1 + (Y2 + Y3)) / 4294967296 = Y4 + Y5 + Y6 + c7 := by
    have : Y0 + Y1 + (Y2 + Y3) = (c0 + c1 + c2 + c3 + 256 * (c1 + c2 + c3 + c4) + 65536 * (c2 + c3 + c4 + c5) + 16777216 * (c3 + c4 + c5 + c6)) + 4294967296 * (Y4 + Y5 + Y6 + c7) := by clear h0 h1 h2 h3 h4 h5 h6 h7; omega
    have b : c0 + c1 + c2 + c3 + 256 * (c1 + c2 + c3 + c4) + 65536 * (c2 + c3 + c4 + c5) + 16777216 * (c3 + c4 + c5 + c6) < 4294967296 := by clear this d2 d1 e0 e1 e2 e3 e4 e5 e6; omega
    rw [this, Nat.add_mul_div_left _ _ (by decide), Nat.div_eq_of_lt b, Nat.zero_add]
  refine ⟨_, _, _, rfl, rfl, rfl, ?_, ?_⟩
  · rw [d1, d2, d3]
    have b6 : Y6 ≤ 2056 := by clear d1 d2 d3 e0 e1 e2 e3 e4 e5; omega
    have b5 : Y5 ≤ 526344 := by clear d1 d2 d3 e0 e1 e2 e3 e4; omega
    have b4 : Y4 ≤ 134744072 := by clear d1 d2 d3 e0 e1 e2 e3; omega
    have b3 : Y3 ≤ 34494482440 := by clear d1 d2 d3 e0 e1 e2; omega
    have b2 : Y2 ≤ 8830587504648 := by clear d1 d2 d3 e0 e1; omega
    have b1 : Y1 ≤ 2260630401189896 := by clear d1 d2 d3 e0; omega
    have b0 : Y0 ≤ 578721382704613384 := by clear d1 d2 d3; omega
    clear d1 d2 d3 e0 e1 e2 e3 e4 e5 e6
    omega
  · rw [d1, d2, d3]
    have : Y0 + Y1 + (Y2 + Y3) + (Y4 + Y5 + Y6 + c7) = c0 + (c1 + (c2 + (c3 + (c4 + (c5 + (c6 + c7)))))) + 256 * (Y1 + Y2 + Y3 + Y4 + Y5 + Y6 + c7) := by clear d1 d2 d3 h0 h1 h2 h3 h4 h5 h6 h7; omega
    rw [this]
    generalize Y1 + Y2 + Y3 + Y4 + Y5 + Y6 + c7 = Z
    clear this d1 d2 d3 e0 e1 e2 e3 e4 e5 e6
    omega

theorem ones (x y1 y2 y3 : Nat) (e1 : (x / 2 &&& 6148914691236517205) + (x &&& 6148914691236517205) = y1) (e2 : (y1 / 4 &&& 3689348814741910323) + (y1 &&& 3689348814741910323) = y2)
    (e3 : (y2 / 16 + y2) &&& 1085102592571150095 = y3) :
    ∃ y4 y5 y6, y3 + y3 / 256 = y4 ∧ y4 + y4 / 65536 = y5 ∧ y5 + y5 / 4294967296 = y6 ∧ y6 < 9223372036854775808 ∧ y6 % 128 = Lib.popAux 64 x := by
  rw [three x y1 y2 e1 e2] at e3
  rw [pop_bytes]
  refine sums y3 _ _ _ _ _ _ _ _ _ _ _ _ _ _ (pop8_le _ (by omega)) (pop8_le _ (by omega)) (pop8_le _ (by omega)) (pop8_le _ (by omega)) (pop8_le _ (by omega)) (pop8_le _ (by omega)) (pop8_le _ (by omega)) (pop8_le _ (by omega)) (by rw [← e3]; rfl) rfl rfl rfl rfl rfl ?_
  simp only [bm, Nat.mul_zero, Nat.add_zero]
end Go.Proofs.YtiaibggbbkhjlaaDoor.B
namespace Go.Proofs.YtiaibggbbkhjlaaDoor.B
open Go.RowKit

theorem len_tab (q : Nat) (h : q < Lib.len8tab.size) : ((Lib.len8tab[q]'h).toNat : Int) = (Lib.bitLen q : Int) := by
  have h' : q < 256 := by rw [Lib.len8tab_size] at h; exact h
  have e := Lib.len8_eq ⟨q, h'⟩
  simp only [Lib.len8, Int.toNat_natCast, ByteArray.getElem?_lt' _ _ h, Option.getD_some] at e
  exact e

theorem len_part (a x : Int) (k s : Nat) (hs : Lib.bitLen x.toNat = k + Lib.bitLen s) (ha : a.toNat = s) (h : a.toNat < Lib.len8tab.size) (hk : k ≤ 56) :
    wrap64 (k + wrap64 ((Lib.len8tab[a.toNat]'h).toNat : Int)) = (Lib.bitLen x.toNat : Int) := by
  rw [len_tab]
  have l : Lib.bitLen a.toNat ≤ 8 := Lib.bitLen_le8 ⟨a.toNat, by rw [Lib.len8tab_size] at h; exact h⟩
  rw [ha] at l ⊢
  unfold wrap64
  omega

theorem len_whole (x : Int) (h : x.toNat < Lib.len8tab.size) : wrap64 (wrap64 ((Lib.len8tab[x.toNat]'h).toNat : Int)) = (Lib.bitLen x.toNat : Int) := by
  rw [len_tab]
  have l : Lib.bitLen x.toNat ≤ 8 := Lib.bitLen_le8 ⟨x.toNat, by rw [Lib.len8tab_size] at h; exact h⟩
  unfold wrap64
  omega

set_option maxHeartbeats 4000000 in
set_option maxRecDepth 100000 in
theorem len_any (x : Int) (w : World) (h0 : 0 ≤ x) (h1 : x ≤ 18446744073709551615) :
    Calls Tryd.prog 62 #[.int .u64 x] w fun e w' => e = .returned (.int .i64 (Lib.bitLen x.toNat)) ∧ w' = w := by
  go_enter Tryd.func62, Tryd.ntmps62
  go_wp2
  all_goals go_light
  all_goals first
    | (go_ret; refine ⟨congrArg Ending.returned (congrArg (Value.int IntKind.i64) ?_), rfl⟩)
    | (exfalso; have hs := Lib.len8tab_size; omega)
  · exact len_part _ x 56 _ (Lib.bitLen_shift56 x.toNat (by omega) (by omega)) (by omega) _ (by omega)
  · exact len_part _ x 48 _ (Lib.bitLen_shift48 x.toNat (by omega) (by omega)) (by omega) _ (by omega)
  · exact len_part _ x 40 _ (Lib.bitLen_shift40 x.toNat (by omega) (by omega)) (by omega) _ (by omega)
  · exact len_part _ x 32 _ (Lib.bitLen_shift32 x.toNat (by omega) (by omega)) (by omega) _ (by omega)
  · exact len_part _ x 24 _ (Lib.bitLen_shift24 x.toNat (by omega) (by omega)) (by omega) _ (by omega)
  · exact len_part _ x 16 _ (Lib.bitLen_shift16 x.toNat (by omega) (by omega)) (by omega) _ (by omega)
  · exact len_part _ x 8 _ (Lib.bitLen_shift8 x.toNat (by omega) (by omega)) (by omega) _ (by omega)
  · exact len_whole x _
end Go.Proofs.YtiaibggbbkhjlaaDoor.B
