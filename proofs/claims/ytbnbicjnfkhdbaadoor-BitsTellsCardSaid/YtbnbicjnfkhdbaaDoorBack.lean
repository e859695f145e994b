/-
  BitsBack answers true, at every set, where the table of the library lies in its variable.
-/
import Derived.Test.YtbnbicjnfkhdbaaDoorNext
namespace Go.Proofs.YtbnbicjnfkhdbaaDoor
open Go.RowKit

theorem all_sorted (x : Nat) : (all x).Pairwise (· < ·) := by
  unfold all mem
  rw [List.pairwise_map]
  refine List.Pairwise.imp ?_ (List.pairwise_lt_range.filter _)
  intro a b h
  omega

theorem all_rise (x i j : Nat) (hij : i < j) (hj : j < (all x).length) : (all x).getD i 0 < (all x).getD j 0 := by
  have h := List.pairwise_iff_getElem.1 (all_sorted x) i j (by omega) hj hij
  rw [List.getD_eq_getElem?_getD, List.getD_eq_getElem?_getD, List.getElem?_eq_getElem hj, List.getElem?_eq_getElem (by omega)]
  exact h

theorem all_in {x : Nat} {y : Int} : y ∈ all x ↔ ∃ k : Nat, y = (k : Int) ∧ k < 64 ∧ x.testBit k = true := by
  unfold all
  rw [List.mem_map]
  constructor
  · rintro ⟨k, hk, rfl⟩
    exact ⟨k, rfl, mem_iff.1 hk⟩
  · rintro ⟨k, rfl, hk⟩
    exact ⟨k, mem_iff.2 hk, rfl⟩

theorem all_fit (x i : Nat) (hi : i < (all x).length) : 0 ≤ (all x).getD i 0 ∧ (all x).getD i 0 ≤ 63 := by
  rw [List.getD_eq_getElem?_getD, List.getElem?_eq_getElem hi]
  obtain ⟨k, hk, hl, _⟩ := all_in.1 (List.getElem_mem hi)
  simp only [Option.getD_some]
  omega

theorem of_all (x : Nat) (hx : x < 18446744073709551616) : ofN (all x) = x := by
  refine same_bits (of_lt _) hx fun k hk => ?_
  rw [ofN, mk_bit, Bool.eq_iff_iff]
  simp [hk]
  rw [all_in]
  constructor
  · rintro ⟨j, hj, _, ht⟩
    have : k = j := by omega
    subst this
    exact ht
  · intro ht
    exact ⟨k, rfl, hk, ht⟩

theorem all_length (x : Nat) : (all x).length = (mem 64 x).length := by
  unfold all
  rw [List.length_map]

/-- where Next goes on, when the first i are gone through -/
def Gone (ys : List Int) (i : Nat) (A : Int) : Prop := (∀ j, j < i → ys.getD j 0 < A) ∧ ∀ j, i ≤ j → j < ys.length → A ≤ ys.getD j 0

theorem gone_none (x : Nat) : Gone (all x) 0 0 := ⟨fun j hj => absurd hj (by omega), fun j _ hj => (all_fit x j hj).1⟩
theorem gone_on (x i : Nat) (A : Int) (hi : i < (all x).length) (h : Gone (all x) i A) : Gone (all x) (i + 1) ((all x).getD i 0 + 1) := by
  refine ⟨fun j hj => ?_, fun j hij hj => ?_⟩
  · by_cases e : j = i
    · subst e; omega
    · have := all_rise x j i (by omega) hi
      omega
  · have := all_rise x i j (by omega) hj
    omega

theorem next_from (x : Nat) (hx : x < 18446744073709551616) (at_ : Int) (w : World) (hT : Tab w) :
    Calls Tryd.prog 12 #[.int .u64 x, .int .i64 at_] w fun e w' => e = .returned (.int .i64 (from_ (all x) at_)) ∧ w' = w := by
  rw [← from_all]; exact next_any x hx at_ w hT

theorem next_to (x : Nat) (hx : x < 18446744073709551616) (at_ n : Int) (hn : from_ (all x) at_ = n) (w : World) (hT : Tab w) :
    Calls Tryd.prog 12 #[.int .u64 x, .int .i64 at_] w fun e w' => e = .returned (.int .i64 n) ∧ w' = w := by
  rw [← hn]; exact next_from x hx at_ w hT

set_option maxRecDepth 100000 in
set_option maxHeartbeats 1000000 in
theorem back_law (x : Nat) (hx : x < 18446744073709551616) (w : World) (hT : Tab w) (h0 : 0 < w.heap.size) :
    Calls Tryd.prog 4 #[.int .u64 x] w (Yes w) := by
  have A := Lib.hid (awake_any w hT h0)
  have L := Lib.hid (list_any x hx)
  have N := Lib.hid (next_to x hx)
  have O := Lib.hid (of_all x hx)
  obtain ⟨len, hl⟩ : ∃ len : Nat, (all x).length = len := ⟨_, rfl⟩
  have C := Lib.hid (count_is x len hx ((all_length x).symm.trans hl))
  have hle := all_le x
  rw [hl] at L hle
  have HN := Lib.hid hl
  have HT := Lib.hid hT
  have H0 := Lib.hid h0
  clear hl hT h0
  go_enter Tryd.func4, Tryd.ntmps4
  go_wp2_with fail
  refine A.out.mono ?_
  rintro e w1 ⟨rfl, hB⟩
  have HT1 := Lib.hid (Tab.below HT.out H0.out hB)
  have H01 : Hid (0 < w1.heap.size) := Nat.lt_of_lt_of_le H0.out hB.size
  have HB := Lib.hid hB
  clear hB
  go_wp2_with fail
  refine (L.out w1 HT1.out H01.out).mono ?_
  rintro e w2 ⟨v, rfl, hown, _, hB⟩
  have HT2 := Lib.hid (Tab.below HT1.out H01.out hB)
  have HB2 := Lib.hid (HB.out.trans (hB.mono HB.out.size))
  have hr := reads_of_owns (xs := all x) (by rw [HN.out]; exact hown)
  have OF := Lib.hid (of_any v (all x) w2 hr (by rw [HN.out]; unfold maxLen; omega) (fun k hk => by have := all_fit x k hk; omega))
  rw [O.out] at OF
  clear hown hB
  rcases hr with ⟨p, c, rfl, he⟩ | ⟨b, off, c, rfl, hc⟩
  · have hl0 : len = 0 := by rw [← HN.out, he]; rfl
    have N0 := Lib.hid (N.out 0 (-1) (from_none _ _ (fun j hj => absurd hj (by rw [he]; simp))) w2 HT2.out)
    clear he
    subst hl0
    go_wp2
    go_loopw [4, 13] (fun a i wr => a = .int .i64 0 ∧ i = .int .i64 0 ∧ wr = w2) (fun _ _ _ => 0)
    case atStart => exact ⟨rfl, rfl, rfl⟩
    case round =>
      obtain ⟨rfl, rfl, rfl⟩ := hrel
      go_wp2_with fail
      refine N0.out.mono ?_
      rintro e w' ⟨rfl, rfl⟩
      go_wp2_with fail
      refine OF.out.mono ?_
      rintro e w' ⟨rfl, rfl⟩
      go_wp2_with fail
      refine (C.out _).mono ?_
      rintro e w' ⟨rfl, rfl⟩
      go_wp2_with fail
      go_ret
      exact ⟨rfl, HB2.out⟩
  · rw [HN.out] at OF ⊢
    have HC := Lib.hid hc
    clear hc
    go_wp2
    go_loopw [4, 13] (fun a i wr => ∃ (k : Nat) (z : Int), k ≤ len ∧ a = .int .i64 z ∧ i = .int .i64 k ∧ 0 ≤ z ∧ z ≤ 64 ∧ wr = w2 ∧ Hid (Gone (all x) k z)) (fun _ i _ => len - (intOf i).toNat)
    case atStart => exact ⟨0, 0, by omega, rfl, rfl, by omega, by omega, rfl, Lib.hid (gone_none x)⟩
    case round =>
      obtain ⟨k, z, hk, rfl, rfl, hz0, hz1, rfl, HG⟩ := hrel
      by_cases hlt : k < len
      · have hly : k < (all x).length := by have := HN.out; omega
        have cx := HC.out k hly
        have hf := all_fit x k hly
        have N1 := Lib.hid (N.out z _ (from_hit _ _ k hly HG.out.1 (HG.out.2 k (Nat.le_refl _) hly)) wr HT2.out)
        have G1 := Lib.hid (gone_on x k z hly HG.out)
        have hzk := HG.out.2 k (Nat.le_refl _) hly
        obtain ⟨y, ey⟩ : ∃ y, (all x).getD k 0 = y := ⟨_, rfl⟩
        rw [ey] at cx hf N1 G1 hzk
        obtain ⟨hf0, hf1⟩ := hf
        clear ey hly
        go_wp2_with fail
        refine N1.out.mono ?_
        rintro e w' ⟨rfl, rfl⟩
        go_wp2_with fail
        go_roundw
        case rel => exact ⟨k + 1, y + 1, by omega, rfl, by go_num, by omega, by omega, trivial, G1⟩
        case measure => simp [intOf]; omega
      · have N0 := Lib.hid (N.out z (-1) (from_none _ _ (fun j hj => HG.out.1 j (by have := HN.out; omega))) wr HT2.out)
        go_wp2_with fail
        refine N0.out.mono ?_
        rintro e w' ⟨rfl, rfl⟩
        go_wp2_with fail
        refine OF.out.mono ?_
        rintro e w' ⟨rfl, rfl⟩
        go_wp2_with fail
        refine (C.out _).mono ?_
        rintro e w' ⟨rfl, rfl⟩
        go_wp2_with fail
        go_ret
        exact ⟨rfl, HB2.out⟩
end Go.Proofs.YtbnbicjnfkhdbaaDoor
