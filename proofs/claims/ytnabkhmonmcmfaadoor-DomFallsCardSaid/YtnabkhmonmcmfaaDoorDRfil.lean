/-
  What Between and Less of the document's answers answer: those of a list of which something is true.
-/
import Derived.Test.YtnabkhmonmcmfaaDoorDRlist
namespace Go.Proofs.YtnabkhmonmcmfaaDoor
open Go.RowKit

theorem fil_hit {p : Int → Bool} {ys : List Int} {k : Nat} (h : k < ys.length) (hp : p (ys.getD k 0) = true) : (ys.take (k + 1)).filter p = (ys.take k).filter p ++ [ys.getD k 0] := by
  rw [List.take_add_one, List.getElem?_eq_getElem h, List.filter_append]
  have e : ys.getD k 0 = ys[k] := by simp [h]
  rw [e] at hp ⊢
  simp [hp]
theorem fil_miss {p : Int → Bool} {ys : List Int} {k : Nat} (h : k < ys.length) (hp : p (ys.getD k 0) = false) : (ys.take (k + 1)).filter p = (ys.take k).filter p := by
  rw [List.take_add_one, List.getElem?_eq_getElem h, List.filter_append]
  have e : ys.getD k 0 = ys[k] := by simp [h]
  rw [e] at hp
  simp [hp]
theorem fil_le (p : Int → Bool) (ys : List Int) (k : Nat) : ((ys.take k).filter p).length ≤ k :=
  Nat.le_trans (List.length_filter_le _ _) (by simp; omega)

set_option maxRecDepth 100000 in
set_option maxHeartbeats 4000000 in
theorem rbetweenL_any {w : World} {v : Value} {ys : List Int} (hr : Reads w v ys) (hm : ys.length ≤ 100000) (low high : Int) :
    Calls Tryd.prog 20 #[v, .int .i64 low, .int .i64 high] w fun e w' => ∃ r, e = .returned r ∧ OwnsI w' w.heap.size r (ys.filter (fun z => decide (low ≤ z) && decide (z ≤ high))) ∧ Below w.heap.size w w' := by
  obtain ⟨p, b, off, c, rfl, hp, hc⟩ := reads_shape hr
  have O0 := Lib.hid (show OwnsI (w.alloc (.cells #[] 3)) w.heap.size (.slice (some ⟨w.heap.size, 0, none⟩) 0 0) [] from World.ownsRow_made w #[] 0 (Nat.le_refl _) (by decide) rfl)
  have HX := Lib.hid hc
  have HB := Lib.hid (below_alloc0 w (.cells #[] 3))
  obtain ⟨i0, hi, hz0, hz1, hz2⟩ := info_parts info3
  have I := Lib.hid (And.intro hi (And.intro hz0 (And.intro hz1 hz2)))
  obtain ⟨len, hlen⟩ : ∃ len : Nat, len = ys.length := ⟨_, rfl⟩
  rw [← hlen] at hp hm ⊢
  have HN := Lib.hid hlen
  obtain ⟨P, hP⟩ : ∃ P : Int → Bool, P = (fun z => decide (low ≤ z) && decide (z ≤ high)) := ⟨_, rfl⟩
  rw [← hP]
  have HP := Lib.hid hP
  clear hr hc hi hz0 hz1 hz2 hlen hP
  go_enter Tryd.func20, Tryd.ntmps20
  go_wp2_with fail
  go_loopw [7, 8] (fun out i wr => ∃ k : Nat, k ≤ len ∧ i = .int .i64 k ∧ OwnsI wr w.heap.size out ((ys.take k).filter P) ∧ Below w.heap.size w wr) (fun _ i _ => len - (intOf i).toNat)
  case atStart => exact ⟨0, by omega, rfl, by simpa [OwnsI] using O0.out, HB.out⟩
  case round =>
    obtain ⟨k, hk, rfl, hown, hB⟩ := hrel
    by_cases hlt : k < len
    · obtain rfl := hp (by omega)
      have hlx : k < ys.length := by have := HN.out; omega
      have cx := cell_below hB (HX.out k hlx)
      have hit := fil_hit (p := P) hlx
      have miss := fil_miss (p := P) hlx
      have hle := fil_le P ys k
      obtain ⟨z, ez⟩ : ∃ z, z = ys.getD k 0 := ⟨_, rfl⟩
      rw [← ez] at cx hit miss
      have HIT := Lib.hid hit
      have MISS := Lib.hid miss
      have hsz := hB.size
      have hmx : ((ys.take k).filter P).length + 1 ≤ maxLen := by unfold maxLen; omega
      have d5 : (k : Int) < (len : Int) := by omega
      clear ez hit miss hlx
      by_cases h1 : low ≤ z
      · by_cases h2 : z ≤ high
        · have hi := I.out.1
          have hz0 := I.out.2.1
          have hz1 := I.out.2.2.1
          have hz2 := I.out.2.2.2
          have hp1 : P z = true := by rw [HP.out]; simp; omega
          have HQ := Lib.hid (HIT.out hp1)
          clear hp1
          go_wp2_with (at_builtin; refine wpList_append_own _ rfl _ _ 23 rfl w.heap.size 3 i0 (.int .i64 0) 1 8 Tryd.underlying23 hi hz0 hz1 hz2 rfl (by decide) _ _ _ rfl (hown.alloc _) ⟨wr.heap.size, 0, none⟩ 1 1 [.int .i64 z] rfl rfl (cells_one _ _ _) (by simp [Value.oneCell']) hmx (by omega) (by simp; omega) ?_; intro v' w3 hown' hgrow _)
          go_roundw
          case rel =>
            refine ⟨k + 1, by omega, by go_num, ?_, (hB.alloc hsz _).grown hgrow (by simp; omega) (fun j e => (hown.lt j e).1)⟩
            rw [HQ.out]
            unfold OwnsI
            simpa using hown'
          case measure => simp [intOf]; omega
        · have hp1 : P z = false := by rw [HP.out]; simp; omega
          have HQ := Lib.hid (MISS.out hp1)
          have HOO := Lib.hid hown
          have HBB := Lib.hid hB
          clear hown hB hp1
          go_wp2_with fail
          go_roundw
          case rel => exact ⟨k + 1, by omega, by go_num, by rw [HQ.out]; exact HOO.out, HBB.out⟩
          case measure => simp [intOf]; omega
      · have hp1 : P z = false := by rw [HP.out]; simp; omega
        have HQ := Lib.hid (MISS.out hp1)
        have HOO := Lib.hid hown
        have HBB := Lib.hid hB
        clear hown hB hp1
        go_wp2_with fail
        go_roundw
        case rel => exact ⟨k + 1, by omega, by go_num, by rw [HQ.out]; exact HOO.out, HBB.out⟩
        case measure => simp [intOf]; omega
    · have hkz : ys.take k = ys := List.take_of_length_le (by have := HN.out; omega)
      rw [hkz] at hown
      have HOO := Lib.hid hown
      have HBB := Lib.hid hB
      clear hown hB hkz hp
      go_wp2_with fail
      go_ret
      exact ⟨_, rfl, HOO.out, HBB.out⟩

set_option maxRecDepth 100000 in
set_option maxHeartbeats 4000000 in
theorem rlessL_any {w : World} {v : Value} {ys : List Int} (hr : Reads w v ys) (hm : ys.length ≤ 100000) (y : Int) :
    Calls Tryd.prog 27 #[v, .int .i64 y] w fun e w' => ∃ r, e = .returned r ∧ OwnsI w' w.heap.size r (ys.filter (fun z => !decide (z = y))) ∧ Below w.heap.size w w' := by
  obtain ⟨p, b, off, c, rfl, hp, hc⟩ := reads_shape hr
  have O0 := Lib.hid (show OwnsI (w.alloc (.cells #[] 3)) w.heap.size (.slice (some ⟨w.heap.size, 0, none⟩) 0 0) [] from World.ownsRow_made w #[] 0 (Nat.le_refl _) (by decide) rfl)
  have HX := Lib.hid hc
  have HB := Lib.hid (below_alloc0 w (.cells #[] 3))
  obtain ⟨i0, hi, hz0, hz1, hz2⟩ := info_parts info3
  have I := Lib.hid (And.intro hi (And.intro hz0 (And.intro hz1 hz2)))
  obtain ⟨len, hlen⟩ : ∃ len : Nat, len = ys.length := ⟨_, rfl⟩
  rw [← hlen] at hp hm ⊢
  have HN := Lib.hid hlen
  obtain ⟨P, hP⟩ : ∃ P : Int → Bool, P = (fun z => !decide (z = y)) := ⟨_, rfl⟩
  rw [← hP]
  have HP := Lib.hid hP
  clear hr hc hi hz0 hz1 hz2 hlen hP
  go_enter Tryd.func27, Tryd.ntmps27
  go_wp2_with fail
  go_loopw [5, 6] (fun out i wr => ∃ k : Nat, k ≤ len ∧ i = .int .i64 k ∧ OwnsI wr w.heap.size out ((ys.take k).filter P) ∧ Below w.heap.size w wr) (fun _ i _ => len - (intOf i).toNat)
  case atStart => exact ⟨0, by omega, rfl, by simpa [OwnsI] using O0.out, HB.out⟩
  case round =>
    obtain ⟨k, hk, rfl, hown, hB⟩ := hrel
    by_cases hlt : k < len
    · obtain rfl := hp (by omega)
      have hlx : k < ys.length := by have := HN.out; omega
      have cx := cell_below hB (HX.out k hlx)
      have hit := fil_hit (p := P) hlx
      have miss := fil_miss (p := P) hlx
      have hle := fil_le P ys k
      obtain ⟨z, ez⟩ : ∃ z, z = ys.getD k 0 := ⟨_, rfl⟩
      rw [← ez] at cx hit miss
      have HIT := Lib.hid hit
      have MISS := Lib.hid miss
      have hsz := hB.size
      have hmx : ((ys.take k).filter P).length + 1 ≤ maxLen := by unfold maxLen; omega
      have d5 : (k : Int) < (len : Int) := by omega
      clear ez hit miss hlx
      by_cases h1 : z = y
      · subst h1
        have hp1 : P z = false := by rw [HP.out]; simp
        have HQ := Lib.hid (MISS.out hp1)
        have HOO := Lib.hid hown
        have HBB := Lib.hid hB
        clear hown hB hp1
        go_wp2_with fail
        go_roundw
        case rel => exact ⟨k + 1, by omega, by go_num, by rw [HQ.out]; exact HOO.out, HBB.out⟩
        case measure => simp [intOf]; omega
      · have d6 : (z == y) = false := by rw [beq_eq_false_iff_ne]; exact h1
        have hi := I.out.1
        have hz0 := I.out.2.1
        have hz1 := I.out.2.2.1
        have hz2 := I.out.2.2.2
        have hp1 : P z = true := by rw [HP.out]; simp; omega
        have HQ := Lib.hid (HIT.out hp1)
        clear hp1
        go_wp2_with (at_builtin; refine wpList_append_own _ rfl _ _ 23 rfl w.heap.size 3 i0 (.int .i64 0) 1 8 Tryd.underlying23 hi hz0 hz1 hz2 rfl (by decide) _ _ _ rfl (hown.alloc _) ⟨wr.heap.size, 0, none⟩ 1 1 [.int .i64 z] rfl rfl (cells_one _ _ _) (by simp [Value.oneCell']) hmx (by omega) (by simp; omega) ?_; intro v' w3 hown' hgrow _)
        go_roundw
        case rel =>
          refine ⟨k + 1, by omega, by go_num, ?_, (hB.alloc hsz _).grown hgrow (by simp; omega) (fun j e => (hown.lt j e).1)⟩
          rw [HQ.out]
          unfold OwnsI
          simpa using hown'
        case measure => simp [intOf]; omega
    · have hkz : ys.take k = ys := List.take_of_length_le (by have := HN.out; omega)
      rw [hkz] at hown
      have HOO := Lib.hid hown
      have HBB := Lib.hid hB
      clear hown hB hkz hp
      go_wp2_with fail
      go_ret
      exact ⟨_, rfl, HOO.out, HBB.out⟩
end Go.Proofs.YtnabkhmonmcmfaaDoor
