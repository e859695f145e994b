/-
  What Values of the document's answers answers, at every right list of spans that can be read.
-/
import Derived.Test.YtnabkhmonmcmfaaDoorSOwn
namespace Go.Proofs.YtnabkhmonmcmfaaDoor
open Go.RowKit

theorem values_on {L : List (Int × Int)} {k : Nat} (h : k < L.length) : valuesL (L.drop k) = run (L.getD k (0, 0)).1 ((L.getD k (0, 0)).2 + 1 - (L.getD k (0, 0)).1).toNat ++ valuesL (L.drop (k + 1)) := by
  rw [drop_cons h, valuesL]

set_option maxRecDepth 100000 in
set_option maxHeartbeats 2000000 in
theorem values_cells (p : Option Addr) (b off c len : Nat) (L : List (Int × Int)) (hl : len = L.length) (w : World) (hm : len ≤ 1000000) (hp : 0 < len → p = some ⟨b, off, none⟩) (hx : Cells w b off L) (hr : rightL L = true) (ht : (valuesL L).length ≤ 100000) :
    Calls Tryd.prog 33 #[.slice p len c] w fun e w' => ∃ s, e = .returned s ∧ OwnsI w' w.heap.size s (valuesL L) ∧ Below w.heap.size w w' := by
  obtain ⟨i0, hi, hz0, hz1, hz2⟩ := info_parts info3
  have I := Lib.hid (And.intro hi (And.intro hz0 (And.intro hz1 hz2)))
  have HX := Lib.hid hx
  have HN := Lib.hid hl
  have HS := Lib.hid (rest_start hr)
  have HT := Lib.hid ht
  clear hx hl hi hz0 hz1 hz2 hr ht
  go_enter Tryd.func33, Tryd.ntmps33
  go_wp2
  go_loopw [3, 4] (fun out i wr => ∃ k : Nat, k ≤ len ∧ i = .int .i64 k ∧ ∃ xs, OwnsI wr w.heap.size out xs ∧ valuesL L = xs ++ valuesL (L.drop k) ∧ (∃ z, Rest L k z) ∧ Below w.heap.size w wr) (fun _ i _ => len - (intOf i).toNat)
  case atStart => exact ⟨0, by omega, rfl, [], World.ownsRow_made w #[] 0 (Nat.le_refl _) (by decide) rfl, rfl, ⟨_, HS.out⟩, (Below.refl _ w).alloc (Nat.le_refl _) _⟩
  case round =>
    obtain ⟨k, hk, rfl, xs, hown, hval, ⟨z, hrest⟩, hB⟩ := hrel
    by_cases hlt : k < len
    · obtain rfl := hp (by omega)
      have hlx : k < L.length := by have := HN.out; omega
      obtain ⟨c0, c1⟩ := HX.out k hlx
      have hon := values_on hlx
      obtain ⟨x, ex⟩ : ∃ x, x = (L.getD k (0, 0)).1 := ⟨_, rfl⟩
      obtain ⟨y, ey⟩ : ∃ y, y = (L.getD k (0, 0)).2 := ⟨_, rfl⟩
      obtain ⟨q4, g1, g2, g3, g4, g5⟩ := rest_on hrest hlx ex ey
      rw [← ex] at c0 hon
      rw [← ey] at c1 hon
      rw [hon] at hval
      obtain ⟨m, em⟩ : ∃ m, m = (y + 1 - x).toNat := ⟨_, rfl⟩
      rw [← em] at hval
      have hm1 : (m : Int) = y + 1 - x := by omega
      have hcap : xs.length + m ≤ 100000 := by
        have := HT.out
        rw [hval, List.length_append, List.length_append, run_length] at this
        omega
      have d0 := cell_below hB c0
      have HC0 := Lib.hid c0
      have HC1 := Lib.hid c1
      have HQ := Lib.hid q4
      have HV := Lib.hid hval
      have HO := Lib.hid hown
      have HB := Lib.hid hB
      clear ex ey hon hlx hrest hval hown hB em q4 c0 c1
      go_wp2
      go_loopw [3, 5] (fun out v wq => ∃ j : Nat, j ≤ m ∧ v = .int .i64 (x + j) ∧ OwnsI wq w.heap.size out (xs ++ run x j) ∧ Below w.heap.size w wq) (fun _ v _ => (y + 1 - intOf v).toNat)
      case atStart => exact ⟨0, by omega, by simp, by simpa [run] using HO.out, HB.out⟩
      case round =>
        obtain ⟨j, hj, rfl, hown, hB⟩ := hrel
        have c1 := cell_below hB HC1.out
        by_cases hjm : j < m
        · have hle : x + (j : Int) ≤ y := by omega
          have hsz := hB.size
          have hi := I.out.1
          have hz0 := I.out.2.1
          have hz1 := I.out.2.2.1
          have hz2 := I.out.2.2.2
          have hlen : (xs ++ run x j).length = xs.length + j := by rw [List.length_append, run_length]
          unfold OwnsI at hown
          rw [hlen] at hown
          have hmx : xs.length + j + 1 ≤ maxLen := by unfold maxLen; omega
          clear hlen
          go_wp2_with (at_builtin; refine wpList_append_own _ rfl _ _ 23 rfl w.heap.size 3 i0 (.int .i64 0) 1 8 Tryd.underlying23 hi hz0 hz1 hz2 rfl (by decide) _ _ _ rfl (hown.alloc _) ⟨wr.heap.size, 0, none⟩ 1 1 [.int .i64 (x + j)] rfl rfl (cells_one _ _ _) (by simp [Value.oneCell']) hmx (by omega) (by simp; omega) ?_; intro v' w1 hown' hgrow _)
          go_roundw
          case rel =>
            refine ⟨j + 1, by omega, by go_num, ?_, ?_⟩
            · unfold OwnsI
              rw [run_succ]
              simpa [run_length, Nat.add_assoc] using hown'
            · exact (hB.alloc hsz _).grown hgrow (by simp; omega) (fun j e => (hown.lt j e).1)
          case measure => simp [intOf]; omega
        · obtain rfl : j = m := by omega
          have hgt : y < x + (j : Int) := by omega
          have HO2 := Lib.hid hown
          have HB2 := Lib.hid hB
          clear hown hB
          go_wp2_with fail
          go_roundw
          case rel => exact ⟨k + 1, by omega, by go_num, _, HO2.out, by rw [HV.out, List.append_assoc], ⟨_, HQ.out⟩, HB2.out⟩
          case measure => simp [intOf]; omega
    · have hd : L.drop k = [] := drop_end (by have := HN.out; omega)
      have key : valuesL L = xs := by rw [hval, hd, valuesL, List.append_nil]
      rw [← key] at hown
      have HB := Lib.hid hB
      have HO := Lib.hid hown
      clear hval hd hB hown key hrest hp
      go_wp2
      go_ret
      exact ⟨_, rfl, HO.out, HB.out⟩

theorem values_any {w : World} {v : Value} {L : List (Int × Int)} (h : Sees w v L) (hm : L.length ≤ 1000000) (hr : rightL L = true) (ht : sizeL L ≤ 100000) :
    Calls Tryd.prog 33 #[v] w fun e w' => ∃ s, e = .returned s ∧ OwnsI w' w.heap.size s (valuesL L) ∧ Below w.heap.size w w' := by
  obtain ⟨p, b, off, c, rfl, hp, hx⟩ := h
  exact values_cells p b off c _ L rfl w hm hp hx hr (by have := values_length hr; omega)
end Go.Proofs.YtnabkhmonmcmfaaDoor
