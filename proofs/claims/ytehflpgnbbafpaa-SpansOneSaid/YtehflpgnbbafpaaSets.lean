/-
  What Union, Meet and Less of the program answer, and Values of the document's answers, and few, at every list of spans that can be read.
-/
import Derived.Test.YtehflpgnbbafpaaThru
namespace Go.Proofs.Ytehflpgnbbafpaa
open Go.RowKit

theorem thru_returned {keep : Bool → Bool → Bool} {base : Nat} {A B : List (Int × Int)} {e : Ending} {w' : World} (h : ThruPost keep base A B e w') : ∃ s, e = .returned s := by
  rcases h with ⟨_, h⟩ | ⟨_, _, s, L, h, _⟩
  · exact ⟨_, h⟩
  · exact ⟨_, h⟩

section
variable {w : World} {va vb : Value} {A B : List (Int × Int)} (sa : Sees w va A) (sb : Sees w vb B) (ma : A.length ≤ 100000) (mb : B.length ≤ 100000)
include sa sb ma mb

set_option maxHeartbeats 400000 in
theorem union_any : Calls Try.prog 19 #[va, vb] w fun e w' => ThruPost keepU w.heap.size A B e w' ∧ Below w.heap.size w w' := by
  have C := Lib.hid (thru_any 28 (enters_of Try.func28 (by kernel_rfl) rfl) keepU rfl keepU_any sa sb ma mb)
  clear sa sb
  go_enter Try.func19, Try.ntmps19
  go_wp2_with fail
  refine C.out.mono ?_
  rintro e w' ⟨h, hB⟩
  obtain ⟨s, rfl⟩ := thru_returned h
  have H := Lib.hid (And.intro h hB)
  clear h hB
  go_wp2_with fail
  go_ret
  exact H.out

set_option maxHeartbeats 400000 in
theorem meet_any : Calls Try.prog 20 #[va, vb] w fun e w' => ThruPost keepM w.heap.size A B e w' ∧ Below w.heap.size w w' := by
  have C := Lib.hid (thru_any 29 (enters_of Try.func29 (by kernel_rfl) rfl) keepM rfl keepM_any sa sb ma mb)
  clear sa sb
  go_enter Try.func20, Try.ntmps20
  go_wp2_with fail
  refine C.out.mono ?_
  rintro e w' ⟨h, hB⟩
  obtain ⟨s, rfl⟩ := thru_returned h
  have H := Lib.hid (And.intro h hB)
  clear h hB
  go_wp2_with fail
  go_ret
  exact H.out

set_option maxHeartbeats 400000 in
theorem less_any : Calls Try.prog 21 #[va, vb] w fun e w' => ThruPost keepD w.heap.size A B e w' ∧ Below w.heap.size w w' := by
  have C := Lib.hid (thru_any 30 (enters_of Try.func30 (by kernel_rfl) rfl) keepD rfl keepD_any sa sb ma mb)
  clear sa sb
  go_enter Try.func21, Try.ntmps21
  go_wp2_with fail
  refine C.out.mono ?_
  rintro e w' ⟨h, hB⟩
  obtain ⟨s, rfl⟩ := thru_returned h
  have H := Lib.hid (And.intro h hB)
  clear h hB
  go_wp2_with fail
  go_ret
  exact H.out
end

def fewL (L : List (Int × Int)) : Bool := rightL L && decide (sizeL L ≤ 400)
set_option maxHeartbeats 400000 in
theorem few_any {w : World} {v : Value} {L : List (Int × Int)} (h : Sees w v L) (hm : L.length ≤ 1000000) :
    Calls Try.prog 22 #[v] w fun e w' => e = .returned (.bool (fewL L)) ∧ Below w.heap.size w w' := by
  have C := Lib.hid (rright_any h hm)
  have D := Lib.hid (fun wr (hb : Below w.heap.size w wr) => rsize_any (sees_below h hb) hm)
  unfold fewL
  cases hR : rightL L
  · rw [hR] at C
    clear h
    go_enter Try.func22, Try.ntmps22
    go_wp2_with fail
    refine C.out.mono ?_
    rintro e w1 ⟨rfl, hB⟩
    have HB := Lib.hid hB
    clear hB
    go_wp2_with fail
    go_ret
    exact ⟨rfl, HB.out⟩
  · rw [hR] at C
    rw [hR, if_pos rfl] at D
    generalize sizeL L = n at D ⊢
    clear h
    go_enter Try.func22, Try.ntmps22
    go_wp2_with fail
    refine C.out.mono ?_
    rintro e w1 ⟨rfl, hB⟩
    have HB := Lib.hid hB
    clear hB
    go_wp2_with fail
    refine (D.out _ HB.out).mono ?_
    rintro e w2 ⟨rfl, hB2⟩
    have HB2 := Lib.hid (below_two HB.out hB2)
    clear hB2
    go_wp2_with fail
    go_ret
    exact ⟨by simp, HB2.out⟩

theorem values_on {L : List (Int × Int)} {k : Nat} (h : k < L.length) : valuesL (L.drop k) = run (L.getD k (0, 0)).1 ((L.getD k (0, 0)).2 + 1 - (L.getD k (0, 0)).1).toNat ++ valuesL (L.drop (k + 1)) := by
  rw [drop_cons h, valuesL]

set_option maxRecDepth 100000 in
set_option maxHeartbeats 2000000 in
theorem values_cells (p : Option Addr) (b off c len : Nat) (L : List (Int × Int)) (hl : len = L.length) (w : World) (hm : len ≤ 1000000) (hp : 0 < len → p = some ⟨b, off, none⟩) (hx : Cells w b off L) (hr : rightL L = true) (ht : (valuesL L).length ≤ 100000) :
    Calls Try.prog 23 #[.slice p len c] w fun e w' => ∃ s, e = .returned s ∧ OwnsI w' w.heap.size s (valuesL L) ∧ Below w.heap.size w w' := by
  obtain ⟨i0, hi, hz0, hz1, hz2⟩ := info_parts info3
  have I := Lib.hid (And.intro hi (And.intro hz0 (And.intro hz1 hz2)))
  have HX := Lib.hid hx
  have HN := Lib.hid hl
  have HS := Lib.hid (rest_start hr)
  have HT := Lib.hid ht
  clear hx hl hi hz0 hz1 hz2 hr ht
  go_enter Try.func23, Try.ntmps23
  go_wp2
  go_loopw [3, 4] (fun out i wr => ∃ k : Nat, k ≤ len ∧ i = .int .i64 k ∧ ∃ xs, OwnsI wr w.heap.size out xs ∧ valuesL L = xs ++ valuesL (L.drop k) ∧ (∃ z, Rest L k z) ∧ Below w.heap.size w wr) (fun _ i _ => len - (intOf i).toNat)
  case atStart => exact ⟨0, by omega, rfl, [], World.ownsRow_made w #[] 0 (Nat.le_refl _) (by decide) rfl, rfl, ⟨_, HS.out⟩, (Below.refl _ w).alloc (Nat.le_refl _) _⟩
  case round =>
    obtain ⟨k, hk, rfl, xs, hown, hval, ⟨z, hrest⟩, hB⟩ := hrel
    by_cases hlt : k < len
    · obtain rfl := hp (by omega)
      have hlx : k < L.length := by have := HN.out; omega
      obtain ⟨c0, c1⟩ := HX.out k hlx
      have hon := values_on hlx
      obtain ⟨x, ex⟩ : ∃ x, x = (L.getD k (0, 0)).1 := ⟨_, rfl⟩
      obtain ⟨y, ey⟩ : ∃ y, y = (L.getD k (0, 0)).2 := ⟨_, rfl⟩
      obtain ⟨q4, g1, g2, g3, g4, g5⟩ := rest_on hrest hlx ex ey
      rw [← ex] at c0 hon
      rw [← ey] at c1 hon
      rw [hon] at hval
      obtain ⟨m, em⟩ : ∃ m, m = (y + 1 - x).toNat := ⟨_, rfl⟩
      rw [← em] at hval
      have hm1 : (m : Int) = y + 1 - x := by omega
      have hcap : xs.length + m ≤ 100000 := by
        have := HT.out
        rw [hval, List.length_append, List.length_append, run_length] at this
        omega
      have d0 := cell_below hB c0
      have HC0 := Lib.hid c0
      have HC1 := Lib.hid c1
      have HQ := Lib.hid q4
      have HV := Lib.hid hval
      have HO := Lib.hid hown
      have HB := Lib.hid hB
      clear ex ey hon hlx hrest hval hown hB em q4 c0 c1
      go_wp2
      go_loopw [3, 5] (fun out v wq => ∃ j : Nat, j ≤ m ∧ v = .int .i64 (x + j) ∧ OwnsI wq w.heap.size out (xs ++ run x j) ∧ Below w.heap.size w wq) (fun _ v _ => (y + 1 - intOf v).toNat)
      case atStart => exact ⟨0, by omega, by simp, by simpa [run] using HO.out, HB.out⟩
      case round =>
        obtain ⟨j, hj, rfl, hown, hB⟩ := hrel
        have c1 := cell_below hB HC1.out
        by_cases hjm : j < m
        · have hle : x + (j : Int) ≤ y := by omega
          have hsz := hB.size
          have hi := I.out.1
          have hz0 := I.out.2.1
          have hz1 := I.out.2.2.1
          have hz2 := I.out.2.2.2
          have hlen : (xs ++ run x j).length = xs.length + j := by rw [List.length_append, run_length]
          unfold OwnsI at hown
          rw [hlen] at hown
          have hmx : xs.length + j + 1 ≤ maxLen := by unfold maxLen; omega
          clear hlen
          go_wp2_with (at_builtin; refine wpList_append_own _ rfl _ _ 23 rfl w.heap.size 3 i0 (.int .i64 0) 1 8 Try.underlying23 hi hz0 hz1 hz2 rfl (by decide) _ _ _ rfl (hown.alloc _) ⟨wr.heap.size, 0, none⟩ 1 1 [.int .i64 (x + j)] rfl rfl (cells_one _ _ _) (by simp [Value.oneCell']) hmx (by omega) (by simp; omega) ?_; intro v' w1 hown' hgrow _)
          go_roundw
          case rel =>
            refine ⟨j + 1, by omega, by go_num, ?_, ?_⟩
            · unfold OwnsI
              rw [run_succ]
              simpa [run_length, Nat.add_assoc] using hown'
            · exact (hB.alloc hsz _).grown hgrow (by simp; omega) (fun j e => (hown.lt j e).1)
          case measure => simp [intOf]; omega
        · obtain rfl : j = m := by omega
          have hgt : y < x + (j : Int) := by omega
          have HO2 := Lib.hid hown
          have HB2 := Lib.hid hB
          clear hown hB
          go_wp2_with fail
          go_roundw
          case rel => exact ⟨k + 1, by omega, by go_num, _, HO2.out, by rw [HV.out, List.append_assoc], ⟨_, HQ.out⟩, HB2.out⟩
          case measure => simp [intOf]; omega
    · have hd : L.drop k = [] := drop_end (by have := HN.out; omega)
      have key : valuesL L = xs := by rw [hval, hd, valuesL, List.append_nil]
      rw [← key] at hown
      have HB := Lib.hid hB
      have HO := Lib.hid hown
      clear hval hd hB hown key hrest hp
      go_wp2
      go_ret
      exact ⟨_, rfl, HO.out, HB.out⟩

theorem values_any {w : World} {v : Value} {L : List (Int × Int)} (h : Sees w v L) (hm : L.length ≤ 1000000) (hr : rightL L = true) (ht : sizeL L ≤ 100000) :
    Calls Try.prog 23 #[v] w fun e w' => ∃ s, e = .returned s ∧ OwnsI w' w.heap.size s (valuesL L) ∧ Below w.heap.size w w' := by
  obtain ⟨p, b, off, c, rfl, hp, hx⟩ := h
  exact values_cells p b off c _ L rfl w hm hp hx hr (by have := values_length hr; omega)
end Go.Proofs.Ytehflpgnbbafpaa
