/-
  What Right, In, Size, Place and Same of the document's answers answer, at every list of spans that can be read.
-/
import Derived.Test.YthoakeekfajhaaaSLeaf
import Derived.Test.YthoakeekfajhaaaMAlike
namespace Go.Proofs.Ythoakeekfajhaaa
open Go.RowKit


/-- as RightRel, with the last end -/
def RRel (L : List (Int × Int)) (k : Nat) : Prop :=
  ∃ z, RightRel L k z ∧ (k = 0 ∧ z = -1048576 ∨ 0 < k ∧ z = (L.getD (k - 1) (0, 0)).2 + 2)

set_option maxHeartbeats 1000000 in
theorem rright_cells (p : Option Addr) (b off c len : Nat) (L : List (Int × Int)) (hl : len = L.length) (w : World) (hm : len ≤ 1000000) (hp : 0 < len → p = some ⟨b, off, none⟩) (hx : Cells w b off L) :
    Calls Try.prog 51 #[.slice p len c] w fun e w' => e = .returned (.bool (rightL L)) ∧ Below w.heap.size w w' := by
  have HX := Lib.hid hx
  have HN := Lib.hid hl
  have HS := Lib.hid (show RRel L 0 from ⟨_, ⟨rfl, by omega, by omega⟩, .inl ⟨rfl, rfl⟩⟩)
  obtain ⟨R, hR⟩ : ∃ R, R = rightL L := ⟨_, rfl⟩
  rw [← hR]
  have HR := Lib.hid hR
  clear hx hl hR
  go_enter Try.func51, Try.ntmps51
  go_wp2
  go_loopw [3] (fun i wr => ∃ k : Nat, k ≤ len ∧ i = .int .i64 k ∧ RRel L k ∧ Below w.heap.size w wr) (fun i _ => len - (intOf i).toNat)
  case atStart => exact ⟨0, by omega, rfl, HS.out, Below.refl _ w⟩
  case round =>
    obtain ⟨k, hk, rfl, hrel, hB⟩ := hrel
    by_cases hlt : k < len
    · obtain rfl := hp (by omega)
      have hlx : k < L.length := by have := HN.out; omega
      obtain ⟨c0, c1⟩ := HX.out k hlx
      have c0 := cell_below hB c0
      have c1 := cell_below hB c1
      have hd := drop_cons hlx
      obtain ⟨x, ex⟩ : ∃ x, x = (L.getD k (0, 0)).1 := ⟨_, rfl⟩
      obtain ⟨y, ey⟩ : ∃ y, y = (L.getD k (0, 0)).2 := ⟨_, rfl⟩
      rw [← ex] at c0
      rw [← ey] at c1
      obtain ⟨z, hz, hz2⟩ := hrel
      have key : rightL L = (decide (z ≤ x) && decide (x ≤ y) && decide (y ≤ 1048576) && rightF (y + 2) (L.drop (k + 1))) := by
        rw [hz.1, hd, rightF, ex, ey]
      have HK := Lib.hid key
      have hzz := hz.2
      have HB := Lib.hid (fun n => below_drewN (n := n) hB)
      have HY := Lib.hid ey
      by_cases h1 : x < -1048576
      · clear ex ey hd hlx hB hz key hz2
        go_wp2
        go_quiet (fail)
        go_wp2_with fail
        go_ret
        exact ⟨by rw [HR.out, HK.out, decide_eq_false (by omega)]; rfl, HB.out _⟩
      · have d1 : decide (x < -1048576) = false := decide_eq_false h1
        by_cases h2 : 1048576 < y
        · clear ex ey hd hlx hB hz key hz2
          go_wp2
          go_quiet (fail)
          go_wp2_with fail
          go_ret
          exact ⟨by rw [HR.out, HK.out, decide_eq_false (p := y ≤ 1048576) (by omega)]; simp, HB.out _⟩
        · have d2 : decide (1048576 < y) = false := decide_eq_false h2
          by_cases h3 : y < x
          · clear ex ey hd hlx hB hz key hz2
            go_wp2
            go_quiet (fail)
            go_wp2_with fail
            go_ret
            exact ⟨by rw [HR.out, HK.out, decide_eq_false (p := x ≤ y) (by omega)]; simp, HB.out _⟩
          · have d3 : decide (y < x) = false := decide_eq_false h3
            have ky : ∀ (h : z ≤ x), RRel L (k + 1) := fun h => ⟨y + 2, ⟨by rw [HK.out, decide_eq_true h, decide_eq_true (p := x ≤ y) (by omega), decide_eq_true (p := y ≤ 1048576) (by omega)]; simp, by omega, by omega⟩, .inr ⟨by omega, by rw [ey]; simp⟩⟩
            have KY := Lib.hid ky
            cases k with
            | zero =>
              have hz0 : z ≤ x := by omega
              have d4 : decide ((0 : Int) < ((0 : Nat) : Int)) = false := rfl
              have d5 : (0 : Int) < (len : Int) := by omega
              have c0 : wr.cell? ⟨b, off, none⟩ = some (.int .i64 x) := by simpa using c0
              have c1 : wr.cell? ⟨b, off + 1, none⟩ = some (.int .i64 y) := by simpa using c1
              clear ex ey hd hlx hB hz key hz2 ky
              go_wp2
              go_quiet (fail)
              go_wp2
              go_quiet (fail)
              go_wp2_with fail
              go_roundw
              case rel => exact ⟨0 + 1, by omega, by go_num, KY.out hz0, HB.out _⟩
              case measure => simp [intOf]; omega
            | succ j =>
              have e1 : z = (L.getD j (0, 0)).2 + 2 := by
                rcases hz2 with h | h
                · omega
                · simpa using h.2
              have c2 := cell_below hB (HX.out j (by omega)).2
              obtain ⟨t, et⟩ : ∃ t, t = (L.getD j (0, 0)).2 := ⟨_, rfl⟩
              rw [← et] at c2 e1
              have d4 : (0 : Int) < ((j + 1 : Nat) : Int) := by omega
              have d5 : (j : Int) < (len : Int) := by omega
              by_cases h4 : x - t < 2
              · clear ex ey hd hlx hB hz key hz2 ky et
                go_wp2
                go_quiet (fail)
                go_wp2
                go_quiet (fail)
                go_wp2_with fail
                go_ret
                exact ⟨by rw [HR.out, HK.out, decide_eq_false (by omega)]; rfl, below_drewN (HB.out _)⟩
              · have d6 : decide (x - t < 2) = false := decide_eq_false h4
                clear ex ey hd hlx hB hz key hz2 ky et
                go_wp2
                go_quiet (fail)
                go_wp2
                go_quiet (fail)
                go_wp2_with fail
                go_roundw
                case rel => exact ⟨j + 1 + 1, by omega, by go_num, KY.out (by omega), HB.out _⟩
                case measure => simp [intOf]; omega
    · obtain ⟨z, hz, _⟩ := hrel
      have hd : L.drop k = [] := drop_end (by have := HN.out; omega)
      have key : rightL L = true := by rw [hz.1, hd]; rfl
      have HK := Lib.hid key
      have HB := Lib.hid hB
      clear hz hB key hd hp
      go_wp2
      go_ret
      exact ⟨by rw [HR.out, HK.out]; rfl, HB.out⟩

theorem rright_any {w : World} {v : Value} {L : List (Int × Int)} (h : Sees w v L) (hm : L.length ≤ 1000000) :
    Calls Try.prog 51 #[v] w fun e w' => e = .returned (.bool (rightL L)) ∧ Below w.heap.size w w' := by
  obtain ⟨p, b, off, c, rfl, hp, hx⟩ := h
  exact rright_cells p b off c _ L rfl w hm hp hx

set_option maxHeartbeats 1000000 in
theorem rsize_cells (p : Option Addr) (b off c len : Nat) (L : List (Int × Int)) (hl : len = L.length) (w : World) (hm : len ≤ 1000000) (hp : 0 < len → p = some ⟨b, off, none⟩) (hx : Cells w b off L) :
    Calls Try.prog 27 #[.slice p len c] w fun e w' => e = .returned (.int .i64 (if rightL L = true then sizeL L else 0)) ∧ Below w.heap.size w w' := by
  have hc : ∀ wr, Below w.heap.size w wr → Calls Try.prog 51 #[.slice p len c] wr fun e w' => e = .returned (.bool (rightL L)) ∧ Below wr.heap.size wr w' := fun wr h => rright_cells p b off c len L hl wr hm hp (cells_below hx h)
  by_cases h0 : len = 0
  · have e0 : L = [] := List.eq_nil_of_length_eq_zero (by omega)
    subst e0 h0
    clear hc hp hx hl
    go_enter Try.func27, Try.ntmps27
    go_wp2
    go_loopw [3, 4] (fun a i wr => a = .int .i64 0 ∧ i = .int .i64 0 ∧ wr = w) (fun _ _ _ => 0)
    case atStart => exact ⟨rfl, rfl, rfl⟩
    case round =>
      obtain ⟨rfl, rfl, rfl⟩ := hrel
      go_wp2_with fail
      go_ret
      exact ⟨rfl, Below.refl _ _⟩
  · cases hR : rightL L
    · rw [hR] at hc
      rw [if_neg (by simp)]
      have C := Lib.hid hc
      have hpos : 0 < len := by omega
      clear hc hR hl hx hp h0
      go_enter Try.func27, Try.ntmps27
      go_wp2
      go_loopw [3, 4] (fun a i wr => a = .int .i64 0 ∧ i = .int .i64 0 ∧ wr = w) (fun _ _ _ => 0)
      case atStart => exact ⟨rfl, rfl, rfl⟩
      case round =>
        obtain ⟨rfl, rfl, rfl⟩ := hrel
        go_wp2_with fail
        refine (C.out _ (Below.refl _ _)).mono ?_
        rintro e w1 ⟨rfl, hB⟩
        have HB := Lib.hid hB
        clear hB
        go_wp2_with fail
        go_ret
        exact ⟨rfl, HB.out⟩
    · rw [hR] at hc
      rw [if_pos rfl]
      have hbd := size_most hR
      have HS := Lib.hid (show SizeRel L 0 0 from ⟨by simp, by omega, _, rest_start hR⟩)
      obtain ⟨R, eR⟩ : ∃ R, R = sizeL L := ⟨_, rfl⟩
      rw [← eR] at hbd ⊢
      have HR := Lib.hid eR
      have C := Lib.hid hc
      have HX := Lib.hid hx
      have HN := Lib.hid hl
      clear hc hR hl hx eR h0
      go_enter Try.func27, Try.ntmps27
      go_wp2
      go_loopw [3, 4] (fun v i wr => ∃ k : Nat, k ≤ len ∧ i = .int .i64 k ∧ ∃ n, v = .int .i64 n ∧ SizeRel L k n ∧ Below w.heap.size w wr) (fun _ i _ => len - (intOf i).toNat)
      case atStart => exact ⟨0, by omega, rfl, 0, rfl, HS.out, Below.refl _ w⟩
      case round =>
        obtain ⟨k, hk, rfl, n, rfl, hrel, hB⟩ := hrel
        by_cases hlt : k < len
        · obtain rfl := hp (by omega)
          have hlx : k < L.length := by have := HN.out; omega
          obtain ⟨x, ex⟩ : ∃ x, x = (L.getD k (0, 0)).1 := ⟨_, rfl⟩
          obtain ⟨y, ey⟩ : ∃ y, y = (L.getD k (0, 0)).2 := ⟨_, rfl⟩
          have hon := size_on hrel hlx ex ey
          obtain ⟨q1, q2, z, q3⟩ := hrel
          obtain ⟨_, g1, g2, g3, g4, g5⟩ := rest_on q3 hlx ex ey
          have hn : n + (y - x + 1) ≤ R := by rw [HR.out, hon.1]; omega
          have HO := Lib.hid hon
          have HE := Lib.hid (And.intro ex ey)
          have HB := Lib.hid hB
          clear ex ey hB q1 q3 hon
          go_wp2_with fail
          refine (C.out _ HB.out).mono ?_
          rintro e w1 ⟨rfl, hB1⟩
          have hB2 := below_two HB.out hB1
          obtain ⟨c0, c1⟩ := HX.out k hlx
          have c0 := cell_below hB2 c0
          have c1 := cell_below hB2 c1
          rw [← HE.out.1] at c0
          rw [← HE.out.2] at c1
          have d5 : (k : Int) < (len : Int) := by omega
          have HB2 := Lib.hid (fun n => below_drewN (n := n) hB2)
          clear hB1 hB2
          go_wp2
          go_quiet (fail)
          go_wp2_with fail
          go_roundw
          case rel => exact ⟨k + 1, by omega, by go_num, n + (y - x + 1), by go_num, HO.out, HB2.out _⟩
          case measure => simp [intOf]; omega
        · have hd : L.drop k = [] := drop_end (by have := HN.out; omega)
          have key : R = n := by rw [HR.out, hrel.1, hd, sizeL]; omega
          have HB := Lib.hid hB
          subst key
          clear hrel hB hd hp
          go_wp2
          go_ret
          exact ⟨rfl, HB.out⟩

theorem rsize_any {w : World} {v : Value} {L : List (Int × Int)} (h : Sees w v L) (hm : L.length ≤ 1000000) :
    Calls Try.prog 27 #[v] w fun e w' => e = .returned (.int .i64 (if rightL L = true then sizeL L else 0)) ∧ Below w.heap.size w w' := by
  obtain ⟨p, b, off, c, rfl, hp, hx⟩ := h
  exact rsize_cells p b off c _ L rfl w hm hp hx
end Go.Proofs.Ythoakeekfajhaaa
