/-
  What Place and Same of the document's answers answer, at every list of spans that can be read.
-/
import Derived.Test.YtehflpgnbbafpaaRefs
namespace Go.Proofs.Ytehflpgnbbafpaa
open Go.RowKit

def RefRel (L : List (Int × Int)) (v : Int) (k : Nat) (n : Int) : Prop := refF 0 L v = refF n (L.drop k) v ∧ 0 ≤ n ∧ n + sizeL (L.drop k) ≤ 2097153 ∧ ∃ z, Rest L k z

set_option maxHeartbeats 1000000 in
theorem rplace_cells (p : Option Addr) (b off c len : Nat) (L : List (Int × Int)) (v : Int) (hl : len = L.length) (w : World) (hm : len ≤ 1000000) (hp : 0 < len → p = some ⟨b, off, none⟩) (hx : Cells w b off L) :
    Calls Try.prog 15 #[.slice p len c, .int .i64 v] w fun e w' => e = .returned (.int .i64 (placeL L v)) ∧ Below w.heap.size w w' := by
  have hc := rright_cells p b off c len L hl w hm hp hx
  have hi : ∀ wr, Below w.heap.size w wr → Calls Try.prog 13 #[.slice p len c, .int .i64 v] wr fun e w' => e = .returned (.bool (inL L v)) ∧ w' = wr := fun wr h => in_cells p b off c len L v hl wr hm hp (cells_below hx h)
  unfold placeL
  cases hR : rightL L
  · rw [hR] at hc
    rw [if_neg (by simp)]
    have C := Lib.hid hc
    clear hc hR hl hx hp hi
    go_enter Try.func15, Try.ntmps15
    go_wp2_with fail
    refine C.out.mono ?_
    rintro e w1 ⟨rfl, hB⟩
    have HB := Lib.hid hB
    clear hB
    go_wp2_with fail
    go_ret
    exact ⟨rfl, HB.out⟩
  · rw [hR] at hc
    rw [if_pos rfl]
    cases hI : inL L v
    · rw [hI] at hi
      rw [place_none hI]
      have C := Lib.hid hc
      have D := Lib.hid hi
      clear hc hR hl hx hp hi hI
      go_enter Try.func15, Try.ntmps15
      go_wp2_with fail
      refine C.out.mono ?_
      rintro e w1 ⟨rfl, hB⟩
      have HB := Lib.hid hB
      clear hB
      go_wp2_with fail
      refine (D.out _ HB.out).mono ?_
      rintro e w2 ⟨rfl, rfl⟩
      go_wp2_with fail
      go_ret
      exact ⟨rfl, HB.out⟩
    · rw [hI] at hi
      rw [← ref_place hR hI]
      have hbd := size_most hR
      have HS := Lib.hid (show RefRel L v 0 0 from ⟨by simp, by omega, by simp; omega, _, rest_start hR⟩)
      obtain ⟨R, eR⟩ : ∃ R, R = refF 0 L v := ⟨_, rfl⟩
      rw [← eR]
      have HR := Lib.hid eR
      have C := Lib.hid hc
      have D := Lib.hid hi
      have HX := Lib.hid hx
      have HN := Lib.hid hl
      have hvb := in_low hR hI
      clear hc hR hl hx eR hbd hi hI
      go_enter Try.func15, Try.ntmps15
      go_wp2_with fail
      refine C.out.mono ?_
      rintro e w1 ⟨rfl, hB1⟩
      have HB1 := Lib.hid hB1
      clear hB1
      go_wp2_with fail
      refine (D.out _ HB1.out).mono ?_
      rintro e w2 ⟨rfl, rfl⟩
      go_wp2
      go_loopw [5, 6] (fun a i wr => ∃ k : Nat, k ≤ len ∧ i = .int .i64 k ∧ ∃ n, a = .int .i64 n ∧ RefRel L v k n ∧ Below w.heap.size w wr) (fun _ i _ => len - (intOf i).toNat)
      case atStart => exact ⟨0, by omega, rfl, 0, rfl, HS.out, HB1.out⟩
      case round =>
        obtain ⟨k, hk, rfl, n, rfl, hrel, hB⟩ := hrel
        by_cases hlt : k < len
        · obtain rfl := hp (by omega)
          have hlx : k < L.length := by have := HN.out; omega
          obtain ⟨c0, c1⟩ := HX.out k hlx
          have c0 := cell_below hB c0
          have c1 := cell_below hB c1
          have hd := drop_cons hlx
          obtain ⟨x, ex⟩ : ∃ x, x = (L.getD k (0, 0)).1 := ⟨_, rfl⟩
          obtain ⟨y, ey⟩ : ∃ y, y = (L.getD k (0, 0)).2 := ⟨_, rfl⟩
          rw [← ex] at c0
          rw [← ey] at c1
          have key : R = if y < v then refF (n + y + 1 - x) (L.drop (k + 1)) v else if x ≤ v then refF (n + v - x) (L.drop (k + 1)) v else refF n (L.drop (k + 1)) v := by
            rw [HR.out, hrel.1, hd, refF, ex, ey]
          obtain ⟨_, q1, q2, z, q3⟩ := hrel
          obtain ⟨q4, g1, g2, g3, g4, g5⟩ := rest_on q3 hlx ex ey
          have hn : n + (y - x + 1) + sizeL (L.drop (k + 1)) ≤ 2097153 := by
            rw [hd, sizeL, ← ex, ← ey] at q2
            omega
          generalize hs : sizeL (L.drop (k + 1)) = sz at hn g5
          have HZ := Lib.hid hs
          have HO := Lib.hid q4
          have HB := Lib.hid (fun n => below_drewN (n := n) hB)
          have HB0 := Lib.hid hB
          have HK := Lib.hid key
          have d5 : (k : Int) < (len : Int) := by omega
          clear ex ey hd hlx hB q3 q4 key q2 hs
          by_cases h1 : y < v
          · go_wp2
            go_quiet (fail)
            go_wp2_with fail
            go_roundw
            case rel => exact ⟨k + 1, by omega, by go_num, n + y + 1 - x, by go_num, ⟨by rw [← HR.out, HK.out, if_pos h1], by omega, by rw [HZ.out]; omega, _, HO.out⟩, HB.out _⟩
            case measure => simp [intOf]; omega
          · by_cases h2 : x ≤ v
            · go_wp2_with fail
              go_roundw
              case rel => exact ⟨k + 1, by omega, by go_num, n + v - x, by go_num, ⟨by rw [← HR.out, HK.out, if_neg (by omega), if_pos h2], by omega, by rw [HZ.out]; omega, _, HO.out⟩, HB0.out⟩
              case measure => simp [intOf]; omega
            · go_wp2_with fail
              go_roundw
              case rel => exact ⟨k + 1, by omega, by go_num, n, rfl, ⟨by rw [← HR.out, HK.out, if_neg (by omega), if_neg (by omega)], by omega, by rw [HZ.out]; omega, _, HO.out⟩, HB0.out⟩
              case measure => simp [intOf]; omega
        · have hd : L.drop k = [] := drop_end (by have := HN.out; omega)
          have key : R = n := by rw [HR.out, hrel.1, hd, refF]
          have HB := Lib.hid hB
          subst key
          clear hrel hB hd hp
          go_wp2
          go_ret
          exact ⟨rfl, HB.out⟩

theorem rplace_any {w : World} {s : Value} {L : List (Int × Int)} (v : Int) (h : Sees w s L) (hm : L.length ≤ 1000000) :
    Calls Try.prog 15 #[s, .int .i64 v] w fun e w' => e = .returned (.int .i64 (placeL L v)) ∧ Below w.heap.size w w' := by
  obtain ⟨p, b, off, c, rfl, hp, hx⟩ := h
  exact rplace_cells p b off c _ L v rfl w hm hp hx

set_option maxHeartbeats 1000000 in
theorem same_cells (p : Option Addr) (b off c : Nat) (p' : Option Addr) (b' off' c' : Nat) (len : Nat) (L : List (Int × Int)) (hl : len = L.length) (w : World) (hm : len ≤ 1000000) (hp : 0 < len → p = some ⟨b, off, none⟩) (hx : Cells w b off L) (hp' : 0 < len → p' = some ⟨b', off', none⟩) (hx' : Cells w b' off' L) :
    Calls Try.prog 18 #[.slice p len c, .slice p' len c'] w fun e w' => e = .returned (.bool true) ∧ Below w.heap.size w w' := by
  have HX := Lib.hid hx
  have HY := Lib.hid hx'
  have HN := Lib.hid hl
  clear hx hx' hl
  go_enter Try.func18, Try.ntmps18
  go_wp2
  go_loopw [5] (fun i wr => ∃ k : Nat, k ≤ len ∧ i = .int .i64 k ∧ Below w.heap.size w wr) (fun i _ => len - (intOf i).toNat)
  case atStart => exact ⟨0, by omega, rfl, Below.refl _ w⟩
  case round =>
    obtain ⟨k, hk, rfl, hB⟩ := hrel
    by_cases hlt : k < len
    · obtain rfl := hp (by omega)
      obtain rfl := hp' (by omega)
      have hlx : k < L.length := by have := HN.out; omega
      obtain ⟨c0, c1⟩ := HX.out k hlx
      have c0 := cell_below hB c0
      have c1 := cell_below hB c1
      obtain ⟨c2, c3⟩ := HY.out k hlx
      have c2 := cell_below hB c2
      have c3 := cell_below hB c3
      obtain ⟨x, ex⟩ : ∃ x, x = (L.getD k (0, 0)).1 := ⟨_, rfl⟩
      obtain ⟨y, ey⟩ : ∃ y, y = (L.getD k (0, 0)).2 := ⟨_, rfl⟩
      rw [← ex] at c0 c2
      rw [← ey] at c1 c3
      have d5 : (k : Int) < (len : Int) := by omega
      have HB := Lib.hid (fun n => below_drewN (n := n) hB)
      clear hlx ex ey hB
      go_wp2
      go_quiet (fail)
      go_wp2_with fail
      go_roundw
      case rel => exact ⟨k + 1, by omega, by go_num, HB.out _⟩
      case measure => simp [intOf]; omega
    · have HB := Lib.hid hB
      clear hB hp hp'
      go_wp2
      go_ret
      exact ⟨rfl, HB.out⟩

theorem same_any {w : World} {s t : Value} {L : List (Int × Int)} (h : Sees w s L) (h' : Sees w t L) (hm : L.length ≤ 1000000) :
    Calls Try.prog 18 #[s, t] w fun e w' => e = .returned (.bool true) ∧ Below w.heap.size w w' := by
  obtain ⟨p, b, off, c, rfl, hp, hx⟩ := h
  obtain ⟨p', b', off', c', rfl, hp', hx'⟩ := h'
  exact same_cells p b off c p' b' off' c' _ L rfl w hm hp hx hp' hx'
end Go.Proofs.Ytehflpgnbbafpaa
