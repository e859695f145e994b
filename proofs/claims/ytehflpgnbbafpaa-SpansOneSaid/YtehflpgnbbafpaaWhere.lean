/-
  What Place, Has and At of the program answer, at every list of spans that can be read.
-/
import Derived.Test.YtehflpgnbbafpaaLeaf
namespace Go.Proofs.Ytehflpgnbbafpaa
open Go.RowKit

def placeL (L : List (Int × Int)) (v : Int) : Int := if rightL L = true then placeF 0 L v else -1
def PlaceRel (L : List (Int × Int)) (v : Int) (k : Nat) (n : Int) : Prop := placeF 0 L v = placeF n (L.drop k) v ∧ SizeRel L k n

set_option maxHeartbeats 400000 in
theorem place_cells (p : Option Addr) (b off c len : Nat) (L : List (Int × Int)) (v : Int) (hl : len = L.length) (w : World) (hm : len ≤ 1000000) (hp : 0 < len → p = some ⟨b, off, none⟩) (hx : Cells w b off L) :
    Calls Try.prog 14 #[.slice p len c, .int .i64 v] w fun e w' => e = .returned (.int .i64 (placeL L v)) ∧ Below w.heap.size w w' := by
  have hc := right_cells p b off c len L hl w hm hp hx
  unfold placeL
  cases hR : rightL L
  · rw [hR] at hc
    rw [if_neg (by simp)]
    have C := Lib.hid hc
    clear hc hR hl hx hp
    go_enter Try.func14, Try.ntmps14
    go_wp2_with fail
    refine C.out.mono ?_
    rintro e w1 ⟨rfl, hB⟩
    have HB := Lib.hid hB
    clear hB
    go_wp2_with fail
    go_ret
    exact ⟨rfl, HB.out⟩
  · rw [hR] at hc
    rw [if_pos rfl]
    have hbd := size_most hR
    have HS := Lib.hid (show PlaceRel L v 0 0 from ⟨by simp, by simp, by omega, _, rest_start hR⟩)
    obtain ⟨R, eR⟩ : ∃ R, R = placeF 0 L v := ⟨_, rfl⟩
    rw [← eR]
    have HR := Lib.hid eR
    have HM := Lib.hid hbd
    have C := Lib.hid hc
    have HX := Lib.hid hx
    have HN := Lib.hid hl
    clear hc hR hl hx eR hbd
    go_enter Try.func14, Try.ntmps14
    go_wp2_with fail
    refine C.out.mono ?_
    rintro e w1 ⟨rfl, hB1⟩
    have HB1 := Lib.hid hB1
    clear hB1
    go_wp2
    go_loopw [5, 13] (fun a i wr => ∃ k : Nat, k ≤ len ∧ i = .int .i64 k ∧ ∃ n, a = .int .i64 n ∧ PlaceRel L v k n ∧ Below w.heap.size w wr) (fun _ i _ => len - (intOf i).toNat)
    case atStart => exact ⟨0, by omega, rfl, 0, rfl, HS.out, HB1.out⟩
    case round =>
      obtain ⟨k, hk, rfl, n, rfl, hrel, hB⟩ := hrel
      by_cases hlt : k < len
      · obtain rfl := hp (by omega)
        have hlx : k < L.length := by have := HN.out; omega
        obtain ⟨c0, c1⟩ := HX.out k hlx
        have c0 := cell_below hB c0
        have c1 := cell_below hB c1
        have hd := drop_cons hlx
        obtain ⟨x, ex⟩ : ∃ x, x = (L.getD k (0, 0)).1 := ⟨_, rfl⟩
        obtain ⟨y, ey⟩ : ∃ y, y = (L.getD k (0, 0)).2 := ⟨_, rfl⟩
        rw [← ex] at c0
        rw [← ey] at c1
        have key : R = if x ≤ v ∧ v ≤ y then n + v - x else placeF (n + (y - x + 1)) (L.drop (k + 1)) v := by
          rw [HR.out, hrel.1, hd, placeF, ex, ey]
        have hon := size_on hrel.2 hlx ex ey
        obtain ⟨_, q1, q2, z, q3⟩ := hrel
        obtain ⟨_, g1, g2, g3, g4, g5⟩ := rest_on q3 hlx ex ey
        have hn : n + (y - x + 1) ≤ 2097153 := by have := HM.out; have := hon.1; omega
        have HO := Lib.hid hon
        have HB := Lib.hid (hB.alloc hB.size (.cells #[.int .i64 x, .int .i64 y] 41))
        have W := Lib.hid (fun w => width_any x y w (by omega) (by omega) (by omega) (by omega))
        have HK := Lib.hid key
        clear ex ey hd hlx hB q1 q3 hon key
        by_cases h1 : x ≤ v
        · by_cases h2 : v ≤ y
          · go_wp2_with fail
            go_ret
            exact ⟨by rw [HK.out, if_pos ⟨h1, h2⟩]; go_num, HB.out⟩
          · go_wp2_with fail
            refine (W.out _).mono ?_
            rintro e w2 ⟨rfl, hB2⟩
            have HB2 := Lib.hid (below_two HB.out hB2)
            clear hB2
            go_wp2_with fail
            go_roundw
            case rel => exact ⟨k + 1, by omega, by go_num, n + (y - x + 1), by go_num, ⟨by rw [← HR.out, HK.out, if_neg (by omega)], HO.out⟩, HB2.out⟩
            case measure => simp [intOf]; omega
        · go_wp2_with fail
          refine (W.out _).mono ?_
          rintro e w2 ⟨rfl, hB2⟩
          have HB2 := Lib.hid (below_two HB.out hB2)
          clear hB2
          go_wp2_with fail
          go_roundw
          case rel => exact ⟨k + 1, by omega, by go_num, n + (y - x + 1), by go_num, ⟨by rw [← HR.out, HK.out, if_neg (by omega)], HO.out⟩, HB2.out⟩
          case measure => simp [intOf]; omega
      · have hd : L.drop k = [] := drop_end (by have := HN.out; omega)
        have key : R = -1 := by rw [HR.out, hrel.1, hd, placeF]
        have HB := Lib.hid hB
        subst key
        clear hrel hB hd hp
        go_wp2
        go_ret
        exact ⟨rfl, HB.out⟩

theorem place_any {w : World} {s : Value} {L : List (Int × Int)} (v : Int) (h : Sees w s L) (hm : L.length ≤ 1000000) :
    Calls Try.prog 14 #[s, .int .i64 v] w fun e w' => e = .returned (.int .i64 (placeL L v)) ∧ Below w.heap.size w w' := by
  obtain ⟨p, b, off, c, rfl, hp, hx⟩ := h
  exact place_cells p b off c _ L v rfl w hm hp hx

set_option maxHeartbeats 400000 in
theorem has_any {w : World} {s : Value} {L : List (Int × Int)} (v : Int) (h : Sees w s L) (hm : L.length ≤ 1000000) :
    Calls Try.prog 12 #[s, .int .i64 v] w fun e w' => e = .returned (.bool (rightL L && inL L v)) ∧ Below w.heap.size w w' := by
  have hc := place_any v h hm
  have key : (rightL L && inL L v) = decide (0 ≤ placeL L v) := by
    unfold placeL
    cases hR : rightL L
    · simp
    · rw [if_pos rfl, Bool.true_and]
      cases hI : inL L v
      · rw [place_none hI]
        rfl
      · rw [decide_eq_true (place_some hR hI)]
  rw [key]
  generalize placeL L v = n at hc ⊢
  have C := Lib.hid hc
  clear hc h hm key
  go_enter Try.func12, Try.ntmps12
  go_wp2_with fail
  refine C.out.mono ?_
  rintro e w1 ⟨rfl, hB⟩
  have HB := Lib.hid hB
  clear hB
  go_wp2_with fail
  go_ret
  exact ⟨rfl, HB.out⟩

def atA (L : List (Int × Int)) (k : Int) : Option Int := if rightL L = true ∧ 0 ≤ k then atL L k else none
/-- what At answers -/
def told : Option Int → Ending
  | none => .returned (.tuple #[.int .i64 0, .bool false])
  | some v => .returned (.tuple #[.int .i64 v, .bool true])
def AtRel (L : List (Int × Int)) (q : Int) (k : Nat) (n : Int) : Prop := atL L q = atL (L.drop k) n ∧ 0 ≤ n ∧ n ≤ q ∧ ∃ z, Rest L k z

set_option maxHeartbeats 600000 in
theorem at_cells (p : Option Addr) (b off c len : Nat) (L : List (Int × Int)) (q : Int) (hq : q ≤ 9223372036854775807) (hl : len = L.length) (w : World) (hm : len ≤ 1000000) (hp : 0 < len → p = some ⟨b, off, none⟩) (hx : Cells w b off L) :
    Calls Try.prog 8 #[.slice p len c, .int .i64 q] w fun e w' => e = told (atA L q) ∧ Below w.heap.size w w' := by
  have hc := right_cells p b off c len L hl w hm hp hx
  unfold atA
  by_cases hq0 : 0 ≤ q
  · cases hR : rightL L
    · rw [hR] at hc
      rw [if_neg (by simp)]
      have C := Lib.hid hc
      clear hc hR hl hx hp
      go_enter Try.func8, Try.ntmps8
      go_wp2_with fail
      refine C.out.mono ?_
      rintro e w1 ⟨rfl, hB⟩
      have HB := Lib.hid hB
      clear hB
      go_wp2_with fail
      go_ret2
      exact ⟨rfl, HB.out⟩
    · rw [hR] at hc
      rw [if_pos ⟨rfl, hq0⟩]
      have HS := Lib.hid (show AtRel L q 0 q from ⟨by simp, by omega, by omega, _, rest_start hR⟩)
      obtain ⟨R, eR⟩ : ∃ R, R = atL L q := ⟨_, rfl⟩
      rw [← eR]
      have HR := Lib.hid eR
      have C := Lib.hid hc
      have HX := Lib.hid hx
      have HN := Lib.hid hl
      clear hc hR hl hx eR
      go_enter Try.func8, Try.ntmps8
      go_wp2_with fail
      · exfalso; omega
      refine C.out.mono ?_
      rintro e w1 ⟨rfl, hB1⟩
      have HB1 := Lib.hid hB1
      clear hB1
      go_wp2
      go_loopw [1, 17] (fun a i wr => ∃ k : Nat, k ≤ len ∧ i = .int .i64 k ∧ ∃ n, a = .int .i64 n ∧ AtRel L q k n ∧ Below w.heap.size w wr) (fun _ i _ => len - (intOf i).toNat)
      case atStart => exact ⟨0, by omega, rfl, q, rfl, HS.out, HB1.out⟩
      case round =>
        obtain ⟨k, hk, rfl, n, rfl, hrel, hB⟩ := hrel
        by_cases hlt : k < len
        · obtain rfl := hp (by omega)
          have hlx : k < L.length := by have := HN.out; omega
          obtain ⟨c0, c1⟩ := HX.out k hlx
          have c0 := cell_below hB c0
          have c1 := cell_below hB c1
          have hd := drop_cons hlx
          obtain ⟨x, ex⟩ : ∃ x, x = (L.getD k (0, 0)).1 := ⟨_, rfl⟩
          obtain ⟨y, ey⟩ : ∃ y, y = (L.getD k (0, 0)).2 := ⟨_, rfl⟩
          rw [← ex] at c0
          rw [← ey] at c1
          have key : R = if n < y - x + 1 then some (x + n) else atL (L.drop (k + 1)) (n - (y - x + 1)) := by
            rw [HR.out, hrel.1, hd, atL, ex, ey]
          obtain ⟨_, q1, q2, z, q3⟩ := hrel
          obtain ⟨q4, g1, g2, g3, g4, g5⟩ := rest_on q3 hlx ex ey
          have HO := Lib.hid q4
          have HB := Lib.hid (hB.alloc hB.size (.cells #[.int .i64 x, .int .i64 y] 41))
          have W := Lib.hid (fun w => width_any x y w (by omega) (by omega) (by omega) (by omega))
          have HK := Lib.hid key
          clear ex ey hd hlx hB q3 q4 key
          by_cases h1 : n < y - x + 1
          · go_wp2_with fail
            refine (W.out _).mono ?_
            rintro e w2 ⟨rfl, hB2⟩
            have c2 := cell_below hB2 (p := ⟨wr.heap.size, 0, none⟩) (v := .int .i64 x) (by simp)
            have HB2 := Lib.hid (below_two HB.out hB2)
            clear hB2
            go_wp2_with fail
            go_ret2
            exact ⟨by rw [HK.out, if_pos h1]; go_num, HB2.out⟩
          · go_wp2_with fail
            refine (W.out _).mono ?_
            rintro e w2 ⟨rfl, hB2⟩
            have c2 := cell_below hB2 (p := ⟨wr.heap.size, 0, none⟩) (v := .int .i64 x) (by simp)
            have c3 := cell_below hB2 (p := ⟨wr.heap.size, 1, none⟩) (v := .int .i64 y) (by simp)
            have HB2 := Lib.hid (below_two HB.out hB2)
            clear hB2
            go_wp2_with fail
            refine (W.out _).mono ?_
            rintro e w3 ⟨rfl, hB3⟩
            have HB3 := Lib.hid (below_two HB2.out hB3)
            clear hB3
            go_wp2_with fail
            go_roundw
            case rel => exact ⟨k + 1, by omega, by go_num, n - (y - x + 1), by go_num, ⟨by rw [← HR.out, HK.out, if_neg (by omega)], by omega, by omega, _, HO.out⟩, HB3.out⟩
            case measure => simp [intOf]; omega
        · have hd : L.drop k = [] := drop_end (by have := HN.out; omega)
          have key : R = none := by rw [HR.out, hrel.1, hd, atL]
          have HB := Lib.hid hB
          subst key
          clear hrel hB hd hp
          go_wp2
          go_ret2
          exact ⟨rfl, HB.out⟩
  · rw [if_neg (by omega)]
    have hq1 : q < 0 := by omega
    clear hc hl hx hp hq0
    go_enter Try.func8, Try.ntmps8
    go_wp2_with fail
    go_ret2
    exact ⟨rfl, Below.refl _ w⟩

theorem at_any {w : World} {s : Value} {L : List (Int × Int)} (q : Int) (hq : q ≤ 9223372036854775807) (h : Sees w s L) (hm : L.length ≤ 1000000) :
    Calls Try.prog 8 #[s, .int .i64 q] w fun e w' => e = told (atA L q) ∧ Below w.heap.size w w' := by
  obtain ⟨p, b, off, c, rfl, hp, hx⟩ := h
  exact at_cells p b off c _ L q hq rfl w hm hp hx
end Go.Proofs.Ytehflpgnbbafpaa
