/-
  What Right, Size, Place, Has and At of the program answer, at every list of spans that can be read.
-/
import Derived.Test.YtfkakdpppejehaaRows
import Derived.Test.YtfkakdpppejehaaSNum
import Derived.WalkKit
import Derived.ProofKit
import Derived.OpenShut
import Derived.Outline
import Derived.WalkMore
import Derived.Lib.Hide
import Derived.BigGuardPart
import Derived.Deep.DeepCutAuto
import Derived.Deep.Light
import Derived.Deep.QuietTactic
import Derived.BigQuiet
import Derived.LoopTactic
import Derived.Laws.BitsAllLaws
import Derived.Laws.Bits64b
namespace Go.Proofs.Ytfkakdpppejehaa
open Go.RowKit

/-- the cells of a list of spans, from an address on -/
def Cells (w : World) (b off : Nat) (L : List (Int × Int)) : Prop :=
  ∀ k, k < L.length → w.cell? ⟨b, off + k * 2, none⟩ = some (.int .i64 (L.getD k (0, 0)).1) ∧ w.cell? ⟨b, off + k * 2 + 1, none⟩ = some (.int .i64 (L.getD k (0, 0)).2)
/-- the slice value v reads as the spans L -/
def Sees (w : World) (v : Value) (L : List (Int × Int)) : Prop :=
  ∃ (p : Option Addr) (b off c : Nat), v = .slice p L.length c ∧ (0 < L.length → p = some ⟨b, off, none⟩) ∧ Cells w b off L

theorem cell_below {w wr : World} {p : Addr} {v : Value} (hB : Below w.heap.size w wr) (h : w.cell? p = some v) : wr.cell? p = some v := by
  have hlt : p.block < w.heap.size := by
    unfold World.cell? at h
    cases hh : w.heap[p.block]? with
    | none => simp [hh] at h
    | some q => exact (Array.getElem?_eq_some_iff.1 hh).1
  exact (hB.cell hlt).trans h
theorem cells_below {w wr : World} {b off : Nat} {L : List (Int × Int)} (h : Cells w b off L) (hB : Below w.heap.size w wr) : Cells wr b off L :=
  fun k hk => ⟨cell_below hB (h k hk).1, cell_below hB (h k hk).2⟩
theorem sees_below {w wr : World} {v : Value} {L : List (Int × Int)} (h : Sees w v L) (hB : Below w.heap.size w wr) : Sees wr v L := by
  obtain ⟨p, b, off, c, h1, h2, h3⟩ := h
  exact ⟨p, b, off, c, h1, h2, cells_below h3 hB⟩
theorem drop_cons {L : List (Int × Int)} {k : Nat} (h : k < L.length) : L.drop k = L.getD k (0, 0) :: L.drop (k + 1) := by
  rw [List.getD_eq_getElem?_getD, List.getElem?_eq_getElem h]
  exact List.drop_eq_getElem_cons h
theorem drop_end {L : List (Int × Int)} {k : Nat} (h : L.length ≤ k) : L.drop k = [] := List.drop_eq_nil_of_le h

set_option maxHeartbeats 400000 in
theorem width_any (a b : Int) (w : World) (h1 : -4000000 ≤ a) (h2 : a ≤ 4000000) (h3 : -4000000 ≤ b) (h4 : b ≤ 4000000) :
    Calls Try.prog 63 #[.agg #[.int .i64 a, .int .i64 b]] w fun e w' => e = .returned (.int .i64 (b - a + 1)) ∧ Below w.heap.size w w' := by
  go_enter Try.func63, Try.ntmps63
  go_wp2_with fail
  go_ret
  refine ⟨by go_num, (Below.refl _ w).alloc (Nat.le_refl _) _⟩

def RightRel (L : List (Int × Int)) (k : Nat) (z : Int) : Prop := rightL L = rightF z (L.drop k) ∧ -1048576 ≤ z ∧ z ≤ 1048578

set_option maxHeartbeats 400000 in
theorem right_cells (p : Option Addr) (b off c len : Nat) (L : List (Int × Int)) (hl : len = L.length) (w : World) (hm : len ≤ 1000000) (hp : 0 < len → p = some ⟨b, off, none⟩) (hx : Cells w b off L) :
    Calls Try.prog 62 #[.slice p len c] w fun e w' => e = .returned (.bool (rightL L)) ∧ Below w.heap.size w w' := by
  have HX := Lib.hid hx
  have HN := Lib.hid hl
  have HS := Lib.hid (show RightRel L 0 (-1048576) from ⟨rfl, by omega, by omega⟩)
  obtain ⟨R, hR⟩ : ∃ R, R = rightL L := ⟨_, rfl⟩
  rw [← hR]
  have HR := Lib.hid hR
  clear hx hl hR
  go_enter Try.func62, Try.ntmps62
  go_wp2
  go_loopw [3, 8] (fun v i wr => ∃ k : Nat, k ≤ len ∧ i = .int .i64 k ∧ ∃ z, v = .int .i64 z ∧ RightRel L k z ∧ Below w.heap.size w wr) (fun _ i _ => len - (intOf i).toNat)
  case atStart => exact ⟨0, by omega, rfl, _, rfl, HS.out, Below.refl _ w⟩
  case round =>
    obtain ⟨k, hk, rfl, z, rfl, hrel, hB⟩ := hrel
    by_cases hlt : k < len
    · obtain rfl := hp (by omega)
      have hlx : k < L.length := by have := HN.out; omega
      obtain ⟨c0, c1⟩ := HX.out k hlx
      have c0 := cell_below hB c0
      have c1 := cell_below hB c1
      have hd := drop_cons hlx
      obtain ⟨x, ex⟩ : ∃ x, x = (L.getD k (0, 0)).1 := ⟨_, rfl⟩
      obtain ⟨y, ey⟩ : ∃ y, y = (L.getD k (0, 0)).2 := ⟨_, rfl⟩
      rw [← ex] at c0
      rw [← ey] at c1
      have key : rightL L = (decide (z ≤ x) && decide (x ≤ y) && decide (y ≤ 1048576) && rightF (y + 2) (L.drop (k + 1))) := by
        rw [hrel.1, hd, rightF, ex, ey]
      have HK := Lib.hid key
      have hz := hrel.2
      have HB := Lib.hid (hB.alloc hB.size (.cells #[.int .i64 x, .int .i64 y] 41))
      clear ex ey hd hlx hB hrel key
      go_wp2_with fail
      · go_ret
        exact ⟨by rw [HR.out, HK.out, decide_eq_false (by omega)]; rfl, HB.out⟩
      · go_ret
        exact ⟨by rw [HR.out, HK.out, decide_eq_false (p := x ≤ y) (by omega)]; simp, HB.out⟩
      · go_ret
        exact ⟨by rw [HR.out, HK.out, decide_eq_false (p := y ≤ 1048576) (by omega)]; simp, HB.out⟩
      · go_roundw
        case rel => exact ⟨k + 1, by omega, by go_num, y + 2, by go_num, ⟨by rw [HK.out, decide_eq_true (by omega), decide_eq_true (p := x ≤ y) (by omega), decide_eq_true (p := y ≤ 1048576) (by omega)]; simp, by omega, by omega⟩, HB.out⟩
        case measure => simp [intOf]; omega
    · have hd : L.drop k = [] := drop_end (by have := HN.out; omega)
      have key : rightL L = true := by rw [hrel.1, hd]; rfl
      have HK := Lib.hid key
      have HB := Lib.hid hB
      clear hrel hB key hd hp
      go_wp2
      go_ret
      exact ⟨by rw [HR.out, HK.out]; rfl, HB.out⟩

theorem right_any {w : World} {v : Value} {L : List (Int × Int)} (h : Sees w v L) (hm : L.length ≤ 1000000) :
    Calls Try.prog 62 #[v] w fun e w' => e = .returned (.bool (rightL L)) ∧ Below w.heap.size w w' := by
  obtain ⟨p, b, off, c, rfl, hp, hx⟩ := h
  exact right_cells p b off c _ L rfl w hm hp hx

theorem below_two {w w1 w2 : World} (h1 : Below w.heap.size w w1) (h2 : Below w1.heap.size w1 w2) : Below w.heap.size w w2 := by
  exact h1.trans (h2.mono h1.size)

/-- behind the spans ahead of place k: what is left is right, from z on -/
def Rest (L : List (Int × Int)) (k : Nat) (z : Int) : Prop := rightF z (L.drop k) = true ∧ -1048576 ≤ z
theorem rest_start {L : List (Int × Int)} (h : rightL L = true) : Rest L 0 (-1048576) := ⟨h, by omega⟩
theorem rest_on {L : List (Int × Int)} {k : Nat} {z x y : Int} (h : Rest L k z) (hk : k < L.length) (ex : x = (L.getD k (0, 0)).1) (ey : y = (L.getD k (0, 0)).2) :
    Rest L (k + 1) (y + 2) ∧ z ≤ x ∧ x ≤ y ∧ y ≤ 1048576 ∧ -1048576 ≤ z ∧ 0 ≤ sizeL (L.drop (k + 1)) := by
  obtain ⟨h1, h2⟩ := h
  rw [drop_cons hk, right_cons, ← ex, ← ey] at h1
  obtain ⟨g1, g2, g3, g4⟩ := h1
  exact ⟨⟨g4, by omega⟩, g1, g2, g3, h2, (size_bound g4).1⟩

def SizeRel (L : List (Int × Int)) (k : Nat) (n : Int) : Prop := sizeL L = n + sizeL (L.drop k) ∧ 0 ≤ n ∧ ∃ z, Rest L k z
theorem size_on {L : List (Int × Int)} {k : Nat} {n x y : Int} (h : SizeRel L k n) (hk : k < L.length) (ex : x = (L.getD k (0, 0)).1) (ey : y = (L.getD k (0, 0)).2) : SizeRel L (k + 1) (n + (y - x + 1)) := by
  obtain ⟨h1, h2, z, h3⟩ := h
  obtain ⟨g1, g2⟩ := rest_on h3 hk ex ey
  refine ⟨?_, by omega, _, g1⟩
  rw [h1, drop_cons hk, sizeL, ex, ey]
  omega

set_option maxHeartbeats 400000 in
theorem size_cells (p : Option Addr) (b off c len : Nat) (L : List (Int × Int)) (hl : len = L.length) (w : World) (hm : len ≤ 1000000) (hp : 0 < len → p = some ⟨b, off, none⟩) (hx : Cells w b off L) :
    Calls Try.prog 50 #[.slice p len c] w fun e w' => e = .returned (.int .i64 (if rightL L = true then sizeL L else 0)) ∧ Below w.heap.size w w' := by
  have hc := right_cells p b off c len L hl w hm hp hx
  cases hR : rightL L
  · rw [hR] at hc
    rw [if_neg (by simp)]
    have C := Lib.hid hc
    clear hc hR hl hx hp
    go_enter Try.func50, Try.ntmps50
    go_wp2_with fail
    refine C.out.mono ?_
    rintro e w1 ⟨rfl, hB⟩
    have HB := Lib.hid hB
    clear hB
    go_wp2_with fail
    go_ret
    exact ⟨rfl, HB.out⟩
  · rw [hR] at hc
    rw [if_pos rfl]
    have hbd := size_most hR
    have HS := Lib.hid (show SizeRel L 0 0 from ⟨by simp, by omega, _, rest_start hR⟩)
    obtain ⟨R, eR⟩ : ∃ R, R = sizeL L := ⟨_, rfl⟩
    rw [← eR] at hbd ⊢
    have HR := Lib.hid eR
    have C := Lib.hid hc
    have HX := Lib.hid hx
    have HN := Lib.hid hl
    clear hc hR hl hx eR
    go_enter Try.func50, Try.ntmps50
    go_wp2_with fail
    refine C.out.mono ?_
    rintro e w1 ⟨rfl, hB1⟩
    have HB1 := Lib.hid hB1
    clear hB1
    go_wp2
    go_loopw [3, 11] (fun v i wr => ∃ k : Nat, k ≤ len ∧ i = .int .i64 k ∧ ∃ n, v = .int .i64 n ∧ SizeRel L k n ∧ Below w.heap.size w wr) (fun _ i _ => len - (intOf i).toNat)
    case atStart => exact ⟨0, by omega, rfl, 0, rfl, HS.out, HB1.out⟩
    case round =>
      obtain ⟨k, hk, rfl, n, rfl, hrel, hB⟩ := hrel
      by_cases hlt : k < len
      · obtain rfl := hp (by omega)
        have hlx : k < L.length := by have := HN.out; omega
        obtain ⟨c0, c1⟩ := HX.out k hlx
        have c0 := cell_below hB c0
        have c1 := cell_below hB c1
        obtain ⟨x, ex⟩ : ∃ x, x = (L.getD k (0, 0)).1 := ⟨_, rfl⟩
        obtain ⟨y, ey⟩ : ∃ y, y = (L.getD k (0, 0)).2 := ⟨_, rfl⟩
        rw [← ex] at c0
        rw [← ey] at c1
        have hon := size_on hrel hlx ex ey
        obtain ⟨q1, q2, z, q3⟩ := hrel
        obtain ⟨_, g1, g2, g3, g4, g5⟩ := rest_on q3 hlx ex ey
        have hn : n + (y - x + 1) ≤ R := by rw [HR.out, hon.1]; omega
        have HO := Lib.hid hon
        have HB := Lib.hid (hB.alloc hB.size (.cells #[.int .i64 x, .int .i64 y] 41))
        have W := Lib.hid (fun w => width_any x y w (by omega) (by omega) (by omega) (by omega))
        clear ex ey hlx hB q1 q3 hon
        go_wp2_with fail
        refine (W.out _).mono ?_
        rintro e w2 ⟨rfl, hB2⟩
        have HB2 := Lib.hid (below_two HB.out hB2)
        clear hB2
        go_wp2_with fail
        go_roundw
        case rel => exact ⟨k + 1, by omega, by go_num, n + (y - x + 1), by go_num, HO.out, HB2.out⟩
        case measure => simp [intOf]; omega
      · have hd : L.drop k = [] := drop_end (by have := HN.out; omega)
        have key : R = n := by rw [HR.out, hrel.1, hd, sizeL]; omega
        have HB := Lib.hid hB
        subst key
        clear hrel hB hd hp
        go_wp2
        go_ret
        exact ⟨rfl, HB.out⟩

theorem size_any {w : World} {v : Value} {L : List (Int × Int)} (h : Sees w v L) (hm : L.length ≤ 1000000) :
    Calls Try.prog 50 #[v] w fun e w' => e = .returned (.int .i64 (if rightL L = true then sizeL L else 0)) ∧ Below w.heap.size w w' := by
  obtain ⟨p, b, off, c, rfl, hp, hx⟩ := h
  exact size_cells p b off c _ L rfl w hm hp hx
end Go.Proofs.Ytfkakdpppejehaa
