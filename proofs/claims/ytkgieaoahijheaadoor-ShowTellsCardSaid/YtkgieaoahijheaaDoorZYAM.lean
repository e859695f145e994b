/-
  What Right, Size, Place, Has and At of the program answer, at every list of spans that can be read.
  What Right, In, Size, Place and Same of the document's answers answer, at every list of spans that can be read.
  Models that may be, as plain data; sizes of domains in memory.
-/
import Derived.Test.YtkgieaoahijheaaDoorRows
import Derived.Test.YtkgieaoahijheaaDoorSNum
import Derived.WalkKit
import Derived.ProofKit
import Derived.OpenShut
import Derived.Outline
import Derived.WalkMore
import Derived.Lib.Hide
import Derived.BigGuardPart
import Derived.Deep.DeepCutAuto
import Derived.Deep.Light
import Derived.Deep.QuietTactic
import Derived.BigQuiet
import Derived.LoopTactic
import Derived.Laws.BitsAllLaws
import Derived.Laws.Bits64b
import Derived.Test.YtkgieaoahijheaaDoorZYAG
import Derived.Test.YtkgieaoahijheaaDoorZPRight
namespace Go.Proofs.YtkgieaoahijheaaDoor
open Go.RowKit

/-- the cells of a list of spans, from an address on -/
def Cells (w : World) (b off : Nat) (L : List (Int × Int)) : Prop :=
  ∀ k, k < L.length → w.cell? ⟨b, off + k * 2, none⟩ = some (.int .i64 (L.getD k (0, 0)).1) ∧ w.cell? ⟨b, off + k * 2 + 1, none⟩ = some (.int .i64 (L.getD k (0, 0)).2)
/-- the slice value v reads as the spans L -/
def Sees (w : World) (v : Value) (L : List (Int × Int)) : Prop :=
  ∃ (p : Option Addr) (b off c : Nat), v = .slice p L.length c ∧ (0 < L.length → p = some ⟨b, off, none⟩) ∧ Cells w b off L

theorem cell_below {w wr : World} {p : Addr} {v : Value} (hB : Below w.heap.size w wr) (h : w.cell? p = some v) : wr.cell? p = some v := by
  have hlt : p.block < w.heap.size := by
    unfold World.cell? at h
    cases hh : w.heap[p.block]? with
    | none => simp [hh] at h
    | some q => exact (Array.getElem?_eq_some_iff.1 hh).1
  exact (hB.cell hlt).trans h
theorem cells_below {w wr : World} {b off : Nat} {L : List (Int × Int)} (h : Cells w b off L) (hB : Below w.heap.size w wr) : Cells wr b off L :=
  fun k hk => ⟨cell_below hB (h k hk).1, cell_below hB (h k hk).2⟩
theorem sees_below {w wr : World} {v : Value} {L : List (Int × Int)} (h : Sees w v L) (hB : Below w.heap.size w wr) : Sees wr v L := by
  obtain ⟨p, b, off, c, h1, h2, h3⟩ := h
  exact ⟨p, b, off, c, h1, h2, cells_below h3 hB⟩
theorem drop_cons {L : List (Int × Int)} {k : Nat} (h : k < L.length) : L.drop k = L.getD k (0, 0) :: L.drop (k + 1) := by
  rw [List.getD_eq_getElem?_getD, List.getElem?_eq_getElem h]
  exact List.drop_eq_getElem_cons h
theorem drop_end {L : List (Int × Int)} {k : Nat} (h : L.length ≤ k) : L.drop k = [] := List.drop_eq_nil_of_le h

set_option maxHeartbeats 400000 in
theorem width_any (a b : Int) (w : World) (h1 : -4000000 ≤ a) (h2 : a ≤ 4000000) (h3 : -4000000 ≤ b) (h4 : b ≤ 4000000) :
    Calls Tryd.prog 78 #[.agg #[.int .i64 a, .int .i64 b]] w fun e w' => e = .returned (.int .i64 (b - a + 1)) ∧ Below w.heap.size w w' := by
  go_enter Tryd.func78, Tryd.ntmps78
  go_wp2_with fail
  go_ret
  refine ⟨by go_num, (Below.refl _ w).alloc (Nat.le_refl _) _⟩

def RightRel (L : List (Int × Int)) (k : Nat) (z : Int) : Prop := rightL L = rightF z (L.drop k) ∧ -1048576 ≤ z ∧ z ≤ 1048578

set_option maxHeartbeats 400000 in
theorem right_cells (p : Option Addr) (b off c len : Nat) (L : List (Int × Int)) (hl : len = L.length) (w : World) (hm : len ≤ 1000000) (hp : 0 < len → p = some ⟨b, off, none⟩) (hx : Cells w b off L) :
    Calls Tryd.prog 77 #[.slice p len c] w fun e w' => e = .returned (.bool (rightL L)) ∧ Below w.heap.size w w' := by
  have HX := Lib.hid hx
  have HN := Lib.hid hl
  have HS := Lib.hid (show RightRel L 0 (-1048576) from ⟨rfl, by omega, by omega⟩)
  obtain ⟨R, hR⟩ : ∃ R, R = rightL L := ⟨_, rfl⟩
  rw [← hR]
  have HR := Lib.hid hR
  clear hx hl hR
  go_enter Tryd.func77, Tryd.ntmps77
  go_wp2
  go_loopw [3, 8] (fun v i wr => ∃ k : Nat, k ≤ len ∧ i = .int .i64 k ∧ ∃ z, v = .int .i64 z ∧ RightRel L k z ∧ Below w.heap.size w wr) (fun _ i _ => len - (intOf i).toNat)
  case atStart => exact ⟨0, by omega, rfl, _, rfl, HS.out, Below.refl _ w⟩
  case round =>
    obtain ⟨k, hk, rfl, z, rfl, hrel, hB⟩ := hrel
    by_cases hlt : k < len
    · obtain rfl := hp (by omega)
      have hlx : k < L.length := by have := HN.out; omega
      obtain ⟨c0, c1⟩ := HX.out k hlx
      have c0 := cell_below hB c0
      have c1 := cell_below hB c1
      have hd := drop_cons hlx
      obtain ⟨x, ex⟩ : ∃ x, x = (L.getD k (0, 0)).1 := ⟨_, rfl⟩
      obtain ⟨y, ey⟩ : ∃ y, y = (L.getD k (0, 0)).2 := ⟨_, rfl⟩
      rw [← ex] at c0
      rw [← ey] at c1
      have key : rightL L = (decide (z ≤ x) && decide (x ≤ y) && decide (y ≤ 1048576) && rightF (y + 2) (L.drop (k + 1))) := by
        rw [hrel.1, hd, rightF, ex, ey]
      have HK := Lib.hid key
      have hz := hrel.2
      have HB := Lib.hid (hB.alloc hB.size (.cells #[.int .i64 x, .int .i64 y] 60))
      clear ex ey hd hlx hB hrel key
      go_wp2_with fail
      · go_ret
        exact ⟨by rw [HR.out, HK.out, decide_eq_false (by omega)]; rfl, HB.out⟩
      · go_ret
        exact ⟨by rw [HR.out, HK.out, decide_eq_false (p := x ≤ y) (by omega)]; simp, HB.out⟩
      · go_ret
        exact ⟨by rw [HR.out, HK.out, decide_eq_false (p := y ≤ 1048576) (by omega)]; simp, HB.out⟩
      · go_roundw
        case rel => exact ⟨k + 1, by omega, by go_num, y + 2, by go_num, ⟨by rw [HK.out, decide_eq_true (by omega), decide_eq_true (p := x ≤ y) (by omega), decide_eq_true (p := y ≤ 1048576) (by omega)]; simp, by omega, by omega⟩, HB.out⟩
        case measure => simp [intOf]; omega
    · have hd : L.drop k = [] := drop_end (by have := HN.out; omega)
      have key : rightL L = true := by rw [hrel.1, hd]; rfl
      have HK := Lib.hid key
      have HB := Lib.hid hB
      clear hrel hB key hd hp
      go_wp2
      go_ret
      exact ⟨by rw [HR.out, HK.out]; rfl, HB.out⟩

theorem right_any {w : World} {v : Value} {L : List (Int × Int)} (h : Sees w v L) (hm : L.length ≤ 1000000) :
    Calls Tryd.prog 77 #[v] w fun e w' => e = .returned (.bool (rightL L)) ∧ Below w.heap.size w w' := by
  obtain ⟨p, b, off, c, rfl, hp, hx⟩ := h
  exact right_cells p b off c _ L rfl w hm hp hx

theorem below_two {w w1 w2 : World} (h1 : Below w.heap.size w w1) (h2 : Below w1.heap.size w1 w2) : Below w.heap.size w w2 := by
  exact h1.trans (h2.mono h1.size)

/-- behind the spans ahead of place k: what is left is right, from z on -/
def Rest (L : List (Int × Int)) (k : Nat) (z : Int) : Prop := rightF z (L.drop k) = true ∧ -1048576 ≤ z
theorem rest_start {L : List (Int × Int)} (h : rightL L = true) : Rest L 0 (-1048576) := ⟨h, by omega⟩
theorem rest_on {L : List (Int × Int)} {k : Nat} {z x y : Int} (h : Rest L k z) (hk : k < L.length) (ex : x = (L.getD k (0, 0)).1) (ey : y = (L.getD k (0, 0)).2) :
    Rest L (k + 1) (y + 2) ∧ z ≤ x ∧ x ≤ y ∧ y ≤ 1048576 ∧ -1048576 ≤ z ∧ 0 ≤ sizeL (L.drop (k + 1)) := by
  obtain ⟨h1, h2⟩ := h
  rw [drop_cons hk, right_cons, ← ex, ← ey] at h1
  obtain ⟨g1, g2, g3, g4⟩ := h1
  exact ⟨⟨g4, by omega⟩, g1, g2, g3, h2, (size_bound g4).1⟩

def SizeRel (L : List (Int × Int)) (k : Nat) (n : Int) : Prop := sizeL L = n + sizeL (L.drop k) ∧ 0 ≤ n ∧ ∃ z, Rest L k z
theorem size_on {L : List (Int × Int)} {k : Nat} {n x y : Int} (h : SizeRel L k n) (hk : k < L.length) (ex : x = (L.getD k (0, 0)).1) (ey : y = (L.getD k (0, 0)).2) : SizeRel L (k + 1) (n + (y - x + 1)) := by
  obtain ⟨h1, h2, z, h3⟩ := h
  obtain ⟨g1, g2⟩ := rest_on h3 hk ex ey
  refine ⟨?_, by omega, _, g1⟩
  rw [h1, drop_cons hk, sizeL, ex, ey]
  omega

set_option maxHeartbeats 400000 in
theorem size_cells (p : Option Addr) (b off c len : Nat) (L : List (Int × Int)) (hl : len = L.length) (w : World) (hm : len ≤ 1000000) (hp : 0 < len → p = some ⟨b, off, none⟩) (hx : Cells w b off L) :
    Calls Tryd.prog 68 #[.slice p len c] w fun e w' => e = .returned (.int .i64 (if rightL L = true then sizeL L else 0)) ∧ Below w.heap.size w w' := by
  have hc := right_cells p b off c len L hl w hm hp hx
  cases hR : rightL L
  · rw [hR] at hc
    rw [if_neg (by simp)]
    have C := Lib.hid hc
    clear hc hR hl hx hp
    go_enter Tryd.func68, Tryd.ntmps68
    go_wp2_with fail
    refine C.out.mono ?_
    rintro e w1 ⟨rfl, hB⟩
    have HB := Lib.hid hB
    clear hB
    go_wp2_with fail
    go_ret
    exact ⟨rfl, HB.out⟩
  · rw [hR] at hc
    rw [if_pos rfl]
    have hbd := size_most hR
    have HS := Lib.hid (show SizeRel L 0 0 from ⟨by simp, by omega, _, rest_start hR⟩)
    obtain ⟨R, eR⟩ : ∃ R, R = sizeL L := ⟨_, rfl⟩
    rw [← eR] at hbd ⊢
    have HR := Lib.hid eR
    have C := Lib.hid hc
    have HX := Lib.hid hx
    have HN := Lib.hid hl
    clear hc hR hl hx eR
    go_enter Tryd.func68, Tryd.ntmps68
    go_wp2_with fail
    refine C.out.mono ?_
    rintro e w1 ⟨rfl, hB1⟩
    have HB1 := Lib.hid hB1
    clear hB1
    go_wp2
    go_loopw [3, 11] (fun v i wr => ∃ k : Nat, k ≤ len ∧ i = .int .i64 k ∧ ∃ n, v = .int .i64 n ∧ SizeRel L k n ∧ Below w.heap.size w wr) (fun _ i _ => len - (intOf i).toNat)
    case atStart => exact ⟨0, by omega, rfl, 0, rfl, HS.out, HB1.out⟩
    case round =>
      obtain ⟨k, hk, rfl, n, rfl, hrel, hB⟩ := hrel
      by_cases hlt : k < len
      · obtain rfl := hp (by omega)
        have hlx : k < L.length := by have := HN.out; omega
        obtain ⟨c0, c1⟩ := HX.out k hlx
        have c0 := cell_below hB c0
        have c1 := cell_below hB c1
        obtain ⟨x, ex⟩ : ∃ x, x = (L.getD k (0, 0)).1 := ⟨_, rfl⟩
        obtain ⟨y, ey⟩ : ∃ y, y = (L.getD k (0, 0)).2 := ⟨_, rfl⟩
        rw [← ex] at c0
        rw [← ey] at c1
        have hon := size_on hrel hlx ex ey
        obtain ⟨q1, q2, z, q3⟩ := hrel
        obtain ⟨_, g1, g2, g3, g4, g5⟩ := rest_on q3 hlx ex ey
        have hn : n + (y - x + 1) ≤ R := by rw [HR.out, hon.1]; omega
        have HO := Lib.hid hon
        have HB := Lib.hid (hB.alloc hB.size (.cells #[.int .i64 x, .int .i64 y] 60))
        have W := Lib.hid (fun w => width_any x y w (by omega) (by omega) (by omega) (by omega))
        clear ex ey hlx hB q1 q3 hon
        go_wp2_with fail
        refine (W.out _).mono ?_
        rintro e w2 ⟨rfl, hB2⟩
        have HB2 := Lib.hid (below_two HB.out hB2)
        clear hB2
        go_wp2_with fail
        go_roundw
        case rel => exact ⟨k + 1, by omega, by go_num, n + (y - x + 1), by go_num, HO.out, HB2.out⟩
        case measure => simp [intOf]; omega
      · have hd : L.drop k = [] := drop_end (by have := HN.out; omega)
        have key : R = n := by rw [HR.out, hrel.1, hd, sizeL]; omega
        have HB := Lib.hid hB
        subst key
        clear hrel hB hd hp
        go_wp2
        go_ret
        exact ⟨rfl, HB.out⟩

theorem size_any {w : World} {v : Value} {L : List (Int × Int)} (h : Sees w v L) (hm : L.length ≤ 1000000) :
    Calls Tryd.prog 68 #[v] w fun e w' => e = .returned (.int .i64 (if rightL L = true then sizeL L else 0)) ∧ Below w.heap.size w w' := by
  obtain ⟨p, b, off, c, rfl, hp, hx⟩ := h
  exact size_cells p b off c _ L rfl w hm hp hx
end Go.Proofs.YtkgieaoahijheaaDoor
namespace Go.Proofs.YtkgieaoahijheaaDoor
open Go.RowKit


/-- as RightRel, with the last end -/
def RRel (L : List (Int × Int)) (k : Nat) : Prop :=
  ∃ z, RightRel L k z ∧ (k = 0 ∧ z = -1048576 ∨ 0 < k ∧ z = (L.getD (k - 1) (0, 0)).2 + 2)

set_option maxHeartbeats 1000000 in
theorem rright_cells (p : Option Addr) (b off c len : Nat) (L : List (Int × Int)) (hl : len = L.length) (w : World) (hm : len ≤ 1000000) (hp : 0 < len → p = some ⟨b, off, none⟩) (hx : Cells w b off L) :
    Calls Tryd.prog 46 #[.slice p len c] w fun e w' => e = .returned (.bool (rightL L)) ∧ Below w.heap.size w w' := by
  have HX := Lib.hid hx
  have HN := Lib.hid hl
  have HS := Lib.hid (show RRel L 0 from ⟨_, ⟨rfl, by omega, by omega⟩, .inl ⟨rfl, rfl⟩⟩)
  obtain ⟨R, hR⟩ : ∃ R, R = rightL L := ⟨_, rfl⟩
  rw [← hR]
  have HR := Lib.hid hR
  clear hx hl hR
  go_enter Tryd.func46, Tryd.ntmps46
  go_wp2
  go_loopw [3] (fun i wr => ∃ k : Nat, k ≤ len ∧ i = .int .i64 k ∧ RRel L k ∧ Below w.heap.size w wr) (fun i _ => len - (intOf i).toNat)
  case atStart => exact ⟨0, by omega, rfl, HS.out, Below.refl _ w⟩
  case round =>
    obtain ⟨k, hk, rfl, hrel, hB⟩ := hrel
    by_cases hlt : k < len
    · obtain rfl := hp (by omega)
      have hlx : k < L.length := by have := HN.out; omega
      obtain ⟨c0, c1⟩ := HX.out k hlx
      have c0 := cell_below hB c0
      have c1 := cell_below hB c1
      have hd := drop_cons hlx
      obtain ⟨x, ex⟩ : ∃ x, x = (L.getD k (0, 0)).1 := ⟨_, rfl⟩
      obtain ⟨y, ey⟩ : ∃ y, y = (L.getD k (0, 0)).2 := ⟨_, rfl⟩
      rw [← ex] at c0
      rw [← ey] at c1
      obtain ⟨z, hz, hz2⟩ := hrel
      have key : rightL L = (decide (z ≤ x) && decide (x ≤ y) && decide (y ≤ 1048576) && rightF (y + 2) (L.drop (k + 1))) := by
        rw [hz.1, hd, rightF, ex, ey]
      have HK := Lib.hid key
      have hzz := hz.2
      have HB := Lib.hid (fun n => below_drewN (n := n) hB)
      have HY := Lib.hid ey
      by_cases h1 : x < -1048576
      · clear ex ey hd hlx hB hz key hz2
        go_wp2
        go_quiet (fail)
        go_wp2_with fail
        go_ret
        exact ⟨by rw [HR.out, HK.out, decide_eq_false (by omega)]; rfl, HB.out _⟩
      · have d1 : decide (x < -1048576) = false := decide_eq_false h1
        by_cases h2 : 1048576 < y
        · clear ex ey hd hlx hB hz key hz2
          go_wp2
          go_quiet (fail)
          go_wp2_with fail
          go_ret
          exact ⟨by rw [HR.out, HK.out, decide_eq_false (p := y ≤ 1048576) (by omega)]; simp, HB.out _⟩
        · have d2 : decide (1048576 < y) = false := decide_eq_false h2
          by_cases h3 : y < x
          · clear ex ey hd hlx hB hz key hz2
            go_wp2
            go_quiet (fail)
            go_wp2_with fail
            go_ret
            exact ⟨by rw [HR.out, HK.out, decide_eq_false (p := x ≤ y) (by omega)]; simp, HB.out _⟩
          · have d3 : decide (y < x) = false := decide_eq_false h3
            have ky : ∀ (h : z ≤ x), RRel L (k + 1) := fun h => ⟨y + 2, ⟨by rw [HK.out, decide_eq_true h, decide_eq_true (p := x ≤ y) (by omega), decide_eq_true (p := y ≤ 1048576) (by omega)]; simp, by omega, by omega⟩, .inr ⟨by omega, by rw [ey]; simp⟩⟩
            have KY := Lib.hid ky
            cases k with
            | zero =>
              have hz0 : z ≤ x := by omega
              have d4 : decide ((0 : Int) < ((0 : Nat) : Int)) = false := rfl
              have d5 : (0 : Int) < (len : Int) := by omega
              have c0 : wr.cell? ⟨b, off, none⟩ = some (.int .i64 x) := by simpa using c0
              have c1 : wr.cell? ⟨b, off + 1, none⟩ = some (.int .i64 y) := by simpa using c1
              clear ex ey hd hlx hB hz key hz2 ky
              go_wp2
              go_quiet (fail)
              go_wp2
              go_quiet (fail)
              go_wp2_with fail
              go_roundw
              case rel => exact ⟨0 + 1, by omega, by go_num, KY.out hz0, HB.out _⟩
              case measure => simp [intOf]; omega
            | succ j =>
              have e1 : z = (L.getD j (0, 0)).2 + 2 := by
                rcases hz2 with h | h
                · omega
                · simpa using h.2
              have c2 := cell_below hB (HX.out j (by omega)).2
              obtain ⟨t, et⟩ : ∃ t, t = (L.getD j (0, 0)).2 := ⟨_, rfl⟩
              rw [← et] at c2 e1
              have d4 : (0 : Int) < ((j + 1 : Nat) : Int) := by omega
              have d5 : (j : Int) < (len : Int) := by omega
              by_cases h4 : x - t < 2
              · clear ex ey hd hlx hB hz key hz2 ky et
                go_wp2
                go_quiet (fail)
                go_wp2
                go_quiet (fail)
                go_wp2_with fail
                go_ret
                exact ⟨by rw [HR.out, HK.out, decide_eq_false (by omega)]; rfl, below_drewN (HB.out _)⟩
              · have d6 : decide (x - t < 2) = false := decide_eq_false h4
                clear ex ey hd hlx hB hz key hz2 ky et
                go_wp2
                go_quiet (fail)
                go_wp2
                go_quiet (fail)
                go_wp2_with fail
                go_roundw
                case rel => exact ⟨j + 1 + 1, by omega, by go_num, KY.out (by omega), HB.out _⟩
                case measure => simp [intOf]; omega
    · obtain ⟨z, hz, _⟩ := hrel
      have hd : L.drop k = [] := drop_end (by have := HN.out; omega)
      have key : rightL L = true := by rw [hz.1, hd]; rfl
      have HK := Lib.hid key
      have HB := Lib.hid hB
      clear hz hB key hd hp
      go_wp2
      go_ret
      exact ⟨by rw [HR.out, HK.out]; rfl, HB.out⟩

theorem rright_any {w : World} {v : Value} {L : List (Int × Int)} (h : Sees w v L) (hm : L.length ≤ 1000000) :
    Calls Tryd.prog 46 #[v] w fun e w' => e = .returned (.bool (rightL L)) ∧ Below w.heap.size w w' := by
  obtain ⟨p, b, off, c, rfl, hp, hx⟩ := h
  exact rright_cells p b off c _ L rfl w hm hp hx

set_option maxHeartbeats 1000000 in
theorem rsize_cells (p : Option Addr) (b off c len : Nat) (L : List (Int × Int)) (hl : len = L.length) (w : World) (hm : len ≤ 1000000) (hp : 0 < len → p = some ⟨b, off, none⟩) (hx : Cells w b off L) :
    Calls Tryd.prog 27 #[.slice p len c] w fun e w' => e = .returned (.int .i64 (if rightL L = true then sizeL L else 0)) ∧ Below w.heap.size w w' := by
  have hc : ∀ wr, Below w.heap.size w wr → Calls Tryd.prog 46 #[.slice p len c] wr fun e w' => e = .returned (.bool (rightL L)) ∧ Below wr.heap.size wr w' := fun wr h => rright_cells p b off c len L hl wr hm hp (cells_below hx h)
  by_cases h0 : len = 0
  · have e0 : L = [] := List.eq_nil_of_length_eq_zero (by omega)
    subst e0 h0
    clear hc hp hx hl
    go_enter Tryd.func27, Tryd.ntmps27
    go_wp2
    go_loopw [3, 4] (fun a i wr => a = .int .i64 0 ∧ i = .int .i64 0 ∧ wr = w) (fun _ _ _ => 0)
    case atStart => exact ⟨rfl, rfl, rfl⟩
    case round =>
      obtain ⟨rfl, rfl, rfl⟩ := hrel
      go_wp2_with fail
      go_ret
      exact ⟨rfl, Below.refl _ _⟩
  · cases hR : rightL L
    · rw [hR] at hc
      rw [if_neg (by simp)]
      have C := Lib.hid hc
      have hpos : 0 < len := by omega
      clear hc hR hl hx hp h0
      go_enter Tryd.func27, Tryd.ntmps27
      go_wp2
      go_loopw [3, 4] (fun a i wr => a = .int .i64 0 ∧ i = .int .i64 0 ∧ wr = w) (fun _ _ _ => 0)
      case atStart => exact ⟨rfl, rfl, rfl⟩
      case round =>
        obtain ⟨rfl, rfl, rfl⟩ := hrel
        go_wp2_with fail
        refine (C.out _ (Below.refl _ _)).mono ?_
        rintro e w1 ⟨rfl, hB⟩
        have HB := Lib.hid hB
        clear hB
        go_wp2_with fail
        go_ret
        exact ⟨rfl, HB.out⟩
    · rw [hR] at hc
      rw [if_pos rfl]
      have hbd := size_most hR
      have HS := Lib.hid (show SizeRel L 0 0 from ⟨by simp, by omega, _, rest_start hR⟩)
      obtain ⟨R, eR⟩ : ∃ R, R = sizeL L := ⟨_, rfl⟩
      rw [← eR] at hbd ⊢
      have HR := Lib.hid eR
      have C := Lib.hid hc
      have HX := Lib.hid hx
      have HN := Lib.hid hl
      clear hc hR hl hx eR h0
      go_enter Tryd.func27, Tryd.ntmps27
      go_wp2
      go_loopw [3, 4] (fun v i wr => ∃ k : Nat, k ≤ len ∧ i = .int .i64 k ∧ ∃ n, v = .int .i64 n ∧ SizeRel L k n ∧ Below w.heap.size w wr) (fun _ i _ => len - (intOf i).toNat)
      case atStart => exact ⟨0, by omega, rfl, 0, rfl, HS.out, Below.refl _ w⟩
      case round =>
        obtain ⟨k, hk, rfl, n, rfl, hrel, hB⟩ := hrel
        by_cases hlt : k < len
        · obtain rfl := hp (by omega)
          have hlx : k < L.length := by have := HN.out; omega
          obtain ⟨x, ex⟩ : ∃ x, x = (L.getD k (0, 0)).1 := ⟨_, rfl⟩
          obtain ⟨y, ey⟩ : ∃ y, y = (L.getD k (0, 0)).2 := ⟨_, rfl⟩
          have hon := size_on hrel hlx ex ey
          obtain ⟨q1, q2, z, q3⟩ := hrel
          obtain ⟨_, g1, g2, g3, g4, g5⟩ := rest_on q3 hlx ex ey
          have hn : n + (y - x + 1) ≤ R := by rw [HR.out, hon.1]; omega
          have HO := Lib.hid hon
          have HE := Lib.hid (And.intro ex ey)
          have HB := Lib.hid hB
          clear ex ey hB q1 q3 hon
          go_wp2_with fail
          refine (C.out _ HB.out).mono ?_
          rintro e w1 ⟨rfl, hB1⟩
          have hB2 := below_two HB.out hB1
          obtain ⟨c0, c1⟩ := HX.out k hlx
          have c0 := cell_below hB2 c0
          have c1 := cell_below hB2 c1
          rw [← HE.out.1] at c0
          rw [← HE.out.2] at c1
          have d5 : (k : Int) < (len : Int) := by omega
          have HB2 := Lib.hid (fun n => below_drewN (n := n) hB2)
          clear hB1 hB2
          go_wp2
          go_quiet (fail)
          go_wp2_with fail
          go_roundw
          case rel => exact ⟨k + 1, by omega, by go_num, n + (y - x + 1), by go_num, HO.out, HB2.out _⟩
          case measure => simp [intOf]; omega
        · have hd : L.drop k = [] := drop_end (by have := HN.out; omega)
          have key : R = n := by rw [HR.out, hrel.1, hd, sizeL]; omega
          have HB := Lib.hid hB
          subst key
          clear hrel hB hd hp
          go_wp2
          go_ret
          exact ⟨rfl, HB.out⟩

theorem rsize_any {w : World} {v : Value} {L : List (Int × Int)} (h : Sees w v L) (hm : L.length ≤ 1000000) :
    Calls Tryd.prog 27 #[v] w fun e w' => e = .returned (.int .i64 (if rightL L = true then sizeL L else 0)) ∧ Below w.heap.size w w' := by
  obtain ⟨p, b, off, c, rfl, hp, hx⟩ := h
  exact rsize_cells p b off c _ L rfl w hm hp hx
end Go.Proofs.YtkgieaoahijheaaDoor
namespace Go.Proofs.YtkgieaoahijheaaDoor
open Go.RowKit
set_option maxRecDepth 100000

def szL (L : List (Int × Int)) : Int := if rightL L = true then sizeL L else 0
theorem sz_low (L : List (Int × Int)) : 0 ≤ szL L ∧ szL L ≤ 2097153 := by
  unfold szL
  by_cases h : rightL L = true
  · rw [if_pos h]
    exact size_most h
  · rw [if_neg h]
    omega
theorem sees_of {w : World} {v : Value} {L : List (Int × Int)} (h : Slc rSpan 2 w v L) : Sees w v L := by
  obtain ⟨p, b, off, c, len, rfl, _, hs⟩ := h
  have hl := hs.long
  subst hl
  exact ⟨p, b, off, c, rfl, hs.at_, fun k hk => span_at hs hk⟩
theorem psize_any {w : World} {v : Value} {L : List (Int × Int)} (h : Slc rSpan 2 w v L) (hm : L.length ≤ 1000000) :
    Calls Tryd.prog 68 #[v] w fun e w' => e = .returned (.int .i64 (szL L)) ∧ Below w.heap.size w w' := size_any (sees_of h) hm
theorem rfsize_any {w : World} {v : Value} {L : List (Int × Int)} (h : Slc rSpan 2 w v L) (hm : L.length ≤ 1000000) :
    Calls Tryd.prog 27 #[v] w fun e w' => e = .returned (.int .i64 (szL L)) ∧ Below w.heap.size w w' := rsize_any (sees_of h) hm

def bigM (m : PModel) : Bool := decide (8 < m.blocks.length) || (decide (16 < m.goal.length) || (m.blocks.any (fun b => decide (16 < b.cons.length)) || decide (16 < (varsL m.blocks).length)))
def formM (m : PModel) : Bool := decide (m.blocks.length = 0) || m.blocks.any (fun b => decide (b.vars.length = 0))
def nameM (m : PModel) : Bool := (varsL m.blocks).any (fun d => !nameL d.name)
def names (L : List PDecl) : List (List UInt8) := L.map (·.name)
/-- do two of the first n have one name? -/
def TwiceTo (ns : List (List UInt8)) (n : Nat) : Prop := ∃ i j, j < i ∧ i < n ∧ ns.getD i [] = ns.getD j []
open Classical in
noncomputable def twiceM (m : PModel) : Bool := decide (TwiceTo (names (varsL m.blocks)) (names (varsL m.blocks)).length)
def domD (d : PDecl) : Bool := decide (szL d.dom < 1) || decide (64 < szL d.dom)
def domM (m : PModel) : Bool := (varsL m.blocks).any domD
noncomputable def wrongL (L : List PCon) (n : Nat) : Bool := L.any (fun c => !rightC c (n : Int))
noncomputable def conF (n : Nat) : List PBlock → Bool
  | [] => false
  | b :: r => wrongL b.cons (n + b.vars.length) || conF (n + b.vars.length) r
noncomputable def conM (m : PModel) : Bool := conF 0 m.blocks || wrongL m.goal (varsL m.blocks).length
/-- the first of some errors -/
def firstF : List (Bool × Int) → Int
  | [] => 0
  | (b, e) :: r => if b = true then e else firstF r
noncomputable def faultsM (m : PModel) : List (Bool × Int) := [(bigM m, 5), (formM m, 2), (nameM m, 7), (twiceM m, 8), (domM m, 1), (conM m, 12)]
noncomputable def checkM (m : PModel) : Int := firstF (faultsM m)

/-- the lists of a model are short -/
structure Few (m : PModel) : Prop where
  blocks : m.blocks.length ≤ 1000
  vars : ∀ b ∈ m.blocks, b.vars.length ≤ 1000
  wheres : ∀ b ∈ m.blocks, b.cons.length ≤ 1000 ∧ ∀ c ∈ b.cons, Short 1000 c
  goal : m.goal.length ≤ 1000 ∧ ∀ c ∈ m.goal, Short 1000 c
  decls : ∀ b ∈ m.blocks, ∀ d ∈ b.vars, d.name.length ≤ 1000 ∧ d.dom.length ≤ 1000
  few : (varsL m.blocks).length ≤ 1000
theorem vars_most (bs : List PBlock) (h : ∀ x ∈ bs, x.vars.length ≤ 30) : (varsL bs).length ≤ bs.length * 30 := by
  induction bs with
  | nil => simp [varsL]
  | cons x r ih =>
    have h1 := h x (by simp)
    have h2 := ih fun y hy => h y (by simp [hy])
    have e : varsL (x :: r) = x.vars ++ varsL r := by simp [varsL]
    rw [e, List.length_append, List.length_cons]
    omega
theorem short_up {c : PCon} (h : Short 150 c) : Short 1000 c := ⟨by have := h.1; omega, by have := h.2.1; omega, by have := h.2.2; omega⟩
theorem few_of {m : PModel} (h : largeB m = false) : Few m := by
  simp only [largeB, Bool.or_eq_false_iff, decide_eq_false_iff_not, List.any_eq_false] at h
  obtain ⟨h1, h2, h3⟩ := h
  have hb : ∀ b ∈ m.blocks, ¬ 30 < b.vars.length ∧ consB b.cons = false ∧ ∀ d ∈ b.vars, ¬ longD d = true := fun b hb => by
    have := h3 b hb
    rw [Bool.not_eq_true] at this
    simpa only [longB, Bool.or_eq_false_iff, decide_eq_false_iff_not, List.any_eq_false] using this
  have hd : ∀ b ∈ m.blocks, ∀ d ∈ b.vars, d.name.length ≤ 1000 ∧ d.dom.length ≤ 1000 := fun b q d r => by
    have := (hb b q).2.2 d r
    simp [longD] at this
    omega
  have hv : ∀ b ∈ m.blocks, b.vars.length ≤ 30 := fun b q => by have := (hb b q).1; omega
  have ht := vars_most m.blocks hv
  exact ⟨by omega, fun b q => by have := hv b q; omega, fun b q => ⟨by have := (cons_short (hb b q).2.1).1; omega, fun c hc => short_up ((cons_short (hb b q).2.1).2 c hc)⟩, ⟨by have := (cons_short h2).1; omega, fun c hc => short_up ((cons_short h2).2 c hc)⟩, hd, by omega⟩
theorem Few.decl {m : PModel} (h : Few m) : ∀ d ∈ varsL m.blocks, d.name.length ≤ 1000 ∧ d.dom.length ≤ 1000 := fun d hd => by
  obtain ⟨b, hb, hd⟩ := List.mem_flatMap.1 hd
  exact h.decls b hb d hd
theorem twice_yes {ns : List (List UInt8)} {n i j : Nat} (hj : j < i) (hi : i < n) (e : ns.getD i [] = ns.getD j []) : TwiceTo ns n := ⟨i, j, hj, hi, e⟩
theorem names_get {L : List PDecl} {k : Nat} {d : PDecl} (h : L[k]? = some d) : (names L).getD k [] = d.name := by
  simp [names, h]
theorem dom_is (d : PDecl) : domD d = (decide (szL d.dom = 0) || decide (64 < szL d.dom)) := by
  have := (sz_low d.dom).1
  unfold domD
  congr 1
  exact decide_eq_decide.2 (by omega)
theorem totals {bs : List PBlock} {k : Nat} {x : PBlock} (h : bs[k]? = some x) : (varsL (bs.take (k + 1))).length = (varsL (bs.take k)).length + x.vars.length := by
  obtain ⟨hk, e⟩ := List.getElem?_eq_some_iff.1 h
  rw [vars_drop (x := x) (by rw [← e]; exact List.drop_eq_getElem_cons hk), List.length_append]
theorem con_at_k {bs : List PBlock} {n k : Nat} {x : PBlock} (h : bs[k]? = some x) : conF n (bs.drop k) = (wrongL x.cons (n + x.vars.length) || conF (n + x.vars.length) (bs.drop (k + 1))) := by
  obtain ⟨hk, e⟩ := List.getElem?_eq_some_iff.1 h
  rw [List.drop_eq_getElem_cons hk, conF, e]
end Go.Proofs.YtkgieaoahijheaaDoor
