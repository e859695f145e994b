/-
  What Large, Own, Left and Fewer of the laws of a step answer.
-/
import Derived.Test.YtiaibggbbkhjlaaDoorZYAW
import Derived.Test.YtiaibggbbkhjlaaDoorZYAP
import Derived.Test.YtiaibggbbkhjlaaDoorZYBB
namespace Go.Proofs.YtiaibggbbkhjlaaDoor.St
open Go.RowKit
set_option maxRecDepth 100000

open Classical in
/-- are a constraint, and domains, more than are looked at? -/
noncomputable def largeS (c : PCon) (L : List (List Int × Nat)) : Bool := !decide (L.length ≤ 20 ∧ Short 150 c ∧ ∀ d ∈ L, d.1.length ≤ 150)
open Classical in
theorem largeS_true {c : PCon} {L : List (List Int × Nat)} (h : ¬ (L.length ≤ 20 ∧ Short 150 c ∧ ∀ d ∈ L, d.1.length ≤ 150)) : largeS c L = true := by unfold largeS; rw [decide_eq_false h]; rfl
open Classical in
theorem largeS_false {c : PCon} {L : List (List Int × Nat)} (h : L.length ≤ 20 ∧ Short 150 c ∧ ∀ d ∈ L, d.1.length ≤ 150) : largeS c L = false := by unfold largeS; rw [decide_eq_true h]; rfl
open Classical in
theorem largeS_no {c : PCon} {L : List (List Int × Nat)} (h : largeS c L = false) : L.length ≤ 20 ∧ Short 150 c ∧ ∀ d ∈ L, d.1.length ≤ 150 := by
  unfold largeS at h
  exact of_decide_eq_true (by simpa using h)
theorem doms_in {L : List (List Int × Nat)} {k : Nat} (h : k < L.length) : L.getD k ([], 0) ∈ L := by
  rw [List.getD_eq_getElem?_getD, List.getElem?_eq_getElem h]
  exact List.getElem_mem h

set_option maxHeartbeats 4000000 in
theorem large_any {w : World} {v1 v2 v3 v : Value} {c : PCon} {L : List (List Int × Nat)} (hc : rCon w [.int .i64 c.kind, v1, v2, .int .i64 c.rel, .int .i64 c.const, v3] c) (h : Slc rDom 2 w v L) :
    Calls Tryd.prog 8 #[.agg #[.int .i64 c.kind, v1, v2, .int .i64 c.rel, .int .i64 c.const, v3], v] w fun e w' => e = .returned (.bool (largeS c L)) ∧ Below w.heap.size w w' := by
  obtain ⟨p, b, off, cc, len, rfl, _, hss⟩ := h
  obtain ⟨_, _, _, e, _, ⟨p1, b1, o1, c1, l1, e1, _, h1⟩, ⟨p2, b2, o2, c2, l2, e2, _, h2⟩, ⟨p3, b3, o3, c3, l3, e3, _, h3⟩⟩ := hc
  subst e1 e2 e3
  simp only [List.cons.injEq, true_and, and_true] at e
  obtain ⟨rfl, rfl, rfl⟩ := e
  have HS := Lib.hid hss
  have hp := hss.at_
  have E := Lib.hid (And.intro hss.long (And.intro h1.long (And.intro h2.long h3.long)))
  obtain ⟨R, hR⟩ : ∃ R, R = largeS c L := ⟨_, rfl⟩
  rw [← hR]
  have HR := Lib.hid hR
  have HB0 := Lib.hid (new_below w (.cells #[.int .i64 c.kind, .slice p1 l1 c1, .slice p2 l2 c2, .int .i64 c.rel, .int .i64 c.const, .slice p3 l3 c3] 24))
  clear hss h1 h2 h3 hR
  generalize c.kind = kd at HB0 ⊢
  generalize c.rel = rl at HB0 ⊢
  generalize c.const = ct at HB0 ⊢
  by_cases g0 : 20 < len
  · have d1 : decide ((20 : Int) < (len : Int)) = true := decide_eq_true (by omega)
    have key : R = true := HR.out.trans (largeS_true fun h => by have := E.out; omega)
    subst key
    clear HR
    go_enter Tryd.func8, Tryd.ntmps8
    go_wp2_with fail
    go_ret
    exact ⟨rfl, HB0.out⟩
  · have d0 : decide ((20 : Int) < (len : Int)) = false := decide_eq_false (by omega)
    by_cases g1 : 150 < l1
    · have d1 : decide ((150 : Int) < (l1 : Int)) = true := decide_eq_true (by omega)
      have key : R = true := HR.out.trans (largeS_true fun h => by have := E.out; have := h.2.1.1; omega)
      subst key
      clear HR g0
      go_enter Tryd.func8, Tryd.ntmps8
      go_wp2_with fail
      go_ret
      exact ⟨rfl, HB0.out⟩
    · have d1 : decide ((150 : Int) < (l1 : Int)) = false := decide_eq_false (by omega)
      by_cases g2 : 150 < l2
      · have d2 : decide ((150 : Int) < (l2 : Int)) = true := decide_eq_true (by omega)
        have key : R = true := HR.out.trans (largeS_true fun h => by have := E.out; have := h.2.1.2.1; omega)
        subst key
        clear HR g0 g1
        go_enter Tryd.func8, Tryd.ntmps8
        go_wp2_with fail
        go_ret
        exact ⟨rfl, HB0.out⟩
      · have d2 : decide ((150 : Int) < (l2 : Int)) = false := decide_eq_false (by omega)
        by_cases g3 : 150 < l3
        · have d3 : decide ((150 : Int) < (l3 : Int)) = true := decide_eq_true (by omega)
          have key : R = true := HR.out.trans (largeS_true fun h => by have := E.out; have := h.2.1.2.2; omega)
          subst key
          clear HR g0 g1 g2
          go_enter Tryd.func8, Tryd.ntmps8
          go_wp2_with fail
          go_ret
          exact ⟨rfl, HB0.out⟩
        · have d3 : decide ((150 : Int) < (l3 : Int)) = false := decide_eq_false (by omega)
          have G := Lib.hid (And.intro g0 (And.intro g1 (And.intro g2 g3)))
          have hle : len ≤ 20 := by omega
          clear g0 g1 g2 g3
          go_enter Tryd.func8, Tryd.ntmps8
          go_wp2_with fail
          go_loopw [30] (fun i wr => ∃ k : Nat, k ≤ len ∧ i = .int .i64 k ∧ (∀ j, j < k → (L.getD j ([], 0)).1.length ≤ 150) ∧ Below w.heap.size w wr) (fun i _ => len - (intOf i).toNat)
          case atStart => exact ⟨0, by omega, rfl, fun j h => by omega, HB0.out⟩
          case round =>
            rename_i wr
            obtain ⟨k, hk, rfl, hrel, hB⟩ := hrel
            have HJ := Lib.hid hrel
            have HB := Lib.hid hB
            clear hrel hB
            by_cases hlt : k < len
            · obtain rfl := hp (by omega)
              obtain ⟨x, u, ex, ⟨a0, a1⟩, hx⟩ := dom_at2 (HS.out.below rDom_stays HB.out) hlt
              have hxl : ∃ (q : Option Addr) (cq : Nat), u = .slice q x.1.length cq := by
                obtain ⟨q, _, _, cq, e, _, _⟩ := Dm.reads_shape (Dm.reads_of_readsN (rDom_parts hx).1)
                exact ⟨q, cq, e⟩
              obtain ⟨q, cq, rfl⟩ := hxl
              have HX := Lib.hid (show L.getD k ([], 0) = x by rw [List.getD_eq_getElem?_getD, ex]; rfl)
              obtain ⟨n, hn⟩ : ∃ n, n = x.1.length := ⟨_, rfl⟩
              rw [← hn] at a0
              have HN := Lib.hid hn
              have HBn := Lib.hid (below_two HB.out (new_below wr (.cells #[.slice q n cq, .int .u64 x.2] 47)))
              generalize x.2 = y at a1 HBn
              have d5 : (k : Int) < (len : Int) := by omega
              clear hx ex hn
              by_cases t : 150 < n
              · have t1 : decide ((150 : Int) < (n : Int)) = true := decide_eq_true (by omega)
                have key : R = true := HR.out.trans (largeS_true fun h => by
                  have := h.2.2 _ (doms_in (k := k) (by rw [← E.out.1]; exact hlt))
                  rw [HX.out, ← HN.out] at this
                  omega)
                subst key
                clear HR
                go_wp2_with fail
                go_ret
                exact ⟨rfl, HBn.out⟩
              · have t1 : decide ((150 : Int) < (n : Int)) = false := decide_eq_false (by omega)
                have NX := Lib.hid (show ∀ j, j < k + 1 → (L.getD j ([], 0)).1.length ≤ 150 from fun j hj => by
                  by_cases h : j < k
                  · exact HJ.out j h
                  · obtain rfl : j = k := by omega
                    rw [HX.out, ← HN.out]
                    omega)
                go_wp2_with fail
                go_roundw
                case rel => exact ⟨k + 1, by omega, by go_num, NX.out, HBn.out⟩
                case measure => simp [intOf]; omega
            · obtain rfl : k = len := by omega
              have d6 : ¬ ((k : Int) < (k : Int)) := by omega
              have key : R = false := HR.out.trans (largeS_false ⟨by have := E.out.1; omega, ⟨by have := E.out; have := G.out; omega, by have := E.out; have := G.out; omega, by have := E.out; have := G.out; omega⟩, fun d hd => by
                obtain ⟨i, hi, e⟩ := List.getElem_of_mem hd
                have := HJ.out i (by rw [E.out.1]; exact hi)
                rw [List.getD_eq_getElem?_getD, List.getElem?_eq_getElem hi, e] at this
                exact this⟩)
              subst key
              clear HR
              go_wp2_with fail
              go_ret
              exact ⟨rfl, HB.out⟩

/-- a domain among others, in cells of its own -/
def domV (w : World) (cs : List Value) (d : List Int × Nat) : Prop := rDom w cs d
set_option maxHeartbeats 4000000 in
theorem own_any {w : World} {v : Value} {L : List (List Int × Nat)} (h : Slc rDom 2 w v L) (hn : L.length ≤ 1000) :
    Calls Tryd.prog 11 #[v] w fun e w' => ∃ r, e = .returned r ∧ Slc rDom 2 w' r L ∧ Below w.heap.size w w' := by
  obtain ⟨p, b, off, c, len, rfl, _, hs⟩ := h
  have hl := hs.long
  have hp := hs.at_
  have HL := Lib.hid hl
  have HS := Lib.hid hs
  have hlen : len ≤ 1000 := by omega
  clear hs hl hn
  go_enter Tryd.func11, Tryd.ntmps11
  go_wp2_with fail
  go_loopw [3, 9] (fun out i wr => ∃ k : Nat, k ≤ len ∧ i = .int .i64 k ∧ OwnsP (rDom w) 2 66 w.heap.size wr out (L.take k) ∧ Below w.heap.size w wr) (fun _ i _ => len - (intOf i).toNat)
  case atStart => exact ⟨0, by omega, rfl, ownsP_made _ _ _ _ (Nat.le_refl _), new_below _ _⟩
  case round =>
    rename_i out wr
    obtain ⟨k, hk, rfl, hown, hB⟩ := hrel
    have HO := Lib.hid hown
    have HB := Lib.hid hB
    clear hown hB
    by_cases hlt : k < len
    · obtain rfl := hp (by omega)
      have hlL : k < L.length := by have := HL.out; omega
      obtain ⟨x, u, ex, ⟨a0, a1⟩, hx⟩ := dom_at2 HS.out hlt
      obtain ⟨p9, l9, c9, rfl⟩ := rDom_shape hx
      replace a0 := cell_below HB.out a0
      replace a1 := cell_below HB.out a1
      have hy : L.take (k + 1) = L.take k ++ [x] := by
        rw [List.take_succ_eq_append_getElem hlL]
        have := List.getElem?_eq_getElem hlL
        rw [ex] at this
        rw [← Option.some.inj this]
      have HY := Lib.hid hy
      have d5 : (k : Int) < (len : Int) := by omega
      have hl6 : (L.take k).length ≤ 100000 := by rw [List.length_take]; omega
      have hl7 : (L.take k).length = k := by rw [List.length_take]; omega
      have HX := Lib.hid hx
      obtain ⟨y, ey⟩ : ∃ y, y = x.2 := ⟨_, rfl⟩
      rw [← ey] at a1 HX
      obtain ⟨M, hM⟩ : ∃ M, M = L.take k := ⟨_, rfl⟩
      rw [← hM] at HO hl6 hl7 HY
      obtain ⟨W9, hW9⟩ : ∃ z, z = (wr.alloc (.cells #[.slice p9 l9 c9, .int .u64 y] 47)).alloc (.cells #[.slice p9 l9 c9, .int .u64 y] 66) := ⟨_, rfl⟩
      have hb1 := new_below wr (.cells #[.slice p9 l9 c9, .int .u64 y] 47)
      have hb2 := new_below (wr.alloc (.cells #[.slice p9 l9 c9, .int .u64 y] 47)) (.cells #[.slice p9 l9 c9, .int .u64 y] 66)
      have hb9 : Below wr.heap.size wr W9 := by rw [hW9]; exact below_two hb1 hb2
      have HOV := Lib.hid (HO.out.below hb9)
      have HLB := Lib.hid (below_two HB.out hb9)
      have HLV := Lib.hid HLB.out.size
      have hcv := two_cells (wr.alloc (.cells #[.slice p9 l9 c9, .int .u64 y] 47)) (.slice p9 l9 c9) (.int .u64 y) 66
      rw [← hW9, World.size_alloc] at hcv
      have HCV := Lib.hid hcv
      have HW9 := Lib.hid hW9
      clear hy hM hlL hx ex ey hb1 hb2 hb9 hcv hW9
      go_wp2_with (at_builtin; rw [← HW9.out]; refine put_row infoDom rfl (by decide) (by decide) Tryd.underlying31 rfl _ _ rfl rfl rfl HOV.out rfl HCV.out (by simp [Value.oneCell']) HX.out hl6 HLV.out ?_; intro p8 cap8 w8 hp1 hp2 hp3; have HN := Lib.hid (And.intro hp1 (HLB.out.grown hp2 HLV.out fun j e => (OwnsP.lt HOV.out j e).1)); clear hp1 hp2 hp3)
      go_roundw
      case rel => exact ⟨k + 1, by omega, by go_num, by have h := HN.out.1; rw [hl7] at h; rw [HY.out]; exact h, HN.out.2⟩
      case measure => simp [intOf]; omega
    · have d6 : ¬ ((k : Int) < (len : Int)) := by omega
      have hall : L.take k = L := List.take_of_length_le (by have := HL.out; omega)
      rw [hall] at HO
      clear hall
      go_wp2_with fail
      go_ret
      exact ⟨_, rfl, HO.out.slc fun cs a _ hr => rDom_stays _ _ _ _ HB.out hr, HB.out⟩
end Go.Proofs.YtiaibggbbkhjlaaDoor.St
