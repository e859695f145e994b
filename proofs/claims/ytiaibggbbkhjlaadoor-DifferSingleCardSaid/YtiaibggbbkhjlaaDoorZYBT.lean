/-
  What Left of the laws of a step answers: is each value of a row left?
  What Within of the laws of a step answers: is all that is left of the one left of the other, too, of the same values?
  What Fewer of the laws of a step answers: domains of which less is left.
-/
import Derived.Test.YtiaibggbbkhjlaaDoorZZLaw
import Derived.Test.YtiaibggbbkhjlaaDoorZYAX
import Derived.Test.YtiaibggbbkhjlaaDoorZYBC
import Derived.Deep.RegionHeld3
import Derived.Test.YtiaibggbbkhjlaaDoorZYBI
import Derived.Test.YtiaibggbbkhjlaaDoorZYAZ
namespace Go.Proofs.YtiaibggbbkhjlaaDoor.St
open Go.RowKit
set_option maxRecDepth 100000

/-- is each value of a row left? -/
def leftB (row : List Int) (L : List (List Int × Nat)) : Bool := decide (row.length = L.length ∧ ∀ i, i < L.length → row.getD i 0 ∈ leftOf (L.getD i ([], 0)))

set_option maxHeartbeats 4000000 in
theorem left_any {w : World} {pr : Option Addr} {br orr lr cr : Nat} {row : List Int} {v : Value} {L : List (List Int × Nat)} (hr : Nums w pr br orr lr row) (h : Slc rDom 2 w v L) (hn : L.length ≤ 1000) (hm : ∀ d ∈ L, d.1.length ≤ 1000) :
    Calls Tryd.prog 14 #[.slice pr lr cr, v] w fun e w' => e = .returned (.bool (leftB row L)) ∧ Below w.heap.size w w' := by
  obtain ⟨p, b, off, cc, len, rfl, _, hs⟩ := h
  have hp := hs.at_
  have HS := Lib.hid hs
  have NR := Lib.hid hr
  have E := Lib.hid (And.intro hs.long hr.long)
  have HM := Lib.hid hm
  have hlen : len ≤ 1000 := by have := hs.long; omega
  obtain ⟨R, hR⟩ : ∃ R, R = leftB row L := ⟨_, rfl⟩
  rw [← hR]
  have HR := Lib.hid hR
  clear hs hr hm hR hn
  by_cases hne : lr = len
  · subst hne
    go_enter Tryd.func14, Tryd.ntmps14
    go_wp2_with fail
    go_loopw [17] (fun i wr => ∃ k : Nat, k ≤ lr ∧ i = .int .i64 k ∧ (∀ j, j < k → row.getD j 0 ∈ leftOf (L.getD j ([], 0))) ∧ Below w.heap.size w wr) (fun i _ => lr - (intOf i).toNat)
    case atStart => exact ⟨0, by omega, rfl, fun j h => by omega, Below.refl _ _⟩
    case round =>
      rename_i wr
      obtain ⟨k, hk, rfl, hrel, hB⟩ := hrel
      have HJ := Lib.hid hrel
      have HB := Lib.hid hB
      clear hrel hB
      by_cases hlt : k < lr
      · obtain rfl := hp (by omega)
        obtain rfl := NR.out.at_ (by omega)
        obtain ⟨x, u, ex, ⟨a0, a1⟩, hx⟩ := dom_at2 (HS.out.below rDom_stays HB.out) hlt
        obtain ⟨p9, l9, c9, rfl⟩ := rDom_shape hx
        obtain ⟨r1, r2, _⟩ := rDom_parts hx
        have hxl : x.1.length ≤ 1000000 := Nat.le_trans (HM.out x (List.mem_of_getElem? ex)) (by decide)
        have HX := Lib.hid (show L.getD k ([], 0) = x by rw [List.getD_eq_getElem?_getD, ex]; rfl)
        have B1 := Lib.hid (new_below wr (.cells #[.slice p9 l9 c9, .int .u64 x.2] 47))
        have LX := Lib.hid (Dm.rlist_any (Dm.reads_below (Dm.reads_of_readsN r1) B1.out) hxl x.2 r2)
        rw [show Dm.leftM x.1 x.2 = leftOf x from rfl] at LX
        have cr0 := NR.out.cell k hlt
        obtain ⟨Q, hQ⟩ : ∃ Q, Q = leftOf x := ⟨_, rfl⟩
        rw [← hQ] at LX
        have hql : Q.length ≤ 64 := by rw [hQ]; exact Dm.leftM_le _ _
        have HQ := Lib.hid hQ
        obtain ⟨y, hy⟩ : ∃ y, y = row.getD k 0 := ⟨_, rfl⟩
        rw [← hy] at cr0
        have HY := Lib.hid hy
        have HCR := Lib.hid cr0
        generalize x.2 = xn at a1 B1 LX
        have d5 : (k : Int) < (lr : Int) := by omega
        clear hx ex r1 r2 hxl hQ hy cr0
        go_wp2_with fail
        refine LX.out.mono ?_
        rintro e w7 ⟨r, rfl, hr, hB7⟩
        obtain ⟨p7, g7, cap7, rfl, hp7, hc7⟩ := Dm.ints_shape hr
        have HB7 := Lib.hid (below_two HB.out (below_two B1.out hB7))
        have HC7 := Lib.hid hc7
        obtain ⟨n, hn⟩ : ∃ n, n = Q.length := ⟨_, rfl⟩
        rw [← hn] at hp7 hql ⊢
        have HN := Lib.hid hn
        have H0 := Lib.hid (show inK Q y 0 = false from rfl)
        clear hr hB7 hc7 hn
        have cr1 := cell_below HB7.out HCR.out
        go_wp2_with fail
        go_loopw [7, 25] (fun t i wx => ∃ j q : Nat, j ≤ n ∧ i = .int .i64 j ∧ t = .bool (inK Q y j) ∧ wx = w7.drewN q) (fun _ i _ => n - (intOf i).toNat)
        case atStart => exact ⟨0, 0, by omega, rfl, by rw [H0.out], rfl⟩
        case round =>
          obtain ⟨j, q, hj, rfl, rfl, rfl⟩ := hrel
          by_cases hjn : j < n
          · obtain rfl := hp7 (by omega)
            have hjQ : j < Q.length := by have := HN.out; omega
            have cz := HC7.out j hjQ
            have hs2 := inK_succ (x := y) hjQ
            obtain ⟨z, hz⟩ : ∃ z, z = Q.getD j 0 := ⟨_, rfl⟩
            rw [← hz] at cz hs2
            have HS2 := Lib.hid hs2
            have d7 : (j : Int) < (n : Int) := by omega
            clear hz hs2 hjQ
            cases hb : inK Q y j
            · rw [hb] at HS2
              clear hb
              go_wp2_with fail
              go_roundw
              case rel => exact ⟨j + 1, q, by omega, by go_num, by rw [HS2.out]; rfl, rfl⟩
              case measure => simp [intOf]; omega
            · rw [hb] at HS2
              clear hb
              go_wp2_with fail
              go_roundw
              case rel => exact ⟨j + 1, q, by omega, by go_num, by rw [HS2.out]; rfl, rfl⟩
              case measure => simp [intOf]; omega
          · obtain rfl : j = n := by omega
            have d8 : ¬ ((j : Int) < (j : Int)) := by omega
            have hin : inK Q y j = decide (y ∈ Q) := by rw [HN.out, inK_all]
            have HIN := Lib.hid hin
            obtain ⟨t, ht⟩ : ∃ t, t = inK Q y j := ⟨_, rfl⟩
            rw [← ht] at HIN ⊢
            clear ht hin
            have HBQ := Lib.hid (show Below w.heap.size w (w7.drewN q) from below_drewN HB7.out)
            cases t
            · have key : R = false := HR.out.trans (decide_eq_false fun h => by
                have h1 := h.2 k (by rw [← E.out.1]; exact hlt)
                rw [HX.out, ← HY.out, ← HQ.out] at h1
                have h2 := HIN.out
                rw [decide_eq_true h1] at h2
                cases h2)
              subst key
              clear HR
              go_wp2_with fail
              go_ret
              exact ⟨rfl, HBQ.out⟩
            · have NX := Lib.hid (show ∀ i, i < k + 1 → row.getD i 0 ∈ leftOf (L.getD i ([], 0)) from fun i hi => by
                by_cases h : i < k
                · exact HJ.out i h
                · obtain rfl : i = k := by omega
                  rw [HX.out, ← HY.out, ← HQ.out]
                  exact of_decide_eq_true HIN.out.symm)
              go_wp2_with fail
              go_roundw
              case rel => exact ⟨k + 1, by omega, by go_num, NX.out, HBQ.out⟩
              case measure => simp [intOf]; omega
      · obtain rfl : k = lr := by omega
        have d6 : ¬ ((k : Int) < (k : Int)) := by omega
        have key : R = true := HR.out.trans (decide_eq_true ⟨by have := E.out; omega, fun i hi => HJ.out i (by have := E.out; omega)⟩)
        subst key
        clear HR
        go_wp2_with fail
        go_ret
        exact ⟨rfl, HB.out⟩
  · have d1 : ¬ ((lr : Int) = (len : Int)) := by omega
    have key : R = false := HR.out.trans (decide_eq_false fun h => by have := E.out; omega)
    subst key
    clear HR hne
    go_enter Tryd.func14, Tryd.ntmps14
    go_wp2_with fail
    go_ret
    exact ⟨rfl, Below.refl _ _⟩
end Go.Proofs.YtiaibggbbkhjlaaDoor.St
namespace Go.Proofs.YtiaibggbbkhjlaaDoor.St
open Go.RowKit
set_option maxRecDepth 100000

/-- is all that is left of the one left of the other? -/
def subB (x y : Nat) : Bool := decide (x &&& (18446744073709551615 - y) = 0)
def withinB (A B : List (List Int × Nat)) : Bool := decide (A.length = B.length ∧ ∀ i, i < A.length → (A.getD i ([], 0)).1 = (B.getD i ([], 0)).1 ∧ subB (A.getD i ([], 0)).2 (B.getD i ([], 0)).2 = true)

theorem own2_pair {W : World} {t : TypeId} {a0 a1 b0 b1 : Value} : Own2 ((W.alloc (.cells #[a0, a1] t)).alloc (.cells #[b0, b1] t)).drew W.heap.size t a0 a1 ∧ Own2 ((W.alloc (.cells #[a0, a1] t)).alloc (.cells #[b0, b1] t)).drew (W.heap.size + 1) t b0 b1 := by
  refine ⟨show Own2 ((W.alloc (.cells #[a0, a1] t)).alloc (.cells #[b0, b1] t)) W.heap.size t a0 a1 from (Own2.new _ _ _ _).below (new_below _ _), ?_⟩
  have := Own2.new (W.alloc (.cells #[a0, a1] t)) t b0 b1
  rw [World.size_alloc] at this
  exact this

structure S7 (W : World) (X6 X7 : Value) (v28 v29 v30 v31 v32 v33 v34 v35 v36 v37 v38 v39 v40 v41 v42 v43 v44 v45 : Value) (l : Nat → Bool) (u : World) : Prop where
  base : Below W.heap.size W u
  f0 : l 0 = true → v28 = X6
  f1 : l 1 = true → v29 = X7
  f2 : l 2 = true → v30 = (.bool false)
  f3 : l 3 = true → v31 = (.bool true)
  f4 : l 4 = true → v32 = (.bool true)
  f5 : l 5 = true → v33 = undef
  f6 : l 6 = true → v34 = undef
  f7 : l 7 = true → v35 = undef
  f8 : l 8 = true → v36 = undef
  f9 : l 9 = true → v37 = undef
  f10 : l 10 = true → v38 = undef
  f11 : l 11 = true → v39 = undef
  f12 : l 12 = true → v40 = undef
  f13 : l 13 = true → v41 = undef
  f14 : l 14 = true → v42 = undef
  f15 : l 15 = true → v43 = undef
  f16 : l 16 = true → v44 = undef
  f17 : l 17 = true → v45 = (.bool true)
structure GS7 where
  (v28 v29 v30 v31 v32 v33 v34 v35 v36 v37 v38 v39 v40 v41 v42 v43 v44 v45 : Value)
def putS7 (g : GS7) (tm : Array Value) : Array Value := ((((((((((((((((((((((((((((((((((((tm).setIfInBounds 28 g.v28)).setIfInBounds 29 g.v29)).setIfInBounds 30 g.v30)).setIfInBounds 31 g.v31)).setIfInBounds 32 g.v32)).setIfInBounds 33 g.v33)).setIfInBounds 34 g.v34)).setIfInBounds 35 g.v35)).setIfInBounds 36 g.v36)).setIfInBounds 37 g.v37)).setIfInBounds 38 g.v38)).setIfInBounds 39 g.v39)).setIfInBounds 40 g.v40)).setIfInBounds 41 g.v41)).setIfInBounds 42 g.v42)).setIfInBounds 43 g.v43)).setIfInBounds 44 g.v44)).setIfInBounds 45 g.v45)
def JS7 (W : World) (X6 X7 : Value) (g : GS7) (l : Nat → Bool) (u : World) : Prop := S7 W X6 X7 g.v28 g.v29 g.v30 g.v31 g.v32 g.v33 g.v34 g.v35 g.v36 g.v37 g.v38 g.v39 g.v40 g.v41 g.v42 g.v43 g.v44 g.v45 l u
theorem S7.s0 {W : World} {X6 X7 : Value} {v28 v29 v30 v31 v32 v33 v34 v35 v36 v37 v38 v39 v40 v41 v42 v43 v44 v45 : Value} {l : Nat → Bool} {u : World} (S : S7 W X6 X7 v28 v29 v30 v31 v32 v33 v34 v35 v36 v37 v38 v39 v40 v41 v42 v43 v44 v45 l u) (hn : l 0 = false) : S7 W X6 X7 X6 v29 v30 v31 v32 v33 v34 v35 v36 v37 v38 v39 v40 v41 v42 v43 v44 v45 (upd l 0) u := by
  have _ := hn
  exact { S with f0 := fun _ => rfl }
theorem S7.s1 {W : World} {X6 X7 : Value} {v28 v29 v30 v31 v32 v33 v34 v35 v36 v37 v38 v39 v40 v41 v42 v43 v44 v45 : Value} {l : Nat → Bool} {u : World} (S : S7 W X6 X7 v28 v29 v30 v31 v32 v33 v34 v35 v36 v37 v38 v39 v40 v41 v42 v43 v44 v45 l u) (hn : l 1 = false) : S7 W X6 X7 v28 X7 v30 v31 v32 v33 v34 v35 v36 v37 v38 v39 v40 v41 v42 v43 v44 v45 (upd l 1) u := by
  have _ := hn
  exact { S with f1 := fun _ => rfl }
theorem S7.s2 {W : World} {X6 X7 : Value} {v28 v29 v30 v31 v32 v33 v34 v35 v36 v37 v38 v39 v40 v41 v42 v43 v44 v45 : Value} {l : Nat → Bool} {u : World} (S : S7 W X6 X7 v28 v29 v30 v31 v32 v33 v34 v35 v36 v37 v38 v39 v40 v41 v42 v43 v44 v45 l u) (hn : l 2 = false) {u2 : World} (hB : Below u.heap.size u u2) : S7 W X6 X7 v28 v29 (.bool false) v31 v32 v33 v34 v35 v36 v37 v38 v39 v40 v41 v42 v43 v44 v45 (upd l 2) u2 := by
  have _ := hn
  exact { S with base := S.base.trans (hB.mono S.base.size), f2 := fun _ => rfl }
theorem S7.s3 {W : World} {X6 X7 : Value} {v28 v29 v30 v31 v32 v33 v34 v35 v36 v37 v38 v39 v40 v41 v42 v43 v44 v45 : Value} {l : Nat → Bool} {u : World} (S : S7 W X6 X7 v28 v29 v30 v31 v32 v33 v34 v35 v36 v37 v38 v39 v40 v41 v42 v43 v44 v45 l u) (hn : l 3 = false) : S7 W X6 X7 v28 v29 v30 (.bool true) v32 v33 v34 v35 v36 v37 v38 v39 v40 v41 v42 v43 v44 v45 (upd l 3) u := by
  have _ := hn
  exact { S with f3 := fun _ => rfl }
theorem S7.s4 {W : World} {X6 X7 : Value} {v28 v29 v30 v31 v32 v33 v34 v35 v36 v37 v38 v39 v40 v41 v42 v43 v44 v45 : Value} {l : Nat → Bool} {u : World} (S : S7 W X6 X7 v28 v29 v30 v31 v32 v33 v34 v35 v36 v37 v38 v39 v40 v41 v42 v43 v44 v45 l u) (hn : l 4 = false) : S7 W X6 X7 v28 v29 v30 v31 (.bool true) v33 v34 v35 v36 v37 v38 v39 v40 v41 v42 v43 v44 v45 (upd l 4) u := by
  have _ := hn
  exact { S with f4 := fun _ => rfl }
theorem S7.s5 {W : World} {X6 X7 : Value} {v28 v29 v30 v31 v32 v33 v34 v35 v36 v37 v38 v39 v40 v41 v42 v43 v44 v45 : Value} {l : Nat → Bool} {u : World} (S : S7 W X6 X7 v28 v29 v30 v31 v32 v33 v34 v35 v36 v37 v38 v39 v40 v41 v42 v43 v44 v45 l u) (hn : l 5 = false) : S7 W X6 X7 v28 v29 v30 v31 v32 undef v34 v35 v36 v37 v38 v39 v40 v41 v42 v43 v44 v45 (upd l 5) u := by
  have _ := hn
  exact { S with f5 := fun _ => rfl }
theorem S7.s6 {W : World} {X6 X7 : Value} {v28 v29 v30 v31 v32 v33 v34 v35 v36 v37 v38 v39 v40 v41 v42 v43 v44 v45 : Value} {l : Nat → Bool} {u : World} (S : S7 W X6 X7 v28 v29 v30 v31 v32 v33 v34 v35 v36 v37 v38 v39 v40 v41 v42 v43 v44 v45 l u) (hn : l 6 = false) : S7 W X6 X7 v28 v29 v30 v31 v32 v33 undef v35 v36 v37 v38 v39 v40 v41 v42 v43 v44 v45 (upd l 6) u := by
  have _ := hn
  exact { S with f6 := fun _ => rfl }
theorem S7.s7 {W : World} {X6 X7 : Value} {v28 v29 v30 v31 v32 v33 v34 v35 v36 v37 v38 v39 v40 v41 v42 v43 v44 v45 : Value} {l : Nat → Bool} {u : World} (S : S7 W X6 X7 v28 v29 v30 v31 v32 v33 v34 v35 v36 v37 v38 v39 v40 v41 v42 v43 v44 v45 l u) (hn : l 7 = false) : S7 W X6 X7 v28 v29 v30 v31 v32 v33 v34 undef v36 v37 v38 v39 v40 v41 v42 v43 v44 v45 (upd l 7) u := by
  have _ := hn
  exact { S with f7 := fun _ => rfl }
theorem S7.s8 {W : World} {X6 X7 : Value} {v28 v29 v30 v31 v32 v33 v34 v35 v36 v37 v38 v39 v40 v41 v42 v43 v44 v45 : Value} {l : Nat → Bool} {u : World} (S : S7 W X6 X7 v28 v29 v30 v31 v32 v33 v34 v35 v36 v37 v38 v39 v40 v41 v42 v43 v44 v45 l u) (hn : l 8 = false) : S7 W X6 X7 v28 v29 v30 v31 v32 v33 v34 v35 undef v37 v38 v39 v40 v41 v42 v43 v44 v45 (upd l 8) u := by
  have _ := hn
  exact { S with f8 := fun _ => rfl }
theorem S7.s9 {W : World} {X6 X7 : Value} {v28 v29 v30 v31 v32 v33 v34 v35 v36 v37 v38 v39 v40 v41 v42 v43 v44 v45 : Value} {l : Nat → Bool} {u : World} (S : S7 W X6 X7 v28 v29 v30 v31 v32 v33 v34 v35 v36 v37 v38 v39 v40 v41 v42 v43 v44 v45 l u) (hn : l 9 = false) : S7 W X6 X7 v28 v29 v30 v31 v32 v33 v34 v35 v36 undef v38 v39 v40 v41 v42 v43 v44 v45 (upd l 9) u := by
  have _ := hn
  exact { S with f9 := fun _ => rfl }
theorem S7.s10 {W : World} {X6 X7 : Value} {v28 v29 v30 v31 v32 v33 v34 v35 v36 v37 v38 v39 v40 v41 v42 v43 v44 v45 : Value} {l : Nat → Bool} {u : World} (S : S7 W X6 X7 v28 v29 v30 v31 v32 v33 v34 v35 v36 v37 v38 v39 v40 v41 v42 v43 v44 v45 l u) (hn : l 10 = false) : S7 W X6 X7 v28 v29 v30 v31 v32 v33 v34 v35 v36 v37 undef v39 v40 v41 v42 v43 v44 v45 (upd l 10) u := by
  have _ := hn
  exact { S with f10 := fun _ => rfl }
theorem S7.s11 {W : World} {X6 X7 : Value} {v28 v29 v30 v31 v32 v33 v34 v35 v36 v37 v38 v39 v40 v41 v42 v43 v44 v45 : Value} {l : Nat → Bool} {u : World} (S : S7 W X6 X7 v28 v29 v30 v31 v32 v33 v34 v35 v36 v37 v38 v39 v40 v41 v42 v43 v44 v45 l u) (hn : l 11 = false) : S7 W X6 X7 v28 v29 v30 v31 v32 v33 v34 v35 v36 v37 v38 undef v40 v41 v42 v43 v44 v45 (upd l 11) u := by
  have _ := hn
  exact { S with f11 := fun _ => rfl }
theorem S7.s12 {W : World} {X6 X7 : Value} {v28 v29 v30 v31 v32 v33 v34 v35 v36 v37 v38 v39 v40 v41 v42 v43 v44 v45 : Value} {l : Nat → Bool} {u : World} (S : S7 W X6 X7 v28 v29 v30 v31 v32 v33 v34 v35 v36 v37 v38 v39 v40 v41 v42 v43 v44 v45 l u) (hn : l 12 = false) : S7 W X6 X7 v28 v29 v30 v31 v32 v33 v34 v35 v36 v37 v38 v39 undef v41 v42 v43 v44 v45 (upd l 12) u := by
  have _ := hn
  exact { S with f12 := fun _ => rfl }
theorem S7.s13 {W : World} {X6 X7 : Value} {v28 v29 v30 v31 v32 v33 v34 v35 v36 v37 v38 v39 v40 v41 v42 v43 v44 v45 : Value} {l : Nat → Bool} {u : World} (S : S7 W X6 X7 v28 v29 v30 v31 v32 v33 v34 v35 v36 v37 v38 v39 v40 v41 v42 v43 v44 v45 l u) (hn : l 13 = false) : S7 W X6 X7 v28 v29 v30 v31 v32 v33 v34 v35 v36 v37 v38 v39 v40 undef v42 v43 v44 v45 (upd l 13) u := by
  have _ := hn
  exact { S with f13 := fun _ => rfl }
theorem S7.s14 {W : World} {X6 X7 : Value} {v28 v29 v30 v31 v32 v33 v34 v35 v36 v37 v38 v39 v40 v41 v42 v43 v44 v45 : Value} {l : Nat → Bool} {u : World} (S : S7 W X6 X7 v28 v29 v30 v31 v32 v33 v34 v35 v36 v37 v38 v39 v40 v41 v42 v43 v44 v45 l u) (hn : l 14 = false) : S7 W X6 X7 v28 v29 v30 v31 v32 v33 v34 v35 v36 v37 v38 v39 v40 v41 undef v43 v44 v45 (upd l 14) u := by
  have _ := hn
  exact { S with f14 := fun _ => rfl }
theorem S7.s15 {W : World} {X6 X7 : Value} {v28 v29 v30 v31 v32 v33 v34 v35 v36 v37 v38 v39 v40 v41 v42 v43 v44 v45 : Value} {l : Nat → Bool} {u : World} (S : S7 W X6 X7 v28 v29 v30 v31 v32 v33 v34 v35 v36 v37 v38 v39 v40 v41 v42 v43 v44 v45 l u) (hn : l 15 = false) : S7 W X6 X7 v28 v29 v30 v31 v32 v33 v34 v35 v36 v37 v38 v39 v40 v41 v42 undef v44 v45 (upd l 15) u := by
  have _ := hn
  exact { S with f15 := fun _ => rfl }
theorem S7.s16 {W : World} {X6 X7 : Value} {v28 v29 v30 v31 v32 v33 v34 v35 v36 v37 v38 v39 v40 v41 v42 v43 v44 v45 : Value} {l : Nat → Bool} {u : World} (S : S7 W X6 X7 v28 v29 v30 v31 v32 v33 v34 v35 v36 v37 v38 v39 v40 v41 v42 v43 v44 v45 l u) (hn : l 16 = false) : S7 W X6 X7 v28 v29 v30 v31 v32 v33 v34 v35 v36 v37 v38 v39 v40 v41 v42 v43 undef v45 (upd l 16) u := by
  have _ := hn
  exact { S with f16 := fun _ => rfl }
theorem S7.s17 {W : World} {X6 X7 : Value} {v28 v29 v30 v31 v32 v33 v34 v35 v36 v37 v38 v39 v40 v41 v42 v43 v44 v45 : Value} {l : Nat → Bool} {u : World} (S : S7 W X6 X7 v28 v29 v30 v31 v32 v33 v34 v35 v36 v37 v38 v39 v40 v41 v42 v43 v44 v45 l u) (hn : l 17 = false) : S7 W X6 X7 v28 v29 v30 v31 v32 v33 v34 v35 v36 v37 v38 v39 v40 v41 v42 v43 v44 (.bool true) (upd l 17) u := by
  have _ := hn
  exact { S with f17 := fun _ => rfl }
theorem held7 {W0 u u' : World} {p0 p1 p2 p3 p4 p5 : Addr} {a0 a1 a2 a3 a4 a5 : Value} (h : u.cell? p0 = some a0 ∧ u.cell? p1 = some a1 ∧ u.cell? p2 = some a2 ∧ u.cell? p3 = some a3 ∧ u.cell? p4 = some a4 ∧ u.cell? p5 = some a5 ∧ Below W0.heap.size W0 u) (hb : Below u.heap.size u u') :
    u'.cell? p0 = some a0 ∧ u'.cell? p1 = some a1 ∧ u'.cell? p2 = some a2 ∧ u'.cell? p3 = some a3 ∧ u'.cell? p4 = some a4 ∧ u'.cell? p5 = some a5 ∧ Below W0.heap.size W0 u' :=
  ⟨cell_below hb h.1, cell_below hb h.2.1, cell_below hb h.2.2.1, cell_below hb h.2.2.2.1, cell_below hb h.2.2.2.2.1, cell_below hb h.2.2.2.2.2.1, below_two h.2.2.2.2.2.2 hb⟩
theorem held7b {W0 u : World} {p0 p1 p2 p3 p4 p5 : Addr} {a0 a1 a2 a3 a4 a5 : Value} (h : u.cell? p0 = some a0 ∧ u.cell? p1 = some a1 ∧ u.cell? p2 = some a2 ∧ u.cell? p3 = some a3 ∧ u.cell? p4 = some a4 ∧ u.cell? p5 = some a5 ∧ Below W0.heap.size W0 u) : Below W0.heap.size W0 u := h.2.2.2.2.2.2

set_option maxHeartbeats 8000000 in
theorem within_any {w : World} {u v : Value} {A B : List (List Int × Nat)} (hA : Slc rDom 2 w u A) (hB : Slc rDom 2 w v B) (ha : ∀ d ∈ A, d.1.length ≤ 1000) (hb : ∀ d ∈ B, d.1.length ≤ 1000) (hn : A.length ≤ 1000) :
    Calls Tryd.prog 13 #[u, v] w fun e w' => e = .returned (.bool (withinB A B)) ∧ Below w.heap.size w w' := by
  obtain ⟨pa, ba, oa, ca, la, rfl, _, hsa⟩ := hA
  obtain ⟨pb, bb, ob, cb, lb, rfl, _, hsb⟩ := hB
  have hpa := hsa.at_
  have hpb := hsb.at_
  have HA := Lib.hid hsa
  have HB := Lib.hid hsb
  have QA := Lib.hid ha
  have QB := Lib.hid hb
  have E := Lib.hid (And.intro hsa.long hsb.long)
  have hla : la ≤ 1000 := by have := hsa.long; omega
  obtain ⟨R, hR⟩ : ∃ R, R = withinB A B := ⟨_, rfl⟩
  rw [← hR]
  have HR := Lib.hid hR
  clear hsa hsb ha hb hn hR
  by_cases hne : la = lb
  · subst hne
    go_enter Tryd.func13, Tryd.ntmps13
    go_wp2_with fail
    go_loopw [15] (fun i wr => ∃ k : Nat, k ≤ la ∧ i = .int .i64 k ∧ (∀ j, j < k → (A.getD j ([], 0)).1 = (B.getD j ([], 0)).1 ∧ subB (A.getD j ([], 0)).2 (B.getD j ([], 0)).2 = true) ∧ Below w.heap.size w wr) (fun i _ => la - (intOf i).toNat)
    case atStart => exact ⟨0, by omega, rfl, fun j h => by omega, Below.refl _ _⟩
    case round =>
      rename_i wr
      obtain ⟨k, hk, rfl, hrel, hBl⟩ := hrel
      have HJ := Lib.hid hrel
      have HBl := Lib.hid hBl
      clear hrel hBl
      by_cases hlt : k < la
      · obtain rfl := hpa (by omega)
        obtain rfl := hpb (by omega)
        obtain ⟨x, u1, ex, ⟨a0, a1⟩, hx⟩ := dom_at2 (HA.out.below rDom_stays HBl.out) hlt
        obtain ⟨y, u2, ey, ⟨c0, c1⟩, hy⟩ := dom_at2 (HB.out.below rDom_stays HBl.out) hlt
        obtain ⟨p1, l1, k1, rfl⟩ := rDom_shape hx
        obtain ⟨p2, l2, k2, rfl⟩ := rDom_shape hy
        obtain ⟨r1, r2, _⟩ := rDom_parts hx
        obtain ⟨s1, s2, _⟩ := rDom_parts hy
        have HX := Lib.hid (show A.getD k ([], 0) = x by rw [List.getD_eq_getElem?_getD, ex]; rfl)
        have HY := Lib.hid (show B.getD k ([], 0) = y by rw [List.getD_eq_getElem?_getD, ey]; rfl)
        have SX := Lib.hid (fun (z : World) (hz : Below wr.heap.size wr z) => Dm.rdsame_any (x := 0) (y := 0) (Dm.reads_below (Dm.reads_of_readsN r1) hz) (Dm.reads_below (Dm.reads_of_readsN s1) hz) (Nat.le_trans (QA.out x (List.mem_of_getElem? ex)) (by decide)) (Nat.le_trans (QB.out y (List.mem_of_getElem? ey)) (by decide)))
        obtain ⟨G, hG⟩ : ∃ G, G = (decide ((0 : Nat) = 0) && (x.1 == y.1)) := ⟨_, rfl⟩
        rw [← hG] at SX
        have HG := Lib.hid (show G = decide (x.1 = y.1) by rw [hG, Bool.eq_iff_iff]; simp)
        have ha2 : bits .andNot .u64 (x.2 : Int) (y.2 : Int) = ((x.2 &&& (18446744073709551615 - y.2) : Nat) : Int) := u64_andNot_nat _ _ r2 s2
        obtain ⟨n, hn⟩ : ∃ n, n = x.2 := ⟨_, rfl⟩
        obtain ⟨m, hm⟩ : ∃ m, m = y.2 := ⟨_, rfl⟩
        rw [← hn] at a1 ha2
        rw [← hm] at c1 ha2
        have HNM := Lib.hid (And.intro hn hm)
        have HA2 := Lib.hid ha2
        have lb1 := Dm.cell_lt a0
        have lb2 := Dm.cell_lt c0
        have HCC := Lib.hid (And.intro a1 c1)
        have d5 : (k : Int) < (la : Int) := by omega
        clear hx hy ex ey r1 r2 s1 s2 hG ha2 hn hm
        go_upto_region 6 with fail
        go_cut [6, 7] (fun p q wx => ∃ b6 b7, p = .pointer (some ⟨b6, 0, none⟩) ∧ q = .pointer (some ⟨b7, 0, none⟩) ∧ b6 ≠ b7 ∧ wr.heap.size ≤ b6 ∧ wr.heap.size ≤ b7 ∧ Own2 wx b6 47 (.slice p1 l1 k1) (.int .u64 n) ∧ Own2 wx b7 47 (.slice p2 l2 k2) (.int .u64 m) ∧ Below wr.heap.size wr wx)
        case first =>
          go_region_law (fail)
          all_goals go_wp2_with fail
          all_goals go_meet
          all_goals first
            | with_reducible exact ⟨_, _, rfl, rfl, Nat.ne_of_lt (Nat.lt_succ_self _), Nat.le_refl _, Nat.le_succ _, own2_pair.1, own2_pair.2, (below_two (new_below _ _) (new_below _ _)).drew⟩
            | with_reducible exact ⟨_, _, rfl, rfl, Nat.ne_of_gt (Nat.lt_succ_self _), Nat.le_succ _, Nat.le_refl _, own2_pair.2, own2_pair.1, (below_two (new_below _ _) (new_below _ _)).drew⟩
        case rest =>
          obtain ⟨b6, b7, rfl, rfl, hne, hb6, hb7, o6, o7, hBx⟩ := hcut
          obtain ⟨wz, rfl⟩ : ∃ z, z = wc := ⟨_, rfl⟩
          have f6 := o6.frozen 1
          have f7 := o7.frozen 1
          have c60 := o6.cell0
          have c61 := o6.cell1
          have c70 := o7.cell0
          have c71 := o7.cell1
          have hne2 : ¬ b7 = b6 := Ne.symm hne
          obtain ⟨W8, hW8⟩ : ∃ z, z = (wz.setCell ⟨b6, 1, none⟩ (.int .u64 0)).setCell ⟨b7, 1, none⟩ (.int .u64 0) := ⟨_, rfl⟩
          have O6 := Lib.hid (show Own2 W8 b6 47 (.slice p1 l1 k1) (.int .u64 0) by rw [hW8]; exact (o6.set1 _).other hne _ _)
          have O7 := Lib.hid (show Own2 W8 b7 47 (.slice p2 l2 k2) (.int .u64 0) by rw [hW8]; exact (o7.other hne2 _ _).set1 _)
          have HB8 := Lib.hid (show Below wr.heap.size wr W8 by rw [hW8]; exact (hBx.setCell hb6 _).setCell hb7 _)
          have HW8 := Lib.hid hW8
          have HLQ := Lib.hid (And.intro hb6 hb7)
          clear hBx o6 o7 a0 a1 c0 c1 hW8 hb6 hb7
          go_upto_region 8 with fail
          rw [← HW8.out]
          have c60 := O6.out.cell0
          have c61 := O6.out.cell1
          have c70 := O7.out.cell0
          have c71 := O7.out.cell1
          have SX8 := Lib.hid (SX.out W8.drew (HB8.out.drew))
          clear f6 f7
          obtain ⟨SB, hSB⟩ : ∃ z, z = subB n m := ⟨_, rfl⟩
          have HSB := Lib.hid hSB
          clear hSB
          go_cut [45] (fun b wx => b = .bool (!(G && SB)) ∧ Below W8.heap.size W8 wx)
          case first =>
            cases G
            · have HQ8 := Lib.hid (And.intro c60 (And.intro c61 (And.intro c70 c71)))
              have HBZ := Lib.hid (show Below W8.heap.size W8 W8.drew from (Below.refl _ _).drew)
              have SXF := Lib.hid (fun (z : World) (hz : Below W8.heap.size W8 z) => SX.out z (below_two HB8.out hz))
              refine wp_region_at (γ := GS7) (JS7 W8 (.agg #[.slice p1 l1 k1, .int .u64 0]) (.agg #[.slice p2 l2 k2, .int .u64 0])) putS7 ⟨u28, u29, u30, u31, u32, u33, u34, u35, u36, u37, u38, u39, u40, u41, u42, u43, u44, u45⟩ ?hm ?ho ?hput ?h0 ?hs ?hd
              case hm => kernel_rfl
              case ho => kernel_rfl
              case hput => (simp only [putS7, sA, sZ, sS])
              case h0 => exact ⟨HBZ.out, nofun, nofun, nofun, nofun, nofun, nofun, nofun, nofun, nofun, nofun, nofun, nofun, nofun, nofun, nofun, nofun, nofun, nofun⟩
              case hs =>
                as_aux_lemma =>
                refine ⟨?s0, ?s1, ?s2, ?s3, ?s4, ?s5, ?s6, ?s7, ?s8, ?s9, ?s10, ?s11, ?s12, ?s13, ?s14, ?s15, ?s16, ?s17, trivial⟩
                case s0 =>
                  rintro l ⟨v28, v29, v30, v31, v32, v33, v34, v35, v36, v37, v38, v39, v40, v41, v42, v43, v44, v45⟩ u hl haf S K hK
                  simp only [JS7] at S
                  have c0 := cell_below S.base HQ8.out.1
                  have c1 := cell_below S.base HQ8.out.2.1
                  refine ⟨?_⟩
                  simp only [putS7, sA, sZ, sS]
                  go_simp
                  have nx := hK.out ⟨(.agg #[.slice p1 l1 k1, .int .u64 0]), v29, v30, v31, v32, v33, v34, v35, v36, v37, v38, v39, v40, v41, v42, v43, v44, v45⟩ u (S.s0 hl)
                  clear hK
                  simp only [putS7, sA, sZ, sS] at nx
                  exact nx
                case s1 =>
                  rintro l ⟨v28, v29, v30, v31, v32, v33, v34, v35, v36, v37, v38, v39, v40, v41, v42, v43, v44, v45⟩ u hl haf S K hK
                  simp only [JS7] at S
                  have c0 := cell_below S.base HQ8.out.2.2.1
                  have c1 := cell_below S.base HQ8.out.2.2.2
                  refine ⟨?_⟩
                  simp only [putS7, sA, sZ, sS]
                  go_simp
                  have nx := hK.out ⟨v28, (.agg #[.slice p2 l2 k2, .int .u64 0]), v30, v31, v32, v33, v34, v35, v36, v37, v38, v39, v40, v41, v42, v43, v44, v45⟩ u (S.s1 hl)
                  clear hK
                  simp only [putS7, sA, sZ, sS] at nx
                  exact nx
                case s2 =>
                  rintro l ⟨v28, v29, v30, v31, v32, v33, v34, v35, v36, v37, v38, v39, v40, v41, v42, v43, v44, v45⟩ u hl haf S K hK
                  simp only [JS7] at S
                  obtain rfl := S.f0 (haf 0 (by kernel_rfl))
                  obtain rfl := S.f1 (haf 1 (by kernel_rfl))
                  refine ⟨?_⟩
                  simp only [putS7, sA, sZ, sS]
                  go_simp
                  refine (SXF.out _ S.base).mono ?_
                  rintro e u2 ⟨rfl, hB⟩
                  have nx := hK.out ⟨_, _, (.bool false), v31, v32, v33, v34, v35, v36, v37, v38, v39, v40, v41, v42, v43, v44, v45⟩ u2 (S.s2 hl hB)
                  clear hK
                  simp only [putS7, sA, sZ, sS] at nx
                  exact nx
                case s3 =>
                  rintro l ⟨v28, v29, v30, v31, v32, v33, v34, v35, v36, v37, v38, v39, v40, v41, v42, v43, v44, v45⟩ u hl haf S K hK
                  simp only [JS7] at S
                  obtain rfl := S.f2 (haf 2 (by kernel_rfl))
                  refine ⟨?_⟩
                  simp only [putS7, sA, sZ, sS]
                  go_simp
                  have nx := hK.out ⟨v28, v29, _, (.bool true), v32, v33, v34, v35, v36, v37, v38, v39, v40, v41, v42, v43, v44, v45⟩ u (S.s3 hl)
                  clear hK
                  simp only [putS7, sA, sZ, sS] at nx
                  exact nx
                case s4 =>
                  rintro l ⟨v28, v29, v30, v31, v32, v33, v34, v35, v36, v37, v38, v39, v40, v41, v42, v43, v44, v45⟩ u hl haf S K hK
                  simp only [JS7] at S
                  obtain rfl := S.f3 (haf 3 (by kernel_rfl))
                  refine ⟨?_⟩
                  simp only [putS7, sA, sZ, sS]
                  go_simp
                  have nx := hK.out ⟨v28, v29, v30, _, (.bool true), v33, v34, v35, v36, v37, v38, v39, v40, v41, v42, v43, v44, v45⟩ u (S.s4 hl)
                  clear hK
                  simp only [putS7, sA, sZ, sS] at nx
                  exact nx
                case s5 =>
                  rintro l ⟨v28, v29, v30, v31, v32, v33, v34, v35, v36, v37, v38, v39, v40, v41, v42, v43, v44, v45⟩ u hl haf S K hK
                  simp only [JS7] at S
                  obtain rfl := S.f4 (haf 4 (by kernel_rfl))
                  refine ⟨?_⟩
                  simp only [putS7, sA, sZ, sS]
                  go_simp
                  have nx := hK.out ⟨v28, v29, v30, v31, _, undef, v34, v35, v36, v37, v38, v39, v40, v41, v42, v43, v44, v45⟩ u (S.s5 hl)
                  clear hK
                  simp only [putS7, sA, sZ, sS] at nx
                  exact nx
                case s6 =>
                  rintro l ⟨v28, v29, v30, v31, v32, v33, v34, v35, v36, v37, v38, v39, v40, v41, v42, v43, v44, v45⟩ u hl haf S K hK
                  simp only [JS7] at S
                  obtain rfl := S.f4 (haf 4 (by kernel_rfl))
                  refine ⟨?_⟩
                  simp only [putS7, sA, sZ, sS]
                  go_simp
                  have nx := hK.out ⟨v28, v29, v30, v31, _, v33, undef, v35, v36, v37, v38, v39, v40, v41, v42, v43, v44, v45⟩ u (S.s6 hl)
                  clear hK
                  simp only [putS7, sA, sZ, sS] at nx
                  exact nx
                case s7 =>
                  rintro l ⟨v28, v29, v30, v31, v32, v33, v34, v35, v36, v37, v38, v39, v40, v41, v42, v43, v44, v45⟩ u hl haf S K hK
                  simp only [JS7] at S
                  obtain rfl := S.f4 (haf 4 (by kernel_rfl))
                  refine ⟨?_⟩
                  simp only [putS7, sA, sZ, sS]
                  go_simp
                  have nx := hK.out ⟨v28, v29, v30, v31, _, v33, v34, undef, v36, v37, v38, v39, v40, v41, v42, v43, v44, v45⟩ u (S.s7 hl)
                  clear hK
                  simp only [putS7, sA, sZ, sS] at nx
                  exact nx
                case s8 =>
                  rintro l ⟨v28, v29, v30, v31, v32, v33, v34, v35, v36, v37, v38, v39, v40, v41, v42, v43, v44, v45⟩ u hl haf S K hK
                  simp only [JS7] at S
                  obtain rfl := S.f4 (haf 4 (by kernel_rfl))
                  refine ⟨?_⟩
                  simp only [putS7, sA, sZ, sS]
                  go_simp
                  have nx := hK.out ⟨v28, v29, v30, v31, _, v33, v34, v35, undef, v37, v38, v39, v40, v41, v42, v43, v44, v45⟩ u (S.s8 hl)
                  clear hK
                  simp only [putS7, sA, sZ, sS] at nx
                  exact nx
                case s9 =>
                  rintro l ⟨v28, v29, v30, v31, v32, v33, v34, v35, v36, v37, v38, v39, v40, v41, v42, v43, v44, v45⟩ u hl haf S K hK
                  simp only [JS7] at S
                  obtain rfl := S.f4 (haf 4 (by kernel_rfl))
                  refine ⟨?_⟩
                  simp only [putS7, sA, sZ, sS]
                  go_simp
                  have nx := hK.out ⟨v28, v29, v30, v31, _, v33, v34, v35, v36, undef, v38, v39, v40, v41, v42, v43, v44, v45⟩ u (S.s9 hl)
                  clear hK
                  simp only [putS7, sA, sZ, sS] at nx
                  exact nx
                case s10 =>
                  rintro l ⟨v28, v29, v30, v31, v32, v33, v34, v35, v36, v37, v38, v39, v40, v41, v42, v43, v44, v45⟩ u hl haf S K hK
                  simp only [JS7] at S
                  obtain rfl := S.f4 (haf 4 (by kernel_rfl))
                  refine ⟨?_⟩
                  simp only [putS7, sA, sZ, sS]
                  go_simp
                  have nx := hK.out ⟨v28, v29, v30, v31, _, v33, v34, v35, v36, v37, undef, v39, v40, v41, v42, v43, v44, v45⟩ u (S.s10 hl)
                  clear hK
                  simp only [putS7, sA, sZ, sS] at nx
                  exact nx
                case s11 =>
                  rintro l ⟨v28, v29, v30, v31, v32, v33, v34, v35, v36, v37, v38, v39, v40, v41, v42, v43, v44, v45⟩ u hl haf S K hK
                  simp only [JS7] at S
                  obtain rfl := S.f4 (haf 4 (by kernel_rfl))
                  refine ⟨?_⟩
                  simp only [putS7, sA, sZ, sS]
                  go_simp
                  have nx := hK.out ⟨v28, v29, v30, v31, _, v33, v34, v35, v36, v37, v38, undef, v40, v41, v42, v43, v44, v45⟩ u (S.s11 hl)
                  clear hK
                  simp only [putS7, sA, sZ, sS] at nx
                  exact nx
                case s12 =>
                  rintro l ⟨v28, v29, v30, v31, v32, v33, v34, v35, v36, v37, v38, v39, v40, v41, v42, v43, v44, v45⟩ u hl haf S K hK
                  simp only [JS7] at S
                  obtain rfl := S.f4 (haf 4 (by kernel_rfl))
                  refine ⟨?_⟩
                  simp only [putS7, sA, sZ, sS]
                  go_simp
                  have nx := hK.out ⟨v28, v29, v30, v31, _, v33, v34, v35, v36, v37, v38, v39, undef, v41, v42, v43, v44, v45⟩ u (S.s12 hl)
                  clear hK
                  simp only [putS7, sA, sZ, sS] at nx
                  exact nx
                case s13 =>
                  rintro l ⟨v28, v29, v30, v31, v32, v33, v34, v35, v36, v37, v38, v39, v40, v41, v42, v43, v44, v45⟩ u hl haf S K hK
                  simp only [JS7] at S
                  obtain rfl := S.f4 (haf 4 (by kernel_rfl))
                  refine ⟨?_⟩
                  simp only [putS7, sA, sZ, sS]
                  go_simp
                  have nx := hK.out ⟨v28, v29, v30, v31, _, v33, v34, v35, v36, v37, v38, v39, v40, undef, v42, v43, v44, v45⟩ u (S.s13 hl)
                  clear hK
                  simp only [putS7, sA, sZ, sS] at nx
                  exact nx
                case s14 =>
                  rintro l ⟨v28, v29, v30, v31, v32, v33, v34, v35, v36, v37, v38, v39, v40, v41, v42, v43, v44, v45⟩ u hl haf S K hK
                  simp only [JS7] at S
                  obtain rfl := S.f4 (haf 4 (by kernel_rfl))
                  refine ⟨?_⟩
                  simp only [putS7, sA, sZ, sS]
                  go_simp
                  have nx := hK.out ⟨v28, v29, v30, v31, _, v33, v34, v35, v36, v37, v38, v39, v40, v41, undef, v43, v44, v45⟩ u (S.s14 hl)
                  clear hK
                  simp only [putS7, sA, sZ, sS] at nx
                  exact nx
                case s15 =>
                  rintro l ⟨v28, v29, v30, v31, v32, v33, v34, v35, v36, v37, v38, v39, v40, v41, v42, v43, v44, v45⟩ u hl haf S K hK
                  simp only [JS7] at S
                  obtain rfl := S.f4 (haf 4 (by kernel_rfl))
                  refine ⟨?_⟩
                  simp only [putS7, sA, sZ, sS]
                  go_simp
                  have nx := hK.out ⟨v28, v29, v30, v31, _, v33, v34, v35, v36, v37, v38, v39, v40, v41, v42, undef, v44, v45⟩ u (S.s15 hl)
                  clear hK
                  simp only [putS7, sA, sZ, sS] at nx
                  exact nx
                case s16 =>
                  rintro l ⟨v28, v29, v30, v31, v32, v33, v34, v35, v36, v37, v38, v39, v40, v41, v42, v43, v44, v45⟩ u hl haf S K hK
                  simp only [JS7] at S
                  obtain rfl := S.f4 (haf 4 (by kernel_rfl))
                  refine ⟨?_⟩
                  simp only [putS7, sA, sZ, sS]
                  go_simp
                  have nx := hK.out ⟨v28, v29, v30, v31, _, v33, v34, v35, v36, v37, v38, v39, v40, v41, v42, v43, undef, v45⟩ u (S.s16 hl)
                  clear hK
                  simp only [putS7, sA, sZ, sS] at nx
                  exact nx
                case s17 =>
                  rintro l ⟨v28, v29, v30, v31, v32, v33, v34, v35, v36, v37, v38, v39, v40, v41, v42, v43, v44, v45⟩ u hl haf S K hK
                  simp only [JS7] at S
                  obtain rfl := S.f4 (haf 4 (by kernel_rfl))
                  refine ⟨?_⟩
                  simp only [putS7, sA, sZ, sS]
                  go_simp
                  have nx := hK.out ⟨v28, v29, v30, v31, _, v33, v34, v35, v36, v37, v38, v39, v40, v41, v42, v43, v44, (.bool true)⟩ u (S.s17 hl)
                  clear hK
                  simp only [putS7, sA, sZ, sS] at nx
                  exact nx
              case hd =>
                rintro ⟨v28, v29, v30, v31, v32, v33, v34, v35, v36, v37, v38, v39, v40, v41, v42, v43, v44, v45⟩ u l hall S
                simp only [JS7] at S
                refine ⟨?_⟩
                simp only [putS7, sA, sZ, sS]
                have HB9 := Lib.hid S.base
                have h45 := S.f17 (hall 17 (by decide))
                rw [h45]
                clear S
                go_wp2_with fail
                go_meet
                exact ⟨rfl, HB9.out⟩
            · have H8 := Lib.hid (And.intro c60 (And.intro c61 (And.intro c70 (And.intro c71 (And.intro (cell_below HB8.out HCC.out.1) (And.intro (cell_below HB8.out HCC.out.2) (Below.refl W8.heap.size W8)))))))
              by_cases hz : n &&& (18446744073709551615 - m) = 0
              · have hsub : SB = true := HSB.out.trans (decide_eq_true hz)
                have hz2 : bits .andNot .u64 (n : Int) (m : Int) = 0 := by rw [HA2.out, hz]; rfl
                subst hsub
                clear hz HSB
                go_region_held3 (fun u => u.cell? ⟨b6, 0, none⟩ = some (.slice p1 l1 k1) ∧ u.cell? ⟨b6, 1, none⟩ = some (.int .u64 0) ∧ u.cell? ⟨b7, 0, none⟩ = some (.slice p2 l2 k2) ∧ u.cell? ⟨b7, 1, none⟩ = some (.int .u64 0) ∧ u.cell? ⟨ba, oa + k * 2 + 1, none⟩ = some (.int .u64 n) ∧ u.cell? ⟨bb, ob + k * 2 + 1, none⟩ = some (.int .u64 m) ∧ Below W8.heap.size W8 u)
                  (first | exact held7 (by assumption) (by assumption) | exact held7 H8.out (below_drewN (n := 1) (Below.refl _ _)) | exact held7 H8.out (below_drewN (below_drewN (n := 1) (Below.refl _ _))))
                  (first | (go_at_call 34; refine (SX.out _ (below_two HB8.out (held7b (by assumption)))).mono ?_; rintro e w9 ⟨rfl, hB⟩))
                all_goals have HB9 := Lib.hid (held7b (by assumption : w9.cell? ⟨b6, 0, none⟩ = some (.slice p1 l1 k1) ∧ w9.cell? ⟨b6, 1, none⟩ = some (.int .u64 0) ∧ w9.cell? ⟨b7, 0, none⟩ = some (.slice p2 l2 k2) ∧ w9.cell? ⟨b7, 1, none⟩ = some (.int .u64 0) ∧ w9.cell? ⟨ba, oa + k * 2 + 1, none⟩ = some (.int .u64 n) ∧ w9.cell? ⟨bb, ob + k * 2 + 1, none⟩ = some (.int .u64 m) ∧ Below W8.heap.size W8 w9))
                all_goals go_wp2_with fail
                all_goals go_meet
                all_goals exact ⟨rfl, HB9.out⟩
              · have hsub : SB = false := HSB.out.trans (decide_eq_false hz)
                have hz2 : (bits .andNot .u64 (n : Int) (m : Int) == 0) = false := by rw [HA2.out, beq_eq_false_iff_ne]; omega
                have hz3 : ¬ bits .andNot .u64 (n : Int) (m : Int) = 0 := by rw [HA2.out]; omega
                subst hsub
                clear hz HSB
                go_region_held3 (fun u => u.cell? ⟨b6, 0, none⟩ = some (.slice p1 l1 k1) ∧ u.cell? ⟨b6, 1, none⟩ = some (.int .u64 0) ∧ u.cell? ⟨b7, 0, none⟩ = some (.slice p2 l2 k2) ∧ u.cell? ⟨b7, 1, none⟩ = some (.int .u64 0) ∧ u.cell? ⟨ba, oa + k * 2 + 1, none⟩ = some (.int .u64 n) ∧ u.cell? ⟨bb, ob + k * 2 + 1, none⟩ = some (.int .u64 m) ∧ Below W8.heap.size W8 u)
                  (first | exact held7 (by assumption) (by assumption) | exact held7 H8.out (below_drewN (n := 1) (Below.refl _ _)) | exact held7 H8.out (below_drewN (below_drewN (n := 1) (Below.refl _ _))))
                  (first | (go_at_call 34; refine (SX.out _ (below_two HB8.out (held7b (by assumption)))).mono ?_; rintro e w9 ⟨rfl, hB⟩))
                all_goals have HB9 := Lib.hid (held7b (by assumption : w9.cell? ⟨b6, 0, none⟩ = some (.slice p1 l1 k1) ∧ w9.cell? ⟨b6, 1, none⟩ = some (.int .u64 0) ∧ w9.cell? ⟨b7, 0, none⟩ = some (.slice p2 l2 k2) ∧ w9.cell? ⟨b7, 1, none⟩ = some (.int .u64 0) ∧ w9.cell? ⟨ba, oa + k * 2 + 1, none⟩ = some (.int .u64 n) ∧ w9.cell? ⟨bb, ob + k * 2 + 1, none⟩ = some (.int .u64 m) ∧ Below W8.heap.size W8 w9))
                all_goals go_wp2_with fail
                all_goals go_meet
                all_goals exact ⟨by first | rfl | simp [hz3], HB9.out⟩
          case rest =>
            obtain ⟨rfl, hBx⟩ := hcut
            have HB9 := Lib.hid (below_two HBl.out (below_two HB8.out hBx))
            clear hBx c60 c61 c70 c71
            have HGS := Lib.hid (show (G && SB) = decide ((A.getD k ([], 0)).1 = (B.getD k ([], 0)).1 ∧ subB (A.getD k ([], 0)).2 (B.getD k ([], 0)).2 = true) by
              rw [HX.out, HY.out, HG.out, HSB.out, HNM.out.1, HNM.out.2, Bool.eq_iff_iff]
              simp)
            obtain ⟨T, hT⟩ : ∃ T, T = (G && SB) := ⟨_, rfl⟩
            rw [← hT] at HGS ⊢
            clear hT
            cases T
            · have key : R = false := HR.out.trans (decide_eq_false fun h => by
                have h1 := h.2 k (by rw [← E.out.1]; exact hlt)
                have h2 := HGS.out
                rw [decide_eq_true h1] at h2
                cases h2)
              subst key
              clear HR
              go_wp2_with fail
              go_ret
              exact ⟨rfl, HB9.out⟩
            · have NX := Lib.hid (show ∀ j, j < k + 1 → (A.getD j ([], 0)).1 = (B.getD j ([], 0)).1 ∧ subB (A.getD j ([], 0)).2 (B.getD j ([], 0)).2 = true from fun j hj => by
                by_cases h : j < k
                · exact HJ.out j h
                · obtain rfl : j = k := by omega
                  exact of_decide_eq_true HGS.out.symm)
              go_wp2_with fail
              go_roundw
              case rel => exact ⟨k + 1, by omega, by go_num, NX.out, HB9.out⟩
              case measure => simp [intOf]; omega
      · obtain rfl : k = la := by omega
        have d6 : ¬ ((k : Int) < (k : Int)) := by omega
        have key : R = true := HR.out.trans (decide_eq_true ⟨by have := E.out; omega, fun i hi => HJ.out i (by have := E.out; omega)⟩)
        subst key
        clear HR
        go_wp2_with fail
        go_ret
        exact ⟨rfl, HBl.out⟩
  · have d1 : ¬ ((la : Int) = (lb : Int)) := by omega
    have key : R = false := HR.out.trans (decide_eq_false fun h => by have := E.out; omega)
    subst key
    clear HR hne
    go_enter Tryd.func13, Tryd.ntmps13
    go_wp2_with fail
    go_ret
    exact ⟨rfl, Below.refl _ _⟩
end Go.Proofs.YtiaibggbbkhjlaaDoor.St
namespace Go.Proofs.YtiaibggbbkhjlaaDoor.St
open Go.RowKit
set_option maxRecDepth 100000

/-- a number of 64 bits without a sign -/
def rU64 : Reader Nat := fun _ cs n => cs = [.int .u64 (n : Int)] ∧ n < 18446744073709551616
theorem rU64_stays : rU64.Stays := fun _ _ _ _ _ h => h
/-- block b begins with s structs of two cells -/
def Row2c (s : Nat) (t : TypeId) (w : World) (b : Nat) (f : Nat → Value × Value) : Prop :=
  ∃ cc, w.heap[b]? = some (.cells cc t (0, 0)) ∧ s * 2 ≤ cc.size ∧ ∀ i, i < s → cc[i * 2]? = some (f i).1 ∧ cc[i * 2 + 1]? = some (f i).2
section
variable {s : Nat} {t : TypeId} {w w' : World} {b : Nat} {f g : Nat → Value × Value}
theorem Row2c.cell0 (h : Row2c s t w b f) {i : Nat} (hi : i < s) : w.cell? ⟨b, i * 2, none⟩ = some (f i).1 := by
  obtain ⟨cc, h1, h2, h3⟩ := h
  simp [World.cell?, h1, (h3 i hi).1]
theorem Row2c.cell1 (h : Row2c s t w b f) {i : Nat} (hi : i < s) : w.cell? ⟨b, i * 2 + 1, none⟩ = some (f i).2 := by
  obtain ⟨cc, h1, h2, h3⟩ := h
  simp [World.cell?, h1, (h3 i hi).2]
theorem Row2c.frozen (h : Row2c s t w b f) (off : Nat) : w.frozen? ⟨b, off, none⟩ = false := by
  obtain ⟨cc, h1, h2, h3⟩ := h
  simp [World.frozen?, h1]
theorem Row2c.lt (h : Row2c s t w b f) : b < w.heap.size := by
  obtain ⟨cc, h1, _⟩ := h
  exact (Array.getElem?_eq_some_iff.1 h1).1
theorem Row2c.drew (h : Row2c s t w b f) : Row2c s t w.drew b f := h
theorem Row2c.set1 (h : Row2c s t w b f) {i : Nat} (hi : i < s) (y : Value) (hx : g i = ((f i).1, y)) (hg : ∀ j, j ≠ i → g j = f j) : Row2c s t (w.setCell ⟨b, i * 2 + 1, none⟩ y) b g := by
  obtain ⟨cc, h1, h2, h3⟩ := h
  refine ⟨cc.setIfInBounds (i * 2 + 1) y, by simp [World.setCell, Array.getElem?_modify, h1], by simpa using h2, fun j hj => ?_⟩
  by_cases e : j = i
  · subst e
    rw [hx]
    refine ⟨?_, ?_⟩
    · rw [Array.getElem?_setIfInBounds, if_neg (by omega), (h3 j hj).1]
    · rw [Array.getElem?_setIfInBounds, if_pos rfl, if_pos (by omega)]
  · rw [hg j e]
    obtain ⟨k1, k2⟩ := h3 j hj
    refine ⟨?_, ?_⟩
    · rw [Array.getElem?_setIfInBounds, if_neg (by omega), k1]
    · rw [Array.getElem?_setIfInBounds, if_neg (by omega), k2]
theorem Row2c.congr (h : Row2c s t w b f) (e : ∀ i, i < s → g i = f i) : Row2c s t w b g := by
  obtain ⟨cc, h1, h2, h3⟩ := h
  exact ⟨cc, h1, h2, fun i hi => by rw [e i hi]; exact h3 i hi⟩
end
/-- pairs, cell by cell -/
def flat2 (F : Nat → Value × Value) (n : Nat) : List Value := (List.range (n * 2)).map fun j => if j % 2 = 0 then (F (j / 2)).1 else (F (j / 2)).2
theorem flat_at {F : Nat → Value × Value} {n i : Nat} (h : i < n) : (flat2 F n)[i * 2]? = some (F i).1 ∧ (flat2 F n)[i * 2 + 1]? = some (F i).2 := by
  unfold flat2
  rw [List.getElem?_map, List.getElem?_map, List.getElem?_range (by omega), List.getElem?_range (by omega)]
  have e1 : i * 2 % 2 = 0 := by omega
  have e2 : (i * 2 + 1) % 2 = 1 := by omega
  have e3 : i * 2 / 2 = i := by omega
  have e4 : (i * 2 + 1) / 2 = i := by omega
  simp [e2, e4]
theorem flat_length (F : Nat → Value × Value) (n : Nat) : (flat2 F n).length = n * 2 := by simp [flat2]
theorem flat_get {F : Nat → Value × Value} {n j : Nat} {u : Value} (h : (flat2 F n)[j]? = some u) : ∃ i, i < n ∧ (j = i * 2 ∧ u = (F i).1 ∨ j = i * 2 + 1 ∧ u = (F i).2) := by
  have hl := (List.getElem?_eq_some_iff.1 h).1
  rw [flat_length] at hl
  rcases (by omega : j % 2 = 0 ∨ j % 2 = 1) with q | q
  · refine ⟨j / 2, by omega, .inl ⟨by omega, ?_⟩⟩
    have := (flat_at (F := F) (n := n) (i := j / 2) (by omega)).1
    rw [show j / 2 * 2 = j by omega, h] at this
    exact Option.some.inj this
  · refine ⟨j / 2, by omega, .inr ⟨by omega, ?_⟩⟩
    have := (flat_at (F := F) (n := n) (i := j / 2) (by omega)).2
    rw [show j / 2 * 2 + 1 = j by omega, h] at this
    exact Option.some.inj this
theorem row_owned {w : World} {base g n cap : Nat} {F : Nat → Value × Value} {t : TypeId} (h : w.ownsRow base t 2 (.slice (some ⟨g, 0, none⟩) n cap) n (flat2 F n)) (hn : 0 < n) : Row2c n t w g F ∧ base ≤ g := by
  have h0 := h
  rcases h.2 with ⟨e, _⟩ | ⟨g', cap', cur, e, hb, hg, _, _, _, _⟩
  · cases e
  · simp only [Value.slice.injEq, Option.some.injEq, Addr.mk.injEq, and_true] at e
    obtain ⟨rfl, _⟩ := e
    have hat : ∀ j, j < n * 2 → cur[j]? = (flat2 F n)[j]? := fun j hj => by
      have := h0.cellAt j hj
      simpa [World.cell?, hg] using this
    refine ⟨⟨cur, hg, ?_, fun i hi => ?_⟩, hb⟩
    · have := hat ((n - 1) * 2 + 1) (by omega)
      rw [(flat_at (i := n - 1) (by omega)).2] at this
      have := (Array.getElem?_eq_some_iff.1 this).1
      omega
    · rw [hat _ (by omega), hat _ (by omega)]
      exact flat_at hi

/-- domains of which less is left -/
def fewerL (L : List (List Int × Nat)) (ms : List Nat) : List (List Int × Nat) := (List.range L.length).map fun i => ((L.getD i ([], 0)).1, if i < ms.length then (L.getD i ([], 0)).2 &&& ms.getD i 0 else (L.getD i ([], 0)).2)
theorem fewer_length (L : List (List Int × Nat)) (ms : List Nat) : (fewerL L ms).length = L.length := by simp [fewerL]
theorem fewer_getD {L : List (List Int × Nat)} {ms : List Nat} {i : Nat} (h : i < L.length) : (fewerL L ms).getD i ([], 0) = ((L.getD i ([], 0)).1, if i < ms.length then (L.getD i ([], 0)).2 &&& ms.getD i 0 else (L.getD i ([], 0)).2) := by
  unfold fewerL
  rw [List.getD_eq_getElem?_getD, List.getElem?_map, List.getElem?_range h]
  rfl

set_option maxHeartbeats 8000000 in
theorem fewer_any {w : World} {v vm : Value} {L : List (List Int × Nat)} {ms : List Nat} (h : Slc rDom 2 w v L) (hms : Slc rU64 1 w vm ms) (hn : L.length ≤ 1000) :
    Calls Tryd.prog 17 #[v, vm] w fun e w' => ∃ r, e = .returned r ∧ Slc rDom 2 w' r (fewerL L ms) ∧ Below w.heap.size w w' := by
  obtain ⟨p, b, off, cc, len, rfl, hcap, hss⟩ := h
  obtain ⟨pm, bm, om, cm, lm, rfl, _, hsm⟩ := hms
  obtain ⟨F, hF⟩ := dom_fun hss
  have hp := hss.at_
  have hpm := hsm.at_
  have HF := Lib.hid hF
  have HL := Lib.hid hss.long
  have HLM := Lib.hid hsm.long
  have HM := Lib.hid (show ∀ k, k < lm → w.cell? ⟨bm, om + k, none⟩ = some (.int .u64 (ms.getD k 0 : Nat)) ∧ ms.getD k 0 < 18446744073709551616 from fun k hk => by
    have hx : k < ms.length := by rw [← hsm.long]; exact hk
    obtain ⟨cs, h1, h2, h3, h4⟩ := hsm.cell k _ (List.getElem?_eq_getElem hx)
    subst h3
    have e : ms.getD k 0 = ms[k] := by simp [List.getD, List.getElem?_eq_getElem hx]
    rw [e]
    have := h2 0 (by omega)
    exact ⟨by simpa using this, h4⟩)
  have hlen : len ≤ 1000 := by have := hss.long; omega
  obtain ⟨W1, hW1⟩ : ∃ z, z = w.alloc (.cells #[] 47) := ⟨_, rfl⟩
  have hb1 : Below w.heap.size w W1 := by rw [hW1]; exact new_below _ _
  have hown : W1.ownsRow w.heap.size 47 2 (.slice (some ⟨w.heap.size, 0, none⟩) 0 0) 0 [] := by rw [hW1]; exact World.ownsRow_made w #[] 0 (Nat.le_refl _) (by unfold maxLen; omega) (by simp)
  have HB1 := Lib.hid hb1
  have HO := Lib.hid hown
  have HW1 := Lib.hid hW1
  have HSZ := Lib.hid hb1.size
  clear hss hsm hF hb1 hown hW1 hn
  go_enter Tryd.func17, Tryd.ntmps17
  go_upto_region 1 with fail
  go_cut [5] (fun out wx => ∃ p' cap, out = .slice p' len cap ∧ ((p' = none → cap = 0) ∧ len ≤ cap) ∧ (0 < len → ∃ g, p' = some ⟨g, 0, none⟩ ∧ w.heap.size ≤ g ∧ Row2c len 47 wx g F) ∧ Below w.heap.size w wx)
  case first =>
    obtain ⟨i0, hi, hz0, hz1, hz2⟩ := info_parts infoD
    rcases Nat.eq_zero_or_pos len with hz | hpos
    · subst hz
      cases p with
      | none =>
        obtain rfl := hcap.1 rfl
        go_wp2_with (at_builtin; rw [← HW1.out]; refine wpList_append_own_none rfl _ _ 25 rfl w.heap.size 47 i0 2 Tryd.underlying25 hi _ 0 [] rfl HO.out rfl ?_)
        go_meet
        exact ⟨_, _, rfl, ⟨(fun h => by cases h), Nat.le_refl _⟩, fun h => absurd h (by omega), HB1.out⟩
      | some ad =>
        go_wp2_with (at_builtin; rw [← HW1.out]; refine wpList_append_own W1 rfl _ _ 25 rfl w.heap.size 47 i0 _ 2 32 Tryd.underlying25 hi hz0 hz1 hz2 rfl (by decide) _ 0 [] rfl HO.out ad 0 cc [] rfl (by simp) (fun j u hj => by simp at hj) (fun u hu => by simp at hu) (by unfold maxLen; omega) (by omega) HSZ.out ?_; intro v' w8 g1 g2 _; have HG := Lib.hid (And.intro g1 g2); clear g1 g2)
        go_meet
        have hsh : ∃ p' cap, v' = .slice p' 0 cap ∧ ((p' = none → cap = 0) ∧ 0 ≤ cap) := by
          rcases HG.out.1.2 with ⟨rfl, _⟩ | ⟨g, cap, cur, rfl, _⟩
          · exact ⟨_, _, rfl, fun _ => rfl, Nat.zero_le _⟩
          · exact ⟨_, _, rfl, (fun h => by cases h), Nat.zero_le _⟩
        obtain ⟨p', cap, e, ec⟩ := hsh
        exact ⟨p', cap, e, ec, fun h => absurd h (by omega), HB1.out.grown HG.out.2 HSZ.out fun k e => Nat.le_of_eq (Option.some.inj e)⟩
    · obtain rfl := hp hpos
      have HN := Lib.hid (show ∀ j u, (flat2 F len)[j]? = some u → W1.cell? ((⟨b, off, none⟩ : Addr).add j) = some u from fun j u hj => by
        obtain ⟨i, hi, ⟨rfl, rfl⟩ | ⟨rfl, rfl⟩⟩ := flat_get hj
        · rw [add_plain']
          exact cell_below HB1.out (HF.out i hi).1
        · rw [add_plain', ← Nat.add_assoc]
          exact cell_below HB1.out (HF.out i hi).2.1)
      have H1 := Lib.hid (show ∀ u ∈ flat2 F len, u.oneCell' = true from fun u hu => by
        obtain ⟨j, hj⟩ := List.getElem?_of_mem hu
        obtain ⟨i, hi, ⟨_, rfl⟩ | ⟨_, rfl⟩⟩ := flat_get hj
        · obtain ⟨_, _, _, _, e⟩ := rDom_pair (HF.out i hi).2.2
          rw [e]; rfl
        · obtain ⟨_, _, _, _, e⟩ := rDom_pair (HF.out i hi).2.2
          rw [e]; rfl)
      go_wp2_with (at_builtin; rw [← HW1.out]; refine wpList_append_lies W1 rfl _ _ 25 rfl w.heap.size 47 i0 _ 2 32 Tryd.underlying25 hi hz0 hz1 hz2 rfl (by decide) _ 0 [] rfl HO.out ⟨b, off, none⟩ len cc (flat2 F len) rfl (flat_length F len) HN.out H1.out hpos (by unfold maxLen; omega) (by omega) HSZ.out W1.heap.size rfl ?_; intro g cap w8 g1 g2 g3 _; have HG := Lib.hid (And.intro g1 g2); clear g1 g2 g3)
      go_meet
      have h1 := HG.out.1
      rw [Nat.zero_add, List.nil_append] at h1
      have h2 := row_owned h1 hpos
      have h3 : len ≤ cap := by
        rcases h1.2 with ⟨e, _⟩ | ⟨g', cap', cur, e, _, _, hnc, _⟩
        · cases e
        · simp only [Value.slice.injEq] at e
          omega
      exact ⟨some ⟨g, 0, none⟩, cap, by simp, ⟨(fun h => by cases h), h3⟩, fun _ => ⟨g, rfl, h2.2, h2.1⟩, HB1.out.grown HG.out.2 HSZ.out fun k e => Nat.le_of_eq (Option.some.inj e)⟩
  case rest =>
    obtain ⟨p', cap, rfl, hcp, hrow, hB⟩ := hcut
    have HCP := Lib.hid hcp
    clear hcp
    obtain ⟨wz, rfl⟩ : ∃ z, z = wc := ⟨_, rfl⟩
    have HR0 := Lib.hid hrow
    have HBZ := Lib.hid hB
    clear hrow hB
    go_wp2_with fail
    go_loopw [12] (fun i wr => ∃ (k : Nat) (G : Nat → Value × Value), k ≤ len ∧ i = .int .i64 k ∧ (0 < len → ∃ g, p' = some ⟨g, 0, none⟩ ∧ w.heap.size ≤ g ∧ Row2c len 47 wr g G) ∧ (∀ j, j < k → G j = ((F j).1, .int .u64 (((fewerL L ms).getD j ([], 0)).2 : Nat))) ∧ (∀ j, k ≤ j → G j = F j) ∧ Below w.heap.size w wr) (fun i _ => len - (intOf i).toNat)
    case atStart => exact ⟨0, F, by omega, rfl, HR0.out, fun j hj => by omega, fun j _ => rfl, HBZ.out⟩
    case round =>
      rename_i wr
      obtain ⟨k, G, hk, rfl, hrow, hd, hu, hB⟩ := hrel
      have HD := Lib.hid hd
      have HU := Lib.hid hu
      have HB := Lib.hid hB
      clear hd hu hB
      by_cases hlt : k < len
      · obtain ⟨g, rfl, hg, hr⟩ := hrow (by omega)
        have hkL : k < L.length := by have := HL.out; omega
        have hfk := fewer_getD (ms := ms) hkL
        obtain ⟨e0, e1, e2⟩ := HF.out k hlt
        obtain ⟨u0, ec, _, hlt2, _⟩ := e2
        have hF2 : F k = (u0, .int .u64 ((L.getD k ([], 0)).2 : Nat)) := by
          simp only [List.cons.injEq, and_true] at ec
          exact Prod.ext ec.1 ec.2
        have hGk := HU.out k (Nat.le_refl k)
        have r1 := hr.cell1 hlt
        rw [hGk, hF2] at r1
        have f1 := hr.frozen (k * 2 + 1)
        have HRR := Lib.hid hr
        have HGK := Lib.hid (show G k = (u0, .int .u64 ((L.getD k ([], 0)).2 : Nat)) by rw [hGk, hF2])
        have HFK2 := Lib.hid hF2
        have HHG := Lib.hid hg
        by_cases hm : k < lm
        · obtain rfl := hpm (by omega)
          obtain ⟨c0, c1⟩ := HM.out k hm
          have c0 := cell_below HB.out c0
          have ha := bits_and_u64_nat (L.getD k ([], 0)).2 (ms.getD k 0) hlt2 c1
          rw [if_pos (by rw [← HLM.out]; exact hm)] at hfk
          obtain ⟨x, hx⟩ : ∃ x, x = (L.getD k ([], 0)).2 := ⟨_, rfl⟩
          obtain ⟨m, hm2⟩ : ∃ m, m = ms.getD k 0 := ⟨_, rfl⟩
          rw [← hx, ← hm2] at ha
          rw [← hx] at r1
          rw [← hm2] at c0
          have HA := Lib.hid ha
          have HFK := Lib.hid (show ((fewerL L ms).getD k ([], 0)).2 = x &&& m by rw [hfk, hx, hm2])
          have d5 : (k : Int) < (len : Int) := by omega
          have d6 : (k : Int) < (lm : Int) := by omega
          clear hr hrow hfk ha hx hm2 c1 hlt2 ec hF2 hGk hkL e0 e1 hg
          go_upto_region 6 with fail
          go_region_law (fail)
          all_goals go_wp2_with fail
          all_goals
            go_roundw
            case rel =>
              refine ⟨k + 1, fun j => if j = k then (u0, .int .u64 ((x &&& m : Nat) : Int)) else G j, by omega, by go_num, fun _ => ⟨g, rfl, HHG.out, ?_⟩, fun j hj => ?_, fun j hj => ?_, HB.out.drew.setCell HHG.out _⟩
              · rw [HA.out]
                exact HRR.out.drew.set1 hlt _ (by rw [HGK.out]; exact if_pos rfl) (fun j hj => if_neg hj)
              · by_cases e : j = k
                · subst e
                  simp only [if_true]
                  rw [HFK.out, HFK2.out]
                · simp only [if_neg e]
                  exact HD.out j (by omega)
              · simp only [if_neg (show ¬ j = k by omega)]
                exact HU.out j (by omega)
            case measure => simp [intOf]; omega
        · have d6 : ¬ ((k : Int) < (lm : Int)) := by omega
          have d5 : (k : Int) < (len : Int) := by omega
          rw [if_neg (by rw [← HLM.out]; exact hm)] at hfk
          have HFK := Lib.hid (show ((fewerL L ms).getD k ([], 0)).2 = (L.getD k ([], 0)).2 by rw [hfk])
          clear hr hrow hfk hlt2 ec hF2 hGk hkL e0 e1 hg r1 f1
          go_wp2_with fail
          go_roundw
          case rel =>
            refine ⟨k + 1, G, by omega, by go_num, fun _ => ⟨g, rfl, HHG.out, HRR.out⟩, fun j hj => ?_, fun j hj => HU.out j (by omega), HB.out⟩
            by_cases e : j = k
            · subst e
              rw [HGK.out, HFK.out, HFK2.out]
            · exact HD.out j (by omega)
          case measure => simp [intOf]; omega
      · obtain rfl : k = len := by omega
        have d6 : ¬ ((k : Int) < (k : Int)) := by omega
        have HRW := Lib.hid hrow
        clear hrow
        go_wp2_with fail
        go_ret
        refine ⟨_, rfl, ?_, HB.out⟩
        rcases Nat.eq_zero_or_pos k with hz | hpos
        · subst hz
          have hL0 : fewerL L ms = [] := List.eq_nil_of_length_eq_zero (by rw [fewer_length]; exact HL.out.symm)
          rw [hL0]
          exact ⟨p', 0, 0, cap, 0, rfl, HCP.out, rfl, fun h => by omega, fun j a h => by simp at h⟩
        · obtain ⟨g, rfl, hg, hr⟩ := HRW.out hpos
          refine ⟨_, g, 0, cap, k, rfl, HCP.out, by rw [fewer_length]; exact HL.out, fun _ => rfl, fun j a ha => ?_⟩
          have hj : j < k := by
            have := (List.getElem?_eq_some_iff.1 ha).1
            rw [fewer_length, ← HL.out] at this
            exact this
          have ea : a = (fewerL L ms).getD j ([], 0) := by rw [List.getD_eq_getElem?_getD, ha]; rfl
          have hjL : j < L.length := by rw [← HL.out]; exact hj
          have hfj := fewer_getD (ms := ms) hjL
          obtain ⟨_, _, u, e1, e2, e3, e4⟩ := HF.out j hj
          simp only [List.cons.injEq, and_true] at e1
          have hd := HD.out j hj
          refine ⟨[(G j).1, (G j).2], rfl, fun i hi => ?_, u, by rw [hd, ea, e1.1], ?_, ?_, ?_⟩
          · have c0 := hr.cell0 hj
            have c1 := hr.cell1 hj
            rw [Nat.zero_add]
            match i, hi with
            | 0, _ => exact c0
            | 1, _ => exact c1
          · rw [ea, hfj]
            exact Dm.readsN_below e2 HB.out
          · rw [ea, hfj]
            simp only
            split
            · exact Nat.lt_of_le_of_lt Nat.and_le_left e3
            · exact e3
          · rw [ea, hfj]
            exact e4
end Go.Proofs.YtiaibggbbkhjlaaDoor.St
