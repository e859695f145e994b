/-
  What Has of package dom answers, at every domain.
  What keep of package dom answers, at every domain: a copy of its values, and of what is left just what is kept; the zero domain, if it may not be.
  What List, Between and Less of the document's answers answer.
  What Between and Less of the document's answers answer: those of a list of which something is true.
-/
import Derived.Test.YtiaibggbbkhjlaaDoorZYAK
import Derived.Deep.RegionHeld3
namespace Go.Proofs.YtiaibggbbkhjlaaDoor.Dm
open Go.RowKit
set_option maxRecDepth 100000

theorem held3 {W0 u u' : World} {p0 p1 p2 : Addr} {a0 a1 a2 : Value} (h : u.cell? p0 = some a0 ∧ u.cell? p1 = some a1 ∧ u.cell? p2 = some a2 ∧ Below W0.heap.size W0 u) (hb : Below u.heap.size u u') :
    u'.cell? p0 = some a0 ∧ u'.cell? p1 = some a1 ∧ u'.cell? p2 = some a2 ∧ Below W0.heap.size W0 u' :=
  ⟨cell_below hb h.1, cell_below hb h.2.1, cell_below hb h.2.2.1, below_two h.2.2.2 hb⟩
theorem held3b {W0 u : World} {p0 p1 p2 : Addr} {a0 a1 a2 : Value} (h : u.cell? p0 = some a0 ∧ u.cell? p1 = some a1 ∧ u.cell? p2 = some a2 ∧ Below W0.heap.size W0 u) : Below W0.heap.size W0 u := h.2.2.2

section
variable {w : World} {v : Value} {xs : List Int} (hr : Reads w v xs) (hm : xs.length ≤ 1000000) (x : Nat) (hx : x < 18446744073709551616) (y : Int)
include hr hm hx

end
end Go.Proofs.YtiaibggbbkhjlaaDoor.Dm
namespace Go.Proofs.YtiaibggbbkhjlaaDoor.Dm
open Go.RowKit
set_option maxRecDepth 100000

theorem cell_set {u : World} {p a : Addr} {v y : Value} (h : u.cell? p = some v) (hne : p.block ≠ a.block) : (u.setCell a y).cell? p = some v := by
  rw [World.cell?_of_block (w := u) (Below.heap_setCell u a y p.block hne)]
  exact h
theorem held3_set {W0 u : World} {p0 p1 p2 : Addr} {a0 a1 a2 y0 y1 : Value} {r : Nat} (h : u.cell? p0 = some a0 ∧ u.cell? p1 = some a1 ∧ u.cell? p2 = some a2 ∧ Below W0.heap.size W0 u) (h0 : p0.block ≠ r) (h1 : p1.block ≠ r) (h2 : p2.block ≠ r) (hr : W0.heap.size ≤ r) :
    ((u.setCell ⟨r, 0, none⟩ y0).setCell ⟨r, 1, none⟩ y1).cell? p0 = some a0 ∧ ((u.setCell ⟨r, 0, none⟩ y0).setCell ⟨r, 1, none⟩ y1).cell? p1 = some a1 ∧ ((u.setCell ⟨r, 0, none⟩ y0).setCell ⟨r, 1, none⟩ y1).cell? p2 = some a2 ∧ Below W0.heap.size W0 ((u.setCell ⟨r, 0, none⟩ y0).setCell ⟨r, 1, none⟩ y1) :=
  ⟨cell_set (cell_set h.1 h0) h0, cell_set (cell_set h.2.1 h1) h1, cell_set (cell_set h.2.2.1 h2) h2, (h.2.2.2.setCell hr _).setCell hr _⟩
theorem cell_lt {w : World} {p : Addr} {v : Value} (h : w.cell? p = some v) : p.block < w.heap.size := by
  unfold World.cell? at h
  cases hh : w.heap[p.block]? with
  | none => simp [hh] at h
  | some q => exact (Array.getElem?_eq_some_iff.1 hh).1

/-- the domain that keep hands back, in memory from base on -/
def DomAt (base : Nat) (xs : List Int) (y : Nat) (r : Value) (w' : World) : Prop := ∃ v', r = .agg #[v', .int .u64 y] ∧ OwnsI w' base v' xs

theorem dom_set {u : World} {base r : Nat} {xs : List Int} {y : Nat} {d y0 y1 : Value} (h : DomAt base xs y d u) (hr : r < base) : DomAt base xs y d ((u.setCell ⟨r, 0, none⟩ y0).setCell ⟨r, 1, none⟩ y1) := by
  obtain ⟨v', h1, h2⟩ := h
  exact ⟨v', h1, ownsRow_setCell_below (ownsRow_setCell_below h2 hr _) hr _⟩
theorem dom_low {u : World} {base low : Nat} {xs : List Int} {y : Nat} {d : Value} (h : DomAt base xs y d u) (hl : low ≤ base) : DomAt low xs y d u := by
  obtain ⟨v', h1, h2⟩ := h
  exact ⟨v', h1, owns_low h2 hl⟩
theorem dom_shape {u : World} {base : Nat} {xs : List Int} {y : Nat} {d : Value} (h : DomAt base xs y d u) : ∃ p n c, d = .agg #[.slice p n c, .int .u64 y] := by
  obtain ⟨v', rfl, h2⟩ := h
  obtain ⟨p, n, c, rfl⟩ := reads_slice (reads_of_owns h2)
  exact ⟨_, _, _, rfl⟩
theorem dom_zero (u : World) (base : Nat) : DomAt base [] 0 (.agg #[.slice none 0 0, .int .u64 0]) u := ⟨_, rfl, World.ownsRow_nil _ _ _ _⟩

theorem new_two (W : World) (a b : Value) (t : TypeId) (k : Nat) (hk : k = W.heap.size) : (W.alloc (.cells #[a, b] t)).cell? ⟨k, 0, none⟩ = some a ∧ (W.alloc (.cells #[a, b] t)).cell? ⟨k, 1, none⟩ = some b ∧ (W.alloc (.cells #[a, b] t)).frozen? ⟨k, 0, none⟩ = false ∧ (W.alloc (.cells #[a, b] t)).frozen? ⟨k, 1, none⟩ = false := by
  subst hk
  simp
theorem new_one (W : World) (a : Value) (t : TypeId) (k : Nat) (hk : k = W.heap.size) : (W.alloc (.cells #[a] t)).cell? ⟨k, 0, none⟩ = some a := by
  subst hk
  simp
theorem below_alloc (W : World) (o : Obj) : Below W.heap.size W (W.alloc o) := (Below.refl _ W).alloc (Nat.le_refl _) o

section
variable {w : World} {v : Value} {xs : List Int} (hr : Reads w v xs) (hm : xs.length ≤ 1000000) (x : Nat) (hx : x < 18446744073709551616)
include hr hm hx

end
end Go.Proofs.YtiaibggbbkhjlaaDoor.Dm
namespace Go.Proofs.YtiaibggbbkhjlaaDoor.Dm
open Go.RowKit
set_option maxRecDepth 100000

/-- the values at the places below k -/
def leftK (xs : List Int) (x k : Nat) : List Int := (B.mem k x).map (fun j => xs.getD j 0)
theorem leftK_hit {xs : List Int} {x k : Nat} (h : x / 2 ^ k % 2 = 1) : leftK xs x (k + 1) = leftK xs x k ++ [xs.getD k 0] := by
  have hb : x.testBit k = true := by rw [Nat.testBit_eq_decide_div_mod_eq]; simpa using h
  unfold leftK
  rw [mem_snoc, hb, List.map_append]
  rfl
theorem leftK_miss {xs : List Int} {x k : Nat} (h : x / 2 ^ k % 2 ≠ 1) : leftK xs x (k + 1) = leftK xs x k := by
  have hb : x.testBit k = false := by rw [Nat.testBit_eq_decide_div_mod_eq]; simpa using h
  unfold leftK
  rw [mem_snoc, hb]
  simp
theorem leftK_le (xs : List Int) (x k : Nat) : (leftK xs x k).length ≤ k := by
  unfold leftK
  rw [List.length_map]
  exact B.mem_length_le k x

set_option maxRecDepth 100000 in
set_option maxHeartbeats 4000000 in
theorem rlist_any {w : World} {v : Value} {xs : List Int} (hr : Reads w v xs) (hm : xs.length ≤ 1000000) (x : Nat) (hx : x < 18446744073709551616) :
    Calls Tryd.prog 35 #[.agg #[v, .int .u64 x]] w fun e w' => ∃ r, e = .returned r ∧ OwnsI w' w.heap.size r (leftM xs x) ∧ Below w.heap.size w w' := by
  have hM := fun u (hb : Below w.heap.size w u) => rmay_any (reads_below hr hb) hm x hx
  obtain ⟨p, b, off, c, rfl, hp, hc⟩ := reads_shape hr
  obtain ⟨W0, hW0⟩ : ∃ W0, W0 = (w.alloc (.cells #[.slice p xs.length c, .int .u64 x] 66)).alloc (.cells #[] 3) := ⟨_, rfl⟩
  have hB0 : Below w.heap.size w W0 := by rw [hW0]; exact below_two (below_alloc0 _ _) (below_alloc0 _ _)
  have q0 : W0.cell? ⟨w.heap.size, 0, none⟩ = some (.slice p xs.length c) ∧ W0.cell? ⟨w.heap.size, 1, none⟩ = some (.int .u64 x) := by
    rw [hW0]
    exact ⟨cell_below (below_alloc0 _ _) (new_two0 _ _ _ _).1, cell_below (below_alloc0 _ _) (new_two0 _ _ _ _).2⟩
  have O0 : Hid (OwnsI W0 w.heap.size (.slice (some ⟨w.heap.size + 1, 0, none⟩) 0 0) []) := by
    have := World.ownsRow_made (base := w.heap.size) (e := 3) (size := 1) (w.alloc (.cells #[.slice p xs.length c, .int .u64 x] 66)) #[] 0 (by simp) (by decide) rfl
    rw [World.size_alloc] at this
    rw [hW0]
    exact this
  have MA := Lib.hid (hM W0 hB0)
  have HX := Lib.hid hc
  have HB := Lib.hid hB0
  have HQ := Lib.hid q0
  have HW := Lib.hid hW0
  obtain ⟨i0, hi, hz0, hz1, hz2⟩ := info_parts info3
  have I := Lib.hid (And.intro hi (And.intro hz0 (And.intro hz1 hz2)))
  obtain ⟨len, hlen⟩ : ∃ len : Nat, len = xs.length := ⟨_, rfl⟩
  rw [← hlen] at MA HW HQ hp hm ⊢
  have HN := Lib.hid hlen
  clear hr hM hc hW0 hB0 q0 hi hz0 hz1 hz2 hlen
  unfold leftM
  cases hmay : mayL xs x
  · rw [hmay] at MA
    rw [if_neg (by simp)]
    clear hmay hp
    go_enter Tryd.func35, Tryd.ntmps35
    go_wp2_with fail
    rw [← HW.out]
    refine MA.out.mono ?_
    rintro e w1 ⟨rfl, hB⟩
    have HO := Lib.hid (owns_below O0.out hB)
    have HB1 := Lib.hid (below_two HB.out hB)
    clear hB
    go_wp2_with fail
    go_ret
    exact ⟨_, rfl, HO.out, HB1.out⟩
  · rw [hmay] at MA
    rw [if_pos rfl]
    have HF := Lib.hid (left_len hmay)
    have h64 := (may_iff.1 hmay).1
    have HS : Hid (leftK xs x 0 = []) := by unfold leftK B.mem; simp; trivial
    clear hmay
    go_enter Tryd.func35, Tryd.ntmps35
    go_wp2_with fail
    rw [← HW.out]
    refine MA.out.mono ?_
    rintro e w1 ⟨rfl, hB⟩
    have HO := Lib.hid (owns_below O0.out hB)
    have HB1 := Lib.hid (below_two HB.out hB)
    have c1 := cell_below hB HQ.out.2
    have HC := Lib.hid (cell_below hB HQ.out.1)
    have HZ : Hid (w.heap.size < w1.heap.size) := cell_lt c1
    have HL1 : Hid (∀ j, (Value.slice (some ⟨w.heap.size + 1, 0, none⟩) 0 0).ownBlock = some j → w.heap.size + 1 ≤ j) := fun j e => by
      have : w.heap.size + 1 = j := Option.some.inj e
      omega
    clear hB
    go_wp2_with fail
    clear c1
    go_loopw [3, 4, 5] (fun out l i wr => ∃ k : Nat, k ≤ len ∧ i = .int .i64 k ∧ l = .int .u64 (x / 2 ^ k : Nat) ∧ OwnsI wr w.heap.size out (leftK xs x k) ∧ (∀ j, out.ownBlock = some j → w.heap.size + 1 ≤ j) ∧ Below w.heap.size w wr ∧ wr.cell? ⟨w.heap.size, 0, none⟩ = some (.slice p len c)) (fun _ _ i _ => len - (intOf i).toNat)
    case atStart => exact ⟨0, by omega, rfl, by simp, by rw [HS.out]; exact HO.out, HL1.out, HB1.out, HC.out⟩
    case round =>
      obtain ⟨k, hk, rfl, rfl, hown, hob, hB, c0⟩ := hrel
      have hd : x / 2 ^ k < 18446744073709551616 := Nat.lt_of_le_of_lt (Nat.div_le_self _ _) hx
      have hdd : x / 2 ^ k / 2 = x / 2 ^ (k + 1) := by rw [Nat.div_div_eq_div_mul, Nat.pow_succ]
      by_cases hlt : k < len
      · obtain rfl := hp (by omega)
        have hlx : k < xs.length := by have := HN.out; omega
        have cx := cell_below hB (HX.out k hlx)
        have hit := leftK_hit (xs := xs) (x := x) (k := k)
        have miss := leftK_miss (xs := xs) (x := x) (k := k)
        have hle := leftK_le xs x k
        obtain ⟨y, ey⟩ : ∃ y, y = xs.getD k 0 := ⟨_, rfl⟩
        rw [← ey] at cx hit
        have HIT := Lib.hid hit
        have MISS := Lib.hid miss
        have E := Lib.hid hdd
        obtain ⟨t, et⟩ : ∃ t, t = x / 2 ^ k := ⟨_, rfl⟩
        rw [← et] at hd HIT MISS E ⊢
        have d5 : (k : Int) < (len : Int) := by omega
        clear ey hit miss hlx hdd et
        by_cases hbit : t % 2 = 1
        · have d6 : ((t : Int) % 2) = 1 := by omega
          have hsz := hB.size
          have hi := I.out.1
          have hz0 := I.out.2.1
          have hz1 := I.out.2.2.1
          have hz2 := I.out.2.2.2
          have hmx : (leftK xs x k).length + 1 ≤ maxLen := by unfold maxLen; omega
          have hlt0 := cell_lt c0
          go_wp2_with (at_builtin; refine wpList_append_own_at _ rfl _ _ 22 rfl w.heap.size 3 i0 (.int .i64 0) 1 8 Tryd.underlying22 hi hz0 hz1 hz2 rfl (by decide) _ _ _ rfl (hown.alloc _) ⟨wr.heap.size, 0, none⟩ 1 1 [.int .i64 y] rfl rfl (cells_one _ _ _) (by simp [Value.oneCell']) hmx (by omega) (by simp; omega) ?_; intro v' w3 hown' hgrow _ hat)
          go_roundw
          case rel =>
            have hlt0' : w.heap.size < wr.heap.size := hlt0
            refine ⟨k + 1, by omega, by go_num, ?_, ?_, ?_, ?_, ?_⟩
            · rw [← E.out]
              simp
            · rw [HIT.out hbit]
              unfold OwnsI
              simpa using hown'
            · intro j e
              rcases hat with h | h
              · exact hob j (h ▸ e)
              · rw [h] at e
                have := Option.some.inj e
                rw [World.size_alloc] at this
                omega
            · exact (hB.alloc hsz _).grown hgrow (by simp; omega) (fun j e => by have := hob j e; omega)
            · have c2 := cell_below (below_alloc0 wr (.cells #[.int .i64 y] 3)) c0
              rw [World.cell?_of_block (hgrow.block _ (cell_lt c2) (fun e => by have := hob _ e.symm; simp only at this; omega))]
              exact c2
          case measure => simp [intOf]; omega
        · have d6 : (((t : Int) % 2) == 1) = false := by rw [beq_eq_false_iff_ne]; omega
          have HOO := Lib.hid hown
          have HBB := Lib.hid (And.intro hB hob)
          clear hown hB hob
          go_wp2_with fail
          go_roundw
          case rel => exact ⟨k + 1, by omega, by go_num, by rw [← E.out]; simp, by rw [MISS.out hbit]; exact HOO.out, HBB.out.2, HBB.out.1, c0⟩
          case measure => simp [intOf]; omega
      · have hkz : k = xs.length := by have := HN.out; omega
        have hfin : leftK xs x k = left xs x := by rw [hkz, HF.out]; rfl
        rw [hfin] at hown
        have HOO := Lib.hid hown
        have HBB := Lib.hid hB
        clear hown hB hkz hfin hp hob hdd hd
        go_wp2_with fail
        go_ret
        exact ⟨_, rfl, HOO.out, HBB.out⟩
end Go.Proofs.YtiaibggbbkhjlaaDoor.Dm
namespace Go.Proofs.YtiaibggbbkhjlaaDoor.Dm
open Go.RowKit
set_option maxRecDepth 100000

theorem fil_hit {p : Int → Bool} {ys : List Int} {k : Nat} (h : k < ys.length) (hp : p (ys.getD k 0) = true) : (ys.take (k + 1)).filter p = (ys.take k).filter p ++ [ys.getD k 0] := by
  rw [List.take_add_one, List.getElem?_eq_getElem h, List.filter_append]
  have e : ys.getD k 0 = ys[k] := by simp [h]
  rw [e] at hp ⊢
  simp [hp]
theorem fil_miss {p : Int → Bool} {ys : List Int} {k : Nat} (h : k < ys.length) (hp : p (ys.getD k 0) = false) : (ys.take (k + 1)).filter p = (ys.take k).filter p := by
  rw [List.take_add_one, List.getElem?_eq_getElem h, List.filter_append]
  have e : ys.getD k 0 = ys[k] := by simp [h]
  rw [e] at hp
  simp [hp]
theorem fil_le (p : Int → Bool) (ys : List Int) (k : Nat) : ((ys.take k).filter p).length ≤ k :=
  Nat.le_trans (List.length_filter_le _ _) (by simp; omega)

set_option maxRecDepth 100000 in
set_option maxHeartbeats 4000000 in
theorem rbetweenL_any {w : World} {v : Value} {ys : List Int} (hr : Reads w v ys) (hm : ys.length ≤ 100000) (low high : Int) :
    Calls Tryd.prog 30 #[v, .int .i64 low, .int .i64 high] w fun e w' => ∃ r, e = .returned r ∧ OwnsI w' w.heap.size r (ys.filter (fun z => decide (low ≤ z) && decide (z ≤ high))) ∧ Below w.heap.size w w' := by
  obtain ⟨p, b, off, c, rfl, hp, hc⟩ := reads_shape hr
  have O0 := Lib.hid (show OwnsI (w.alloc (.cells #[] 3)) w.heap.size (.slice (some ⟨w.heap.size, 0, none⟩) 0 0) [] from World.ownsRow_made w #[] 0 (Nat.le_refl _) (by decide) rfl)
  have HX := Lib.hid hc
  have HB := Lib.hid (below_alloc0 w (.cells #[] 3))
  obtain ⟨i0, hi, hz0, hz1, hz2⟩ := info_parts info3
  have I := Lib.hid (And.intro hi (And.intro hz0 (And.intro hz1 hz2)))
  obtain ⟨len, hlen⟩ : ∃ len : Nat, len = ys.length := ⟨_, rfl⟩
  rw [← hlen] at hp hm ⊢
  have HN := Lib.hid hlen
  obtain ⟨P, hP⟩ : ∃ P : Int → Bool, P = (fun z => decide (low ≤ z) && decide (z ≤ high)) := ⟨_, rfl⟩
  rw [← hP]
  have HP := Lib.hid hP
  clear hr hc hi hz0 hz1 hz2 hlen hP
  go_enter Tryd.func30, Tryd.ntmps30
  go_wp2_with fail
  go_loopw [7, 8] (fun out i wr => ∃ k : Nat, k ≤ len ∧ i = .int .i64 k ∧ OwnsI wr w.heap.size out ((ys.take k).filter P) ∧ Below w.heap.size w wr) (fun _ i _ => len - (intOf i).toNat)
  case atStart => exact ⟨0, by omega, rfl, by simpa [OwnsI] using O0.out, HB.out⟩
  case round =>
    obtain ⟨k, hk, rfl, hown, hB⟩ := hrel
    by_cases hlt : k < len
    · obtain rfl := hp (by omega)
      have hlx : k < ys.length := by have := HN.out; omega
      have cx := cell_below hB (HX.out k hlx)
      have hit := fil_hit (p := P) hlx
      have miss := fil_miss (p := P) hlx
      have hle := fil_le P ys k
      obtain ⟨z, ez⟩ : ∃ z, z = ys.getD k 0 := ⟨_, rfl⟩
      rw [← ez] at cx hit miss
      have HIT := Lib.hid hit
      have MISS := Lib.hid miss
      have hsz := hB.size
      have hmx : ((ys.take k).filter P).length + 1 ≤ maxLen := by unfold maxLen; omega
      have d5 : (k : Int) < (len : Int) := by omega
      clear ez hit miss hlx
      by_cases h1 : low ≤ z
      · by_cases h2 : z ≤ high
        · have hi := I.out.1
          have hz0 := I.out.2.1
          have hz1 := I.out.2.2.1
          have hz2 := I.out.2.2.2
          have hp1 : P z = true := by rw [HP.out]; simp; omega
          have HQ := Lib.hid (HIT.out hp1)
          clear hp1
          go_wp2_with (at_builtin; refine wpList_append_own _ rfl _ _ 22 rfl w.heap.size 3 i0 (.int .i64 0) 1 8 Tryd.underlying22 hi hz0 hz1 hz2 rfl (by decide) _ _ _ rfl (hown.alloc _) ⟨wr.heap.size, 0, none⟩ 1 1 [.int .i64 z] rfl rfl (cells_one _ _ _) (by simp [Value.oneCell']) hmx (by omega) (by simp; omega) ?_; intro v' w3 hown' hgrow _)
          go_roundw
          case rel =>
            refine ⟨k + 1, by omega, by go_num, ?_, (hB.alloc hsz _).grown hgrow (by simp; omega) (fun j e => (hown.lt j e).1)⟩
            rw [HQ.out]
            unfold OwnsI
            simpa using hown'
          case measure => simp [intOf]; omega
        · have hp1 : P z = false := by rw [HP.out]; simp; omega
          have HQ := Lib.hid (MISS.out hp1)
          have HOO := Lib.hid hown
          have HBB := Lib.hid hB
          clear hown hB hp1
          go_wp2_with fail
          go_roundw
          case rel => exact ⟨k + 1, by omega, by go_num, by rw [HQ.out]; exact HOO.out, HBB.out⟩
          case measure => simp [intOf]; omega
      · have hp1 : P z = false := by rw [HP.out]; simp; omega
        have HQ := Lib.hid (MISS.out hp1)
        have HOO := Lib.hid hown
        have HBB := Lib.hid hB
        clear hown hB hp1
        go_wp2_with fail
        go_roundw
        case rel => exact ⟨k + 1, by omega, by go_num, by rw [HQ.out]; exact HOO.out, HBB.out⟩
        case measure => simp [intOf]; omega
    · have hkz : ys.take k = ys := List.take_of_length_le (by have := HN.out; omega)
      rw [hkz] at hown
      have HOO := Lib.hid hown
      have HBB := Lib.hid hB
      clear hown hB hkz hp
      go_wp2_with fail
      go_ret
      exact ⟨_, rfl, HOO.out, HBB.out⟩

set_option maxRecDepth 100000 in
set_option maxHeartbeats 4000000 in
theorem rlessL_any {w : World} {v : Value} {ys : List Int} (hr : Reads w v ys) (hm : ys.length ≤ 100000) (y : Int) :
    Calls Tryd.prog 33 #[v, .int .i64 y] w fun e w' => ∃ r, e = .returned r ∧ OwnsI w' w.heap.size r (ys.filter (fun z => !decide (z = y))) ∧ Below w.heap.size w w' := by
  obtain ⟨p, b, off, c, rfl, hp, hc⟩ := reads_shape hr
  have O0 := Lib.hid (show OwnsI (w.alloc (.cells #[] 3)) w.heap.size (.slice (some ⟨w.heap.size, 0, none⟩) 0 0) [] from World.ownsRow_made w #[] 0 (Nat.le_refl _) (by decide) rfl)
  have HX := Lib.hid hc
  have HB := Lib.hid (below_alloc0 w (.cells #[] 3))
  obtain ⟨i0, hi, hz0, hz1, hz2⟩ := info_parts info3
  have I := Lib.hid (And.intro hi (And.intro hz0 (And.intro hz1 hz2)))
  obtain ⟨len, hlen⟩ : ∃ len : Nat, len = ys.length := ⟨_, rfl⟩
  rw [← hlen] at hp hm ⊢
  have HN := Lib.hid hlen
  obtain ⟨P, hP⟩ : ∃ P : Int → Bool, P = (fun z => !decide (z = y)) := ⟨_, rfl⟩
  rw [← hP]
  have HP := Lib.hid hP
  clear hr hc hi hz0 hz1 hz2 hlen hP
  go_enter Tryd.func33, Tryd.ntmps33
  go_wp2_with fail
  go_loopw [5, 6] (fun out i wr => ∃ k : Nat, k ≤ len ∧ i = .int .i64 k ∧ OwnsI wr w.heap.size out ((ys.take k).filter P) ∧ Below w.heap.size w wr) (fun _ i _ => len - (intOf i).toNat)
  case atStart => exact ⟨0, by omega, rfl, by simpa [OwnsI] using O0.out, HB.out⟩
  case round =>
    obtain ⟨k, hk, rfl, hown, hB⟩ := hrel
    by_cases hlt : k < len
    · obtain rfl := hp (by omega)
      have hlx : k < ys.length := by have := HN.out; omega
      have cx := cell_below hB (HX.out k hlx)
      have hit := fil_hit (p := P) hlx
      have miss := fil_miss (p := P) hlx
      have hle := fil_le P ys k
      obtain ⟨z, ez⟩ : ∃ z, z = ys.getD k 0 := ⟨_, rfl⟩
      rw [← ez] at cx hit miss
      have HIT := Lib.hid hit
      have MISS := Lib.hid miss
      have hsz := hB.size
      have hmx : ((ys.take k).filter P).length + 1 ≤ maxLen := by unfold maxLen; omega
      have d5 : (k : Int) < (len : Int) := by omega
      clear ez hit miss hlx
      by_cases h1 : z = y
      · subst h1
        have hp1 : P z = false := by rw [HP.out]; simp
        have HQ := Lib.hid (MISS.out hp1)
        have HOO := Lib.hid hown
        have HBB := Lib.hid hB
        clear hown hB hp1
        go_wp2_with fail
        go_roundw
        case rel => exact ⟨k + 1, by omega, by go_num, by rw [HQ.out]; exact HOO.out, HBB.out⟩
        case measure => simp [intOf]; omega
      · have d6 : (z == y) = false := by rw [beq_eq_false_iff_ne]; exact h1
        have hi := I.out.1
        have hz0 := I.out.2.1
        have hz1 := I.out.2.2.1
        have hz2 := I.out.2.2.2
        have hp1 : P z = true := by rw [HP.out]; simp; omega
        have HQ := Lib.hid (HIT.out hp1)
        clear hp1
        go_wp2_with (at_builtin; refine wpList_append_own _ rfl _ _ 22 rfl w.heap.size 3 i0 (.int .i64 0) 1 8 Tryd.underlying22 hi hz0 hz1 hz2 rfl (by decide) _ _ _ rfl (hown.alloc _) ⟨wr.heap.size, 0, none⟩ 1 1 [.int .i64 z] rfl rfl (cells_one _ _ _) (by simp [Value.oneCell']) hmx (by omega) (by simp; omega) ?_; intro v' w3 hown' hgrow _)
        go_roundw
        case rel =>
          refine ⟨k + 1, by omega, by go_num, ?_, (hB.alloc hsz _).grown hgrow (by simp; omega) (fun j e => (hown.lt j e).1)⟩
          rw [HQ.out]
          unfold OwnsI
          simpa using hown'
        case measure => simp [intOf]; omega
    · have hkz : ys.take k = ys := List.take_of_length_le (by have := HN.out; omega)
      rw [hkz] at hown
      have HOO := Lib.hid hown
      have HBB := Lib.hid hB
      clear hown hB hkz hp
      go_wp2_with fail
      go_ret
      exact ⟨_, rfl, HOO.out, HBB.out⟩
end Go.Proofs.YtiaibggbbkhjlaaDoor.Dm
