/-
  What New of package dom answers, at every list of spans.
-/
import Derived.Test.YtnabkhmonmcmfaaDoorDOnly
import Derived.Test.YtnabkhmonmcmfaaDoorSValues
import Derived.Laws.ResultCell
namespace Go.Proofs.YtnabkhmonmcmfaaDoor
open Go.RowKit

/-- how many numbers a list has, if it is right -/
def cntL (L : List (Int × Int)) : Int := if rightL L = true then sizeL L else 0
/-- what New answers beside the domain -/
def newE (L : List (Int × Int)) : Int := if cntL L = 0 then 1 else if 64 < cntL L then 5 else 0
def newX (L : List (Int × Int)) : List Int := if newE L = 0 then valuesL L else []
def newY (L : List (Int × Int)) : Nat := if newE L = 0 then B.firstN (sizeL L) else 0

theorem cnt_ge (L : List (Int × Int)) : 0 ≤ cntL L := by
  unfold cntL
  split
  · exact (size_most (by assumption)).1
  · omega
theorem new_some {L : List (Int × Int)} (h1 : cntL L ≠ 0) (h2 : cntL L ≤ 64) : newE L = 0 ∧ rightL L = true ∧ sizeL L = cntL L := by
  refine ⟨by rw [newE, if_neg h1, if_neg (by omega)], ?_, ?_⟩
  · cases h : rightL L
    · simp [cntL, h] at h1
    · rfl
  · have : rightL L = true := by
      cases h : rightL L
      · simp [cntL, h] at h1
      · rfl
    rw [cntL, if_pos this]

/-- what a call hands back out of a variable of two cells, and a number -/
theorem results_dom2 {fn : Func} {p q : Tmp} (h : fn.results = #[.cell p 26, .tmp q]) (tmps : Array Value) (w : World) (b : Nat) (v0 v1 r : Value) (hp : tmps.getD p undef = .pointer (some ⟨b, 0, none⟩)) (hq : tmps.getD q undef = r) (c0 : w.cell? ⟨b, 0, none⟩ = some v0) (c1 : w.cell? ⟨b, 1, none⟩ = some v1) :
    (results fn tmps).run Tryd.prog w = .ok (.tuple #[.agg #[v0, v1], r]) w := by
  rw [results_cell_tmp h, hp, hq]
  simp [asAddr]
  go_simp
theorem results_rdom2 {fn : Func} {p q : Tmp} (h : fn.results = #[.cell p 31, .tmp q]) (tmps : Array Value) (w : World) (b : Nat) (v0 v1 r : Value) (hp : tmps.getD p undef = .pointer (some ⟨b, 0, none⟩)) (hq : tmps.getD q undef = r) (c0 : w.cell? ⟨b, 0, none⟩ = some v0) (c1 : w.cell? ⟨b, 1, none⟩ = some v1) :
    (results fn tmps).run Tryd.prog w = .ok (.tuple #[.agg #[v0, v1], r]) w := by
  rw [results_cell_tmp h, hp, hq]
  simp [asAddr]
  go_simp

set_option maxRecDepth 100000 in
set_option maxHeartbeats 4000000 in
theorem new_cells (p : Option Addr) (b off c len : Nat) (L : List (Int × Int)) (hl : len = L.length) (w : World) (hm : len ≤ 1000000) (hp : 0 < len → p = some ⟨b, off, none⟩) (hx : Cells w b off L) :
    Calls Tryd.prog 7 #[.slice p len c] w fun e w' => ∃ r, e = .returned (.tuple #[r, .int .i64 (newE L)]) ∧ DomAt w.heap.size (newX L) (newY L) r w' ∧ Below w.heap.size w w' := by
  obtain ⟨W0, hW0⟩ : ∃ W0, W0 = w.alloc (.cells #[.slice none 0 0, .int .u64 0] 26) := ⟨_, rfl⟩
  have hB : Below w.heap.size w W0 := by rw [hW0]; exact (Below.refl _ w).alloc (Nat.le_refl _) _
  have hd := new_two w (.slice none 0 0) (.int .u64 0) 26 w.heap.size rfl
  rw [← hW0] at hd
  have SZ : Hid (Calls Tryd.prog 30 #[.slice p len c] W0 fun e w' => e = .returned (.int .i64 (cntL L)) ∧ Below W0.heap.size W0 w') := size_cells p b off c len L hl W0 hm hp (cells_below hx hB)
  have hge := cnt_ge L
  have HB := Lib.hid hB
  have HD := Lib.hid hd
  have HW := Lib.hid hW0
  have hsz : W0.heap.size = w.heap.size + 1 := by rw [hW0]; simp
  have HSZ := Lib.hid hsz
  have HX := Lib.hid hx
  have HN := Lib.hid hl
  have hsm : newE L = 0 → rightL L = true ∧ (valuesL L).length = (cntL L).toNat ∧ newX L = valuesL L ∧ newY L = B.firstN (cntL L) := by
    intro h
    have h1 : cntL L ≠ 0 := fun e => by simp [newE, e] at h
    have h2 : cntL L ≤ 64 := by
      rw [newE, if_neg h1] at h
      split at h
      · omega
      · omega
    obtain ⟨_, h3, h4⟩ := new_some h1 h2
    refine ⟨h3, ?_, if_pos h, by rw [newY, if_pos h, h4]⟩
    have := values_length h3
    omega
  have hno : newE L ≠ 0 → newX L = [] ∧ newY L = 0 := fun h => ⟨if_neg h, if_neg h⟩
  have heq : newE L = if cntL L = 0 then 1 else if 64 < cntL L then 5 else 0 := rfl
  clear hW0 hB hd hx hl hsz
  generalize cntL L = cn at SZ hge hsm heq
  obtain ⟨n, rfl⟩ : ∃ n : Nat, cn = (n : Int) := ⟨cn.toNat, by omega⟩
  generalize newE L = ne at hsm hno heq ⊢
  generalize newX L = nx at hsm hno ⊢
  generalize newY L = ny at hsm hno ⊢
  clear hge
  by_cases h0 : n = 0
  · have e1 : ne = 1 := by rw [heq, if_pos (by omega)]
    subst e1
    subst h0
    have HR := Lib.hid (hno (by omega))
    clear hsm hno heq hp
    go_enter Tryd.func7, Tryd.ntmps7
    go_wp2_with fail
    rw [← HW.out]
    refine SZ.out.mono ?_
    rintro e w1 ⟨rfl, hB⟩
    have HB1 := Lib.hid (below_two HB.out hB)
    have d0 := cell_below hB HD.out.1
    have d1 := cell_below hB HD.out.2.1
    have f0 := frozen_below hB HD.out.1 HD.out.2.2.1
    have f1 := frozen_below hB HD.out.2.1 HD.out.2.2.2
    clear hB
    go_wp2_with fail
    (try simp only [Exit.inBlock, Exit.then])
    refine bodyPost_ret (results_dom2 rfl _ _ w.heap.size (.slice none 0 0) (.int .u64 0) (.int .i64 1) rfl rfl ?c0a ?c1a) rfl ?resta
    case c0a => go_simp
    case c1a => go_simp
    refine ⟨_, rfl, ?_, (HB1.out.setCell (Nat.le_refl _) _).setCell (Nat.le_refl _) _⟩
    rw [HR.out.1, HR.out.2]
    exact dom_zero _ _
  · have hn0 : ((n : Int) == 0) = false := by rw [beq_eq_false_iff_ne]; omega
    by_cases h64 : 64 < n
    · obtain rfl : ne = 5 := by rw [heq, if_neg (by omega), if_pos (by omega)]
      have HR := Lib.hid (hno (by omega))
      have d64 : (64 : Int) < (n : Int) := by omega
      clear hsm hno heq hp
      go_enter Tryd.func7, Tryd.ntmps7
      go_wp2_with fail
      rw [← HW.out]
      refine SZ.out.mono ?_
      rintro e w1 ⟨rfl, hB⟩
      have HB1 := Lib.hid (below_two HB.out hB)
      have d0 := cell_below hB HD.out.1
      have d1 := cell_below hB HD.out.2.1
      have f0 := frozen_below hB HD.out.1 HD.out.2.2.1
      have f1 := frozen_below hB HD.out.2.1 HD.out.2.2.2
      clear hB
      go_wp2_with fail
      (try simp only [Exit.inBlock, Exit.then])
      refine bodyPost_ret (results_dom2 rfl _ _ w.heap.size (.slice none 0 0) (.int .u64 0) (.int .i64 5) rfl rfl ?c0b ?c1b) rfl ?restb
      case c0b => go_simp
      case c1b => go_simp
      refine ⟨_, rfl, ?_, (HB1.out.setCell (Nat.le_refl _) _).setCell (Nat.le_refl _) _⟩
      rw [HR.out.1, HR.out.2]
      exact dom_zero _ _
    · obtain rfl : ne = 0 := by rw [heq, if_neg (by omega), if_neg (by omega)]
      obtain ⟨hright, hvl, rfl, rfl⟩ := hsm rfl
      have hle : n ≤ 64 := by omega
      have hvl : (valuesL L).length = n := by simpa using hvl
      have HS := Lib.hid (rest_start hright)
      have HV := Lib.hid hvl
      have FI := Lib.hid (B.first_any (n : Int))
      obtain ⟨i0, hi, hz0, hz1, hz2⟩ := info_parts info3
      have I := Lib.hid (And.intro hi (And.intro hz0 (And.intro hz1 hz2)))
      generalize B.firstN (n : Int) = fy at FI ⊢
      clear hno heq hright hvl h64 h0
      go_enter Tryd.func7, Tryd.ntmps7
      go_wp2_with fail
      rw [← HW.out]
      refine SZ.out.mono ?_
      rintro e w1 ⟨rfl, hB⟩
      have HB1 := Lib.hid (below_two HB.out hB)
      have HD1 := Lib.hid (And.intro (cell_below hB HD.out.1) (And.intro (cell_below hB HD.out.2.1) (And.intro (frozen_below hB HD.out.1 HD.out.2.2.1) (frozen_below hB HD.out.2.1 HD.out.2.2.2))))
      have HZ1 : Hid (w.heap.size < w1.heap.size) := by
        have h1 := hB.size
        have h2 := HSZ.out
        exact Nat.lt_of_lt_of_le (by omega) h1
      clear hB
      go_wp2_with (at_make; refine wpList_make_own _ rfl _ _ 23 rfl w1.heap.size 3 i0 (.int .i64 0) 1 Tryd.underlying23 hi hz0 hz1 .i64 .i64 _ n rfl rfl rfl (by rw [hz2]; omega) (by unfold maxLen; omega) (Nat.le_refl _) ?_; intro w2 hown0 hgrow0)
      have HO0 : Hid (OwnsI w2 w1.heap.size (.slice (some ⟨w1.heap.size, 0, none⟩) 0 n) []) := hown0
      have HG0 := Lib.hid ((Below.refl w1.heap.size w1).grown hgrow0 (Nat.le_refl _) (fun _ h => by simp at h))
      clear hown0 hgrow0 hi hz0 hz1 hz2
      go_loopw [5, 21] (fun out i wr => ∃ k : Nat, k ≤ len ∧ i = .int .i64 k ∧ ∃ xs, OwnsI wr w1.heap.size out xs ∧ valuesL L = xs ++ valuesL (L.drop k) ∧ (∃ z, Rest L k z) ∧ Below w1.heap.size w1 wr) (fun _ i _ => len - (intOf i).toNat)
      case atStart => exact ⟨0, by omega, rfl, [], HO0.out, rfl, ⟨_, HS.out⟩, HG0.out⟩
      case round =>
        obtain ⟨k, hk, rfl, xs, hown, hval, ⟨z, hrest⟩, hB⟩ := hrel
        by_cases hlt : k < len
        · obtain rfl := hp (by omega)
          have hlx : k < L.length := by have := HN.out; omega
          obtain ⟨c0, c1⟩ := HX.out k hlx
          have hon := values_on hlx
          obtain ⟨x, ex⟩ : ∃ x, x = (L.getD k (0, 0)).1 := ⟨_, rfl⟩
          obtain ⟨y, ey⟩ : ∃ y, y = (L.getD k (0, 0)).2 := ⟨_, rfl⟩
          obtain ⟨q4, g1, g2, g3, g4, g5⟩ := rest_on hrest hlx ex ey
          rw [← ex] at c0 hon
          rw [← ey] at c1 hon
          rw [hon] at hval
          obtain ⟨m, em⟩ : ∃ m, m = (y + 1 - x).toNat := ⟨_, rfl⟩
          rw [← em] at hval
          have hm1 : (m : Int) = y + 1 - x := by omega
          have hcap : xs.length + m ≤ 64 := by
            have := HV.out
            rw [hval, List.length_append, List.length_append, run_length] at this
            omega
          have c0 := cell_below hB (cell_below HB1.out c0)
          have c1 := cell_below hB (cell_below HB1.out c1)
          have hr0 : w1.heap.size ≤ wr.heap.size := hB.size
          have HQ := Lib.hid q4
          have HVL := Lib.hid hval
          have HO := Lib.hid (owns_below hown (below_alloc wr (.cells #[.int .i64 x, .int .i64 y] 58)))
          have HL := Lib.hid (fun g e => (hown.lt g e).2)
          have HBB := Lib.hid (hB.alloc hr0 (.cells #[.int .i64 x, .int .i64 y] 58))
          have HY := Lib.hid (new_two wr (.int .i64 x) (.int .i64 y) 58 wr.heap.size rfl).2.1
          clear ex ey hon hlx hrest hval hown hB em q4
          go_wp2
          go_loopw [5, 8] (fun out v wq => ∃ j : Nat, j ≤ m ∧ v = .int .i64 (x + j) ∧ OwnsI wq w1.heap.size out (xs ++ run x j) ∧ Below w1.heap.size w1 wq ∧ wq.cell? ⟨wr.heap.size, 1, none⟩ = some (.int .i64 y) ∧ out.ownBlock ≠ some wr.heap.size) (fun _ v _ => (y + 1 - intOf v).toNat)
          case atStart => exact ⟨0, by omega, by simp, by simpa [run, OwnsI] using HO.out, HBB.out, HY.out, fun h => Nat.lt_irrefl _ (HL.out _ h)⟩
          case round =>
            obtain ⟨j, hj, rfl, hown, hB, c1', hob⟩ := hrel
            by_cases hjm : j < m
            · have hle' : x + (j : Int) ≤ y := by omega
              have hsz := hB.size
              have hi := I.out.1
              have hz0 := I.out.2.1
              have hz1 := I.out.2.2.1
              have hz2 := I.out.2.2.2
              have hlen : (xs ++ run x j).length = xs.length + j := by rw [List.length_append, run_length]
              unfold OwnsI at hown
              rw [hlen] at hown
              have hmx : xs.length + j + 1 ≤ maxLen := by unfold maxLen; omega
              have hlt' := cell_lt c1'
              clear hlen
              go_wp2_with (at_builtin; refine wpList_append_own_at _ rfl _ _ 23 rfl w1.heap.size 3 i0 (.int .i64 0) 1 8 Tryd.underlying23 hi hz0 hz1 hz2 rfl (by decide) _ _ _ rfl (hown.alloc _) ⟨wr.heap.size, 0, none⟩ 1 1 [.int .i64 (x + j)] rfl rfl (cells_one _ _ _) (by simp [Value.oneCell']) hmx (by omega) (by simp; omega) ?_; intro v' w3 hown' hgrow _ hat)
              go_roundw
              case rel =>
                refine ⟨j + 1, by omega, by go_num, ?_, ?_, ?_, ?_⟩
                · unfold OwnsI
                  rw [run_succ]
                  simpa [run_length, Nat.add_assoc] using hown'
                · exact (hB.alloc hsz _).grown hgrow (by simp; omega) (fun j e => (hown.lt j e).1)
                · have c2 := cell_below (below_alloc wr (.cells #[.int .i64 (x + (j : Int))] 3)) c1'
                  rw [World.cell?_of_block (hgrow.block _ (cell_lt c2) hob.symm)]
                  exact c2
                · rcases hat with e | e
                  · rw [e]
                    exact hob
                  · rw [e]
                    intro e2
                    have e3 := Option.some.inj e2
                    rw [World.size_alloc] at e3
                    simp only at hlt'
                    omega
              case measure => simp [intOf]; omega
            · obtain rfl : j = m := by omega
              have hgt : y < x + (j : Int) := by omega
              have HO2 := Lib.hid hown
              have HB2 := Lib.hid hB
              clear hown hB hob
              go_wp2_with fail
              go_roundw
              case rel => exact ⟨k + 1, by omega, by go_num, _, HO2.out, by rw [HVL.out, List.append_assoc], ⟨_, HQ.out⟩, HB2.out⟩
              case measure => simp [intOf]; omega
        · have hd : L.drop k = [] := drop_end (by have := HN.out; omega)
          have key : valuesL L = xs := by rw [hval, hd, valuesL, List.append_nil]
          rw [← key] at hown
          have d0 := cell_below hB HD1.out.1
          have d1 := cell_below hB HD1.out.2.1
          have f0 := frozen_below hB HD1.out.1 HD1.out.2.2.1
          have f1 := frozen_below hB HD1.out.2.1 HD1.out.2.2.2
          obtain ⟨p', n', c', rfl⟩ := reads_slice (reads_of_owns hown)
          have HB2 := Lib.hid (below_two HB1.out hB)
          have HO := Lib.hid hown
          clear hval hd hB hown key hrest hp
          go_wp2_with fail
          refine (FI.out _).mono ?_
          rintro e w' ⟨rfl, rfl⟩
          go_wp2_with fail
          (try simp only [Exit.inBlock, Exit.then])
          refine bodyPost_ret (results_dom2 rfl _ _ w.heap.size (.slice p' n' c') (.int .u64 fy) (.int .i64 0) rfl rfl ?c0c ?c1c) rfl ?restc
          case c0c => go_simp
          case c1c => go_simp
          refine ⟨_, rfl, ⟨_, rfl, ?_⟩, (HB2.out.setCell (Nat.le_refl _) _).setCell (Nat.le_refl _) _⟩
          exact owns_low (ownsRow_setCell_below (ownsRow_setCell_below HO.out HZ1.out _) HZ1.out _) (Nat.le_of_lt HZ1.out)

theorem new_any {w : World} {v : Value} {L : List (Int × Int)} (h : Sees w v L) (hm : L.length ≤ 1000000) :
    Calls Tryd.prog 7 #[v] w fun e w' => ∃ r, e = .returned (.tuple #[r, .int .i64 (newE L)]) ∧ DomAt w.heap.size (newX L) (newY L) r w' ∧ Below w.heap.size w w' := by
  obtain ⟨p, b, off, c, rfl, hp, hx⟩ := h
  exact new_cells p b off c _ L rfl w hm hp hx
end Go.Proofs.YtnabkhmonmcmfaaDoor
