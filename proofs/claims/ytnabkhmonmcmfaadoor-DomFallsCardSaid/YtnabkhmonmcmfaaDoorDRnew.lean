/-
  What New of the document's answers answers, at every list of spans.
-/
import Derived.Test.YtnabkhmonmcmfaaDoorDNew
import Derived.Test.YtnabkhmonmcmfaaDoorBSet
namespace Go.Proofs.YtnabkhmonmcmfaaDoor
open Go.RowKit

theorem first_from (low : Int) : B.betweenN 0 (low - 1) = B.firstN low := by
  unfold B.betweenN B.firstN
  refine B.mk_congr fun k _ => ?_
  rw [Bool.eq_iff_iff]
  simp
  omega

set_option maxRecDepth 100000 in
set_option maxHeartbeats 4000000 in
theorem rnew_any {w : World} {v : Value} {L : List (Int × Int)} (hs : Sees w v L) (hm : L.length ≤ 1000000) :
    Calls Tryd.prog 8 #[v] w fun e w' => ∃ r, e = .returned (.tuple #[r, .int .i64 (newE L)]) ∧ DomAt w.heap.size (newX L) (newY L) r w' ∧ Below w.heap.size w w' := by
  obtain ⟨p, b, off, c, rfl, hp, hx⟩ := hs
  obtain ⟨W0, hW0⟩ : ∃ W0, W0 = w.alloc (.cells #[.slice none 0 0, .int .u64 0] 31) := ⟨_, rfl⟩
  have hB : Below w.heap.size w W0 := by rw [hW0]; exact (Below.refl _ w).alloc (Nat.le_refl _) _
  have hd := new_two w (.slice none 0 0) (.int .u64 0) 31 w.heap.size rfl
  rw [← hW0] at hd
  have SZ : Hid (Calls Tryd.prog 32 #[.slice p L.length c] W0 fun e w' => e = .returned (.int .i64 (cntL L)) ∧ Below W0.heap.size W0 w') := rsize_cells p b off c _ L rfl W0 hm hp (cells_below hx hB)
  have VA := Lib.hid (fun u (hb : Below w.heap.size w u) (h1 : rightL L = true) (h2 : sizeL L ≤ 100000) => values_any (w := u) (v := .slice p L.length c) (L := L) ⟨p, b, off, c, rfl, hp, cells_below hx hb⟩ hm h1 h2)
  have hge := cnt_ge L
  have HB := Lib.hid hB
  have HD := Lib.hid hd
  have HW := Lib.hid hW0
  have hsz : W0.heap.size = w.heap.size + 1 := by rw [hW0]; simp
  have HSZ := Lib.hid hsz
  have hsm : newE L = 0 → rightL L = true ∧ sizeL L ≤ 100000 ∧ newX L = valuesL L ∧ newY L = B.firstN (cntL L) := by
    intro h
    have h1 : cntL L ≠ 0 := fun e => by simp [newE, e] at h
    have h2 : cntL L ≤ 64 := by
      rw [newE, if_neg h1] at h
      split at h
      · omega
      · omega
    obtain ⟨_, h3, h4⟩ := new_some h1 h2
    exact ⟨h3, by omega, if_pos h, by rw [newY, if_pos h, h4]⟩
  have hno : newE L ≠ 0 → newX L = [] ∧ newY L = 0 := fun h => ⟨if_neg h, if_neg h⟩
  have heq : newE L = if cntL L = 0 then 1 else if 64 < cntL L then 5 else 0 := rfl
  clear hW0 hB hd hx hsz hp
  generalize cntL L = cn at SZ hge hsm heq
  obtain ⟨n, rfl⟩ : ∃ n : Nat, cn = (n : Int) := ⟨cn.toNat, by omega⟩
  generalize newE L = ne at hsm hno heq ⊢
  generalize newX L = nx at hsm hno ⊢
  generalize newY L = ny at hsm hno ⊢
  generalize L.length = len at SZ VA hm ⊢
  clear hge
  by_cases h0 : n = 0
  · have e1 : ne = 1 := by rw [heq, if_pos (by omega)]
    subst e1
    subst h0
    have HR := Lib.hid (hno (by omega))
    clear hsm hno heq VA
    go_enter Tryd.func8, Tryd.ntmps8
    go_wp2_with fail
    rw [← HW.out]
    refine SZ.out.mono ?_
    rintro e w1 ⟨rfl, hB⟩
    have HB1 := Lib.hid (below_two HB.out hB)
    have d0 := cell_below hB HD.out.1
    have d1 := cell_below hB HD.out.2.1
    have f0 := frozen_below hB HD.out.1 HD.out.2.2.1
    have f1 := frozen_below hB HD.out.2.1 HD.out.2.2.2
    clear hB
    go_wp2_with fail
    (try simp only [Exit.inBlock, Exit.then])
    refine bodyPost_ret (results_rdom2 rfl _ _ w.heap.size (.slice none 0 0) (.int .u64 0) (.int .i64 1) rfl rfl ?c0a ?c1a) rfl ?resta
    case c0a => go_simp
    case c1a => go_simp
    refine ⟨_, rfl, ?_, (HB1.out.setCell (Nat.le_refl _) _).setCell (Nat.le_refl _) _⟩
    rw [HR.out.1, HR.out.2]
    exact dom_zero _ _
  · have hn0 : ((n : Int) == 0) = false := by rw [beq_eq_false_iff_ne]; omega
    by_cases h64 : 64 < n
    · obtain rfl : ne = 5 := by rw [heq, if_neg (by omega), if_pos (by omega)]
      have HR := Lib.hid (hno (by omega))
      have d64 : (64 : Int) < (n : Int) := by omega
      clear hsm hno heq VA
      go_enter Tryd.func8, Tryd.ntmps8
      go_wp2_with fail
      rw [← HW.out]
      refine SZ.out.mono ?_
      rintro e w1 ⟨rfl, hB⟩
      have HB1 := Lib.hid (below_two HB.out hB)
      have d0 := cell_below hB HD.out.1
      have d1 := cell_below hB HD.out.2.1
      have f0 := frozen_below hB HD.out.1 HD.out.2.2.1
      have f1 := frozen_below hB HD.out.2.1 HD.out.2.2.2
      clear hB
      go_wp2_with fail
      (try simp only [Exit.inBlock, Exit.then])
      refine bodyPost_ret (results_rdom2 rfl _ _ w.heap.size (.slice none 0 0) (.int .u64 0) (.int .i64 5) rfl rfl ?c0b ?c1b) rfl ?restb
      case c0b => go_simp
      case c1b => go_simp
      refine ⟨_, rfl, ?_, (HB1.out.setCell (Nat.le_refl _) _).setCell (Nat.le_refl _) _⟩
      rw [HR.out.1, HR.out.2]
      exact dom_zero _ _
    · obtain rfl : ne = 0 := by rw [heq, if_neg (by omega), if_neg (by omega)]
      obtain ⟨h1, h2, rfl, rfl⟩ := hsm rfl
      have hle : n ≤ 64 := by omega
      have VL := Lib.hid (fun u hb => VA.out u hb h1 h2)
      have BW := Lib.hid (fun u => B.rbetween_any 0 ((n : Int) - 1) u)
      rw [first_from] at BW
      generalize B.firstN (n : Int) = fy at BW ⊢
      clear hno heq VA h1 h2 h64 h0
      go_enter Tryd.func8, Tryd.ntmps8
      go_wp2_with fail
      rw [← HW.out]
      refine SZ.out.mono ?_
      rintro e w1 ⟨rfl, hB⟩
      have HB1 := Lib.hid (below_two HB.out hB)
      have HD1 := Lib.hid (And.intro (cell_below hB HD.out.1) (And.intro (cell_below hB HD.out.2.1) (And.intro (frozen_below hB HD.out.1 HD.out.2.2.1) (frozen_below hB HD.out.2.1 HD.out.2.2.2))))
      have HZ1 : Hid (w.heap.size < w1.heap.size) := by
        have h1 := hB.size
        have h2 := HSZ.out
        exact Nat.lt_of_lt_of_le (by omega) h1
      clear hB
      go_wp2_with fail
      refine (VL.out _ HB1.out).mono ?_
      rintro e w2 ⟨r, rfl, ho, hB⟩
      obtain ⟨p', n', c', rfl⟩ := reads_slice (reads_of_owns ho)
      have HO := Lib.hid ho
      have HB2 := Lib.hid hB
      clear ho hB
      go_wp2_with fail
      refine (BW.out _).mono ?_
      rintro e w3 ⟨rfl, hB⟩
      have HO3 := Lib.hid (owns_below HO.out hB)
      have hb13 := below_two HB2.out hB
      have d0 := cell_below hb13 HD1.out.1
      have d1 := cell_below hb13 HD1.out.2.1
      have f0 := frozen_below hb13 HD1.out.1 HD1.out.2.2.1
      have f1 := frozen_below hb13 HD1.out.2.1 HD1.out.2.2.2
      have HB3 := Lib.hid (below_two HB1.out hb13)
      clear hB hb13
      go_wp2_with fail
      (try simp only [Exit.inBlock, Exit.then])
      refine bodyPost_ret (results_rdom2 rfl _ _ w.heap.size (.slice p' n' c') (.int .u64 fy) (.int .i64 0) rfl rfl ?c0c ?c1c) rfl ?restc
      case c0c => go_simp
      case c1c => go_simp
      refine ⟨_, rfl, ⟨_, rfl, ?_⟩, (HB3.out.setCell (Nat.le_refl _) _).setCell (Nat.le_refl _) _⟩
      exact owns_low (ownsRow_setCell_below (ownsRow_setCell_below HO3.out HZ1.out _) HZ1.out _) (Nat.le_of_lt HZ1.out)
end Go.Proofs.YtnabkhmonmcmfaaDoor
