/-
  OctetOne: the call answers true, and leaves what was there as it was.
-/
import Derived.Test.YtamhajeighdjeaaOOpen
namespace Go.Proofs.Ytamhajeighdjeaa
open Go.RowKit

theorem len_facts (xs : List Nat) (h : xs.length ≤ 400) : ([] : List Nat).length + xs.length ≤ 100000 ∧ (∀ z : Nat, xs.length + [z].length ≤ 100000) ∧ ∀ z : Nat, (xs ++ [z]).length ≤ 100000 := by
  refine ⟨by simp; omega, fun z => by simp; omega, fun z => by simp; omega⟩

set_option maxRecDepth 100000 in
set_option maxHeartbeats 2000000 in
theorem one_law (p : Option Addr) (b off c len x y : Nat) (xs : List Nat) (W : World) (hI : In W p b off c len xs) (hx : x < 256) (hy : y < 256) :
    Calls Try.prog 6 #[.slice p len c, .int .u8 x, .int .u8 y] W fun e w' => e = .returned (.bool true) ∧ Below W.heap.size W w' := by
  by_cases hm : len ≤ 400
  · have hm2 : (len : Int) ≤ 400 := by omega
    have HLEN := Lib.hid (len_facts xs (by have := hI.long; omega))
    have HBY := Lib.hid (fun z (hz : z < 256) => (show Bytes (xs ++ [z]) from hI.bytes.app (fun q hq => by have := List.mem_singleton.1 hq; omega)))
    have HI := Lib.hid hI
    have HL := Lib.hid hI.lies
    have T := Lib.hid (fun w (h : Below W.heap.size W w) => take_any p b off c len xs hI.long w (by omega) hI.cap (hI.lies.below h) hI.bytes)
    have M := Lib.hid (fun w (h : Below W.heap.size W w) => mark_any p b off c len xs hI.long w (by omega) (hI.lies.below h) hI.bytes)
    have TB := Lib.hid (take_bad xs)
    have TG := Lib.hid (take_good hI.bytes)
    obtain ⟨A, hA⟩ : ∃ A, A = (take xs).1 := ⟨_, rfl⟩
    obtain ⟨B, hB⟩ : ∃ B, B = (take xs).2.1 := ⟨_, rfl⟩
    obtain ⟨C, hC⟩ : ∃ C, C = (take xs).2.2 := ⟨_, rfl⟩
    rw [← hA, ← hB, ← hC] at T TG
    rw [← hA, ← hB, ← hC] at TB
    obtain ⟨m, em⟩ : ∃ m, m = mark xs := ⟨_, rfl⟩
    obtain ⟨r1, er1⟩ : ∃ r, r = mstep m x := ⟨_, rfl⟩
    obtain ⟨r2, er2⟩ : ∃ r, r = mstep m y := ⟨_, rfl⟩
    obtain ⟨t, et⟩ : ∃ t, t = decide (x = y) := ⟨_, rfl⟩
    have hmm : m < 18446744073709551616 := by rw [em]; exact mark_lt xs
    have hb1 : ((r1 : Int) == (r2 : Int)) = t := by
      by_cases h : x = y
      · rw [et, decide_eq_true h, er1, er2, h, beq_self_eq_true]
      · rw [et, decide_eq_false h]
        exact beq_eq_false_iff_ne.2 (fun h2 => h (mstep_inj hmm hx hy (by rw [← er1, ← er2]; omega)))
    have hb2 : ((x : Int) == (y : Int)) = t := by
      by_cases h : x = y
      · rw [et, decide_eq_true h, h, beq_self_eq_true]
      · rw [et, decide_eq_false h]
        exact beq_eq_false_iff_ne.2 (fun h2 => h (by omega))
    have hb3 : (t == t) = true := beq_self_eq_true t
    have hb4 : ((r1 : Int) == (r1 : Int)) = true := beq_self_eq_true _
    have HST := Lib.hid (show IntKind.u64.wrap (bits .xor .u64 (m : Int) (x : Int) * 1099511628211) = (r1 : Int) by rw [er1]; exact step8 m x hmm hx)
    rw [← em] at M
    have EM := Lib.hid em
    have ER1 := Lib.hid er1
    have ER2 := Lib.hid er2
    clear hA hB hC em er1 er2 et hmm
    by_cases hc : C = 0
    · subst hc
      obtain ⟨k1, k2, k3, k4, k5⟩ := TG.out rfl
      have k6 : B ≤ len := by rw [HI.out.long]; exact k4
      have k7 : (1 : Int) ≤ B := by omega
      have k8 : (B : Int) ≤ len := by omega
      have k9 : B ≤ c := Nat.le_trans k6 HI.out.cap
      have k10 : (B : Int) ≤ c := by omega
      have K5 := Lib.hid k5
      have KL := Lib.hid (show B = (xs.take B).length by rw [List.length_take]; omega)
      obtain rfl := hI.lies.at_ (by have := HI.out.long; omega)
      clear TG TB k5 k4 hI
      go_enter Try.func6, Try.ntmps6
      go_wp2_with fail
      go_at_call 7
      refine (awake_any _).mono ?_
      rintro e w1 ⟨rfl, hB1⟩
      have B1 := Lib.hid hB1
      clear hB1
      go_wp2_with fail
      go_at_call 10
      refine (T.out _ B1.out).mono ?_
      rintro e w2 ⟨rfl, hn⟩
      have B2 := Lib.hid (below_on B1.out B1.out.size (below_drawn hn))
      clear hn B1
      go_wp2_with fail
      go_at_call 8
      refine (put_any A _ k1).mono ?_
      rintro e w3 ⟨v, rfl, hv, hB⟩
      obtain ⟨p3, g3, c3, rfl, hl3, _⟩ := hv.lies hB.size
      have B3 := Lib.hid (below_on B2.out B2.out.size hB)
      have L3 := Lib.hid hl3
      clear hv hB hl3 B2
      go_wp2_with fail
      go_at_call 12
      refine (rsame_any p3 _ g3 0 c3 b off c _ B (put A) (xs.take B) rfl KL.out _ (by rw [put_length]; exact Nat.le_trans (Nat.pow_le_pow_right (n := 2) (by decide) (kind_le A)) (by decide)) (by omega) L3.out ((HL.out.below B3.out).take B)).mono ?_
      rw [decide_eq_true K5.out]
      rintro e w4 ⟨rfl, hn⟩
      have B4 := Lib.hid (below_on B3.out B3.out.size (below_drawn hn))
      clear hn B3 L3 K5 KL
      go_wp2_with (first
        | (at_builtin; refine app_bytes (W := w4) rfl _ _ rfl w4.heap.size (.slice (some ⟨w4.heap.size, 0, none⟩) 0 0) _ b off c len [] xs rfl rfl (owns_empty w4) HI.out.long (HL.out.below (below_on B4.out B4.out.size (below_one w4 _))) (fun h => (HI.out.nil h).2) HLEN.out.1 (below_one w4 _) (below_one w4 _).size ?_; rintro pa1 ga1 ca1 na1 wa1 nl oa la nc ba sa; have OA1 := Lib.hid (show Owns wa1 w4.heap.size (.slice pa1 na1 ca1) xs from oa); have BA1 := Lib.hid ba; have SA1 := Lib.hid sa; clear nl nc oa la ba sa)
        | (at_builtin; (refine app_bytes (W := w4) rfl _ _ rfl w4.heap.size (.slice pa1 na1 ca1) (some ⟨wa1.heap.size, 0, none⟩) wa1.heap.size 0 1 1 xs [x] rfl rfl (owns_below OA1.out (below_one wa1 _)) rfl (lies_new wa1 [x]) (fun h => by cases h) (HLEN.out.2.1 x) (below_on BA1.out SA1.out (below_one wa1 _)) (Nat.le_trans SA1.out (below_one wa1 _).size) ?_; rintro pb1 gb1 cb1 nb1 wb1 nb ob lb nc bb sb; have NB1 := Lib.hid nb; have LB1 := Lib.hid lb; have BB1 := Lib.hid (below_on B4.out B4.out.size bb); clear nb nc ob lb bb sb OA1 BA1 SA1)))
      go_at_call 13
      refine (mark_any pb1 gb1 0 cb1 nb1 (xs ++ [x]) NB1.out _ (by rw [NB1.out]; exact HLEN.out.2.2 x) LB1.out (HBY.out x hx)).mono ?_
      rintro e u1 ⟨he, rfl⟩
      rw [mark_snoc, ← EM.out, ← ER1.out] at he
      subst he
      go_wp2_with (first
        | (at_builtin; refine app_bytes (W := u1) rfl _ _ rfl u1.heap.size (.slice (some ⟨u1.heap.size, 0, none⟩) 0 0) _ b off c len [] xs rfl rfl (owns_empty u1) HI.out.long (HL.out.below (below_on BB1.out BB1.out.size (below_one u1 _))) (fun h => (HI.out.nil h).2) HLEN.out.1 (below_one u1 _) (below_one u1 _).size ?_; rintro pa2 ga2 ca2 na2 wa2 nl oa la nc ba sa; have OA2 := Lib.hid (show Owns wa2 u1.heap.size (.slice pa2 na2 ca2) xs from oa); have BA2 := Lib.hid ba; have SA2 := Lib.hid sa; clear nl nc oa la ba sa)
        | (at_builtin; (refine app_bytes (W := u1) rfl _ _ rfl u1.heap.size (.slice pa2 na2 ca2) (some ⟨wa2.heap.size, 0, none⟩) wa2.heap.size 0 1 1 xs [y] rfl rfl (owns_below OA2.out (below_one wa2 _)) rfl (lies_new wa2 [y]) (fun h => by cases h) (HLEN.out.2.1 y) (below_on BA2.out SA2.out (below_one wa2 _)) (Nat.le_trans SA2.out (below_one wa2 _).size) ?_; rintro pb2 gb2 cb2 nb2 wb2 nb ob lb nc bb sb; have NB2 := Lib.hid nb; have LB2 := Lib.hid lb; have BB2 := Lib.hid (below_on BB1.out BB1.out.size bb); clear nb nc ob lb bb sb OA2 BA2 SA2)))
      go_at_call 13
      refine (mark_any pb2 gb2 0 cb2 nb2 (xs ++ [y]) NB2.out _ (by rw [NB2.out]; exact HLEN.out.2.2 y) LB2.out (HBY.out y hy)).mono ?_
      rintro e u2 ⟨he, rfl⟩
      rw [mark_snoc, ← EM.out, ← ER2.out] at he
      subst he
      go_wp2_with fail
      go_at_call 13
      refine (M.out _ BB2.out).mono ?_
      rintro e w' ⟨rfl, rfl⟩
      go_wp2_with (simp only [HST.out])
      go_ret
      exact ⟨rfl, BB2.out⟩
    · obtain ⟨rfl, rfl⟩ := TB.out hc
      have hc2 : ((C : Int) == 0) = false := beq_eq_false_iff_ne.2 (by omega)
      clear TG TB hI
      go_enter Try.func6, Try.ntmps6
      go_wp2_with fail
      go_at_call 7
      refine (awake_any _).mono ?_
      rintro e w1 ⟨rfl, hB1⟩
      have B1 := Lib.hid hB1
      clear hB1
      go_wp2_with fail
      go_at_call 10
      refine (T.out _ B1.out).mono ?_
      rintro e w2 ⟨rfl, hn⟩
      have B2 := Lib.hid (below_on B1.out B1.out.size (below_drawn hn))
      clear hn B1
      go_wp2_with (first
        | (at_builtin; refine app_bytes (W := w2) rfl _ _ rfl w2.heap.size (.slice (some ⟨w2.heap.size, 0, none⟩) 0 0) _ b off c len [] xs rfl rfl (owns_empty w2) HI.out.long (HL.out.below (below_on B2.out B2.out.size (below_one w2 _))) (fun h => (HI.out.nil h).2) HLEN.out.1 (below_one w2 _) (below_one w2 _).size ?_; rintro pa1 ga1 ca1 na1 wa1 nl oa la nc ba sa; have OA1 := Lib.hid (show Owns wa1 w2.heap.size (.slice pa1 na1 ca1) xs from oa); have BA1 := Lib.hid ba; have SA1 := Lib.hid sa; clear nl nc oa la ba sa)
        | (at_builtin; (refine app_bytes (W := w2) rfl _ _ rfl w2.heap.size (.slice pa1 na1 ca1) (some ⟨wa1.heap.size, 0, none⟩) wa1.heap.size 0 1 1 xs [x] rfl rfl (owns_below OA1.out (below_one wa1 _)) rfl (lies_new wa1 [x]) (fun h => by cases h) (HLEN.out.2.1 x) (below_on BA1.out SA1.out (below_one wa1 _)) (Nat.le_trans SA1.out (below_one wa1 _).size) ?_; rintro pb1 gb1 cb1 nb1 wb1 nb ob lb nc bb sb; have NB1 := Lib.hid nb; have LB1 := Lib.hid lb; have BB1 := Lib.hid (below_on B2.out B2.out.size bb); clear nb nc ob lb bb sb OA1 BA1 SA1)))
      go_at_call 13
      refine (mark_any pb1 gb1 0 cb1 nb1 (xs ++ [x]) NB1.out _ (by rw [NB1.out]; exact HLEN.out.2.2 x) LB1.out (HBY.out x hx)).mono ?_
      rintro e u1 ⟨he, rfl⟩
      rw [mark_snoc, ← EM.out, ← ER1.out] at he
      subst he
      go_wp2_with (first
        | (at_builtin; refine app_bytes (W := u1) rfl _ _ rfl u1.heap.size (.slice (some ⟨u1.heap.size, 0, none⟩) 0 0) _ b off c len [] xs rfl rfl (owns_empty u1) HI.out.long (HL.out.below (below_on BB1.out BB1.out.size (below_one u1 _))) (fun h => (HI.out.nil h).2) HLEN.out.1 (below_one u1 _) (below_one u1 _).size ?_; rintro pa2 ga2 ca2 na2 wa2 nl oa la nc ba sa; have OA2 := Lib.hid (show Owns wa2 u1.heap.size (.slice pa2 na2 ca2) xs from oa); have BA2 := Lib.hid ba; have SA2 := Lib.hid sa; clear nl nc oa la ba sa)
        | (at_builtin; (refine app_bytes (W := u1) rfl _ _ rfl u1.heap.size (.slice pa2 na2 ca2) (some ⟨wa2.heap.size, 0, none⟩) wa2.heap.size 0 1 1 xs [y] rfl rfl (owns_below OA2.out (below_one wa2 _)) rfl (lies_new wa2 [y]) (fun h => by cases h) (HLEN.out.2.1 y) (below_on BA2.out SA2.out (below_one wa2 _)) (Nat.le_trans SA2.out (below_one wa2 _).size) ?_; rintro pb2 gb2 cb2 nb2 wb2 nb ob lb nc bb sb; have NB2 := Lib.hid nb; have LB2 := Lib.hid lb; have BB2 := Lib.hid (below_on BB1.out BB1.out.size bb); clear nb nc ob lb bb sb OA2 BA2 SA2)))
      go_at_call 13
      refine (mark_any pb2 gb2 0 cb2 nb2 (xs ++ [y]) NB2.out _ (by rw [NB2.out]; exact HLEN.out.2.2 y) LB2.out (HBY.out y hy)).mono ?_
      rintro e u2 ⟨he, rfl⟩
      rw [mark_snoc, ← EM.out, ← ER2.out] at he
      subst he
      go_wp2_with fail
      go_at_call 13
      refine (M.out _ BB2.out).mono ?_
      rintro e w' ⟨rfl, rfl⟩
      go_wp2_with (simp only [HST.out])
      go_ret
      exact ⟨rfl, BB2.out⟩
      all_goals omega
  · have hm2 : (400 : Int) < len := by omega
    clear hI
    go_enter Try.func6, Try.ntmps6
    go_wp2_with fail
    go_at_call 7
    refine (awake_any _).mono ?_
    rintro e w1 ⟨rfl, hB1⟩
    have B1 := Lib.hid hB1
    clear hB1
    go_wp2_with fail
    go_ret
    exact ⟨rfl, B1.out⟩
end Go.Proofs.Ytamhajeighdjeaa
