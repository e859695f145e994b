/-
  OctetBack: the call answers true, and leaves what was there as it was.
-/
import Derived.Test.YtamhajeighdjeaaOOpen
namespace Go.Proofs.Ytamhajeighdjeaa
open Go.RowKit

/-- Put of a number that has bytes -/
def PutsAt (xs : List Nat) (k : Nat) (w : World) (e : Ending) (w' : World) : Prop :=
  ∃ g c, e = .returned (.tuple #[.slice (some ⟨g, 0, none⟩) (k + 1) c, .int .i64 0]) ∧ Lies w' (some ⟨g, 0, none⟩) g 0 xs ∧ k + 1 ≤ c ∧ Below w.heap.size w w'
theorem put_at (n k : Nat) (w : World) (h : n < 4611686018427387904) (hk : (put n).length = k + 1) : Calls Try.prog 8 #[.int .u64 n] w (PutsAt (put n) k w) := by
  refine (put_any n w h).mono ?_
  rintro e w' ⟨v, rfl, hv, hB⟩
  obtain ⟨p, g, c, rfl, hl, hc, _⟩ := hv.lies hB.size
  obtain rfl := hl.at_ (by omega)
  rw [hk] at hc ⊢
  exact ⟨g, c, rfl, hl, hc, hB⟩
theorem put_some (n : Nat) (w : World) : Calls Try.prog 8 #[.int .u64 n] w fun e w' => ∃ (v : Value) (f : Nat), e = .returned (.tuple #[v, .int .i64 f]) ∧ Below w.heap.size w w' := by
  by_cases h : n < 4611686018427387904
  · refine (put_any n w h).mono ?_
    rintro e w' ⟨v, rfl, hv, hB⟩
    exact ⟨v, 0, rfl, hB⟩
  · refine (put_big n (by omega) w).mono ?_
    rintro e w' ⟨rfl, rfl⟩
    exact ⟨_, 5, rfl, Below.refl _ _⟩
theorem put_long (n : Nat) : ∃ k, (put n).length = k + 1 ∧ k ≤ 7 := by
  refine ⟨2 ^ kind n - 1, ?_, ?_⟩
  · rw [put_length, ← pow_pos']
  · have := Nat.pow_le_pow_right (n := 2) (by decide) (kind_le n)
    omega

set_option maxRecDepth 100000 in
set_option maxHeartbeats 4000000 in
theorem back_big (p : Option Addr) (c len n m : Nat) (W : World) (hm : len ≤ 400) (hn : 4611686018427387904 ≤ n) :
    Calls Try.prog 5 #[.int .u64 n, .int .u64 m, .slice p len c] W fun e w' => e = .returned (.bool true) ∧ Below W.heap.size W w' := by
  have hm2 : (len : Int) ≤ 400 := by omega
  have PA := Lib.hid (fun w => put_big (n : Int) (by omega) w)
  have PB := Lib.hid (fun w => put_some m w)
  obtain ⟨z, hz⟩ : ∃ z : Int, z = (n : Int) := ⟨_, rfl⟩
  have hz2 : (4611686018427387903 : Int) < z := by omega
  rw [← hz] at PA ⊢
  clear hz hn
  go_enter Try.func5, Try.ntmps5
  go_wp2_with fail
  go_at_call 7
  refine (awake_any _).mono ?_
  rintro e w1 ⟨rfl, hB1⟩
  have B1 := Lib.hid hB1
  clear hB1
  go_wp2_with fail
  go_at_call 8
  refine (PA.out _).mono ?_
  rintro e w2 ⟨rfl, rfl⟩
  go_wp2_with fail
  go_at_call 8
  refine (PB.out _).mono ?_
  rintro e w3 ⟨v, f, rfl, hB⟩
  have B3 := Lib.hid (below_on B1.out B1.out.size hB)
  clear hB
  go_wp2_with fail
  go_ret
  exact ⟨rfl, B3.out⟩

set_option maxRecDepth 100000 in
set_option maxHeartbeats 4000000 in
theorem back_one (p : Option Addr) (b off c len n m k : Nat) (xs : List Nat) (W : World) (hI : In W p b off c len xs) (hm : len ≤ 400) (hn : n < 4611686018427387904) (hk : (put n).length = k + 1 ∧ k ≤ 7) (hmb : 4611686018427387904 ≤ m) :
    Calls Try.prog 5 #[.int .u64 n, .int .u64 m, .slice p len c] W fun e w' => e = .returned (.bool true) ∧ Below W.heap.size W w' := by
  have hm2 : (len : Int) ≤ 400 := by omega
  have hk7 : k ≤ 7 := hk.2
  have HK := Lib.hid hk.1
  have HN := Lib.hid hn
  have HI := Lib.hid hI
  have PA := Lib.hid (fun w => put_at n k w hn hk.1)
  have HLEN := Lib.hid (show (([] : List Nat).length + (put n).length ≤ 100000) ∧ ((put n).length + xs.length ≤ 100000) by have := hI.long; rw [List.length_nil, hk.1]; omega)
  have q1 : ((n : Int) == (n : Int)) = true := beq_self_eq_true _
  have q2 : (((k : Int) + 1) == ((k : Int) + 1)) = true := beq_self_eq_true _
  have hn2 : (n : Int) ≤ 4611686018427387903 := by omega
  have PB := Lib.hid (fun w => put_big (m : Int) (by omega) w)
  clear hI hk hn hmb
  go_enter Try.func5, Try.ntmps5
  go_wp2_with fail
  go_at_call 7
  refine (awake_any _).mono ?_
  rintro e w1 ⟨rfl, hB1⟩
  have B1 := Lib.hid hB1
  clear hB1
  go_wp2_with fail
  go_at_call 8
  refine (PA.out _).mono ?_
  rintro e w3 ⟨g1, c1, rfl, l1, hc1, hB⟩
  have L1 := Lib.hid l1
  have HC1 := Lib.hid hc1
  have B2 := Lib.hid (below_on B1.out B1.out.size hB)
  clear l1 hB B1
  have ha1 : (k : Int) ≤ c1 := by omega
  have ha2 : k ≤ c1 := by omega
  go_wp2_with fail
  go_at_call 8
  refine (PB.out _).mono ?_
  rintro e w' ⟨rfl, rfl⟩
  have B3 := Lib.hid B2.out
  clear B2
  go_wp2_with (first
    | (at_builtin; (refine app_bytes (W := w3) rfl _ _ rfl w3.heap.size (.slice (some ⟨w3.heap.size, 0, none⟩) 0 0) (some ⟨g1, 0, none⟩) g1 0 c1 (k + 1) [] (put n) rfl rfl (owns_empty w3) HK.out.symm (L1.out.below (below_one w3 _)) (fun h => by cases h) HLEN.out.1 (below_one w3 _) (below_one w3 _).size ?_; rintro pa ga ca na wa nl oa la nc ba sa; have OA := Lib.hid (show Owns wa w3.heap.size (.slice pa na ca) (put n) from oa); have BA := Lib.hid ba; have SA := Lib.hid sa; clear nl nc oa la ba sa))
    | (at_builtin; (refine app_bytes (W := w3) rfl _ _ rfl w3.heap.size (.slice pa na ca) p b off c len (put n) xs rfl rfl OA.out HI.out.long (HI.out.lies.below (below_on (below_on B3.out B3.out.size BA.out) (below_on B3.out B3.out.size BA.out).size (Below.refl _ _))) (fun h => (HI.out.nil h).2) HLEN.out.2 BA.out SA.out ?_; rintro pb gb cb nb wb nb' ob lb nc bb sb; have NB := Lib.hid nb'; have LB := Lib.hid lb; have NC := Lib.hid nc; have BB := Lib.hid bb; clear nb' nc ob lb bb sb OA BA SA)))
  go_at_call 10
  have T1 : Calls Try.prog 10 #[.slice pb nb cb] wb (Took wb n (k + 1) 0) := by
    have h := take_any pb gb 0 cb nb (put n ++ xs) NB.out wb (by rw [NB.out]; have := HLEN.out.2; simpa using this) NC.out LB.out ((put_bytes n).app HI.out.bytes)
    rw [take_put HN.out, HK.out] at h
    exact h
  refine T1.mono ?_
  rintro e w4 ⟨rfl, hn⟩
  clear T1
  have hb34 := below_on BB.out BB.out.size (below_drawn hn)
  have B4 := Lib.hid (below_on B3.out B3.out.size hb34)
  have L4 := Lib.hid (L1.out.below hb34)
  have HB34 := Lib.hid hb34
  clear hn hb34 BB
  go_wp2_with fail
  go_at_call 10
  have T2 : Calls Try.prog 10 #[.slice (some ⟨g1, 0, none⟩) k c1] w4 (Took w4 (take (put n).dropLast).1 (take (put n).dropLast).2.1 3) := by
    have h := take_any (some ⟨g1, 0, none⟩) g1 0 c1 k ((put n).take k) (by rw [List.length_take, HK.out]; omega) w4 (by omega) ha2 (L4.out.take k) ((put_bytes n).take k)
    have e : (put n).take k = (put n).dropLast := by rw [List.dropLast_eq_take, HK.out, Nat.add_sub_cancel]
    rw [e, take_cut HN.out] at h
    exact h
  obtain ⟨A, hA⟩ : ∃ A, A = (take (put n).dropLast).1 := ⟨_, rfl⟩
  obtain ⟨B, hB⟩ : ∃ B, B = (take (put n).dropLast).2.1 := ⟨_, rfl⟩
  rw [← hA, ← hB] at T2
  clear hA hB
  refine T2.mono ?_
  rintro e w5 ⟨rfl, hn⟩
  clear T2
  have HB45 := Lib.hid (below_drawn hn)
  have B5 := Lib.hid (below_on B4.out B4.out.size HB45.out)
  clear hn
  go_wp2_with fail
  go_ret
  exact ⟨rfl, B5.out⟩

set_option maxRecDepth 100000 in
set_option maxHeartbeats 4000000 in
theorem back_two (p : Option Addr) (b off c len n m k k2 : Nat) (xs : List Nat) (W : World) (hI : In W p b off c len xs) (hm : len ≤ 400) (hn : n < 4611686018427387904) (hk : (put n).length = k + 1 ∧ k ≤ 7) (hmb : m < 4611686018427387904) (hk2 : (put m).length = k2 + 1 ∧ k2 ≤ 7) :
    Calls Try.prog 5 #[.int .u64 n, .int .u64 m, .slice p len c] W fun e w' => e = .returned (.bool true) ∧ Below W.heap.size W w' := by
  have hm2 : (len : Int) ≤ 400 := by omega
  have hk7 : k ≤ 7 := hk.2
  have HK := Lib.hid hk.1
  have HN := Lib.hid hn
  have HI := Lib.hid hI
  have PA := Lib.hid (fun w => put_at n k w hn hk.1)
  have HLEN := Lib.hid (show (([] : List Nat).length + (put n).length ≤ 100000) ∧ ((put n).length + xs.length ≤ 100000) by have := hI.long; rw [List.length_nil, hk.1]; omega)
  have q1 : ((n : Int) == (n : Int)) = true := beq_self_eq_true _
  have q2 : (((k : Int) + 1) == ((k : Int) + 1)) = true := beq_self_eq_true _
  have hn2 : (n : Int) ≤ 4611686018427387903 := by omega
  have hk27 : k2 ≤ 7 := hk2.2
  have HK2 := Lib.hid hk2.1
  have PB := Lib.hid (fun w => put_at m k2 w hmb hk2.1)
  obtain ⟨t, et⟩ : ∃ t, t = decide (n = m) := ⟨_, rfl⟩
  have hs : decide (put n = put m) = t := by
    rw [et]
    by_cases h : n = m
    · rw [decide_eq_true h, h, decide_eq_true rfl]
    · rw [decide_eq_false h, decide_eq_false (fun h2 => h (put_inj hn hmb h2))]
  have q3 : ((n : Int) == (m : Int)) = t := by
    rw [et]
    by_cases h : n = m
    · rw [decide_eq_true h, h, beq_self_eq_true]
    · rw [decide_eq_false h]
      exact beq_eq_false_iff_ne.2 (by omega)
  have q4 : (t == t) = true := beq_self_eq_true t
  have hle : n ≤ m → k ≤ k2 := fun h => by
    have h1 := Nat.pow_le_pow_right (n := 2) (by decide) (kind_mono h)
    rw [← put_length, ← put_length, hk.1, hk2.1] at h1
    omega
  have HS := Lib.hid hs
  by_cases hgt : m < n
  · have hgt2 : (m : Int) < n := by omega
    clear hI hk hk2 hn hmb et hs hle
    go_enter Try.func5, Try.ntmps5
    go_wp2_with fail
    go_at_call 7
    refine (awake_any _).mono ?_
    rintro e w1 ⟨rfl, hB1⟩
    have B1 := Lib.hid hB1
    clear hB1
    go_wp2_with fail
    go_at_call 8
    refine (PA.out _).mono ?_
    rintro e w2 ⟨g1, c1, rfl, l1, hc1, hB⟩
    have L1 := Lib.hid l1
    have HC1 := Lib.hid hc1
    have B2 := Lib.hid (below_on B1.out B1.out.size hB)
    clear l1 hB B1
    have ha1 : (k : Int) ≤ c1 := by omega
    have ha2 : k ≤ c1 := by omega
    go_wp2_with fail
    go_at_call 8
    refine (PB.out _).mono ?_
    rintro e w3 ⟨g2, c2, rfl, l2, hc2, hB⟩
    have L1 := Lib.hid (L1.out.below hB)
    have L2 := Lib.hid l2
    have B3 := Lib.hid (below_on B2.out B2.out.size hB)
    clear l2 hc2 hB B2
    go_wp2_with (first
      | (at_builtin; (refine app_bytes (W := w3) rfl _ _ rfl w3.heap.size (.slice (some ⟨w3.heap.size, 0, none⟩) 0 0) (some ⟨g1, 0, none⟩) g1 0 c1 (k + 1) [] (put n) rfl rfl (owns_empty w3) HK.out.symm (L1.out.below (below_one w3 _)) (fun h => by cases h) HLEN.out.1 (below_one w3 _) (below_one w3 _).size ?_; rintro pa ga ca na wa nl oa la nc ba sa; have OA := Lib.hid (show Owns wa w3.heap.size (.slice pa na ca) (put n) from oa); have BA := Lib.hid ba; have SA := Lib.hid sa; clear nl nc oa la ba sa))
      | (at_builtin; (refine app_bytes (W := w3) rfl _ _ rfl w3.heap.size (.slice pa na ca) p b off c len (put n) xs rfl rfl OA.out HI.out.long (HI.out.lies.below (below_on (below_on B3.out B3.out.size BA.out) (below_on B3.out B3.out.size BA.out).size (Below.refl _ _))) (fun h => (HI.out.nil h).2) HLEN.out.2 BA.out SA.out ?_; rintro pb gb cb nb wb nb' ob lb nc bb sb; have NB := Lib.hid nb'; have LB := Lib.hid lb; have NC := Lib.hid nc; have BB := Lib.hid bb; clear nb' nc ob lb bb sb OA BA SA)))
    go_at_call 10
    have T1 : Calls Try.prog 10 #[.slice pb nb cb] wb (Took wb n (k + 1) 0) := by
      have h := take_any pb gb 0 cb nb (put n ++ xs) NB.out wb (by rw [NB.out]; have := HLEN.out.2; simpa using this) NC.out LB.out ((put_bytes n).app HI.out.bytes)
      rw [take_put HN.out, HK.out] at h
      exact h
    refine T1.mono ?_
    rintro e w4 ⟨rfl, hn⟩
    clear T1
    have hb34 := below_on BB.out BB.out.size (below_drawn hn)
    have B4 := Lib.hid (below_on B3.out B3.out.size hb34)
    have L4 := Lib.hid (L1.out.below hb34)
    have HB34 := Lib.hid hb34
    clear hn hb34 BB
    go_wp2_with fail
    go_at_call 10
    have T2 : Calls Try.prog 10 #[.slice (some ⟨g1, 0, none⟩) k c1] w4 (Took w4 (take (put n).dropLast).1 (take (put n).dropLast).2.1 3) := by
      have h := take_any (some ⟨g1, 0, none⟩) g1 0 c1 k ((put n).take k) (by rw [List.length_take, HK.out]; omega) w4 (by omega) ha2 (L4.out.take k) ((put_bytes n).take k)
      have e : (put n).take k = (put n).dropLast := by rw [List.dropLast_eq_take, HK.out, Nat.add_sub_cancel]
      rw [e, take_cut HN.out] at h
      exact h
    obtain ⟨A, hA⟩ : ∃ A, A = (take (put n).dropLast).1 := ⟨_, rfl⟩
    obtain ⟨B, hB⟩ : ∃ B, B = (take (put n).dropLast).2.1 := ⟨_, rfl⟩
    rw [← hA, ← hB] at T2
    clear hA hB
    refine T2.mono ?_
    rintro e w5 ⟨rfl, hn⟩
    clear T2
    have HB45 := Lib.hid (below_drawn hn)
    have B5 := Lib.hid (below_on B4.out B4.out.size HB45.out)
    clear hn
    go_wp2_with fail
    go_at_call 12
    refine (rsame_any (some ⟨g1, 0, none⟩) (some ⟨g2, 0, none⟩) g1 0 c1 g2 0 c2 (k + 1) (k2 + 1) (put n) (put m) HK.out.symm HK2.out.symm _ (by omega) (by omega) (L4.out.below HB45.out) ((L2.out.below HB34.out).below HB45.out)).mono ?_
    rw [HS.out]
    rintro e w6 ⟨rfl, hn⟩
    have B6 := Lib.hid (below_on B5.out B5.out.size (below_drawn hn))
    clear hn
    go_wp2_with fail
    go_ret
    exact ⟨rfl, B6.out⟩
  · have hgt2 : n ≤ m := by omega
    have hkk : k ≤ k2 := hle hgt2
    have hkk2 : (k : Int) ≤ k2 := by omega
    clear hI hk hk2 hn hmb et hs hle
    go_enter Try.func5, Try.ntmps5
    go_wp2_with fail
    go_at_call 7
    refine (awake_any _).mono ?_
    rintro e w1 ⟨rfl, hB1⟩
    have B1 := Lib.hid hB1
    clear hB1
    go_wp2_with fail
    go_at_call 8
    refine (PA.out _).mono ?_
    rintro e w2 ⟨g1, c1, rfl, l1, hc1, hB⟩
    have L1 := Lib.hid l1
    have HC1 := Lib.hid hc1
    have B2 := Lib.hid (below_on B1.out B1.out.size hB)
    clear l1 hB B1
    have ha1 : (k : Int) ≤ c1 := by omega
    have ha2 : k ≤ c1 := by omega
    go_wp2_with fail
    go_at_call 8
    refine (PB.out _).mono ?_
    rintro e w3 ⟨g2, c2, rfl, l2, hc2, hB⟩
    have L1 := Lib.hid (L1.out.below hB)
    have L2 := Lib.hid l2
    have B3 := Lib.hid (below_on B2.out B2.out.size hB)
    clear l2 hc2 hB B2
    go_wp2_with (first
      | (at_builtin; (refine app_bytes (W := w3) rfl _ _ rfl w3.heap.size (.slice (some ⟨w3.heap.size, 0, none⟩) 0 0) (some ⟨g1, 0, none⟩) g1 0 c1 (k + 1) [] (put n) rfl rfl (owns_empty w3) HK.out.symm (L1.out.below (below_one w3 _)) (fun h => by cases h) HLEN.out.1 (below_one w3 _) (below_one w3 _).size ?_; rintro pa ga ca na wa nl oa la nc ba sa; have OA := Lib.hid (show Owns wa w3.heap.size (.slice pa na ca) (put n) from oa); have BA := Lib.hid ba; have SA := Lib.hid sa; clear nl nc oa la ba sa))
      | (at_builtin; (refine app_bytes (W := w3) rfl _ _ rfl w3.heap.size (.slice pa na ca) p b off c len (put n) xs rfl rfl OA.out HI.out.long (HI.out.lies.below (below_on (below_on B3.out B3.out.size BA.out) (below_on B3.out B3.out.size BA.out).size (Below.refl _ _))) (fun h => (HI.out.nil h).2) HLEN.out.2 BA.out SA.out ?_; rintro pb gb cb nb wb nb' ob lb nc bb sb; have NB := Lib.hid nb'; have LB := Lib.hid lb; have NC := Lib.hid nc; have BB := Lib.hid bb; clear nb' nc ob lb bb sb OA BA SA)))
    go_at_call 10
    have T1 : Calls Try.prog 10 #[.slice pb nb cb] wb (Took wb n (k + 1) 0) := by
      have h := take_any pb gb 0 cb nb (put n ++ xs) NB.out wb (by rw [NB.out]; have := HLEN.out.2; simpa using this) NC.out LB.out ((put_bytes n).app HI.out.bytes)
      rw [take_put HN.out, HK.out] at h
      exact h
    refine T1.mono ?_
    rintro e w4 ⟨rfl, hn⟩
    clear T1
    have hb34 := below_on BB.out BB.out.size (below_drawn hn)
    have B4 := Lib.hid (below_on B3.out B3.out.size hb34)
    have L4 := Lib.hid (L1.out.below hb34)
    have HB34 := Lib.hid hb34
    clear hn hb34 BB
    go_wp2_with fail
    go_at_call 10
    have T2 : Calls Try.prog 10 #[.slice (some ⟨g1, 0, none⟩) k c1] w4 (Took w4 (take (put n).dropLast).1 (take (put n).dropLast).2.1 3) := by
      have h := take_any (some ⟨g1, 0, none⟩) g1 0 c1 k ((put n).take k) (by rw [List.length_take, HK.out]; omega) w4 (by omega) ha2 (L4.out.take k) ((put_bytes n).take k)
      have e : (put n).take k = (put n).dropLast := by rw [List.dropLast_eq_take, HK.out, Nat.add_sub_cancel]
      rw [e, take_cut HN.out] at h
      exact h
    obtain ⟨A, hA⟩ : ∃ A, A = (take (put n).dropLast).1 := ⟨_, rfl⟩
    obtain ⟨B, hB⟩ : ∃ B, B = (take (put n).dropLast).2.1 := ⟨_, rfl⟩
    rw [← hA, ← hB] at T2
    clear hA hB
    refine T2.mono ?_
    rintro e w5 ⟨rfl, hn⟩
    clear T2
    have HB45 := Lib.hid (below_drawn hn)
    have B5 := Lib.hid (below_on B4.out B4.out.size HB45.out)
    clear hn
    go_wp2_with fail
    go_at_call 12
    refine (rsame_any (some ⟨g1, 0, none⟩) (some ⟨g2, 0, none⟩) g1 0 c1 g2 0 c2 (k + 1) (k2 + 1) (put n) (put m) HK.out.symm HK2.out.symm _ (by omega) (by omega) (L4.out.below HB45.out) ((L2.out.below HB34.out).below HB45.out)).mono ?_
    rw [HS.out]
    rintro e w6 ⟨rfl, hn⟩
    have B6 := Lib.hid (below_on B5.out B5.out.size (below_drawn hn))
    clear hn
    go_wp2_with fail
    go_ret
    exact ⟨rfl, B6.out⟩

theorem back_skip (p : Option Addr) (c len n m : Nat) (W : World) (hm : 400 < len) :
    Calls Try.prog 5 #[.int .u64 n, .int .u64 m, .slice p len c] W fun e w' => e = .returned (.bool true) ∧ Below W.heap.size W w' := by
  have hm2 : (400 : Int) < len := by omega
  go_enter Try.func5, Try.ntmps5
  go_wp2_with fail
  go_at_call 7
  refine (awake_any _).mono ?_
  rintro e w1 ⟨rfl, hB1⟩
  have B1 := Lib.hid hB1
  clear hB1
  go_wp2_with fail
  go_ret
  exact ⟨rfl, B1.out⟩

theorem back_law (p : Option Addr) (b off c len n m : Nat) (xs : List Nat) (W : World) (hI : In W p b off c len xs) (hn : n < 18446744073709551616) (hm : m < 18446744073709551616) :
    Calls Try.prog 5 #[.int .u64 n, .int .u64 m, .slice p len c] W fun e w' => e = .returned (.bool true) ∧ Below W.heap.size W w' := by
  by_cases hl : len ≤ 400
  · by_cases h1 : n < 4611686018427387904
    · obtain ⟨k, hk⟩ := put_long n
      by_cases h2 : m < 4611686018427387904
      · obtain ⟨k2, hk2⟩ := put_long m
        exact back_two p b off c len n m k k2 xs W hI hl h1 hk h2 hk2
      · exact back_one p b off c len n m k xs W hI hl h1 hk (by omega)
    · exact back_big p c len n m W hl (by omega)
  · exact back_skip p c len n m W (by omega)
end Go.Proofs.Ytamhajeighdjeaa
