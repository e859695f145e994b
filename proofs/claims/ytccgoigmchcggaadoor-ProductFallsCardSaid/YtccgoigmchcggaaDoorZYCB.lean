/-
  What has, made and the closures of package product answer.
  What kept of package product answers: the places of those values that are left of a domain, and that do with one of another one's values.
  What right of package product answers.
-/
import Derived.Test.YtccgoigmchcggaaDoorZYCA
import Derived.Test.YtccgoigmchcggaaDoorZYBT
import Derived.Test.YtccgoigmchcggaaDoorZDLeaf
import Derived.Test.YtccgoigmchcggaaDoorZYBA
import Derived.Deep.LoopGhost
import Derived.Test.YtccgoigmchcggaaDoorZYAW
import Derived.Test.YtccgoigmchcggaaDoorZPRight
import Derived.Test.YtccgoigmchcggaaDoorZYAI
import Derived.Test.YtccgoigmchcggaaDoorZIStep
namespace Go.Proofs.YtccgoigmchcggaaDoor.Ge
open Go.RowKit St
set_option maxRecDepth 100000

theorem mul_fit {x y : Int} (hx : -1048576 ≤ x ∧ x ≤ 1048576) (hy : -1048576 ≤ y ∧ y ≤ 1048576) : -1099511627776 ≤ x * y ∧ x * y ≤ 1099511627776 := by
  have h : (x * y).natAbs ≤ 1048576 * 1048576 := by
    rw [Int.natAbs_mul]
    exact Nat.mul_le_mul (by omega) (by omega)
  omega
/-- numbers that rise, somewhere in memory -/
structure Rows (w : World) (v : Value) (T : List Int) : Prop where
  reads : Dm.Reads w v T
  up : T.Pairwise (· ≤ ·)
  few : T.length ≤ 64
  small : ∀ t ∈ T, -1048576 ≤ t ∧ t ≤ 1048576
theorem Rows.below {w w' : World} {v : Value} {T : List Int} (h : Rows w v T) (hb : Below w.heap.size w w') : Rows w' v T := ⟨Dm.reads_below h.reads hb, h.up, h.few, h.small⟩

/-- a search in numbers that rise -/
theorem find_any {w : World} {v : Value} {T : List Int} (h : Rows w v T) (t : Int) :
    Calls Tryd.prog 42 #[v, .int .i64 t] w fun e w' => (∃ k : Nat, e = .returned (.tuple #[.int .i64 (k : Int), .bool (T.contains t)])) ∧ Below w.heap.size w w' := by
  rcases h.reads with ⟨p, c, rfl, rfl⟩ | ⟨b, off, c, rfl, hx⟩
  · refine (Tryd.slices_BinarySearch_int_empty p c t w).mono ?_
    rintro e w' ⟨rfl, rfl⟩
    exact ⟨⟨0, rfl⟩, Below.refl _ _⟩
  · have := Tryd.slices_BinarySearch_int b off T.length c T t w (Nat.le_refl _) (by have := h.few; omega) hx (by rw [List.take_length]; exact h.up)
    rw [List.take_length] at this
    refine this.mono ?_
    rintro e w' ⟨rfl, q, rfl⟩
    exact ⟨⟨_, rfl⟩, below_drewN (Below.refl _ _)⟩

set_option maxHeartbeats 1000000 in
theorem has_any {w : World} {v : Value} {T : List Int} (h : Rows w v T) (t : Int) :
    Calls Tryd.prog 22 #[v, .int .i64 t] w fun e w' => e = .returned (.bool (decide (t ∈ T))) ∧ Below w.heap.size w w' := by
  have C := Lib.hid (find_any h t)
  have e : T.contains t = decide (t ∈ T) := by rw [Bool.eq_iff_iff]; simp
  rw [e] at C
  obtain ⟨R, hR⟩ : ∃ R, R = decide (t ∈ T) := ⟨_, rfl⟩
  rw [← hR] at C ⊢
  clear h e hR
  go_enter Tryd.func22, Tryd.ntmps22
  go_wp2_with fail
  refine C.out.mono ?_
  rintro e w1 ⟨⟨k, rfl⟩, hB⟩
  have HB := Lib.hid hB
  clear hB
  go_wp2_with fail
  go_ret
  exact ⟨rfl, HB.out⟩

theorem made_zero {S : List Int} {v : Int} : madeB S v 0 = (decide (v = 0) && decide (0 < S.length)) := by
  rw [Bool.eq_iff_iff]
  unfold madeB
  rw [decide_eq_true_eq, Bool.and_eq_true, decide_eq_true_eq, decide_eq_true_eq]
  constructor
  · rintro ⟨s, hs, e⟩
    exact ⟨by omega, List.length_pos_of_mem hs⟩
  · rintro ⟨rfl, h⟩
    exact ⟨S[0], List.getElem_mem h, by omega⟩
theorem made_else {S : List Int} {v o : Int} (ho : o ≠ 0) : madeB S v o = (decide (Int.tmod v o = 0) && decide (Int.tdiv v o ∈ S)) := by
  rw [Bool.eq_iff_iff]
  unfold madeB
  rw [decide_eq_true_eq, Bool.and_eq_true, decide_eq_true_eq, decide_eq_true_eq]
  constructor
  · rintro ⟨s, hs, rfl⟩
    exact ⟨Int.mul_tmod_right _ _, by rw [Int.mul_tdiv_cancel_left _ ho]; exact hs⟩
  · rintro ⟨h1, h2⟩
    refine ⟨_, h2, ?_⟩
    have := Int.mul_tdiv_add_tmod v o
    omega
theorem quot_fit {v o : Int} (h : -1048576 ≤ v ∧ v ≤ 1048576) : IntKind.i64.wrap (Int.tdiv v o) = Int.tdiv v o := by
  have : (Int.tdiv v o).natAbs ≤ v.natAbs := by
    rw [Int.natAbs_tdiv]
    exact Nat.div_le_self _ _
  exact IntWalk.i64_in _ (by omega)
theorem rest_fit {v o : Int} (h : -1048576 ≤ v ∧ v ≤ 1048576) : IntKind.i64.wrap (Int.tmod v o) = Int.tmod v o := by
  have : (Int.tmod v o).natAbs ≤ v.natAbs := by
    rw [Int.natAbs_tmod]
    exact Nat.mod_le _ _
  exact IntWalk.i64_in _ (by omega)

set_option maxHeartbeats 1000000 in
theorem made_any {w : World} {vs : Value} {S : List Int} (h : Rows w vs S) (v o : Int) (hv : -1048576 ≤ v ∧ v ≤ 1048576) (ho : -1048576 ≤ o ∧ o ≤ 1048576) :
    Calls Tryd.prog 25 #[.int .i64 v, .int .i64 o, vs] w fun e w' => e = .returned (.bool (madeB S v o)) ∧ Below w.heap.size w w' := by
  have HA := Lib.hid (has_any h (Int.tdiv v o))
  obtain ⟨p, b, off, c, rfl, _, _⟩ := Dm.reads_shape h.reads
  obtain ⟨R, hR⟩ : ∃ R, R = madeB S v o := ⟨_, rfl⟩
  rw [← hR]
  obtain ⟨n, hn⟩ : ∃ n, n = S.length := ⟨_, rfl⟩
  rw [← hn] at HA ⊢
  by_cases h0 : o = 0
  · subst h0
    have HR := Lib.hid (show R = (decide (v = 0) && decide (0 < n)) by rw [hR, hn]; exact made_zero)
    clear HA hR hn h
    by_cases hz : v = 0
    · subst hz
      by_cases hl : 0 < n
      · have d1 : (0 : Int) < (n : Int) := by omega
        go_enter Tryd.func25, Tryd.ntmps25
        go_wp2_with fail
        go_ret
        exact ⟨by rw [HR.out]; simp [hl], Below.refl _ _⟩
      · obtain rfl : n = 0 := by omega
        go_enter Tryd.func25, Tryd.ntmps25
        go_wp2_with fail
        go_ret
        exact ⟨by rw [HR.out]; rfl, Below.refl _ _⟩
    · have d1 : (v == 0) = false := beq_eq_false_iff_ne.2 hz
      go_enter Tryd.func25, Tryd.ntmps25
      go_wp2_with fail
      go_ret
      exact ⟨by rw [HR.out, decide_eq_false hz]; rfl, Below.refl _ _⟩
  · have d0 : (o == 0) = false := beq_eq_false_iff_ne.2 h0
    have HR := Lib.hid (show R = (decide (Int.tmod v o = 0) && decide (Int.tdiv v o ∈ S)) by rw [hR]; exact made_else h0)
    have q1 := quot_fit (v := v) (o := o) hv
    have q2 := rest_fit (v := v) (o := o) hv
    obtain ⟨B, hB⟩ : ∃ B, B = decide (Int.tdiv v o ∈ S) := ⟨_, rfl⟩
    rw [← hB] at HA HR
    clear hR hn h hB
    by_cases hz : Int.tmod v o = 0
    · have HR2 := Lib.hid (show R = B by rw [HR.out, hz]; simp)
      clear HR
      go_enter Tryd.func25, Tryd.ntmps25
      go_wp2_with fail
      refine HA.out.mono ?_
      rintro e w1 ⟨rfl, hB⟩
      have HB := Lib.hid hB
      clear hB
      go_wp2_with fail
      go_ret
      exact ⟨by rw [HR2.out]; rfl, HB.out⟩
    · have d1 : (Int.tmod v o == 0) = false := beq_eq_false_iff_ne.2 hz
      have HR2 := Lib.hid (show R = false by rw [HR.out, decide_eq_false hz]; rfl)
      clear HR HA
      go_enter Tryd.func25, Tryd.ntmps25
      go_wp2_with fail
      go_ret
      exact ⟨by rw [HR2.out]; rfl, Below.refl _ _⟩

set_option maxHeartbeats 1000000 in
theorem makes_any {u : World} {b : Nat} {vt : Value} {T : List Int} (h : Rows u vt T) (c : u.cell? ⟨b, 0, none⟩ = some vt) (v o : Int) (hv : -1048576 ≤ v ∧ v ≤ 1048576) (ho : -1048576 ≤ o ∧ o ≤ 1048576) :
    Calls Tryd.prog 21 #[.int .i64 v, .int .i64 o, .pointer (some ⟨b, 0, none⟩)] u fun e w' => e = .returned (.bool (makesB T v o)) ∧ Below u.heap.size u w' := by
  have HA := Lib.hid (has_any h (v * o))
  have hw : IntKind.i64.wrap (v * o) = v * o := IntWalk.i64_in _ (by have := mul_fit hv ho; omega)
  obtain ⟨R, hR⟩ : ∃ R, R = makesB T v o := ⟨_, rfl⟩
  rw [← hR]
  rw [show decide (v * o ∈ T) = R from hR.symm] at HA
  obtain ⟨p, bb, off, cc, rfl, _, _⟩ := Dm.reads_shape h.reads
  clear h hR
  go_enter Tryd.func21, Tryd.ntmps21
  go_wp2_with fail
  refine HA.out.mono ?_
  rintro e w1 ⟨rfl, hB⟩
  have HB := Lib.hid hB
  clear hB
  go_wp2_with fail
  go_ret
  exact ⟨rfl, HB.out⟩

set_option maxHeartbeats 1000000 in
theorem made1_any {u : World} {b : Nat} {vt : Value} {S : List Int} (h : Rows u vt S) (c : u.cell? ⟨b, 0, none⟩ = some vt) (v o : Int) (hv : -1048576 ≤ v ∧ v ≤ 1048576) (ho : -1048576 ≤ o ∧ o ≤ 1048576) :
    Calls Tryd.prog 24 #[.int .i64 v, .int .i64 o, .pointer (some ⟨b, 0, none⟩)] u fun e w' => e = .returned (.bool (madeB S v o)) ∧ Below u.heap.size u w' := by
  have HA := Lib.hid (made_any h v o hv ho)
  generalize madeB S v o = R at HA ⊢
  obtain ⟨p, bb, off, cc, rfl, _, _⟩ := Dm.reads_shape h.reads
  clear h
  go_enter Tryd.func24, Tryd.ntmps24
  go_wp2_with fail
  refine HA.out.mono ?_
  rintro e w1 ⟨rfl, hB⟩
  have HB := Lib.hid hB
  clear hB
  go_wp2_with fail
  go_ret
  exact ⟨rfl, HB.out⟩
end Go.Proofs.YtccgoigmchcggaaDoor.Ge
namespace Go.Proofs.YtccgoigmchcggaaDoor.Ge
open Go.RowKit St
set_option maxRecDepth 100000

theorem any_take {O : List Int} {p : Int → Bool} {j : Nat} (h : j < O.length) : (O.take (j + 1)).any p = ((O.take j).any p || p (O.getD j 0)) := by
  have e : O.getD j 0 = O[j] := by rw [List.getD_eq_getElem?_getD, List.getElem?_eq_getElem h]; rfl
  rw [List.take_succ_eq_append_getElem h, List.any_append, e]
  simp

set_option maxHeartbeats 2000000 in
theorem kept_any {w : World} {v vo : Value} {xs O : List Int} (hr : Dm.Reads w v xs) (hro : Dm.Reads w vo O) (hm : xs.length ≤ 64) (hol : O.length ≤ 1000) (x : Nat) (hx : x < 18446744073709551616) (g : Nat) (hE : Enters Tryd.prog g) (env : Array Value) (K : Int → Int → Bool)
    (hf : ∀ u, Below w.heap.size w u → ∀ y ∈ xs, ∀ o ∈ O, Calls Tryd.prog g (#[.int .i64 y, .int .i64 o] ++ env) u fun e w' => e = .returned (.bool (K y o)) ∧ Below u.heap.size u w') :
    Calls Tryd.prog 23 #[.agg #[v, .int .u64 x], vo, .func (.func g) #[] env] w fun e w' => e = .returned (.int .u64 (Dm.keepN xs x (fun y => O.any (K y)) : Nat)) ∧ Below w.heap.size w w' := by
  obtain ⟨p, b, off, c, rfl, hp, hc⟩ := Dm.reads_shape hr
  obtain ⟨po, bo, oo, co, rfl, hpo, hco⟩ := Dm.reads_shape hro
  obtain ⟨n, hn⟩ : ∃ n, n = xs.length := ⟨_, rfl⟩
  obtain ⟨m, hm2⟩ : ∃ m, m = O.length := ⟨_, rfl⟩
  rw [← hn] at hp hm ⊢
  rw [← hm2] at hpo hol ⊢
  obtain ⟨W0, hW0⟩ : ∃ W0, W0 = w.alloc (.cells #[.slice p n c, .int .u64 x] 47) := ⟨_, rfl⟩
  have HB0 := Lib.hid (show Below w.heap.size w W0 by rw [hW0]; exact new_below _ _)
  have C0 := Lib.hid (show W0.cell? ⟨w.heap.size, 0, none⟩ = some (.slice p n c) ∧ W0.cell? ⟨w.heap.size, 1, none⟩ = some (.int .u64 x) by rw [hW0]; exact ⟨by simp, by simp⟩)
  have HW := Lib.hid hW0
  have HN := Lib.hid hn
  have HM := Lib.hid hm2
  have HC := Lib.hid hc
  have HCO := Lib.hid hco
  have HF := Lib.hid hf
  have HE := Lib.hid hE
  obtain ⟨KK, hKK⟩ : ∃ z : Int → Bool, z = fun y => O.any (K y) := ⟨_, rfl⟩
  rw [← hKK]
  obtain ⟨R, hR⟩ : ∃ R, R = Dm.keepN xs x KK := ⟨_, rfl⟩
  rw [← hR]
  have HR := Lib.hid hR
  have HK := Lib.hid (show ∀ y, KK y = O.any (K y) by rw [hKK]; exact fun _ => rfl)
  clear hr hro hc hco hn hm2 hf hE hW0 hR hKK
  go_enter Tryd.func23, Tryd.ntmps23
  have q0 := C0.out.1
  go_wp2_with fail
  rw [← HW.out]
  go_step3
  go_wp2_with fail
  go_step3
  go_wp2_with fail
  go_loopg [7, 16] n (fun g l i wr => ∃ k : Nat, k + g = n ∧ i = .int .i64 k ∧ l = .int .u64 (keptTo xs x KK k : Nat) ∧ Below W0.heap.size W0 wr)
  case atStart => exact ⟨0, by omega, rfl, by rw [kept_zero]; rfl, Below.refl _ _⟩
  case round =>
    obtain ⟨k, hkg, rfl, rfl, hB⟩ := hrel
    have HB := Lib.hid hB
    clear hB q0
    cases gk with
    | zero =>
      have d6 : ¬ ((k : Int) < (n : Int)) := by omega
      have e : R = keptTo xs x KK k := by rw [HR.out, ← kept_all]; congr 1; have := HN.out; omega
      rw [← e]
      clear e
      go_wp2_with fail
      go_ret
      exact ⟨rfl, below_two HB0.out HB.out⟩
    | succ g1 =>
      obtain rfl := hp (by omega)
      have hk6 : k < 64 := by omega
      have d5 : (k : Int) < (n : Int) := by omega
      have q1 := cell_below HB.out C0.out.2
      have hkx : k < xs.length := by have := HN.out; omega
      have cv := cell_below HB.out (cell_below HB0.out (HC.out k hkx))
      have CY := Lib.hid (fun u (hu : Below wr.heap.size wr u) (o : Int) (ho : o ∈ O) => HF.out u (below_two HB0.out (below_two HB.out hu)) (xs.getD k 0) (St.getD_mem hkx) o ho)
      have w1 := wrap_pow hk6
      have a1 : bits .and .u64 (x : Int) ((2 ^ k : Nat) : Int) = ((x &&& 2 ^ k : Nat) : Int) := bits_and_u64_nat x (2 ^ k) hx (pow_lt hk6)
      have o1 : bits .or .u64 ((keptTo xs x KK k : Nat) : Int) ((2 ^ k : Nat) : Int) = ((keptTo xs x KK k ||| 2 ^ k : Nat) : Int) := bits_or_u64_nat _ (2 ^ k) (kept_lt _ _ _ _) (pow_lt hk6)
      rw [← w1] at a1 o1
      have KS := Lib.hid (fun h => kept_step (xs := xs) (x := x) (K := KK) hk6 h)
      have KN := Lib.hid (fun h => kept_same (xs := xs) (x := x) (K := KK) (k := k) h)
      have HKY := Lib.hid (HK.out (xs.getD k 0))
      obtain ⟨y, hy⟩ : ∃ y, y = xs.getD k 0 := ⟨_, rfl⟩
      rw [← hy] at cv CY KS KN HKY
      obtain ⟨y0, hy0⟩ : ∃ y, y = keptTo xs x KK k := ⟨_, rfl⟩
      rw [← hy0] at KS KN o1 ⊢
      cases hb : x.testBit k
      · have a2 : bits .and .u64 (x : Int) (IntKind.u64.wrap ((2 : Int) ^ k)) = 0 := by rw [a1, (and_pow x k).2 hb]; rfl
        rw [hb] at KN
        clear a1 o1 w1 hy hy0 hb
        go_wp2_with fail
        go_roundg g1
        case measure => omega
        case rel => exact ⟨k + 1, by omega, by go_num, by rw [KN.out rfl], HB.out⟩
      · have hne : x &&& 2 ^ k ≠ 0 := fun h => by rw [(and_pow x k).1 h] at hb; cases hb
        have a2 : ¬ bits .and .u64 (x : Int) (IntKind.u64.wrap ((2 : Int) ^ k)) = 0 := by rw [a1]; omega
        rw [hb] at KS KN
        clear a1 w1 hy hy0 hb hne
        go_wp2_with fail
        go_loopg [7, 30] m (fun g l i wy => ∃ j : Nat, j + g = m ∧ i = .int .i64 j ∧ l = .int .u64 (y0 : Nat) ∧ (O.take j).any (K y) = false ∧ Below wr.heap.size wr wy)
        case atStart => exact ⟨0, by omega, rfl, rfl, rfl, Below.refl _ _⟩
        case round =>
          obtain ⟨j, hjg, rfl, rfl, hno, hBy⟩ := hrel
          have HBY := Lib.hid hBy
          clear hBy cv q1
          cases gk with
          | zero =>
            have d7 : ¬ ((j : Int) < (m : Int)) := by omega
            have hKK : KK y = false := by rw [HKY.out, ← hno, List.take_of_length_le (by have := HM.out; omega)]
            rw [hKK] at KN
            clear hKK hno
            go_wp2_with fail
            go_roundg g1
            case measure => omega
            case rel => exact ⟨k + 1, by omega, by go_num, by rw [KN.out rfl], below_two HB.out HBY.out⟩
          | succ g2 =>
            obtain rfl := hpo (by omega)
            have d7 : (j : Int) < (m : Int) := by omega
            have hjo : j < O.length := by have := HM.out; omega
            have co := cell_below HBY.out (cell_below HB.out (cell_below HB0.out (HCO.out j hjo)))
            have CO := Lib.hid (CY.out _ HBY.out (O.getD j 0) (St.getD_mem hjo))
            have hat := any_take (p := K y) hjo
            rw [hno] at hat
            obtain ⟨o, ho⟩ : ∃ o, o = O.getD j 0 := ⟨_, rfl⟩
            rw [← ho] at co CO hat
            cases hKo : K y o
            · rw [hKo] at CO hat
              have HAT := Lib.hid (show (O.take (j + 1)).any (K y) = false from hat)
              clear hat ho hno hKo hjo
              go_wp2_with fail
              simp only [HE.out _ _]
              refine CO.out.mono ?_
              rintro e w2 ⟨rfl, hB2⟩
              have HB2 := Lib.hid (below_two HBY.out hB2)
              clear hB2
              go_wp2_with fail
              go_roundg g2
              case measure => omega
              case rel => exact ⟨j + 1, by omega, by go_num, rfl, HAT.out, HB2.out⟩
            · rw [hKo] at CO
              have hKK : KK y = true := by
                rw [HKY.out, List.any_eq_true]
                exact ⟨o, by rw [ho]; exact St.getD_mem hjo, hKo⟩
              rw [hKK] at KS
              clear hat ho hno hKo hjo hKK
              go_wp2_with fail
              simp only [HE.out _ _]
              refine CO.out.mono ?_
              rintro e w2 ⟨rfl, hB2⟩
              have HB2 := Lib.hid (below_two HBY.out hB2)
              clear hB2
              go_wp2_with fail
              go_roundg g1
              case measure => omega
              case rel => exact ⟨k + 1, by omega, by go_num, by rw [KS.out rfl, ← o1], below_two HB.out HB2.out⟩
end Go.Proofs.YtccgoigmchcggaaDoor.Ge
namespace Go.Proofs.YtccgoigmchcggaaDoor.Ge
open Go.RowKit St
set_option maxRecDepth 100000

set_option maxHeartbeats 1000000 in
theorem right1_any {u : World} {v1 : Value} {x : List Int × Nat} (hr : rDom u [v1, .int .u64 x.2] x) (hm : x.1.length ≤ 1000) : Calls Tryd.prog 37 #[.agg #[v1, .int .u64 x.2]] u fun e w' => e = .returned (.bool (!Dm.mayL x.1 x.2)) ∧ Below u.heap.size u w' := by
  obtain ⟨h1, h2, _⟩ := rDom_parts hr
  obtain ⟨p, n, c, rfl⟩ := rDom_shape hr
  have h0 := new_below u (.cells #[.slice p n c, .int .u64 x.2] 47)
  have M := Lib.hid (Dm.may_any (Dm.reads_below (Dm.reads_of_readsN h1) h0) (Nat.le_trans hm (by decide)) x.2 h2)
  have HB := Lib.hid h0
  generalize Dm.mayL x.1 x.2 = R at M ⊢
  generalize x.2 = y at M HB ⊢
  clear hr h1 h2 h0
  go_enter Tryd.func37, Tryd.ntmps37
  go_wp2_with fail
  refine M.out.mono ?_
  rintro e w2 ⟨rfl, hB2⟩
  have HB2 := Lib.hid (below_two HB.out hB2)
  clear hB2
  go_wp2_with fail
  go_ret
  exact ⟨rfl, HB2.out⟩

set_option maxHeartbeats 4000000 in
theorem right_any {w : World} {v1 v2 v3 v : Value} {c : PCon} {L : List (List Int × Nat)} (hc : rCon w [.int .i64 c.kind, v1, v2, .int .i64 c.rel, .int .i64 c.const, v3] c) (hs : Short 1000 c) (h : Slc rDom 2 w v L) (hn : L.length ≤ 1000) (hm : ∀ d ∈ L, d.1.length ≤ 1000) :
    Calls Tryd.prog 18 #[.agg #[.int .i64 c.kind, v1, v2, .int .i64 c.rel, .int .i64 c.const, v3], v] w fun e w' => e = .returned (.bool (rightK [2] c L)) ∧ Below w.heap.size w w' := by
  obtain ⟨p, b, off, cc, len, rfl, _, hss⟩ := h
  obtain ⟨W0, hW0⟩ : ∃ W0, W0 = w.alloc (.cells #[.int .i64 c.kind, v1, v2, .int .i64 c.rel, .int .i64 c.const, v3] 24) := ⟨_, rfl⟩
  have hb0 : Below w.heap.size w W0 := by rw [hW0]; exact new_below _ _
  have hc0 : ∀ j u, [Value.int .i64 c.kind, v1, v2, .int .i64 c.rel, .int .i64 c.const, v3][j]? = some u → W0.cell? ⟨w.heap.size, j, none⟩ = some u := fun j u e => by rw [hW0]; exact six_at _ _ _ _ _ _ _ _ j u e
  have HW := Lib.hid hW0
  have HB0 := Lib.hid hb0
  have hl := hss.long
  have RM := Lib.hid (pright_any (len : Int) (rCon_stays _ _ _ _ hb0 hc) hs)
  have HM := Lib.hid (fun (z : World) (hz : Below W0.heap.size W0 z) => hasM_any 37 (enters_of Tryd.func37 (by kernel_rfl) rfl) #[] (fun d => !Dm.mayL d.1 d.2) p b off cc len L z (hss.below rDom_stays (below_two hb0 hz)) (by omega) (fun u x v1 hu hx hrd => right1_any hrd (hm x hx)))
  have hR : rightK [2] c L = ((decide (c.kind = 2) && rightC c len) && !(L.any fun d => !Dm.mayL d.1 d.2)) := by
    rw [hl]
    unfold rightK
    have e2 : decide (c.kind ∈ ([2] : List Int)) = decide (c.kind = 2) := by simp
    rw [e2]
  obtain ⟨R1, hR1⟩ : ∃ R, R = rightC c len := ⟨_, rfl⟩
  obtain ⟨R2, hR2⟩ : ∃ R, R = L.any fun d => !Dm.mayL d.1 d.2 := ⟨_, rfl⟩
  rw [← hR1] at RM hR
  rw [← hR2] at HM hR
  have q0 := hc0 0 _ rfl
  have q1 := hc0 1 _ rfl
  have q2 := hc0 2 _ rfl
  have q3 := hc0 3 _ rfl
  have q4 := hc0 4 _ rfl
  have q5 := hc0 5 _ rfl
  obtain ⟨k, hk⟩ : ∃ k, k = c.kind := ⟨_, rfl⟩
  rw [← hk] at RM q0 hR HW ⊢
  have HR := Lib.hid hR
  clear hc hs hn hm hss hl hW0 hc0 hb0 hR1 hR2 hR hk
  by_cases k1 : k = 2
  · subst k1
    have HR2 := Lib.hid (show rightK [2] c L = (R1 && !R2) by rw [HR.out]; simp)
    clear HR
    cases R1
    · go_enter Tryd.func18, Tryd.ntmps18
      go_wp2_with fail
      rw [← HW.out]
      refine RM.out.mono ?_
      rintro e w1 ⟨rfl, hB1⟩
      have HB1 := Lib.hid (below_two HB0.out hB1)
      clear hB1
      go_wp2_with fail
      go_ret
      exact ⟨by rw [HR2.out]; rfl, HB1.out⟩
    · go_enter Tryd.func18, Tryd.ntmps18
      go_wp2_with fail
      rw [← HW.out]
      refine RM.out.mono ?_
      rintro e w1 ⟨rfl, hB1⟩
      have HB1 := Lib.hid hB1
      clear hB1
      go_wp2_with fail
      refine (HM.out _ HB1.out).mono ?_
      rintro e w2 ⟨rfl, hB2⟩
      have HB2 := Lib.hid (below_two HB0.out (below_two HB1.out hB2))
      clear hB2
      go_wp2_with fail
      go_ret
      exact ⟨by rw [HR2.out]; rfl, HB2.out⟩
  · have d1 : (k == 2) = false := beq_eq_false_iff_ne.2 k1
    have HR2 := Lib.hid (show rightK [2] c L = false by rw [HR.out, decide_eq_false k1]; rfl)
    clear HR k1 RM HM
    go_enter Tryd.func18, Tryd.ntmps18
    go_wp2_with fail
    go_ret
    exact ⟨by rw [HR2.out]; rfl, by rw [← HW.out]; exact HB0.out⟩
end Go.Proofs.YtccgoigmchcggaaDoor.Ge
