/-
  Counts of numbers that a call keeps in a map: what package differ counts in.
  What the closure of Step of package differ answers: is enough left, and is a value the only one of no other variable?
  What kept of package differ answers: the places of those values that are left of a domain, and for which a function is true.
  What right of package differ answers.
-/
import Derived.Test.YtiaibggbbkhjlaaDoorZYCA
import Derived.Test.YtiaibggbbkhjlaaDoorZYBJ
import Derived.Test.YtiaibggbbkhjlaaDoorZDLeaf
import Derived.Maps.RangeWalk
import Derived.Maps.OwnSet
import Derived.Carry
import Derived.Test.YtiaibggbbkhjlaaDoorZYBA
import Derived.Test.YtiaibggbbkhjlaaDoorZYAW
import Derived.Test.YtiaibggbbkhjlaaDoorZPRight
import Derived.Test.YtiaibggbbkhjlaaDoorZYAI
import Derived.Test.YtiaibggbbkhjlaaDoorZIStep
namespace Go.Proofs.YtiaibggbbkhjlaaDoor.Ge.Di
open Go.RowKit Go.MapKept Go.WideShapes St
set_option maxRecDepth 100000

theorem below_grown {n : Nat} {w a b : World} {row : Option Nat} (hb : Below n w a) (hn : n ≤ a.heap.size) (hg : a.grownBy b row) (hr : ∀ k, row = some k → n ≤ k) : Below n w b :=
  hb.trans ⟨hg.os, hg.tape, hg.output, hg.size, fun k hk => hg.block k (Nat.lt_of_lt_of_le hk hn) (fun e => by have := hr k e.symm; omega)⟩
/-- how a number in a map is read -/
def numRd (v : Value) : Option (DataW Int × List MemPlace) := match v with | .int .i64 x => some (.held x, []) | _ => none
theorem numRd_inv {v : Value} {x : Int} {ps : List MemPlace} (h : numRd v = some (.held x, ps)) : v = .int .i64 x := by
  unfold numRd at h
  split at h
  · simp only [Option.some.injEq, Prod.mk.injEq, DataW.held.injEq] at h
    rw [h.1]
  · cases h
/-- block b is a map from the numbers of ks to what f tells of them, and f tells 0 of any other -/
def CntAt (w : World) (b : Nat) (ks : List Int) (f : Int → Int) : Prop :=
  ∃ D : DataW Int, w.ownsMap Tryd.prog 3 numRd b ks.length D ∧ Maps.size D = ks.length ∧ (∀ x : Int, Maps.has D (.int .i64 x) = decide (x ∈ ks)) ∧ ∀ x : Int, D.atKey (.int .i64 x) (.held 0) = .held (f x)
theorem cnt_made (w : World) : CntAt (w.alloc (.map #[] 0)) w.heap.size [] (fun _ => 0) :=
  ⟨.map [], World.ownsMap_made w Tryd.prog 3 numRd, rfl, fun x => by simp [Maps.has], fun x => by simp [DataW.atKey]⟩
theorem CntAt.of_block {w w' : World} {b : Nat} {ks : List Int} {f : Int → Int} (h : CntAt w b ks f) (e : w'.heap[b]? = w.heap[b]?) : CntAt w' b ks f := by
  obtain ⟨D, ⟨es, clock, hb, r⟩, h2⟩ := h
  exact ⟨D, ⟨es, clock, e.trans hb, r⟩, h2⟩
theorem CntAt.lt {w : World} {b : Nat} {ks : List Int} {f : Int → Int} (h : CntAt w b ks f) : b < w.heap.size := by
  obtain ⟨D, h1, _⟩ := h
  exact h1.lt
theorem CntAt.below {w w' : World} {b : Nat} {ks : List Int} {f : Int → Int} (h : CntAt w b ks f) (hB : Below w.heap.size w w') : CntAt w' b ks f := h.of_block (hB.block b h.lt)
theorem zero_num (w : World) : (zeroValue 3).run Tryd.prog w = .ok (.int .i64 0) w := by kernel_rfl
theorem wf_int {x : Int} (h : -1048576 ≤ x ∧ x ≤ 1048576) : (Lit.int .i64 x).wf = true := WalkArith.wf_i64 (by omega)
theorem CntAt.look {w : World} {b : Nat} {ks : List Int} {f : Int → Int} (h : CntAt w b ks f) {x : Int} (hx : -1048576 ≤ x ∧ x ≤ 1048576) :
    (Instr.lookup 50 (.map (some b)) (.int .i64 x) false).run Tryd.prog w = .ok (.int .i64 (f x)) w := by
  obtain ⟨D, h1, _, _, h3⟩ := h
  obtain ⟨v, ps, hrun, hv⟩ := h1.lookup (Maps.int_keyed Tryd.underlying3) Tryd.underlying50 (zero_num w) (zd := .held 0) (zp := []) rfl (key := .int .i64 x) (Maps.keyOf_int_mk Tryd.underlying3 (wf_int hx))
  rw [h3] at hv
  rw [hrun, numRd_inv hv]
theorem CntAt.len {w : World} {b : Nat} {ks : List Int} {f : Int → Int} (h : CntAt w b ks f) (ty : TypeId) :
    (Builtin.len_ #[50] ty #[.map (some b)]).run Tryd.prog w = .ok (.int .i64 (ks.length : Nat)) w := by
  obtain ⟨D, h1, h2, _⟩ := h
  rw [← h2]
  exact h1.len Tryd.underlying50 ty
theorem owns_tight {w : World} {b n : Nat} {D : DataW Int} (h : w.ownsMap Tryd.prog 3 numRd b n D) : w.ownsMap Tryd.prog 3 numRd b (Maps.size D) D := by
  obtain ⟨es, clock, hb, F, hs, rfl⟩ := h
  refine ⟨es, clock, hb, F, ?_, rfl⟩
  have e1 : Maps.size (DataW.map ((es.toList.map (WideElems.rg Tryd.prog 3 numRd)).foldr DataW.insert [])) = es.size := by simp [Maps.size, length_sorted]
  rw [e1]
  exact Nat.le_refl _
theorem CntAt.store {w : World} {b : Nat} {ks : List Int} {f : Int → Int} (h : CntAt w b ks f) {x z : Int} (hx : -1048576 ≤ x ∧ x ≤ 1048576) (hn : ks.length ≤ 100000) :
    ∃ w', (Instr.mapUpdate 50 (.map (some b)) (.int .i64 x) (.int .i64 z)).run Tryd.prog w = .ok () w' ∧ CntAt w' b (addV ks x) (fun y => if y = x then z else f y) ∧ w.grownBy w' (some b) := by
  obtain ⟨D, h1, h2, h3, h4⟩ := h
  obtain ⟨w', hrun, hown, hg⟩ := h1.update (Maps.int_keyed Tryd.underlying3) Tryd.underlying50 (by unfold maxLen; omega) (key := .int .i64 x) (val := .int .i64 z) (d := .held z) (ps := []) (Maps.keyOf_int_mk Tryd.underlying3 (wf_int hx)) rfl
  have ht := h1.tidy (Maps.int_keyed Tryd.underlying3)
  have hs : Maps.size (D.put (.int .i64 x) (.held z)) = (addV ks x).length := by
    rw [Maps.size_put ht, h3, h2]
    unfold addV
    by_cases q : x ∈ ks
    · rw [if_pos (decide_eq_true q), if_pos q]
    · rw [if_neg (by simpa using q), if_neg q, List.length_append]; rfl
  refine ⟨w', hrun, ⟨_, by rw [← hs]; exact owns_tight hown, hs, fun y => ?_, fun y => ?_⟩, hg⟩
  · by_cases e : y = x
    · subst e
      rw [Maps.has_put_same ht.isMap (by simp [WideAt.IsKeyLit])]
      exact (decide_eq_true (addV_mem.2 (.inr rfl))).symm
    · have hne : (Lit.int .i64 y) ≠ .int .i64 x := by
        intro h
        injection h with _ h
        exact e h
      rw [Maps.has_put_other hne, h3, Bool.eq_iff_iff, decide_eq_true_eq, decide_eq_true_eq, addV_mem]
      exact ⟨.inl, fun q => q.resolve_right e⟩
  · by_cases e : y = x
    · subst e
      rw [Maps.atKey_put_same h1.isMap (by simp [WideAt.IsKeyLit])]
      simp
    · have hne : (Lit.int .i64 y) ≠ .int .i64 x := by
        intro h
        injection h with _ h
        exact e h
      rw [Maps.atKey_put_other hne, h4]
      simp [e]
/-- a map that is made with no size asked -/
theorem make_plain (w : World) : (Instr.makeMap 50 none).run Tryd.prog w = .ok (.map (some w.heap.size)) (w.alloc (.map #[] 0)) := by
  simp [Instr.makeMap, Result.andThen]
end Go.Proofs.YtiaibggbbkhjlaaDoor.Ge.Di
namespace Go.Proofs.YtiaibggbbkhjlaaDoor.Ge.Di
open Go.RowKit Go.MapKept St
set_option maxRecDepth 100000

set_option maxHeartbeats 1000000 in
theorem ask_any {w : World} {eb cb mb m : Nat} {E : Bool} {one : Int} {ks : List Int} {f : Int → Int} (he : w.cell? ⟨eb, 0, none⟩ = some (.bool E)) (hc : w.cell? ⟨cb, 0, none⟩ = some (.map (some m))) (ho : w.cell? ⟨mb, 0, none⟩ = some (.int .i64 one)) (hM : CntAt w m ks f) {x : Int} (hx : -1048576 ≤ x ∧ x ≤ 1048576) :
    Calls Tryd.prog 26 #[.int .i64 x, .pointer (some ⟨eb, 0, none⟩), .pointer (some ⟨cb, 0, none⟩), .pointer (some ⟨mb, 0, none⟩)] w fun e w' => e = .returned (.bool (E && decide (f x = one))) ∧ Below w.heap.size w w' := by
  have hlook := hM.look hx
  obtain ⟨g, hg⟩ : ∃ g, g = f x := ⟨_, rfl⟩
  rw [← hg] at hlook ⊢
  clear hM hx hg
  cases E
  · go_enter Tryd.func26, Tryd.ntmps26
    go_wp2_with fail
    go_ret
    exact ⟨rfl, Below.refl _ _⟩
  · have HR := Lib.hid (show decide (g = one) = (g == one) by rw [Bool.eq_iff_iff]; simp)
    rw [Bool.true_and]
    obtain ⟨R, hR⟩ : ∃ R, R = decide (g = one) := ⟨_, rfl⟩
    rw [← hR] at HR ⊢
    clear hR
    go_enter Tryd.func26, Tryd.ntmps26
    go_wp2_with fail
    go_ret
    exact ⟨by rw [HR.out]; first | rfl | simp, Below.refl _ _⟩
end Go.Proofs.YtiaibggbbkhjlaaDoor.Ge.Di
namespace Go.Proofs.YtiaibggbbkhjlaaDoor.Ge.Di
open Go.RowKit St
set_option maxRecDepth 100000

set_option maxHeartbeats 1000000 in
theorem kept_any {w : World} {v : Value} {xs : List Int} (hr : Dm.Reads w v xs) (hm : xs.length ≤ 64) (x : Nat) (hx : x < 18446744073709551616) (g : Nat) (hE : Enters Tryd.prog g) (env : Array Value) (K : Int → Bool)
    (hf : ∀ u, Below w.heap.size w u → ∀ y ∈ xs, Calls Tryd.prog g (#[.int .i64 y] ++ env) u fun e w' => e = .returned (.bool (K y)) ∧ Below u.heap.size u w') :
    Calls Tryd.prog 25 #[.agg #[v, .int .u64 x], .func (.func g) #[] env] w fun e w' => e = .returned (.int .u64 (Dm.keepN xs x K : Nat)) ∧ Below w.heap.size w w' := by
  obtain ⟨p, b, off, c, rfl, hp, hc⟩ := Dm.reads_shape hr
  obtain ⟨n, hn⟩ : ∃ n, n = xs.length := ⟨_, rfl⟩
  rw [← hn] at hp hm ⊢
  obtain ⟨W0, hW0⟩ : ∃ W0, W0 = w.alloc (.cells #[.slice p n c, .int .u64 x] 47) := ⟨_, rfl⟩
  have HB0 := Lib.hid (show Below w.heap.size w W0 by rw [hW0]; exact new_below _ _)
  have C0 := Lib.hid (show W0.cell? ⟨w.heap.size, 0, none⟩ = some (.slice p n c) ∧ W0.cell? ⟨w.heap.size, 1, none⟩ = some (.int .u64 x) by rw [hW0]; exact ⟨by simp, by simp⟩)
  have HW := Lib.hid hW0
  have HN := Lib.hid hn
  have HC := Lib.hid hc
  have HF := Lib.hid hf
  have HE := Lib.hid hE
  obtain ⟨R, hR⟩ : ∃ R, R = Dm.keepN xs x K := ⟨_, rfl⟩
  rw [← hR]
  have HR := Lib.hid hR
  clear hr hc hn hf hE hW0 hR
  go_enter Tryd.func25, Tryd.ntmps25
  have q0 := C0.out.1
  go_wp2_with fail
  rw [← HW.out]
  go_loopw [5, 12] (fun l i wr => ∃ k : Nat, k ≤ n ∧ i = .int .i64 k ∧ l = .int .u64 (keptTo xs x K k : Nat) ∧ Below W0.heap.size W0 wr) (fun _ i _ => n - (intOf i).toNat)
  case atStart => exact ⟨0, by omega, rfl, by rw [kept_zero]; rfl, Below.refl _ _⟩
  case round =>
    rename_i wr
    obtain ⟨k, hk, rfl, rfl, hB⟩ := hrel
    have HB := Lib.hid hB
    clear hB q0
    by_cases hlt : k < n
    · obtain rfl := hp (by omega)
      have hk6 : k < 64 := by omega
      have d5 : (k : Int) < (n : Int) := by omega
      have q1 := cell_below HB.out C0.out.2
      have hkx : k < xs.length := by have := HN.out; omega
      have cv := cell_below HB.out (cell_below HB0.out (HC.out k hkx))
      have CY := Lib.hid (HF.out wr (below_two HB0.out HB.out) (xs.getD k 0) (getD_mem hkx))
      have w1 := wrap_pow hk6
      have a1 : bits .and .u64 (x : Int) ((2 ^ k : Nat) : Int) = ((x &&& 2 ^ k : Nat) : Int) := bits_and_u64_nat x (2 ^ k) hx (pow_lt hk6)
      have o1 : bits .or .u64 ((keptTo xs x K k : Nat) : Int) ((2 ^ k : Nat) : Int) = ((keptTo xs x K k ||| 2 ^ k : Nat) : Int) := bits_or_u64_nat _ (2 ^ k) (kept_lt _ _ _ _) (pow_lt hk6)
      rw [← w1] at a1 o1
      have KS := Lib.hid (fun h => kept_step (xs := xs) (x := x) (K := K) hk6 h)
      have KN := Lib.hid (fun h => kept_same (xs := xs) (x := x) (K := K) (k := k) h)
      obtain ⟨y, hy⟩ : ∃ y, y = xs.getD k 0 := ⟨_, rfl⟩
      rw [← hy] at cv CY KS KN
      obtain ⟨y0, hy0⟩ : ∃ y, y = keptTo xs x K k := ⟨_, rfl⟩
      rw [← hy0] at KS KN o1 ⊢
      cases hb : x.testBit k
      · have a2 : bits .and .u64 (x : Int) (IntKind.u64.wrap ((2 : Int) ^ k)) = 0 := by rw [a1, (and_pow x k).2 hb]; rfl
        rw [hb] at KN
        clear a1 o1 w1 hy hy0 hb
        go_wp2_with fail
        go_roundw
        case rel => exact ⟨k + 1, by omega, by go_num, by rw [KN.out rfl], HB.out⟩
        case measure => simp [intOf]; omega
      · have hne : x &&& 2 ^ k ≠ 0 := fun h => by rw [(and_pow x k).1 h] at hb; cases hb
        have a2 : ¬ bits .and .u64 (x : Int) (IntKind.u64.wrap ((2 : Int) ^ k)) = 0 := by rw [a1]; omega
        rw [hb] at KS KN
        clear a1 w1 hy hy0 hb hne
        cases hKy : K y
        · rw [hKy] at CY KN
          clear o1
          go_wp2_with fail
          simp only [HE.out _ _]
          refine CY.out.mono ?_
          rintro e w2 ⟨rfl, hB2⟩
          have HB2 := Lib.hid (below_two HB.out hB2)
          clear hB2
          go_wp2_with fail
          go_roundw
          case rel => exact ⟨k + 1, by omega, by go_num, by rw [KN.out rfl], HB2.out⟩
          case measure => simp [intOf]; omega
        · rw [hKy] at CY KS
          go_wp2_with fail
          simp only [HE.out _ _]
          refine CY.out.mono ?_
          rintro e w2 ⟨rfl, hB2⟩
          have HB2 := Lib.hid (below_two HB.out hB2)
          clear hB2
          go_wp2_with fail
          go_roundw
          case rel => exact ⟨k + 1, by omega, by go_num, by rw [KS.out rfl, ← o1], HB2.out⟩
          case measure => simp [intOf]; omega
    · have d6 : ¬ ((k : Int) < (n : Int)) := by omega
      have e : R = keptTo xs x K k := by rw [HR.out, ← kept_all]; congr 1; have := HN.out; omega
      rw [← e]
      clear e
      go_wp2_with fail
      go_ret
      exact ⟨rfl, below_two HB0.out HB.out⟩
end Go.Proofs.YtiaibggbbkhjlaaDoor.Ge.Di
namespace Go.Proofs.YtiaibggbbkhjlaaDoor.Ge.Di
open Go.RowKit St
set_option maxRecDepth 100000

set_option maxHeartbeats 1000000 in
theorem right1_any {u : World} {v1 : Value} {x : List Int × Nat} (hr : rDom u [v1, .int .u64 x.2] x) (hm : x.1.length ≤ 1000) : Calls Tryd.prog 39 #[.agg #[v1, .int .u64 x.2]] u fun e w' => e = .returned (.bool (!Dm.mayL x.1 x.2)) ∧ Below u.heap.size u w' := by
  obtain ⟨h1, h2, _⟩ := rDom_parts hr
  obtain ⟨p, n, c, rfl⟩ := rDom_shape hr
  have h0 := new_below u (.cells #[.slice p n c, .int .u64 x.2] 47)
  have M := Lib.hid (Dm.may_any (Dm.reads_below (Dm.reads_of_readsN h1) h0) (Nat.le_trans hm (by decide)) x.2 h2)
  have HB := Lib.hid h0
  generalize Dm.mayL x.1 x.2 = R at M ⊢
  generalize x.2 = y at M HB ⊢
  clear hr h1 h2 h0
  go_enter Tryd.func39, Tryd.ntmps39
  go_wp2_with fail
  refine M.out.mono ?_
  rintro e w2 ⟨rfl, hB2⟩
  have HB2 := Lib.hid (below_two HB.out hB2)
  clear hB2
  go_wp2_with fail
  go_ret
  exact ⟨rfl, HB2.out⟩

set_option maxHeartbeats 4000000 in
theorem right_any {w : World} {v1 v2 v3 v : Value} {c : PCon} {L : List (List Int × Nat)} (hc : rCon w [.int .i64 c.kind, v1, v2, .int .i64 c.rel, .int .i64 c.const, v3] c) (hs : Short 1000 c) (h : Slc rDom 2 w v L) (hn : L.length ≤ 1000) (hm : ∀ d ∈ L, d.1.length ≤ 1000) :
    Calls Tryd.prog 18 #[.agg #[.int .i64 c.kind, v1, v2, .int .i64 c.rel, .int .i64 c.const, v3], v] w fun e w' => e = .returned (.bool (rightK [5] c L)) ∧ Below w.heap.size w w' := by
  obtain ⟨p, b, off, cc, len, rfl, _, hss⟩ := h
  obtain ⟨W0, hW0⟩ : ∃ W0, W0 = w.alloc (.cells #[.int .i64 c.kind, v1, v2, .int .i64 c.rel, .int .i64 c.const, v3] 24) := ⟨_, rfl⟩
  have hb0 : Below w.heap.size w W0 := by rw [hW0]; exact new_below _ _
  have hc0 : ∀ j u, [Value.int .i64 c.kind, v1, v2, .int .i64 c.rel, .int .i64 c.const, v3][j]? = some u → W0.cell? ⟨w.heap.size, j, none⟩ = some u := fun j u e => by rw [hW0]; exact six_at _ _ _ _ _ _ _ _ j u e
  have HW := Lib.hid hW0
  have HB0 := Lib.hid hb0
  have hl := hss.long
  have RM := Lib.hid (pright_any (len : Int) (rCon_stays _ _ _ _ hb0 hc) hs)
  have HM := Lib.hid (fun (z : World) (hz : Below W0.heap.size W0 z) => hasM_any 39 (enters_of Tryd.func39 (by kernel_rfl) rfl) #[] (fun d => !Dm.mayL d.1 d.2) p b off cc len L z (hss.below rDom_stays (below_two hb0 hz)) (by omega) (fun u x v1 hu hx hrd => right1_any hrd (hm x hx)))
  have hR : rightK [5] c L = ((decide (c.kind = 5) && rightC c len) && !(L.any fun d => !Dm.mayL d.1 d.2)) := by
    rw [hl]
    unfold rightK
    have e2 : decide (c.kind ∈ ([5] : List Int)) = decide (c.kind = 5) := by simp
    rw [e2]
  obtain ⟨R1, hR1⟩ : ∃ R, R = rightC c len := ⟨_, rfl⟩
  obtain ⟨R2, hR2⟩ : ∃ R, R = L.any fun d => !Dm.mayL d.1 d.2 := ⟨_, rfl⟩
  rw [← hR1] at RM hR
  rw [← hR2] at HM hR
  have q0 := hc0 0 _ rfl
  have q1 := hc0 1 _ rfl
  have q2 := hc0 2 _ rfl
  have q3 := hc0 3 _ rfl
  have q4 := hc0 4 _ rfl
  have q5 := hc0 5 _ rfl
  obtain ⟨k, hk⟩ : ∃ k, k = c.kind := ⟨_, rfl⟩
  rw [← hk] at RM q0 hR HW ⊢
  have HR := Lib.hid hR
  clear hc hs hn hm hss hl hW0 hc0 hb0 hR1 hR2 hR hk
  by_cases k1 : k = 5
  · subst k1
    have HR2 := Lib.hid (show rightK [5] c L = (R1 && !R2) by rw [HR.out]; simp)
    clear HR
    cases R1
    · go_enter Tryd.func18, Tryd.ntmps18
      go_wp2_with fail
      rw [← HW.out]
      refine RM.out.mono ?_
      rintro e w1 ⟨rfl, hB1⟩
      have HB1 := Lib.hid (below_two HB0.out hB1)
      clear hB1
      go_wp2_with fail
      go_ret
      exact ⟨by rw [HR2.out]; rfl, HB1.out⟩
    · go_enter Tryd.func18, Tryd.ntmps18
      go_wp2_with fail
      rw [← HW.out]
      refine RM.out.mono ?_
      rintro e w1 ⟨rfl, hB1⟩
      have HB1 := Lib.hid hB1
      clear hB1
      go_wp2_with fail
      refine (HM.out _ HB1.out).mono ?_
      rintro e w2 ⟨rfl, hB2⟩
      have HB2 := Lib.hid (below_two HB0.out (below_two HB1.out hB2))
      clear hB2
      go_wp2_with fail
      go_ret
      exact ⟨by rw [HR2.out]; rfl, HB2.out⟩
  · have d1 : (k == 5) = false := beq_eq_false_iff_ne.2 k1
    have HR2 := Lib.hid (show rightK [5] c L = false by rw [HR.out, decide_eq_false k1]; rfl)
    clear HR k1 RM HM
    go_enter Tryd.func18, Tryd.ntmps18
    go_wp2_with fail
    go_ret
    exact ⟨by rw [HR2.out]; rfl, by rw [← HW.out]; exact HB0.out⟩
end Go.Proofs.YtiaibggbbkhjlaaDoor.Ge.Di
