/-
  Sets of numbers that a call keeps in a map behind a variable: what among of package element makes, and what its closure answers.
  What isPlace, standing and kept of package element answer.
  What kept of package element answers: the places of those values that are left of a domain, and for which a function is true.
-/
import Derived.Test.YtomcgmeekmfdhaaDoorZYBJ
import Derived.Test.YtomcgmeekmfdhaaDoorZDLeaf
import Derived.Maps.RangeWalk
import Derived.Carry
import Derived.Test.YtomcgmeekmfdhaaDoorZYCA
import Derived.Test.YtomcgmeekmfdhaaDoorZYAZ
import Derived.Test.YtomcgmeekmfdhaaDoorZYBA
namespace Go.Proofs.YtomcgmeekmfdhaaDoor.Ge
open Go.RowKit Go.MapKept Go.WideShapes St
set_option maxRecDepth 100000

theorem below_grown {n : Nat} {w a b : World} {row : Option Nat} (hb : Below n w a) (hn : n ≤ a.heap.size) (hg : a.grownBy b row) (hr : ∀ k, row = some k → n ≤ k) : Below n w b :=
  hb.trans ⟨hg.os, hg.tape, hg.output, hg.size, fun k hk => hg.block k (Nat.lt_of_lt_of_le hk hn) (fun e => by have := hr k e.symm; omega)⟩

/-- how a bool in a map is read -/
def boolRd (v : Value) : Option (DataW Bool × List MemPlace) := match v with | .bool b => some (.held b, []) | _ => none
theorem boolRd_inv {v : Value} {b : Bool} {ps : List MemPlace} (h : boolRd v = some (.held b, ps)) : v = .bool b := by
  unfold boolRd at h
  split at h
  · simp only [Option.some.injEq, Prod.mk.injEq, DataW.held.injEq] at h
    rw [h.1]
  · cases h
/-- block b is a map from numbers to bools, of which those of ns are true, and no other one -/
def HasAt (w : World) (b : Nat) (ns : List Int) : Prop :=
  ∃ (n : Nat) (D : DataW Bool), w.ownsMap Tryd.prog 3 boolRd b n D ∧ n ≤ ns.length ∧ ∀ x : Int, D.atKey (.int .i64 x) (.held false) = .held (decide (x ∈ ns))
theorem has_made (w : World) : HasAt (w.alloc (.map #[] 0)) w.heap.size [] :=
  ⟨0, .map [], World.ownsMap_made w Tryd.prog 3 boolRd, Nat.le_refl _, fun x => by simp [DataW.atKey]⟩
theorem HasAt.of_block {w w' : World} {b : Nat} {ns : List Int} (h : HasAt w b ns) (e : w'.heap[b]? = w.heap[b]?) : HasAt w' b ns := by
  obtain ⟨n, D, ⟨es, clock, hb, r⟩, h2⟩ := h
  exact ⟨n, D, ⟨es, clock, e.trans hb, r⟩, h2⟩
theorem HasAt.lt {w : World} {b : Nat} {ns : List Int} (h : HasAt w b ns) : b < w.heap.size := by
  obtain ⟨n, D, h1, _⟩ := h
  exact h1.lt
theorem HasAt.below {w w' : World} {b : Nat} {ns : List Int} (h : HasAt w b ns) (hB : Below w.heap.size w w') : HasAt w' b ns := h.of_block (hB.block b h.lt)
theorem zero_bool (w : World) : (zeroValue 4).run Tryd.prog w = .ok (.bool false) w := by kernel_rfl
theorem wf_int {x : Int} (h : -1048576 ≤ x ∧ x ≤ 1048576) : (Lit.int .i64 x).wf = true := WalkArith.wf_i64 (by omega)
theorem HasAt.look {w : World} {b : Nat} {ns : List Int} (h : HasAt w b ns) {x : Int} (hx : -1048576 ≤ x ∧ x ≤ 1048576) :
    (Instr.lookup 67 (.map (some b)) (.int .i64 x) false).run Tryd.prog w = .ok (.bool (decide (x ∈ ns))) w := by
  obtain ⟨n, D, h1, h2, h3⟩ := h
  obtain ⟨v, ps, hrun, hv⟩ := h1.lookup (Maps.int_keyed Tryd.underlying3) Tryd.underlying67 (zero_bool w) (zd := .held false) (zp := []) rfl (key := .int .i64 x) (Maps.keyOf_int_mk Tryd.underlying3 (wf_int hx))
  rw [h3] at hv
  rw [hrun, boolRd_inv hv]
theorem HasAt.store {w : World} {b : Nat} {ns : List Int} (h : HasAt w b ns) {x : Int} (hx : -1048576 ≤ x ∧ x ≤ 1048576) (hn : ns.length ≤ 100000) :
    ∃ w', (Instr.mapUpdate 67 (.map (some b)) (.int .i64 x) (.bool true)).run Tryd.prog w = .ok () w' ∧ HasAt w' b (ns ++ [x]) ∧ w.grownBy w' (some b) := by
  obtain ⟨n, D, h1, h2, h3⟩ := h
  obtain ⟨w', hrun, hown, hg⟩ := h1.update (Maps.int_keyed Tryd.underlying3) Tryd.underlying67 (by unfold maxLen; omega) (key := .int .i64 x) (val := .bool true) (d := .held true) (ps := []) (Maps.keyOf_int_mk Tryd.underlying3 (wf_int hx)) rfl
  refine ⟨w', hrun, ⟨n + 1, _, hown, by simp; omega, fun y => ?_⟩, hg⟩
  by_cases e : y = x
  · subst e
    rw [Maps.atKey_put_same h1.isMap (by simp [WideAt.IsKeyLit])]
    simp
  · have hne : (Lit.int .i64 y) ≠ .int .i64 x := by
      intro h
      injection h with _ h
      exact e h
    rw [Maps.atKey_put_other hne, h3]
    simp [e]
/-- a map that is made with a size asked -/
theorem make_sized (n : Int) (w : World) : (Instr.makeMap 67 (some (.int .i64 n))).run Tryd.prog w = .ok (.map (some w.heap.size)) (w.alloc (.map #[] 0)) := by
  simp [Instr.makeMap, run_underlying Tryd.underlying67, asInt, asIntOf, Result.andThen]

/-- variable b holds a map whose numbers are those of ns -/
def Asked (w : World) (b : Nat) (ns : List Int) : Prop := ∃ m, Own1 w b 67 (.map (some m)) ∧ HasAt w m ns
theorem Asked.below {w w' : World} {b : Nat} {ns : List Int} (h : Asked w b ns) (hB : Below w.heap.size w w') : Asked w' b ns := by
  obtain ⟨m, h1, h2⟩ := h
  exact ⟨m, h1.below hB, h2.below hB⟩

set_option maxHeartbeats 1000000 in
theorem asked_any {w : World} {b : Nat} {ns : List Int} (h : Asked w b ns) {x : Int} (hx : -1048576 ≤ x ∧ x ≤ 1048576) :
    Calls Tryd.prog 38 #[.int .i64 x, .pointer (some ⟨b, 0, none⟩)] w fun e w' => e = .returned (.bool (decide (x ∈ ns))) ∧ Below w.heap.size w w' := by
  obtain ⟨m, h1, h2⟩ := h
  have hlook := h2.look hx
  have c0 := h1.cell
  generalize decide (x ∈ ns) = R at hlook ⊢
  clear h1 h2 hx
  go_enter Tryd.func38, Tryd.ntmps38
  go_wp2_with fail
  go_ret
  exact ⟨rfl, Below.refl _ _⟩

set_option maxHeartbeats 2000000 in
theorem among_any {w : World} {v : Value} {S : List Int} (hr : Dm.Reads w v S) (hs : ∀ t ∈ S, -1048576 ≤ t ∧ t ≤ 1048576) (hl : S.length ≤ 1000) :
    Calls Tryd.prog 20 #[v] w fun e w' => ∃ b, e = .returned (.func (.func 38) #[] #[.pointer (some ⟨b, 0, none⟩)]) ∧ Asked w' b S ∧ w.heap.size ≤ b ∧ Below w.heap.size w w' := by
  obtain ⟨p, b, off, c, rfl, hp, hc⟩ := Dm.reads_shape hr
  obtain ⟨n, hn⟩ : ∃ n, n = S.length := ⟨_, rfl⟩
  rw [← hn] at hp hl ⊢
  have HN := Lib.hid hn
  have HC := Lib.hid hc
  have HS := Lib.hid hs
  obtain ⟨W2, hW2⟩ : ∃ W2, W2 = (w.alloc (.map #[] 0)).alloc (.cells #[.map (some w.heap.size)] 67) := ⟨_, rfl⟩
  have hsz : (w.alloc (.map #[] 0)).heap.size = w.heap.size + 1 := by rw [World.size_alloc]
  have HB2 := Lib.hid (show Below w.heap.size w W2 by rw [hW2]; exact below_two (new_below _ _) (new_below _ _))
  have hO2 : Own1 W2 (w.heap.size + 1) 67 (.map (some w.heap.size)) := by rw [hW2, ← hsz]; exact Own1.new _ _ _
  have hM2 : HasAt W2 w.heap.size [] := by rw [hW2]; exact (has_made w).below (new_below _ _)
  have HW2 := Lib.hid hW2
  obtain ⟨bb, hbb⟩ : ∃ bb, bb = w.heap.size + 1 := ⟨_, rfl⟩
  obtain ⟨m, hm⟩ : ∃ m, m = w.heap.size := ⟨_, rfl⟩
  have HBM := Lib.hid (show bb ≠ m ∧ w.heap.size ≤ bb ∧ w.heap.size ≤ m by rw [hbb, hm]; omega)
  have HBQ := Lib.hid (And.intro (show w.heap.size + 1 = bb from hbb.symm) (show Value.map (some w.heap.size) = .map (some m) by rw [hm]))
  have hmk := make_sized (n : Int) w
  rw [← hbb, ← hm] at hO2
  rw [← hm] at hM2
  have HO2 := Lib.hid hO2
  have HM2 := Lib.hid hM2
  clear hr hc hn hs hW2 hsz hO2 hM2 hbb hm
  go_enter Tryd.func20, Tryd.ntmps20
  go_upto_region 2 with fail
  rw [← HW2.out, HBQ.out.2, HBQ.out.1]
  clear hmk
  go_wp2_with fail
  go_loopw [11] (fun i wr => ∃ k : Nat, k ≤ n ∧ i = .int .i64 k ∧ Own1 wr bb 67 (.map (some m)) ∧ HasAt wr m (S.take k) ∧ Below w.heap.size w wr) (fun i _ => n - (intOf i).toNat)
  case atStart => exact ⟨0, by omega, rfl, HO2.out, HM2.out, HB2.out⟩
  case round =>
    rename_i wr
    obtain ⟨k, hk, rfl, hO, hM, hB⟩ := hrel
    have HO := Lib.hid hO
    have HM := Lib.hid hM
    have HB := Lib.hid hB
    by_cases hlt : k < n
    · obtain rfl := hp (by omega)
      have hkS : k < S.length := by have := HN.out; omega
      have d5 : (k : Int) < (n : Int) := by omega
      have cv := cell_below hB (HC.out k hkS)
      have c0 := hO.cell
      have hx := HS.out _ (St.getD_mem hkS)
      have hT : S.take (k + 1) = S.take k ++ [S.getD k 0] := by
        rw [List.take_succ_eq_append_getElem hkS]
        simp [List.getD, List.getElem?_eq_getElem hkS]
      obtain ⟨x, hxe⟩ : ∃ x, x = S.getD k 0 := ⟨_, rfl⟩
      rw [← hxe] at cv hx hT
      obtain ⟨w4, hrun, hM4, hg4⟩ := hM.store hx (by rw [List.length_take]; omega)
      have hO4 : Own1 w4 bb 67 (.map (some m)) := (hg4.block bb hO.lt (fun e => HBM.out.1 (Option.some.inj e))).trans hO
      rw [← hT] at hM4
      have HN4 := Lib.hid (And.intro hO4 (And.intro hM4 (below_grown hB hB.size hg4 (fun q e => by have := HBM.out.2.2; rw [Option.some.injEq] at e; omega))))
      clear hO hM hB hT hxe hx hM4 hg4 hO4
      go_wp2_with fail
      go_roundw
      case rel => exact ⟨k + 1, by omega, by go_num, HN4.out.1, HN4.out.2.1, HN4.out.2.2⟩
      case measure => simp [intOf]; omega
    · obtain rfl : k = n := by omega
      have d6 : ¬ ((k : Int) < (k : Int)) := by omega
      have hM2 := hM
      rw [List.take_of_length_le (by have := HN.out; omega)] at hM2
      have HM2 := Lib.hid hM2
      clear hO hM hB hM2
      go_wp2_with fail
      go_ret
      exact ⟨bb, rfl, ⟨m, HO.out, HM2.out⟩, HBM.out.2.1, HB.out⟩
end Go.Proofs.YtomcgmeekmfdhaaDoor.Ge
namespace Go.Proofs.YtomcgmeekmfdhaaDoor.Ge
open Go.RowKit St
set_option maxRecDepth 100000

/-- is v a place among n? -/
def isPl (n : Nat) (v : Int) : Bool := decide (0 ≤ v) && decide (v < (n : Int))
set_option maxHeartbeats 1000000 in
theorem place_any {w : World} {p : Option Addr} {n c : Nat} (v : Int) :
    Calls Tryd.prog 24 #[.slice p n c, .int .i64 v] w fun e w' => e = .returned (.bool (isPl n v)) ∧ Below w.heap.size w w' := by
  obtain ⟨R, hR⟩ : ∃ R, R = isPl n v := ⟨_, rfl⟩
  rw [← hR]
  by_cases h0 : 0 ≤ v
  · have HR := Lib.hid (show R = decide (v < (n : Int)) by rw [hR]; unfold isPl; rw [decide_eq_true h0]; rfl)
    clear hR
    go_enter Tryd.func24, Tryd.ntmps24
    go_wp2_with fail
    go_ret
    exact ⟨by rw [HR.out]; rfl, Below.refl _ _⟩
  · have HR := Lib.hid (show R = false by rw [hR]; unfold isPl; rw [decide_eq_false h0]; rfl)
    have d0 : decide ((0 : Int) ≤ v) = false := decide_eq_false h0
    clear hR
    go_enter Tryd.func24, Tryd.ntmps24
    go_wp2_with fail
    go_ret
    exact ⟨by rw [HR.out]; rfl, Below.refl _ _⟩

/-- the numbers that stand at some places -/
def standN (nums P : List Int) : List Int := (P.filter (isPl nums.length)).map fun v => nums.getD v.toNat 0
theorem stand_next {nums P : List Int} {k : Nat} (h : k < P.length) : standN nums (P.take (k + 1)) = standN nums (P.take k) ++ (if isPl nums.length (P.getD k 0) = true then [nums.getD (P.getD k 0).toNat 0] else []) := by
  unfold standN
  rw [List.take_succ_eq_append_getElem h, List.filter_append, List.map_append]
  have : P[k] = P.getD k 0 := by simp [List.getD, List.getElem?_eq_getElem h]
  rw [this, List.filter_cons, List.filter_nil]
  split <;> simp
theorem stand_length (nums P : List Int) : (standN nums P).length ≤ P.length := by unfold standN; rw [List.length_map]; exact List.length_filter_le _ _
theorem stand_mem {nums P : List Int} {x : Int} : x ∈ standN nums P ↔ ∃ u ∈ P, atB nums u x = true := by
  unfold standN
  rw [List.mem_map]
  constructor
  · rintro ⟨u, hu, rfl⟩
    obtain ⟨h1, h2⟩ := List.mem_filter.1 hu
    unfold isPl at h2
    rw [Bool.and_eq_true, decide_eq_true_eq, decide_eq_true_eq] at h2
    exact ⟨u, h1, atB_iff.2 ⟨h2.1, by omega, rfl⟩⟩
  · rintro ⟨u, hu, h⟩
    obtain ⟨h1, h2, h3⟩ := atB_iff.1 h
    refine ⟨u, List.mem_filter.2 ⟨hu, ?_⟩, h3⟩
    unfold isPl
    rw [Bool.and_eq_true, decide_eq_true_eq, decide_eq_true_eq]
    exact ⟨h1, by omega⟩

set_option maxHeartbeats 2000000 in
theorem standing_any {w : World} {vn vp : Value} {nums P : List Int} (hr : Dm.Reads w vn nums) (hp : Dm.Reads w vp P) (hl : P.length ≤ 1000) :
    Calls Tryd.prog 25 #[vn, vp] w fun e w' => ∃ r, e = .returned r ∧ Dm.OwnsI w' w.heap.size r (standN nums P) ∧ Below w.heap.size w w' := by
  obtain ⟨p1, b1, o1, c1, rfl, hp1, hc1⟩ := Dm.reads_shape hr
  obtain ⟨p2, b2, o2, c2, rfl, hp2, hc2⟩ := Dm.reads_shape hp
  obtain ⟨n, hn⟩ : ∃ n, n = nums.length := ⟨_, rfl⟩
  obtain ⟨m, hm⟩ : ∃ m, m = P.length := ⟨_, rfl⟩
  rw [← hn] at hp1 ⊢
  rw [← hm] at hp2 hl ⊢
  have HC1 := Lib.hid hc1
  have HC2 := Lib.hid hc2
  have HN := Lib.hid hn
  have HM := Lib.hid hm
  have HP := Lib.hid (fun (u : World) (v : Int) => place_any (w := u) (p := p1) (n := n) (c := c1) v)
  clear hr hp hc1 hc2 hn hm
  go_enter Tryd.func25, Tryd.ntmps25
  go_wp2_with fail
  go_loopw [5, 10] (fun l i wr => ∃ k : Nat, k ≤ m ∧ i = .int .i64 k ∧ Dm.OwnsI wr w.heap.size l (standN nums (P.take k)) ∧ Below w.heap.size w wr) (fun _ i _ => m - (intOf i).toNat)
  case atStart => exact ⟨0, by omega, rfl, World.ownsRow_nil _ _ _ _, Below.refl _ _⟩
  case round =>
    rename_i wr
    obtain ⟨k, hk, rfl, hown, hB⟩ := hrel
    have HO := Lib.hid hown
    have HB := Lib.hid hB
    clear hB
    by_cases hlt : k < m
    · obtain rfl := hp2 (by omega)
      have hkP : k < P.length := by have := HM.out; omega
      have d5 : (k : Int) < (m : Int) := by omega
      have cv := cell_below HB.out (HC2.out k hkP)
      have HS := Lib.hid (stand_next (nums := nums) hkP)
      have HLE := Lib.hid (show (standN nums (P.take k)).length ≤ 1000 from Nat.le_trans (stand_length _ _) (by rw [List.length_take]; omega))
      obtain ⟨x, hx⟩ : ∃ x, x = P.getD k 0 := ⟨_, rfl⟩
      rw [← hx] at cv HS
      obtain ⟨F, hF⟩ : ∃ F, F = standN nums (P.take k) := ⟨_, rfl⟩
      obtain ⟨F2, hF2⟩ : ∃ F, F = standN nums (P.take (k + 1)) := ⟨_, rfl⟩
      rw [← hF] at HO HS HLE
      rw [← hF2, ← HN.out] at HS
      have HF2 := Lib.hid hF2
      clear hown
      obtain ⟨pl, _, cl, rfl, _, _⟩ := Dm.ints_shape HO.out
      have HPX := Lib.hid (fun u => HP.out u x)
      cases hb : isPl n x
      · rw [hb] at HPX HS
        clear hx hF hF2 hb
        go_wp2_with fail
        refine (HPX.out _).mono ?_
        rintro e w2 ⟨rfl, hB2⟩
        have HB2 := Lib.hid (below_two HB.out hB2)
        have HO2 := Lib.hid (owns_below HO.out hB2)
        clear hB2 cv
        go_wp2_with fail
        go_roundw
        case rel => exact ⟨k + 1, by omega, by go_num, by rw [← HF2.out, show F2 = F by rw [HS.out]; simp]; exact HO2.out, HB2.out⟩
        case measure => simp [intOf]; omega
      · have hb2 := hb
        rw [hb] at HPX HS
        unfold isPl at hb2
        rw [Bool.and_eq_true, decide_eq_true_eq, decide_eq_true_eq] at hb2
        obtain ⟨hx0, hxn⟩ := hb2
        obtain ⟨q, rfl⟩ := Int.eq_ofNat_of_zero_le hx0
        obtain rfl := hp1 (by omega)
        have cq := cell_below HB.out (HC1.out q (by have := HN.out; omega))
        rw [Int.toNat_natCast] at HS
        obtain ⟨y, hy⟩ : ∃ y, y = nums.getD q 0 := ⟨_, rfl⟩
        rw [← hy] at cq HS
        clear hx hF hF2 hb hy
        go_wp2_with fail
        refine (HPX.out _).mono ?_
        rintro e w2 ⟨rfl, hB2⟩
        have cq := cell_below hB2 cq
        have HB2 := Lib.hid (below_two HB.out hB2)
        have HO2 := Lib.hid (owns_below HO.out hB2)
        clear hB2 cv
        have HA9 := Lib.hid (owns_below HO2.out (new_below w2 (.cells #[.int .i64 y] 3)))
        have HR9 := Lib.hid (one_reads w2 y)
        have hlen9 : F.length + [y].length ≤ 100000 := by have := HLE.out; simp; omega
        have HLA := Lib.hid (show w.heap.size ≤ (w2.alloc (.cells #[.int .i64 y] 3)).heap.size from Nat.le_trans HB2.out.size (new_below w2 _).size)
        go_wp2_with (at_builtin; refine Dm.wpList_append_ints rfl _ _ rfl w.heap.size _ _ F [y] rfl rfl HA9.out HR9.out hlen9 HLA.out ?_; intro v' w10 hp1 hp2; have HN10 := Lib.hid (And.intro hp1 (ints_grown HA9.out hp2 (below_two HB2.out (new_below w2 _)) HLA.out)); clear hp1 hp2)
        go_roundw
        case rel => exact ⟨k + 1, by omega, by go_num, by rw [← HF2.out, show F2 = F ++ [y] by rw [HS.out]; simp]; exact HN10.out.1, HN10.out.2⟩
        case measure => simp [intOf]; omega
    · obtain rfl : k = m := by omega
      have d6 : ¬ ((k : Int) < (k : Int)) := by omega
      rw [List.take_of_length_le (by have := HM.out; omega)] at HO
      clear hown
      go_wp2_with fail
      go_ret
      exact ⟨_, rfl, HO.out, HB.out⟩
end Go.Proofs.YtomcgmeekmfdhaaDoor.Ge
namespace Go.Proofs.YtomcgmeekmfdhaaDoor.Ge
open Go.RowKit St
set_option maxRecDepth 100000

set_option maxHeartbeats 1000000 in
theorem kept_any {w : World} {v : Value} {xs : List Int} (hr : Dm.Reads w v xs) (hm : xs.length ≤ 64) (x : Nat) (hx : x < 18446744073709551616) (g : Nat) (hE : Enters Tryd.prog g) (env : Array Value) (K : Int → Bool)
    (hf : ∀ u, Below w.heap.size w u → ∀ y ∈ xs, Calls Tryd.prog g (#[.int .i64 y] ++ env) u fun e w' => e = .returned (.bool (K y)) ∧ Below u.heap.size u w') :
    Calls Tryd.prog 22 #[.agg #[v, .int .u64 x], .func (.func g) #[] env] w fun e w' => e = .returned (.int .u64 (Dm.keepN xs x K : Nat)) ∧ Below w.heap.size w w' := by
  obtain ⟨p, b, off, c, rfl, hp, hc⟩ := Dm.reads_shape hr
  obtain ⟨n, hn⟩ : ∃ n, n = xs.length := ⟨_, rfl⟩
  rw [← hn] at hp hm ⊢
  obtain ⟨W0, hW0⟩ : ∃ W0, W0 = w.alloc (.cells #[.slice p n c, .int .u64 x] 47) := ⟨_, rfl⟩
  have HB0 := Lib.hid (show Below w.heap.size w W0 by rw [hW0]; exact new_below _ _)
  have C0 := Lib.hid (show W0.cell? ⟨w.heap.size, 0, none⟩ = some (.slice p n c) ∧ W0.cell? ⟨w.heap.size, 1, none⟩ = some (.int .u64 x) by rw [hW0]; exact ⟨by simp, by simp⟩)
  have HW := Lib.hid hW0
  have HN := Lib.hid hn
  have HC := Lib.hid hc
  have HF := Lib.hid hf
  have HE := Lib.hid hE
  obtain ⟨R, hR⟩ : ∃ R, R = Dm.keepN xs x K := ⟨_, rfl⟩
  rw [← hR]
  have HR := Lib.hid hR
  clear hr hc hn hf hE hW0 hR
  go_enter Tryd.func22, Tryd.ntmps22
  have q0 := C0.out.1
  go_wp2_with fail
  rw [← HW.out]
  go_loopw [5, 12] (fun l i wr => ∃ k : Nat, k ≤ n ∧ i = .int .i64 k ∧ l = .int .u64 (keptTo xs x K k : Nat) ∧ Below W0.heap.size W0 wr) (fun _ i _ => n - (intOf i).toNat)
  case atStart => exact ⟨0, by omega, rfl, by rw [kept_zero]; rfl, Below.refl _ _⟩
  case round =>
    rename_i wr
    obtain ⟨k, hk, rfl, rfl, hB⟩ := hrel
    have HB := Lib.hid hB
    clear hB q0
    by_cases hlt : k < n
    · obtain rfl := hp (by omega)
      have hk6 : k < 64 := by omega
      have d5 : (k : Int) < (n : Int) := by omega
      have q1 := cell_below HB.out C0.out.2
      have hkx : k < xs.length := by have := HN.out; omega
      have cv := cell_below HB.out (cell_below HB0.out (HC.out k hkx))
      have CY := Lib.hid (HF.out wr (below_two HB0.out HB.out) (xs.getD k 0) (getD_mem hkx))
      have w1 := wrap_pow hk6
      have a1 : bits .and .u64 (x : Int) ((2 ^ k : Nat) : Int) = ((x &&& 2 ^ k : Nat) : Int) := bits_and_u64_nat x (2 ^ k) hx (pow_lt hk6)
      have o1 : bits .or .u64 ((keptTo xs x K k : Nat) : Int) ((2 ^ k : Nat) : Int) = ((keptTo xs x K k ||| 2 ^ k : Nat) : Int) := bits_or_u64_nat _ (2 ^ k) (kept_lt _ _ _ _) (pow_lt hk6)
      rw [← w1] at a1 o1
      have KS := Lib.hid (fun h => kept_step (xs := xs) (x := x) (K := K) hk6 h)
      have KN := Lib.hid (fun h => kept_same (xs := xs) (x := x) (K := K) (k := k) h)
      obtain ⟨y, hy⟩ : ∃ y, y = xs.getD k 0 := ⟨_, rfl⟩
      rw [← hy] at cv CY KS KN
      obtain ⟨y0, hy0⟩ : ∃ y, y = keptTo xs x K k := ⟨_, rfl⟩
      rw [← hy0] at KS KN o1 ⊢
      cases hb : x.testBit k
      · have a2 : bits .and .u64 (x : Int) (IntKind.u64.wrap ((2 : Int) ^ k)) = 0 := by rw [a1, (and_pow x k).2 hb]; rfl
        rw [hb] at KN
        clear a1 o1 w1 hy hy0 hb
        go_wp2_with fail
        go_roundw
        case rel => exact ⟨k + 1, by omega, by go_num, by rw [KN.out rfl], HB.out⟩
        case measure => simp [intOf]; omega
      · have hne : x &&& 2 ^ k ≠ 0 := fun h => by rw [(and_pow x k).1 h] at hb; cases hb
        have a2 : ¬ bits .and .u64 (x : Int) (IntKind.u64.wrap ((2 : Int) ^ k)) = 0 := by rw [a1]; omega
        rw [hb] at KS KN
        clear a1 w1 hy hy0 hb hne
        cases hKy : K y
        · rw [hKy] at CY KN
          clear o1
          go_wp2_with fail
          simp only [HE.out _ _]
          refine CY.out.mono ?_
          rintro e w2 ⟨rfl, hB2⟩
          have HB2 := Lib.hid (below_two HB.out hB2)
          clear hB2
          go_wp2_with fail
          go_roundw
          case rel => exact ⟨k + 1, by omega, by go_num, by rw [KN.out rfl], HB2.out⟩
          case measure => simp [intOf]; omega
        · rw [hKy] at CY KS
          go_wp2_with fail
          simp only [HE.out _ _]
          refine CY.out.mono ?_
          rintro e w2 ⟨rfl, hB2⟩
          have HB2 := Lib.hid (below_two HB.out hB2)
          clear hB2
          go_wp2_with fail
          go_roundw
          case rel => exact ⟨k + 1, by omega, by go_num, by rw [KS.out rfl, ← o1], HB2.out⟩
          case measure => simp [intOf]; omega
    · have d6 : ¬ ((k : Int) < (n : Int)) := by omega
      have e : R = keptTo xs x K k := by rw [HR.out, ← kept_all]; congr 1; have := HN.out; omega
      rw [← e]
      clear e
      go_wp2_with fail
      go_ret
      exact ⟨rfl, below_two HB0.out HB.out⟩
end Go.Proofs.YtomcgmeekmfdhaaDoor.Ge
