/-
  What Keep of the document's answers for steps answers: domains, of which lists are left.
  What Same of the document's answers for steps answers: are domains the same?
  Contrary rels, signs that are turned, and Iff, over plain data. Nothing of the program.
-/
import Derived.Test.YtiaibggbbkhjlaaDoorZYAU
import Derived.Test.YtiaibggbbkhjlaaDoorZYBA
namespace Go.Proofs.YtiaibggbbkhjlaaDoor.St
open Go.RowKit
set_option maxRecDepth 100000

def keepOf (d : List Int × Nat) (l : List Int) : List Int × Nat := (Dm.keepX d.1 d.2, Dm.keepL d.1 d.2 (fun y => decide (y ∈ l)))
/-- what is left of the first j domains -/
def keepTo (L : List (List Int × Nat)) (M : List (List Int)) (j : Nat) : List (List Int × Nat) := (List.range j).map fun k => keepOf (L.getD k ([], 0)) (M.getD k [])
theorem keepTo_succ (L : List (List Int × Nat)) (M : List (List Int)) (j : Nat) : keepTo L M (j + 1) = keepTo L M j ++ [keepOf (L.getD j ([], 0)) (M.getD j [])] := by
  unfold keepTo
  rw [List.range_succ, List.map_append]
  rfl
theorem keepTo_length (L : List (List Int × Nat)) (M : List (List Int)) (j : Nat) : (keepTo L M j).length = j := by simp [keepTo]
theorem keepL_lt (xs : List Int) (x : Nat) (p : Int → Bool) : Dm.keepL xs x p < 18446744073709551616 := by
  unfold Dm.keepL
  split
  · exact Dm.keep_lt _ _ _
  · decide

theorem made_dom {w7 : World} {base : Nat} {v7 : Value} {xs : List Int} {x : Nat} {m : List Int} (hr : Dm.OwnsI w7 base v7 (Dm.keepX xs x)) :
    ∃ (p7 : Option Addr) (cap7 y7 n7 : Nat), v7 = .slice p7 n7 cap7 ∧ domP w7 [.slice p7 n7 cap7, .int .u64 y7] (keepOf (xs, x) m) ∧ y7 = Dm.keepL xs x (fun y => decide (y ∈ m)) := by
  obtain ⟨p7, g7, cap7, e, _, _⟩ := Dm.ints_shape hr
  exact ⟨p7, cap7, _, _, e, ⟨_, rfl, e ▸ owns_low hr (Nat.zero_le _), keepL_lt _ _ _⟩, rfl⟩

set_option maxHeartbeats 4000000 in
theorem rskeep_any {w : World} {v vl : Value} {L : List (List Int × Nat)} {M : List (List Int)} (h : Slc rDom 2 w v L) (hM : ListsAt w 0 vl M) (hn : L.length ≤ 1000) (hm : ∀ d ∈ L, d.1.length ≤ 1000) (hl : L.length = M.length) (hml : ∀ l ∈ M, l.length ≤ 1000) :
    Calls Tryd.prog 31 #[v, vl] w fun e w' => ∃ r, e = .returned r ∧ DomsAt w' w.heap.size r (keepTo L M L.length) ∧ Below w.heap.size w w' := by
  obtain ⟨p, b, off, c, len, rfl, _, hs⟩ := h
  have hll := hs.long
  have hp := hs.at_
  have HL := Lib.hid hll
  have HS := Lib.hid hs
  have HM := Lib.hid hm
  have HML := Lib.hid hml
  have HLM := Lib.hid hl
  have HX := Lib.hid hM
  have hlen : len ≤ 1000 := by omega
  obtain ⟨R, hR⟩ : ∃ R, R = keepTo L M L.length := ⟨_, rfl⟩
  rw [← hR]
  have HR := Lib.hid hR
  clear hs hm hR hll hn hM hl hml
  go_enter Tryd.func31, Tryd.ntmps31
  go_wp2_with fail
  go_loopw [5, 6] (fun out i wr => ∃ k : Nat, k ≤ len ∧ i = .int .i64 k ∧ DomsAt wr w.heap.size out (keepTo L M k) ∧ Below w.heap.size w wr) (fun _ i _ => len - (intOf i).toNat)
  case atStart => exact ⟨0, by omega, rfl, ownsP_made _ _ _ _ (Nat.le_refl _), new_below _ _⟩
  case round =>
    rename_i out wr
    obtain ⟨k, hk, rfl, hown, hB⟩ := hrel
    have HO := Lib.hid hown
    have HB := Lib.hid hB
    clear hown hB
    by_cases hlt : k < len
    · obtain rfl := hp (by omega)
      have hlL : k < L.length := by have := HL.out; omega
      have hlM : k < M.length := by have := HLM.out; omega
      obtain ⟨u, c0, c1, hrd, hx, _⟩ := dom_at (HS.out.below rDom_stays HB.out) hlt
      obtain ⟨g, capl, ul, rfl, _, _, _, cl, _, hul⟩ := (HX.out.below HB.out).row hlM
      have hy := keepTo_succ L M k
      have hmk : (L.getD k ([], 0)).1.length ≤ 1000 := HM.out _ (by rw [List.getD_eq_getElem?_getD, List.getElem?_eq_getElem hlL]; exact List.getElem_mem hlL)
      have hmm : (M.getD k []).length ≤ 1000 := HML.out _ (by rw [List.getD_eq_getElem?_getD, List.getElem?_eq_getElem hlM]; exact List.getElem_mem hlM)
      have dm : (k : Int) < (M.length : Int) := by omega
      obtain ⟨d, hd⟩ : ∃ d, d = L.getD k ([], 0) := ⟨_, rfl⟩
      obtain ⟨m, hmd⟩ : ∃ m, m = M.getD k [] := ⟨_, rfl⟩
      rw [← hd] at c1 hrd hx hy hmk
      rw [← hmd] at hy hmm hul
      obtain ⟨xs, x⟩ := d
      have HY := Lib.hid hy
      have LX := Lib.hid (fun q => Dm.rkeep_any (Dm.readsN_below hrd (below_drewN (n := q) (Below.refl _ wr))) (owns_reads (owns_below hul (below_drewN (n := q) (Below.refl _ wr)))) hmk hmm x hx)
      have d5 : (k : Int) < (len : Int) := by omega
      have hl7 := keepTo_length L M k
      obtain ⟨N, hN⟩ : ∃ N, N = keepTo L M k := ⟨_, rfl⟩
      rw [← hN] at HO hl7 HY
      have hl6 : N.length ≤ 100000 := by omega
      clear hd hrd hy hmk hN hlL hmm hmd hul
      go_wp2
      go_region_law (first
        | (refine put_row_step infoDom rfl (by decide) (by decide) Tryd.underlying31 rfl _ _ rfl rfl rfl HAV.out rfl HCV.out (by simp [Value.oneCell']) HSN.out hl6 HLV.out ?_; intro p8 cap8 w8 hp1 hp2 hp3; have HN := Lib.hid (doms_put HAV.out hp1 hp2 HLB.out HLV.out); clear hp1 hp2 hp3)
        | (go_simp; go_at_call 45; refine (LX.out _).mono ?_; rintro e w7 ⟨r, rfl, ⟨v7, rfl, hr⟩, hB7⟩; obtain ⟨p7, cap7, y7, n7, rfl, hSN, hYX⟩ := made_dom hr; rw [← hYX]; have HBW := Lib.hid (below_two (below_drewN (n := 1) (Below.refl _ wr)) hB7); have B7 := Lib.hid (new_below w7 (.cells #[.slice p7 n7 cap7, .int .u64 y7] 66)); have HAV := Lib.hid ((HO.out.below HBW.out).below B7.out); have HCV := Lib.hid (two_cells w7 (.slice p7 n7 cap7) (.int .u64 y7) 66); have HSN := Lib.hid (domP_below hSN B7.out); have HLB := Lib.hid (below_two (below_two HB.out HBW.out) B7.out); have HLV := Lib.hid HLB.out.size; clear hr hB7 hSN hYX))
      all_goals go_wp2_with fail
      all_goals
        go_roundw
        case rel => exact ⟨k + 1, by omega, by go_num, by have h := HN.out.1; rw [hl7] at h; rw [HY.out]; exact h, HN.out.2⟩
        case measure => simp [intOf]; omega
    · have d6 : ¬ ((k : Int) < (len : Int)) := by omega
      have hall : R = keepTo L M k := by rw [HR.out]; congr 1; have := HL.out; omega
      rw [← hall] at HO
      clear hall
      go_wp2_with fail
      go_ret
      exact ⟨_, rfl, HO.out, HB.out⟩
end Go.Proofs.YtiaibggbbkhjlaaDoor.St
namespace Go.Proofs.YtiaibggbbkhjlaaDoor.St
open Go.RowKit
set_option maxRecDepth 100000

/-- one of the domains of one's own -/
theorem DomsAt.dom {w : World} {base : Nat} {v : Value} {L : List (List Int × Nat)} (h : DomsAt w base v L) {k : Nat} (hk : k < L.length) : ∃ g cap u, v = .slice (some ⟨g, 0, none⟩) L.length cap ∧ base ≤ g ∧ g < w.heap.size ∧ (∃ cs, w.heap[g]? = some (.cells cs 66)) ∧ w.cell? ⟨g, k * 2, none⟩ = some u ∧ w.cell? ⟨g, k * 2 + 1, none⟩ = some (.int .u64 (L.getD k ([], 0)).2) ∧ Dm.OwnsI w 0 u (L.getD k ([], 0)).1 ∧ (L.getD k ([], 0)).2 < 18446744073709551616 := by
  obtain ⟨cs, h1, h2, h3⟩ := h
  have h0 := h1
  rcases h1.2 with ⟨rfl, hl⟩ | ⟨g, cap, cur, rfl, hb, hg, hn, hc, hs, ht⟩
  · omega
  · obtain ⟨c, c1, c2, u, rfl, hu, hlt⟩ := h3 k _ (List.getElem?_eq_getElem hk)
    have h5 := h0.cellAt (k * 2 + 0) (by omega)
    have h6 := h0.cellAt (k * 2 + 1) (by omega)
    rw [c2 0 (by omega)] at h5
    rw [c2 1 (by omega)] at h6
    have e : L.getD k ([], 0) = L[k] := by simp [List.getD, List.getElem?_eq_getElem hk]
    rw [e]
    exact ⟨g, cap, u, rfl, hb, (Array.getElem?_eq_some_iff.1 hg).1, ⟨cur, hg⟩, by simpa using h5, by simpa using h6, hu, hlt⟩

/-- are the first j the same? -/
def sameTo (A B : List (List Int × Nat)) (j : Nat) : Bool := (List.range j).all fun k => A.getD k ([], 0) == B.getD k ([], 0)
theorem sameTo_succ (A B : List (List Int × Nat)) (j : Nat) : sameTo A B (j + 1) = (sameTo A B j && (A.getD j ([], 0) == B.getD j ([], 0))) := by
  unfold sameTo
  rw [List.range_succ, List.all_append]
  simp
theorem sameTo_false {A B : List (List Int × Nat)} {k n : Nat} (h : sameTo A B (k + 1) = false) (hn : k < n) : sameTo A B n = false := by
  unfold sameTo at h ⊢
  rw [List.all_eq_false] at h ⊢
  obtain ⟨i, hi, q⟩ := h
  exact ⟨i, List.mem_range.2 (by have := List.mem_range.1 hi; omega), q⟩
theorem sameTo_all {A B : List (List Int × Nat)} (h : A.length = B.length) : sameTo A B A.length = decide (A = B) := by
  rw [Bool.eq_iff_iff, decide_eq_true_iff]
  unfold sameTo
  rw [List.all_eq_true]
  constructor
  · intro q
    refine List.ext_getElem h fun i h1 h2 => ?_
    have := q i (List.mem_range.2 h1)
    simpa [List.getD, List.getElem?_eq_getElem h1, List.getElem?_eq_getElem h2] using this
  · rintro rfl i _
    simp

set_option maxHeartbeats 4000000 in
theorem rssame_any {w : World} {u v : Value} {A B : List (List Int × Nat)} (hA : DomsAt w 0 u A) (hB : DomsAt w 0 v B) (ha : ∀ d ∈ A, d.1.length ≤ 1000) (hb : ∀ d ∈ B, d.1.length ≤ 1000) (hn : A.length ≤ 1000) (_ : B.length ≤ 1000) :
    Calls Tryd.prog 12 #[u, v] w fun e w' => e = .returned (.bool (decide (A = B))) ∧ Below w.heap.size w w' := by
  obtain ⟨pa, ca, rfl⟩ := hA.shape
  obtain ⟨pb, cb, rfl⟩ := hB.shape
  by_cases hlen : A.length = B.length
  · have HA := Lib.hid hA
    have HB := Lib.hid hB
    have QA := Lib.hid ha
    have QB := Lib.hid hb
    have HLL := Lib.hid hlen
    obtain ⟨R, hR⟩ : ∃ R, R = decide (A = B) := ⟨_, rfl⟩
    rw [← hR]
    have HR := Lib.hid (hR.trans (sameTo_all hlen).symm)
    rw [← hlen] at HB ⊢
    obtain ⟨n, hn2⟩ : ∃ n, n = A.length := ⟨_, rfl⟩
    rw [← hn2] at HA HB hn HR ⊢
    have HN := Lib.hid hn2
    have H0 := Lib.hid (show sameTo A B 0 = true from rfl)
    clear hA hB ha hb hlen hR hn2
    go_enter Tryd.func12, Tryd.ntmps12
    go_wp2_with fail
    go_loopw [5] (fun i wr => ∃ k : Nat, k ≤ n ∧ i = .int .i64 k ∧ sameTo A B k = true ∧ Below w.heap.size w wr) (fun i _ => n - (intOf i).toNat)
    case atStart => exact ⟨0, by omega, rfl, H0.out, Below.refl _ _⟩
    case round =>
      rename_i wr
      obtain ⟨k, hk, rfl, hs, hBl⟩ := hrel
      have HBl := Lib.hid hBl
      have HS := Lib.hid hs
      clear hBl hs
      by_cases hlt : k < n
      · have hkA : k < A.length := by have := HN.out; omega
        have hkB : k < B.length := by have := HLL.out; omega
        obtain ⟨g, cap, x, ea, _, _, _, a0, a1, ox, hx⟩ := (HA.out.below HBl.out).dom hkA
        obtain ⟨g', cap', y, eb, _, _, _, b0, b1, oy, hy⟩ := (HB.out.below HBl.out).dom hkB
        simp only [Value.slice.injEq] at ea eb
        obtain ⟨rfl, _, _⟩ := ea
        obtain ⟨rfl, _, _⟩ := eb
        have hs2 := sameTo_succ A B k
        rw [HS.out, Bool.true_and] at hs2
        have q1 := QA.out (A.getD k ([], 0)) (by rw [List.getD_eq_getElem?_getD, List.getElem?_eq_getElem hkA]; exact List.getElem_mem hkA)
        have q2 := QB.out (B.getD k ([], 0)) (by rw [List.getD_eq_getElem?_getD, List.getElem?_eq_getElem hkB]; exact List.getElem_mem hkB)
        obtain ⟨d1, hd1⟩ : ∃ d, d = A.getD k ([], 0) := ⟨_, rfl⟩
        obtain ⟨d2, hd2⟩ : ∃ d, d = B.getD k ([], 0) := ⟨_, rfl⟩
        rw [← hd1] at a1 ox hx hs2 q1
        rw [← hd2] at b1 oy hy hs2 q2
        obtain ⟨xs, nx⟩ := d1
        obtain ⟨ys, ny⟩ := d2
        have LX := Lib.hid (fun q => Dm.rdsame_any (x := nx) (y := ny) (owns_reads (owns_below ox (below_drewN (n := q) (Below.refl _ wr)))) (owns_reads (owns_below oy (below_drewN (n := q) (Below.refl _ wr)))) (Nat.le_trans q1 (by decide)) (Nat.le_trans q2 (by decide)))
        obtain ⟨G, hG⟩ : ∃ G, G = (decide (nx = ny) && (xs == ys)) := ⟨_, rfl⟩
        have HG := Lib.hid (show sameTo A B (k + 1) = G by rw [hs2, hG]; show ((xs == ys) && (nx == ny)) = _; rw [Bool.and_comm]; rfl)
        rw [← hG] at LX
        have d5 : (k : Int) < (n : Int) := by omega
        clear hG hd1 hd2 ox oy q1 q2 hs2 hkA hkB
        go_upto_region 6 with fail
        cases G
        · go_region_law (go_simp; go_at_call 34; refine (LX.out _).mono ?_; rintro e w7 ⟨rfl, hB7⟩; have HB7 := Lib.hid (below_two HBl.out (below_two (below_drewN (n := 1) (Below.refl _ wr)) hB7)); clear hB7)
          all_goals go_wp2_with fail
          all_goals go_ret
          all_goals exact ⟨by rw [HR.out, sameTo_false HG.out (by have := HN.out; omega)]; rfl, HB7.out⟩
        · go_region_law (go_simp; go_at_call 34; refine (LX.out _).mono ?_; rintro e w7 ⟨rfl, hB7⟩; have HB7 := Lib.hid (below_two HBl.out (below_two (below_drewN (n := 1) (Below.refl _ wr)) hB7)); clear hB7)
          all_goals go_wp2_with fail
          all_goals
            go_roundw
            case rel => exact ⟨k + 1, by omega, by go_num, HG.out, HB7.out⟩
            case measure => simp [intOf]; omega
      · have d6 : ¬ ((k : Int) < (n : Int)) := by omega
        obtain rfl : k = n := by omega
        go_wp2_with fail
        go_ret
        exact ⟨by rw [HR.out, HS.out]; rfl, HBl.out⟩
  · have hne : A ≠ B := fun e => hlen (by rw [e])
    have d1 : ¬ ((A.length : Int) = (B.length : Int)) := by omega
    have HE := Lib.hid (show decide (A = B) = false from decide_eq_false hne)
    go_enter Tryd.func12, Tryd.ntmps12
    go_wp2_with fail
    go_ret
    exact ⟨by rw [HE.out]; rfl, Below.refl _ _⟩
end Go.Proofs.YtiaibggbbkhjlaaDoor.St
namespace Go.Proofs.YtiaibggbbkhjlaaDoor.Gr
set_option maxRecDepth 100000

theorem sum_like {row row' : List Int} : ∀ (l : List (Int × Int)) (n : Int), (∀ p ∈ l, val row p.1 = val row' p.1) → sumG row n l = sumG row' n l
  | [], _, _ => rfl
  | (v, k) :: l, n, h => by
    have e : val row v = val row' v := h (v, k) (by simp)
    simp only [sumG, e]
    exact sum_like l _ fun p hp => h p (by simp [hp])
theorem sumH_like {row row' vs ks : List Int} {rel const : Int} (h : ∀ v ∈ vs, val row v = val row' v) : sumH row vs ks rel const = sumH row' vs ks rel const := by
  unfold sumH
  rw [sum_like (vs.zip ks) 0 fun p hp => h p.1 (List.of_mem_zip hp).1]
theorem vars_in {vs : List Int} {n : Int} (h : VarsTo vs n vs.length) {v : Int} (hv : v ∈ vs) : 0 ≤ v ∧ v < n := by
  obtain ⟨i, hi, e⟩ := List.getElem_of_mem hv
  have := (h i hi).1
  rw [List.getD_eq_getElem?_getD, List.getElem?_eq_getElem hi] at this
  simpa [e] using this
theorem val_old {row : List Int} {x v : Int} (h : 0 ≤ v ∧ v < row.length) : val (row ++ [x]) v = val row v := by
  unfold val
  rw [List.getD_eq_getElem?_getD, List.getD_eq_getElem?_getD, List.getElem?_append_left (by omega)]
theorem val_new {row : List Int} {x : Int} : val (row ++ [x]) (row.length : Int) = x := by
  unfold val
  rw [List.getD_eq_getElem?_getD]
  simp
theorem rowOk_more {row : List Int} {x : Int} : rowOk (row ++ [x]) = (rowOk row && okN x) := by simp [rowOk]
theorem vars_more {vs : List Int} {n : Int} (h : VarsTo vs n vs.length) (hn : 0 ≤ n) : VarsTo (n :: vs) (n + 1) (n :: vs).length := by
  intro i hi
  cases i with
  | zero => exact ⟨by simp; omega, fun j hj => by omega⟩
  | succ i =>
    have hi' : i < vs.length := by simpa using hi
    obtain ⟨⟨h1, h2⟩, h3⟩ := h i hi'
    refine ⟨by simp only [List.getD_cons_succ]; omega, fun j hj => ?_⟩
    cases j with
    | zero => simp only [List.getD_cons_zero, List.getD_cons_succ]; omega
    | succ j => simp only [List.getD_cons_succ]; exact h3 j (by omega)

theorem rightG_one {c : PCon} {row : List Int} : rightG [c] row = (rowOk row && rightC c (row.length : Int)) := by simp [rightG]
theorem allG_one {c : PCon} {row : List Int} : allG [c] row = (rightG [c] row && holdsG c row) := by simp [allG]
theorem allG_is {c : PCon} {row : List Int} (h : rightG [c] row = true) : allG [c] row = holdsG c row := by rw [allG_one, h, Bool.true_and]

def contraryC (c : PCon) : PCon := { c with rel := contraryR c.rel }
def turnC (c : PCon) : PCon := { c with rel := aboutR c.rel, const := -c.const, coefs := c.coefs.map fun k => -k }
def iffC (c : PCon) (n : Int) : PCon := ⟨3, n :: c.vars, c.coefs, c.rel, c.const, []⟩

open Classical in
/-- a linear constraint that may be -/
theorem lin_on {c : PCon} {n : Int} (hk : c.kind = 1) : rightC c n = true ↔ VarsTo c.vars n c.vars.length ∧ (c.coefs.all (fun x => !decide (x = 0)) && linR 0 c) = true := by
  by_cases h : VarsTo c.vars n c.vars.length
  · rw [right_on h, if_pos hk]; simp [h]
  · rw [right_bad h]; simp [h]
theorem lin_parts {c : PCon} {b : Int} : linR b c = true ↔ (1 ≤ (c.vars.length : Int) - b ∧ (c.vars.length : Int) - b ≤ 8 ∧ (c.coefs.length : Int) = (c.vars.length : Int) - b ∧ allN c.coefs 1048576 = true ∧ 0 ≤ c.rel ∧ c.rel ≤ 5 ∧ allN [c.const] 1099511627776 = true ∧ c.nums.length = 0) := by
  unfold linR
  simp only [Bool.and_eq_true, decide_eq_true_eq]
theorem rel_contrary {r : Int} (h : 0 ≤ r ∧ r ≤ 5) : 0 ≤ contraryR r ∧ contraryR r ≤ 5 := by
  rcases (by omega : r = 0 ∨ r = 1 ∨ r = 2 ∨ r = 3 ∨ r = 4 ∨ r = 5) with rfl | rfl | rfl | rfl | rfl | rfl <;> decide
theorem rel_about {r : Int} (h : 0 ≤ r ∧ r ≤ 5) : 0 ≤ aboutR r ∧ aboutR r ≤ 5 := by
  rcases (by omega : r = 0 ∨ r = 1 ∨ r = 2 ∨ r = 3 ∨ r = 4 ∨ r = 5) with rfl | rfl | rfl | rfl | rfl | rfl <;> decide
theorem allN_neg {xs : List Int} {m : Int} : allN (xs.map fun k => -k) m = allN xs m := by
  unfold allN
  rw [List.all_map]
  refine List.all_congr rfl fun x => ?_
  simp only [Function.comp]
  rw [Bool.eq_iff_iff]
  simp only [Bool.and_eq_true, decide_eq_true_eq]
  omega
theorem nonzero_neg {xs : List Int} : (xs.map fun k => -k).all (fun x => !decide (x = 0)) = xs.all (fun x => !decide (x = 0)) := by
  rw [List.all_map]
  refine List.all_congr rfl fun x => ?_
  simp only [Function.comp]
  rw [Bool.eq_iff_iff]
  simp only [Bool.not_eq_true', decide_eq_false_iff_not]
  omega

section
variable {c : PCon} {row : List Int} (hk : c.kind = 1) (hr : rightG [c] row = true)
include hk hr
theorem lin_have : rowOk row = true ∧ VarsTo c.vars row.length c.vars.length ∧ c.coefs.all (fun x => !decide (x = 0)) = true ∧ linR 0 c = true := by
  rw [rightG_one] at hr
  simp only [Bool.and_eq_true] at hr
  obtain ⟨h1, h2⟩ := hr
  obtain ⟨h3, h4⟩ := (lin_on hk).1 h2
  simp only [Bool.and_eq_true] at h4
  exact ⟨h1, h3, h4.1, h4.2⟩
theorem contrary_right : rightG [contraryC c] row = true := by
  obtain ⟨h1, h2, h3, h4⟩ := lin_have hk hr
  rw [rightG_one, h1, Bool.true_and]
  refine (lin_on (c := contraryC c) hk).2 ⟨h2, ?_⟩
  simp only [Bool.and_eq_true]
  obtain ⟨a, b, d, e, f, g, i, j⟩ := lin_parts.1 h4
  obtain ⟨f', g'⟩ := rel_contrary ⟨f, g⟩
  exact ⟨h3, lin_parts.2 ⟨a, b, d, e, f', g', i, j⟩⟩
theorem turn_right : rightG [turnC c] row = true := by
  obtain ⟨h1, h2, h3, h4⟩ := lin_have hk hr
  rw [rightG_one, h1, Bool.true_and]
  refine (lin_on (c := turnC c) hk).2 ⟨h2, ?_⟩
  simp only [Bool.and_eq_true]
  obtain ⟨a, b, d, e, f, g, i, j⟩ := lin_parts.1 h4
  obtain ⟨f', g'⟩ := rel_about ⟨f, g⟩
  refine ⟨nonzero_neg.trans h3, lin_parts.2 ⟨a, b, ?_, allN_neg.trans e, f', g', ?_, j⟩⟩
  · simpa [turnC] using d
  · exact (allN_neg (xs := [c.const])).trans i
theorem iff_right {x : Int} (hx : okN x = true) : rightG [iffC c row.length] (row ++ [x]) = true := by
  obtain ⟨h1, h2, h3, h4⟩ := lin_have hk hr
  rw [rightG_one, rowOk_more, h1, hx, Bool.true_and, Bool.true_and]
  obtain ⟨a, b, d, e, f, g, i, j⟩ := lin_parts.1 h4
  have e1 : ((row ++ [x]).length : Int) = (row.length : Int) + 1 := by simp
  rw [e1]
  have hv : VarsTo (iffC c row.length).vars ((row.length : Int) + 1) (iffC c row.length).vars.length := vars_more h2 (by omega)
  rw [right_on hv, if_neg (show ¬ (iffC c row.length).kind = 1 from by show ¬ (3 : Int) = 1; decide), if_pos (show (iffC c row.length).kind = 3 from rfl)]
  simp only [Bool.and_eq_true]
  refine ⟨h3, lin_parts.2 ⟨?_, ?_, ?_, e, f, g, i, rfl⟩⟩
  · simp only [iffC, List.length_cons]; omega
  · simp only [iffC, List.length_cons]; omega
  · simp only [iffC, List.length_cons]; omega
omit hr in
theorem lin_is_sum : holdsG c row = sumH row c.vars c.coefs c.rel c.const := by unfold holdsG; rw [if_pos hk]
theorem contrary_law : allG [contraryC c] row = !allG [c] row := by
  obtain ⟨h1, h2, h3, h4⟩ := lin_have hk hr
  obtain ⟨a, b, d, e, f, g, i, j⟩ := lin_parts.1 h4
  rw [allG_is hr, allG_is (contrary_right hk hr), lin_is_sum hk]
  unfold holdsG
  rw [if_pos (show (contraryC c).kind = 1 from hk)]
  exact holds_contrary ⟨f, g⟩
theorem turn_law : allG [turnC c] row = allG [c] row := by
  obtain ⟨h1, h2, h3, h4⟩ := lin_have hk hr
  obtain ⟨a, b, d, e, f, g, i, j⟩ := lin_parts.1 h4
  rw [allG_is hr, allG_is (turn_right hk hr), lin_is_sum hk]
  unfold holdsG
  rw [if_pos (show (turnC c).kind = 1 from hk)]
  show Su.holdsB (sumG row 0 (c.vars.zip (c.coefs.map fun k => -k))) (aboutR c.rel) (-c.const) = _
  have e0 := sum_turned row c.vars c.coefs 0
  rw [Int.neg_zero] at e0
  rw [e0]
  exact holds_about ⟨f, g⟩
theorem iff_law {x : Int} (hx : okN x = true) : allG [iffC c row.length] (row ++ [x]) = (decide (x = 0 ∨ x = 1) && (allG [c] row == decide (x = 1))) := by
  obtain ⟨h1, h2, h3, h4⟩ := lin_have hk hr
  rw [allG_is hr, allG_is (iff_right hk hr hx), lin_is_sum hk]
  unfold holdsG
  rw [if_neg (show ¬ (iffC c row.length).kind = 1 from by show ¬ (3 : Int) = 1; decide), if_neg (show ¬ (iffC c row.length).kind = 2 from by show ¬ (3 : Int) = 2; decide), if_pos (show (iffC c row.length).kind = 3 from rfl)]
  have e1 : val (row ++ [x]) ((iffC c row.length).vars.getD 0 0) = x := val_new
  rw [e1]
  congr 2
  exact sumH_like fun v hv => val_old (vars_in h2 hv)
theorem iff_one : allG [iffC c row.length] (row ++ [1]) = allG [c] row := by rw [iff_law hk hr (by decide)]; simp
theorem iff_zero : allG [iffC c row.length] (row ++ [0]) = !allG [c] row := by rw [iff_law hk hr (by decide)]; simp
theorem iff_two : allG [iffC c row.length] (row ++ [2]) = false := by rw [iff_law hk hr (by decide)]; simp
end
end Go.Proofs.YtiaibggbbkhjlaaDoor.Gr
