/-
  What ends of the document's answers for linear steps answers: the least and the greatest sum of variables, but one.
-/
import Derived.Test.YtakooocmnapjmaaDoorZYAX
namespace Go.Proofs.YtakooocmnapjmaaDoor.St
open Go.RowKit
set_option maxRecDepth 100000

/-- what one variable's part of a sum may be, least and greatest -/
def endK (vars ks : List Int) (M : List (List Int)) (k : Nat) : Int × Int :=
  let l := M.getD (vars.getD k 0).toNat []
  let a := ks.getD k 0 * l.getD 0 0
  let b := ks.getD k 0 * l.getD (l.length - 1) 0
  if b < a then (b, a) else (a, b)
def endsTo (vars ks : List Int) (M : List (List Int)) (but : Int) : Nat → Int × Int
  | 0 => (0, 0)
  | j + 1 => if (j : Int) = but then endsTo vars ks M but j else ((endsTo vars ks M but j).1 + (endK vars ks M j).1, (endsTo vars ks M but j).2 + (endK vars ks M j).2)
/-- variables of which something is left, coefs and values that are small -/
structure Ok (vars ks : List Int) (M : List (List Int)) : Prop where
  vin : ∀ k, k < vars.length → 0 ≤ vars.getD k 0 ∧ vars.getD k 0 < (M.length : Int) ∧ 0 < (M.getD (vars.getD k 0).toNat []).length
  small : ∀ l ∈ M, l.length ≤ 1000 ∧ ∀ x ∈ l, -1048576 ≤ x ∧ x ≤ 1048576
  long : vars.length ≤ ks.length
  kb : ∀ k, k < ks.length → -1048576 ≤ ks.getD k 0 ∧ ks.getD k 0 ≤ 1048576
  few : vars.length ≤ 1000
theorem mul_le {a b : Int} (ha : -1048576 ≤ a ∧ a ≤ 1048576) (hb : -1048576 ≤ b ∧ b ≤ 1048576) : -1099511627776 ≤ a * b ∧ a * b ≤ 1099511627776 := by
  have h : (a * b).natAbs ≤ 1048576 * 1048576 := by
    rw [Int.natAbs_mul]
    exact Nat.mul_le_mul (by omega) (by omega)
  omega
theorem Ok.row {vars ks : List Int} {M : List (List Int)} (h : Ok vars ks M) {k : Nat} (hk : k < vars.length) {i : Nat} (hi : i < (M.getD (vars.getD k 0).toNat []).length) : -1048576 ≤ (M.getD (vars.getD k 0).toNat []).getD i 0 ∧ (M.getD (vars.getD k 0).toNat []).getD i 0 ≤ 1048576 := by
  have hv := h.vin k hk
  have hlt : (vars.getD k 0).toNat < M.length := by omega
  refine (h.small (M.getD (vars.getD k 0).toNat []) (by rw [List.getD_eq_getElem?_getD, List.getElem?_eq_getElem hlt]; exact List.getElem_mem hlt)).2 _ ?_
  obtain ⟨l, hl⟩ : ∃ l, l = M.getD (vars.getD k 0).toNat [] := ⟨_, rfl⟩
  rw [← hl] at hi ⊢
  rw [List.getD_eq_getElem?_getD, List.getElem?_eq_getElem hi]
  exact List.getElem_mem hi
theorem Ok.mul {vars ks : List Int} {M : List (List Int)} (h : Ok vars ks M) {k : Nat} (hk : k < vars.length) {i : Nat} (hi : i < (M.getD (vars.getD k 0).toNat []).length) : -1099511627776 ≤ ks.getD k 0 * (M.getD (vars.getD k 0).toNat []).getD i 0 ∧ ks.getD k 0 * (M.getD (vars.getD k 0).toNat []).getD i 0 ≤ 1099511627776 :=
  mul_le (h.kb k (by have := h.long; omega)) (h.row hk hi)
theorem Ok.end_le {vars ks : List Int} {M : List (List Int)} (h : Ok vars ks M) {k : Nat} (hk : k < vars.length) : -1099511627776 ≤ (endK vars ks M k).1 ∧ (endK vars ks M k).1 ≤ (endK vars ks M k).2 ∧ (endK vars ks M k).2 ≤ 1099511627776 := by
  have hv := (h.vin k hk).2.2
  have h1 := h.mul hk hv
  have h2 := h.mul hk (i := (M.getD (vars.getD k 0).toNat []).length - 1) (by omega)
  unfold endK
  simp only
  split <;> simp only <;> omega
theorem Ok.ends_le {vars ks : List Int} {M : List (List Int)} (h : Ok vars ks M) (but : Int) : ∀ j, j ≤ vars.length → -(1099511627776 * (j : Int)) ≤ (endsTo vars ks M but j).1 ∧ (endsTo vars ks M but j).1 ≤ (endsTo vars ks M but j).2 ∧ (endsTo vars ks M but j).2 ≤ 1099511627776 * (j : Int)
  | 0, _ => by simp [endsTo]
  | j + 1, hj => by
    have h1 := h.ends_le but j (by omega)
    have h2 := h.end_le (k := j) (by omega)
    rw [endsTo]
    split
    · omega
    · simp only
      omega

set_option maxHeartbeats 4000000 in
theorem rends_any {w : World} {pv pk : Option Addr} {bv ov lv cv bk ok lk ck : Nat} {vl : Value} {vars ks : List Int} {M : List (List Int)} (hO : Ok vars ks M) (hv : Nums w pv bv ov lv vars) (hk : Nums w pk bk ok lk ks) (hM : ListsAt w 0 vl M) (but : Int) :
    Calls Tryd.prog 34 #[.slice pv lv cv, .slice pk lk ck, vl, .int .i64 but] w fun e w' => e = .returned (.tuple #[.int .i64 (endsTo vars ks M but vars.length).1, .int .i64 (endsTo vars ks M but vars.length).2]) ∧ Below w.heap.size w w' := by
  have HO := Lib.hid hO
  have HV := Lib.hid hv
  have HK := Lib.hid hk
  have HM := Lib.hid hM
  have hlv := hv.long
  have hlk := hk.long
  have hfew := hO.few
  have hlong := hO.long
  obtain ⟨R1, hR1⟩ : ∃ R, R = (endsTo vars ks M but vars.length).1 := ⟨_, rfl⟩
  obtain ⟨R2, hR2⟩ : ∃ R, R = (endsTo vars ks M but vars.length).2 := ⟨_, rfl⟩
  rw [← hR1, ← hR2]
  rw [← hlv] at hR1 hR2 hfew hlong
  rw [← hlk] at hlong
  have HR1 := Lib.hid hR1
  have HR2 := Lib.hid hR2
  have HLV := Lib.hid hlv
  have HLK := Lib.hid hlk
  clear hO hv hk hM hR1 hR2 hlv hlk
  go_enter Tryd.func34, Tryd.ntmps34
  go_wp2_with fail
  go_loopw [10, 11, 12] (fun low high i wr => ∃ j q : Nat, j ≤ lv ∧ i = .int .i64 j ∧ low = .int .i64 (endsTo vars ks M but j).1 ∧ high = .int .i64 (endsTo vars ks M but j).2 ∧ wr = w.drewN q) (fun _ _ i _ => lv - (intOf i).toNat)
  case atStart => exact ⟨0, 0, by omega, rfl, rfl, rfl, rfl⟩
  case round =>
    obtain ⟨j, q, hj, rfl, rfl, rfl, rfl⟩ := hrel
    by_cases hlt : j < lv
    · have hjv : j < vars.length := by have := HLV.out; omega
      have hjk : j < lk := by omega
      obtain rfl := HV.out.at_ (by omega)
      obtain rfl := HK.out.at_ (by omega)
      have cv := HV.out.cell j hlt
      have ck2 := HK.out.cell j hjk
      have hvj := HO.out.vin j hjv
      have hE := HO.out.ends_le but j (by omega)
      have hE1 := HO.out.ends_le but (j + 1) (by omega)
      have hm1 := HO.out.mul hjv (i := 0) hvj.2.2
      have hm2 := HO.out.mul hjv (i := (M.getD (vars.getD j 0).toNat []).length - 1) (by omega)
      have hS : endsTo vars ks M but (j + 1) = if (j : Int) = but then endsTo vars ks M but j else ((endsTo vars ks M but j).1 + (endK vars ks M j).1, (endsTo vars ks M but j).2 + (endK vars ks M j).2) := rfl
      have hK : endK vars ks M j = if ks.getD j 0 * (M.getD (vars.getD j 0).toNat []).getD ((M.getD (vars.getD j 0).toNat []).length - 1) 0 < ks.getD j 0 * (M.getD (vars.getD j 0).toNat []).getD 0 0 then (ks.getD j 0 * (M.getD (vars.getD j 0).toNat []).getD ((M.getD (vars.getD j 0).toNat []).length - 1) 0, ks.getD j 0 * (M.getD (vars.getD j 0).toNat []).getD 0 0) else (ks.getD j 0 * (M.getD (vars.getD j 0).toNat []).getD 0 0, ks.getD j 0 * (M.getD (vars.getD j 0).toNat []).getD ((M.getD (vars.getD j 0).toNat []).length - 1) 0) := rfl
      obtain ⟨y, hy⟩ : ∃ y, y = vars.getD j 0 := ⟨_, rfl⟩
      rw [← hy] at hvj cv hm1 hm2 hK
      obtain ⟨y, rfl⟩ := Int.eq_ofNat_of_zero_le hvj.1
      simp only [Int.toNat_natCast] at hvj hm1 hm2 hK
      have hyM : y < M.length := by omega
      obtain ⟨g, cap, u, rfl, _, _, _, cg, _, hu⟩ := HM.out.row hyM
      obtain ⟨pu, gu, cu, rfl, hpu, hcu⟩ := Dm.ints_shape hu
      obtain ⟨l, hl⟩ : ∃ l, l = M.getD y [] := ⟨_, rfl⟩
      rw [← hl] at hvj hm1 hm2 hK cg hpu hcu
      obtain rfl := hpu hvj.2.2
      have c0 := hcu 0 hvj.2.2
      have c1 := hcu (l.length - 1) (by omega)
      obtain ⟨n1, hn1⟩ : ∃ n, n = l.length - 1 := ⟨_, rfl⟩
      obtain ⟨n, hn⟩ : ∃ n, n = l.length := ⟨_, rfl⟩
      rw [← hn1] at hm2 hK c1
      rw [← hn] at hvj cg hn1
      obtain ⟨x0, hx0⟩ : ∃ x, x = l.getD 0 0 := ⟨_, rfl⟩
      obtain ⟨x1, hx1⟩ : ∃ x, x = l.getD n1 0 := ⟨_, rfl⟩
      obtain ⟨kk, hkk⟩ : ∃ x, x = ks.getD j 0 := ⟨_, rfl⟩
      rw [← hx0] at hm1 hK c0
      rw [← hx1] at hm2 hK c1
      rw [← hkk] at hm1 hm2 hK ck2
      rw [hK] at hS
      have d5 : (j : Int) < (lv : Int) := by omega
      have d6 : (j : Int) < (lk : Int) := by omega
      have d7 : (y : Int) < (M.length : Int) := by omega
      have hsm : n ≤ 1000 := by rw [hn, hl]; exact (HO.out.small (M.getD y []) (by rw [List.getD_eq_getElem?_getD, List.getElem?_eq_getElem hyM]; exact List.getElem_mem hyM)).1
      obtain rfl : n = n1 + 1 := by omega
      have d11 : n1 ≤ 1000 := by omega
      rw [hS] at hE1
      have HS := Lib.hid hS
      obtain ⟨lo, hlo⟩ : ∃ x, x = (endsTo vars ks M but j).1 := ⟨_, rfl⟩
      obtain ⟨hi, hhi⟩ : ∃ x, x = (endsTo vars ks M but j).2 := ⟨_, rfl⟩
      rw [← hlo, ← hhi] at HS hE1 hE ⊢
      clear hS hK hl hx0 hx1 hkk hu hcu hpu hyM hjv hy hn hvj hsm hn1
      by_cases hb : (j : Int) = but
      · rw [if_pos hb] at HS hE1
        have HX := Lib.hid (show (endsTo vars ks M but (j + 1)).1 = lo ∧ (endsTo vars ks M but (j + 1)).2 = hi by rw [HS.out]; exact ⟨hlo.symm, hhi.symm⟩)
        clear hlo hhi HS hE1 hE hm1 hm2
        go_wp2_with fail
        go_roundw
        case rel => exact ⟨j + 1, q, by omega, by go_num, by rw [HX.out.1], by rw [HX.out.2], rfl⟩
        case measure => simp [intOf]; omega
      · rw [if_neg hb] at HS hE1
        clear hlo hhi
        by_cases hba : kk * x1 < kk * x0
        · rw [if_pos hba] at HS hE1
          simp only at hE1
          go_wp2
          go_quiet (fail)
          go_wp2
          go_quiet (fail)
          go_wp2_with fail
          go_roundw
          case rel => exact ⟨j + 1, _, by omega, by go_num, by rw [HS.out]; try go_num, by rw [HS.out]; try go_num, rfl⟩
          case measure => simp [intOf]; omega
        · rw [if_neg hba] at HS hE1
          simp only at hE1
          go_wp2
          go_quiet (fail)
          go_wp2
          go_quiet (fail)
          go_wp2_with fail
          go_roundw
          case rel => exact ⟨j + 1, _, by omega, by go_num, by rw [HS.out]; try go_num, by rw [HS.out]; try go_num, rfl⟩
          case measure => simp [intOf]; omega
    · have d6 : ¬ ((j : Int) < (lv : Int)) := by omega
      obtain rfl : j = lv := by omega
      go_wp2_with fail
      go_ret2
      exact ⟨by rw [HR1.out, HR2.out]; rfl, below_drewN (Below.refl _ _)⟩
end Go.Proofs.YtakooocmnapjmaaDoor.St
