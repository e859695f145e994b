/-
  What places and Same of package dom answer, and Same of the document's answers (of numbers, and of domains).
-/
import Derived.Test.YtiaibggbbkhjlaaDoorZYAI
namespace Go.Proofs.YtiaibggbbkhjlaaDoor.Dm
open Go.RowKit

theorem reads_drew {w : World} {v : Value} {xs : List Int} (h : Reads w v xs) (n : Nat) : Reads (w.drewN n) v xs :=
  reads_below h (below_drewN (Below.refl _ _))
theorem reads_alloc {w : World} {v : Value} {xs : List Int} (h : Reads w v xs) (o : Obj) : Reads (w.alloc o) v xs :=
  reads_below h ((Below.refl _ w).alloc (Nat.le_refl _) _)

theorem rise_up : ∀ {xs : List Int} {m : Int}, riseF m xs = true → xs.Pairwise (· ≤ ·)
  | [], _, _ => List.Pairwise.nil
  | v :: r, m, h => by
    rw [rise_cons] at h
    refine List.Pairwise.cons (fun y hy => ?_) (rise_up h.2.2)
    have := rise_low h.2.2 hy
    omega

theorem reads_slice {w : World} {v : Value} {xs : List Int} (h : Reads w v xs) : ∃ p n c, v = .slice p n c := by
  rcases h with ⟨p, c, rfl, _⟩ | ⟨b, off, c, rfl, _⟩
  · exact ⟨_, _, _, rfl⟩
  · exact ⟨_, _, _, rfl⟩

set_option maxHeartbeats 1000000 in
theorem rsame_cells (p : Option Addr) (b off c : Nat) (p' : Option Addr) (b' off' c' : Nat) (n n' : Nat) (xs ys : List Int) (w : World) (hl : n = xs.length) (hl' : n' = ys.length) (hm : n ≤ 1000000) (hm' : n' ≤ 1000000)
    (hp : 0 < n → p = some ⟨b, off, none⟩) (hx : ∀ k, k < xs.length → w.cell? ⟨b, off + k, none⟩ = some (.int .i64 (xs.getD k 0))) (hp' : 0 < n' → p' = some ⟨b', off', none⟩) (hy : ∀ k, k < ys.length → w.cell? ⟨b', off' + k, none⟩ = some (.int .i64 (ys.getD k 0))) :
    Calls Tryd.prog 46 #[.slice p n c, .slice p' n' c'] w fun e w' => e = .returned (.bool (xs == ys)) ∧ ∃ q, w' = w.drewN q := by
  by_cases hnn : n = n'
  · subst hnn
    have HX := Lib.hid hx
    have HY := Lib.hid hy
    have HN := Lib.hid hl
    have HN' := Lib.hid hl'
    obtain ⟨R, hR⟩ : ∃ R, R = (xs == ys) := ⟨_, rfl⟩
    rw [← hR]
    have HR := Lib.hid hR
    have HS : Hid (R = (xs.drop 0 == ys.drop 0)) := hR
    clear hx hy hl hl' hR
    go_enter Tryd.func46, Tryd.ntmps46
    go_wp2
    go_loopw [5] (fun i wr => ∃ k : Nat, k ≤ n ∧ i = .int .i64 k ∧ R = (xs.drop k == ys.drop k) ∧ ∃ q, wr = w.drewN q) (fun i _ => n - (intOf i).toNat)
    case atStart => exact ⟨0, by omega, rfl, HS.out, 0, rfl⟩
    case round =>
      obtain ⟨k, hk, rfl, hrel, hw⟩ := hrel
      have HW := Lib.hid hw
      by_cases hlt : k < n
      · obtain rfl := hp (by omega)
        obtain rfl := hp' (by omega)
        have hlx : k < xs.length := by have := HN.out; omega
        have hly : k < ys.length := by have := HN'.out; omega
        have cx : wr.cell? ⟨b, off + k, none⟩ = some (.int .i64 (xs.getD k 0)) := by obtain ⟨q, rfl⟩ := hw; exact HX.out k hlx
        have cy : wr.cell? ⟨b', off' + k, none⟩ = some (.int .i64 (ys.getD k 0)) := by obtain ⟨q, rfl⟩ := hw; exact HY.out k hly
        rw [drop_consI hlx, drop_consI hly] at hrel
        obtain ⟨s, es⟩ : ∃ s, s = xs.getD k 0 := ⟨_, rfl⟩
        obtain ⟨t, et⟩ : ∃ t, t = ys.getD k 0 := ⟨_, rfl⟩
        rw [← es] at cx hrel
        rw [← et] at cy hrel
        have key : R = ((s == t) && (xs.drop (k + 1) == ys.drop (k + 1))) := hrel
        have HK := Lib.hid key
        have d5 : (k : Int) < (n : Int) := by omega
        clear es et hlx hly hrel hw key
        by_cases hst : s = t
        · subst hst
          go_wp2
          go_quiet (fail)
          go_wp2_with fail
          go_roundw
          case rel => exact ⟨k + 1, by omega, by go_num, by rw [HK.out]; simp, by obtain ⟨q, hq⟩ := HW.out; exact ⟨q + nq, by rw [hq, World.drewN_drewN]⟩⟩
          case measure => simp [intOf]; omega
        · have d6 : (s == t) = false := by rw [beq_eq_false_iff_ne]; exact hst
          rw [d6] at HK
          clear hst
          go_wp2
          go_quiet (fail)
          go_wp2_with fail
          go_ret
          exact ⟨by rw [HK.out]; rfl, by obtain ⟨q, hq⟩ := HW.out; exact ⟨q + nq, by rw [hq, World.drewN_drewN]⟩⟩
      · have key : R = true := by rw [hrel, drop_endI (by have := HN.out; omega), drop_endI (by have := HN'.out; omega)]; rfl
        subst key
        clear hrel hw hp hp'
        go_wp2
        go_ret
        exact ⟨rfl, HW.out⟩
  · have e : (xs == ys) = false := by
      rw [beq_eq_false_iff_ne]
      intro e
      exact hnn (by rw [hl, hl', e])
    rw [e]
    have d1 : ((n : Int) == (n' : Int)) = false := by rw [beq_eq_false_iff_ne]; omega
    clear e hl hl' hx hy hp hp'
    go_enter Tryd.func46, Tryd.ntmps46
    go_wp2
    go_ret
    exact ⟨rfl, 0, rfl⟩

theorem rsameI_any {w : World} {u v : Value} {xs ys : List Int} (hu : Reads w u xs) (hv : Reads w v ys) (hx : xs.length ≤ 1000000) (hy : ys.length ≤ 1000000) :
    Calls Tryd.prog 46 #[u, v] w fun e w' => e = .returned (.bool (xs == ys)) ∧ ∃ q, w' = w.drewN q := by
  obtain ⟨p, b, off, c, rfl, hp, hc⟩ := reads_shape hu
  obtain ⟨p', b', off', c', rfl, hp', hc'⟩ := reads_shape hv
  exact rsame_cells p b off c p' b' off' c' _ _ xs ys w rfl rfl hx hy hp hc hp' hc'

set_option maxHeartbeats 1000000 in
theorem rdsame_any {w : World} {u v : Value} {xs ys : List Int} (hu : Reads w u xs) (hv : Reads w v ys) (hx : xs.length ≤ 1000000) (hy : ys.length ≤ 1000000) (x y : Nat) :
    Calls Tryd.prog 34 #[.agg #[u, .int .u64 x], .agg #[v, .int .u64 y]] w fun e w' => e = .returned (.bool (decide (x = y) && (xs == ys))) ∧ Below w.heap.size w w' := by
  have C := Lib.hid (fun w' (hb : Below w.heap.size w w') => rsameI_any (reads_below hu hb) (reads_below hv hb) hx hy)
  obtain ⟨p, n, c, rfl⟩ := reads_slice hu
  obtain ⟨p', n', c', rfl⟩ := reads_slice hv
  have HB := Lib.hid (((Below.refl _ w).alloc (Nat.le_refl _) (.cells #[.slice p n c, .int .u64 x] 66)).alloc (by simp) (.cells #[.slice p' n' c', .int .u64 y] 66))
  clear hu hv
  obtain ⟨R, hR⟩ : ∃ R, R = (xs == ys) := ⟨_, rfl⟩
  rw [← hR] at C ⊢
  clear hR
  by_cases hxy : x = y
  · subst hxy
    go_enter Tryd.func34, Tryd.ntmps34
    go_wp2_with fail
    refine (C.out _ HB.out).mono ?_
    rintro e w1 ⟨rfl, q, rfl⟩
    have HB1 := Lib.hid (below_drewN (n := q) HB.out)
    go_wp2_with fail
    go_ret
    exact ⟨by simp, HB1.out⟩
  · have h1 : ((x : Int) == (y : Int)) = false := by
      rw [beq_eq_false_iff_ne]
      omega
    have h2 : decide (x = y) = false := decide_eq_false hxy
    rw [h2]
    clear h2
    go_enter Tryd.func34, Tryd.ntmps34
    go_wp2_with fail
    go_ret
    exact ⟨rfl, HB.out⟩
end Go.Proofs.YtiaibggbbkhjlaaDoor.Dm
