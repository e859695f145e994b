/-
  What Same of the document's answers for lists of spans, and Decls of its answers for models, answer, at any two lists that can be read.
-/
import Derived.Test.YtfkakdpppejehaaMName
namespace Go.Proofs.Ytfkakdpppejehaa
open Go.RowKit
set_option maxRecDepth 100000

theorem span_at {w : World} {p : Option Addr} {b off len : Nat} {L : List (Int × Int)} (h : SliceOf rSpan 2 w p b off len L) {k : Nat} (hk : k < len) :
    w.cell? ⟨b, off + k * 2, none⟩ = some (.int .i64 (L.getD k (0, 0)).1) ∧ w.cell? ⟨b, off + k * 2 + 1, none⟩ = some (.int .i64 (L.getD k (0, 0)).2) := by
  have hx : k < L.length := by rw [← h.long]; exact hk
  have e : L[k]? = some (L.getD k (0, 0)) := by simp [hx]
  obtain ⟨cs, h1, h2, h3, _⟩ := h.cell k _ e
  subst h3
  exact ⟨h2 0 (by omega), h2 1 (by omega)⟩
theorem SliceOf.drewN {α : Type} {R : Reader α} {n : Nat} {w : World} {p : Option Addr} {b off len : Nat} {L : List α} (hR : R.Stays) (h : SliceOf R n w p b off len L) (m : Nat) : SliceOf R n (w.drewN m) p b off len L :=
  h.below hR ⟨rfl, rfl, rfl, Nat.le_refl _, fun _ _ => rfl⟩
theorem pair_ext {a b c d : Int} (h : (a == c && b == d) = true) : (a, b) = (c, d) := by
  simp at h
  rw [h.1, h.2]
theorem neq52 (a b c d : Int) (W : World) : Sem.run Try.prog (binOp .neq 41 (.agg #[.int .i64 a, .int .i64 b]) (.agg #[.int .i64 c, .int .i64 d])) W = .ok (.bool (!decide ((a, b) = (c, d)))) W := by
  go_simp
  by_cases h1 : a = c <;> by_cases h2 : b = d <;> simp [h1, h2]

set_option maxHeartbeats 400000 in
theorem ssame_cells (p q : Option Addr) (b off c b' off' c' len len' : Nat) (xs ys : List (Int × Int)) (w : World) (hx : SliceOf rSpan 2 w p b off len xs) (hy : SliceOf rSpan 2 w q b' off' len' ys) (hm : len ≤ 1000000) (hm' : len' ≤ 1000000) :
    Calls Try.prog 30 #[.slice p len c, .slice q len' c'] w fun e w' => e = .returned (.bool (decide (xs = ys))) ∧ ∃ n, w' = w.drewN n := by
  have HX := Lib.hid hx
  have HY := Lib.hid hy
  have hp := hx.at_
  have hq := hy.at_
  by_cases he : len = len'
  · subst he
    obtain ⟨R, hR⟩ : ∃ R, R = decide (xs = ys) := ⟨_, rfl⟩
    rw [← hR]
    have HR := Lib.hid hR
    have HS := Lib.hid (show ∀ j, j < 0 → xs.getD j (0, 0) = ys.getD j (0, 0) from fun j h => by omega)
    clear hx hy hR
    go_enter Try.func30, Try.ntmps30
    go_wp2
    go_loopw [5] (fun i wr => (∃ k : Nat, k ≤ len ∧ i = .int .i64 k ∧ ∀ j, j < k → xs.getD j (0, 0) = ys.getD j (0, 0)) ∧ ∃ n, wr = w.drewN n) (fun i _ => len - (intOf i).toNat)
    case atStart => exact ⟨⟨0, by omega, rfl, HS.out⟩, 0, rfl⟩
    case round =>
      obtain ⟨⟨k, hk, rfl, hrel⟩, hw⟩ := hrel
      have HW := Lib.hid hw
      have HE := Lib.hid hrel
      clear hw hrel
      by_cases hlt : k < len
      · obtain rfl := hp (by omega)
        obtain rfl := hq (by omega)
        have cx : SliceOf rSpan 2 wr (some ⟨b, off, none⟩) b off len xs := by obtain ⟨n, rfl⟩ := HW.out; exact HX.out.drewN rSpan_stays n
        have cy : SliceOf rSpan 2 wr (some ⟨b', off', none⟩) b' off' len ys := by obtain ⟨n, rfl⟩ := HW.out; exact HY.out.drewN rSpan_stays n
        obtain ⟨a0, a1⟩ := span_at cx hlt
        obtain ⟨b0, b1⟩ := span_at cy hlt
        obtain ⟨⟨x0, x1⟩, ex⟩ : ∃ x, x = xs.getD k (0, 0) := ⟨_, rfl⟩
        obtain ⟨⟨y0, y1⟩, ey⟩ : ∃ y, y = ys.getD k (0, 0) := ⟨_, rfl⟩
        rw [← ex] at a0 a1
        rw [← ey] at b0 b1
        have hne := neq52 x0 x1 y0 y1
        by_cases hxy : (x0, x1) = (y0, y1)
        · have EK := Lib.hid (show ∀ j, j < k + 1 → xs.getD j (0, 0) = ys.getD j (0, 0) from fun j hj => by
            by_cases h : j < k
            · exact HE.out j h
            · obtain rfl : j = k := by omega
              rw [← ex, ← ey, hxy])
          rw [decide_eq_true hxy] at hne
          clear ex ey cx cy hxy
          go_wp2
          go_quiet (fail)
          go_wp2_with fail
          go_roundw
          case rel => exact ⟨⟨k + 1, by omega, by go_num, EK.out⟩, drewN_on HW.out⟩
          case measure => simp [intOf]; omega
        · have key : R = false := by
            rw [HR.out]
            refine decide_eq_false fun h => hxy ?_
            rw [ex, ey, h]
          subst key
          rw [decide_eq_false hxy] at hne
          clear ex ey cx cy hxy
          go_wp2
          go_quiet (fail)
          go_wp2_with fail
          go_ret
          exact ⟨rfl, drewN_on HW.out⟩
      · have key : R = true := by
          rw [HR.out]
          refine decide_eq_true (List.ext_getElem (by rw [← HX.out.long, ← HY.out.long]) fun j h1 h2 => ?_)
          have := HE.out j (by have := HX.out.long; omega)
          simpa [h1, h2] using this
        subst key
        go_wp2
        go_ret
        exact ⟨rfl, HW.out⟩
  · have key : decide (xs = ys) = false := decide_eq_false fun h => he (by rw [hx.long, hy.long, h])
    rw [key]
    have he2 : ((len : Int) == (len' : Int)) = false := beq_eq_false_iff_ne.2 (by omega)
    clear hx hy key hp hq
    go_enter Try.func30, Try.ntmps30
    go_wp2_with fail
    go_ret
    exact ⟨rfl, 0, rfl⟩
theorem ssame_any {w : World} {u v : Value} {xs ys : List (Int × Int)} (hx : Slc rSpan 2 w u xs) (hy : Slc rSpan 2 w v ys) (hm : xs.length ≤ 1000000) (hm' : ys.length ≤ 1000000) :
    Calls Try.prog 30 #[u, v] w fun e w' => e = .returned (.bool (decide (xs = ys))) ∧ ∃ n, w' = w.drewN n := by
  obtain ⟨p, b, off, c, len, rfl, _, hs⟩ := hx
  obtain ⟨q, b', off', c', len', rfl, _, ht⟩ := hy
  exact ssame_cells p q b off c b' off' c' len len' xs ys w hs ht (by rw [hs.long]; exact hm) (by rw [ht.long]; exact hm')
end Go.Proofs.Ytfkakdpppejehaa
