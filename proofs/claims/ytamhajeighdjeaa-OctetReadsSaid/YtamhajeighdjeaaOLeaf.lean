/-
  What kindOf, number and Mark answer, and the document's size, turn, Mark and Same.
-/
import Derived.Test.YtamhajeighdjeaaOMem
namespace Go.Proofs.Ytamhajeighdjeaa
open Go.RowKit

set_option maxHeartbeats 400000 in
theorem kind_core (z : Int) (r : Nat) (w : World) (hc : r = 0 ∧ z < 64 ∨ r = 1 ∧ 64 ≤ z ∧ z < 16384 ∨ r = 2 ∧ 16384 ≤ z ∧ z < 1073741824 ∨ r = 3 ∧ 1073741824 ≤ z) :
    Calls Try.prog 26 #[.int .u64 z] w fun e w' => e = .returned (.int .u64 (r : Nat)) ∧ w' = w := by
  rcases hc with ⟨rfl, h1⟩ | ⟨rfl, h1, h2⟩ | ⟨rfl, h1, h2⟩ | ⟨rfl, h1⟩
  · go_enter Try.func26, Try.ntmps26
    go_wp2_with fail
    go_ret
    exact ⟨rfl, rfl⟩
  · go_enter Try.func26, Try.ntmps26
    go_wp2_with fail
    go_ret
    exact ⟨rfl, rfl⟩
  · go_enter Try.func26, Try.ntmps26
    go_wp2_with fail
    go_ret
    exact ⟨rfl, rfl⟩
  · go_enter Try.func26, Try.ntmps26
    go_wp2_with fail
    go_ret
    exact ⟨rfl, rfl⟩
theorem kind_any (n : Nat) (w : World) :
    Calls Try.prog 26 #[.int .u64 n] w fun e w' => e = .returned (.int .u64 (kind n : Nat)) ∧ w' = w := by
  refine kind_core (n : Int) (kind n) w ?_
  unfold kind
  split
  · omega
  · split
    · omega
    · split <;> omega

set_option maxHeartbeats 400000 in
theorem size_core (z : Int) (r : Nat) (w : World) (hc : r = 1 ∧ z < 64 ∨ r = 2 ∧ 64 ≤ z ∧ z < 16384 ∨ r = 4 ∧ 16384 ≤ z ∧ z < 1073741824 ∨ r = 8 ∧ 1073741824 ≤ z) :
    Calls Try.prog 29 #[.int .u64 z] w fun e w' => e = .returned (.int .i64 (r : Nat)) ∧ w' = w := by
  rcases hc with ⟨rfl, h1⟩ | ⟨rfl, h1, h2⟩ | ⟨rfl, h1, h2⟩ | ⟨rfl, h1⟩
  · go_enter Try.func29, Try.ntmps29
    go_wp2_with fail
    go_ret
    exact ⟨rfl, rfl⟩
  · go_enter Try.func29, Try.ntmps29
    go_wp2_with fail
    go_ret
    exact ⟨rfl, rfl⟩
  · go_enter Try.func29, Try.ntmps29
    go_wp2_with fail
    go_ret
    exact ⟨rfl, rfl⟩
  · go_enter Try.func29, Try.ntmps29
    go_wp2_with fail
    go_ret
    exact ⟨rfl, rfl⟩
theorem size_any (n : Nat) (w : World) :
    Calls Try.prog 29 #[.int .u64 n] w fun e w' => e = .returned (.int .i64 (size n : Nat)) ∧ w' = w := by
  refine size_core (n : Int) (size n) w ?_
  unfold size
  split
  · omega
  · split
    · omega
    · split <;> omega

theorem join8 (m x : Nat) (hm : m < 72057594037927936) (hx : x < 256) : bits .or .u64 ((m : Int) * 256) (x : Int) = ((256 * m + x : Nat) : Int) := by
  have h1 : (m : Int) * 256 = ((256 * m : Nat) : Int) := by omega
  rw [h1, bits_or_u64_nat _ _ (by omega) (by omega), nat_join 8 _ _ (by omega) (by omega)]
theorem step8 (m x : Nat) (hm : m < 18446744073709551616) (hx : x < 256) : IntKind.u64.wrap (bits .xor .u64 (m : Int) (x : Int) * 1099511628211) = ((mstep m x : Nat) : Int) := by
  rw [bits_xor_u64_nat _ _ hm (by omega), IntKind.wrap_u64]
  unfold mstep
  omega

set_option maxHeartbeats 400000 in
theorem number_any (p : Option Addr) (b off c len : Nat) (xs : List Nat) (hl : len = xs.length) (w : World) (hm : len ≤ 8) (hx : Lies w p b off xs) (hb : Bytes xs) :
    Calls Try.prog 30 #[.slice p len c] w fun e w' => e = .returned (.int .u64 (num xs : Nat)) ∧ w' = w := by
  have HX := Lib.hid hx
  have HN := Lib.hid hl
  have HB := Lib.hid hb
  have hp := hx.at_
  rw [← hl] at hp
  clear hx hl hb
  go_enter Try.func30, Try.ntmps30
  go_wp2
  go_loopw [3, 8] (fun a i wr => (∃ k : Nat, k ≤ len ∧ i = .int .i64 k ∧ a = .int .u64 (num (xs.take k) : Nat)) ∧ wr = w) (fun _ i _ => len - (intOf i).toNat)
  case atStart => exact ⟨⟨0, by omega, rfl, rfl⟩, rfl⟩
  case round =>
    obtain ⟨⟨k, hk, rfl, rfl⟩, rfl⟩ := hrel
    by_cases hlt : k < len
    · obtain rfl := hp (by omega)
      have hlx : k < xs.length := by have := HN.out; omega
      have c0 := HX.out.cell k hlx
      obtain ⟨x, ex⟩ : ∃ x, x = xs.getD k 0 := ⟨_, rfl⟩
      rw [← ex] at c0
      have hx2 : x < 256 := by rw [ex]; exact HB.out.getD k
      have hn : num (xs.take k) < 72057594037927936 := by
        have h1 := num_lt (HB.out.take k)
        rw [List.length_take, Nat.min_eq_left (by omega)] at h1
        exact Nat.lt_of_lt_of_le h1 (show 256 ^ k ≤ 256 ^ 7 from Nat.pow_le_pow_right (by decide) (by omega))
      have hs : num (xs.take (k + 1)) = 256 * num (xs.take k) + x := by
        rw [List.take_add_one, List.getElem?_eq_getElem hlx, ex]
        simp only [Option.toList_some, num_snoc]
        simp [hlx]
      obtain ⟨m, em⟩ : ∃ m, m = num (xs.take k) := ⟨_, rfl⟩
      rw [← em] at hn hs ⊢
      have HS := Lib.hid hs
      clear ex hs em hlx
      go_wp2_with fail
      go_roundw
      case rel =>
        refine ⟨⟨k + 1, by omega, by go_num, ?_⟩, trivial⟩
        rw [HS.out]
        have e1 := join8 m x hn hx2
        rw [e1]
      case measure => simp [intOf]; omega
    · have e : num xs = num (xs.take k) := by rw [List.take_of_length_le (by have := HN.out; omega)]
      obtain ⟨m, em⟩ : ∃ m, m = num (xs.take k) := ⟨_, rfl⟩
      rw [← em] at e ⊢
      have HE := Lib.hid e
      clear em e
      go_wp2
      go_ret
      exact ⟨by rw [HE.out]; rfl, rfl⟩

set_option maxHeartbeats 400000 in
theorem mark_any (p : Option Addr) (b off c len : Nat) (xs : List Nat) (hl : len = xs.length) (w : World) (hm : len ≤ 100000) (hx : Lies w p b off xs) (hb : Bytes xs) :
    Calls Try.prog 13 #[.slice p len c] w fun e w' => e = .returned (.int .u64 (mark xs : Nat)) ∧ w' = w := by
  have HX := Lib.hid hx
  have HN := Lib.hid hl
  have HB := Lib.hid hb
  have hp := hx.at_
  rw [← hl] at hp
  clear hx hl hb
  go_enter Try.func13, Try.ntmps13
  go_wp2
  go_loopw [3, 8] (fun a i wr => (∃ k : Nat, k ≤ len ∧ i = .int .i64 k ∧ a = .int .u64 (mark (xs.take k) : Nat)) ∧ wr = w) (fun _ i _ => len - (intOf i).toNat)
  case atStart => exact ⟨⟨0, by omega, rfl, by rw [List.take_zero]; unfold mark; rw [List.foldl_nil]; rfl⟩, rfl⟩
  case round =>
    obtain ⟨⟨k, hk, rfl, rfl⟩, rfl⟩ := hrel
    by_cases hlt : k < len
    · obtain rfl := hp (by omega)
      have hlx : k < xs.length := by have := HN.out; omega
      have c0 := HX.out.cell k hlx
      obtain ⟨x, ex⟩ : ∃ x, x = xs.getD k 0 := ⟨_, rfl⟩
      rw [← ex] at c0
      have hx2 : x < 256 := by rw [ex]; exact HB.out.getD k
      have hn := mark_lt (xs.take k)
      have hs : mark (xs.take (k + 1)) = mstep (mark (xs.take k)) x := by
        rw [List.take_add_one, List.getElem?_eq_getElem hlx, ex]
        simp only [Option.toList_some, mark_snoc]
        simp [hlx]
      obtain ⟨m, em⟩ : ∃ m, m = mark (xs.take k) := ⟨_, rfl⟩
      rw [← em] at hn hs ⊢
      have HS := Lib.hid hs
      clear ex hs em hlx
      go_wp2_with fail
      go_roundw
      case rel =>
        refine ⟨⟨k + 1, by omega, by go_num, ?_⟩, trivial⟩
        rw [HS.out]
        have e1 := step8 m x hn hx2
        rw [e1]
      case measure => simp [intOf]; omega
    · have e : mark xs = mark (xs.take k) := by rw [List.take_of_length_le (by have := HN.out; omega)]
      obtain ⟨m, em⟩ : ∃ m, m = mark (xs.take k) := ⟨_, rfl⟩
      rw [← em] at e ⊢
      have HE := Lib.hid e
      clear em e
      go_wp2
      go_ret
      exact ⟨by rw [HE.out]; rfl, rfl⟩

set_option maxHeartbeats 400000 in
theorem rsame_any (p q : Option Addr) (b off c b' off' c' len len' : Nat) (xs ys : List Nat) (hl : len = xs.length) (hl' : len' = ys.length) (w : World) (hm : len ≤ 100000) (hm' : len' ≤ 100000) (hx : Lies w p b off xs) (hy : Lies w q b' off' ys) :
    Calls Try.prog 12 #[.slice p len c, .slice q len' c'] w fun e w' => e = .returned (.bool (decide (xs = ys))) ∧ ∃ n, w' = w.drewN n := by
  have HX := Lib.hid hx
  have HY := Lib.hid hy
  have hp := hx.at_
  have hq := hy.at_
  rw [← hl] at hp
  rw [← hl'] at hq
  by_cases he : len = len'
  · subst he
    have HN := Lib.hid hl
    have HM := Lib.hid hl'
    obtain ⟨R, hR⟩ : ∃ R, R = decide (xs = ys) := ⟨_, rfl⟩
    rw [← hR]
    have HR := Lib.hid hR
    have HS := Lib.hid (show ∀ j, j < 0 → xs.getD j 0 = ys.getD j 0 from fun j h => by omega)
    clear hx hy hl hl' hR
    go_enter Try.func12, Try.ntmps12
    go_wp2
    go_loopw [5] (fun i wr => (∃ k : Nat, k ≤ len ∧ i = .int .i64 k ∧ ∀ j, j < k → xs.getD j 0 = ys.getD j 0) ∧ ∃ n, wr = w.drewN n) (fun i _ => len - (intOf i).toNat)
    case atStart => exact ⟨⟨0, by omega, rfl, HS.out⟩, 0, rfl⟩
    case round =>
      obtain ⟨⟨k, hk, rfl, hrel⟩, hw⟩ := hrel
      have HW := Lib.hid hw
      have HE := Lib.hid hrel
      clear hw hrel
      by_cases hlt : k < len
      · obtain rfl := hp (by omega)
        obtain rfl := hq (by omega)
        have cx : wr.cell? ⟨b, off + k, none⟩ = some (.int .u8 (xs.getD k 0 : Nat)) := by obtain ⟨n, rfl⟩ := HW.out; exact HX.out.cell k (by have := HN.out; omega)
        have cy : wr.cell? ⟨b', off' + k, none⟩ = some (.int .u8 (ys.getD k 0 : Nat)) := by obtain ⟨n, rfl⟩ := HW.out; exact HY.out.cell k (by have := HM.out; omega)
        obtain ⟨x, ex⟩ : ∃ x, x = xs.getD k 0 := ⟨_, rfl⟩
        obtain ⟨y, ey⟩ : ∃ y, y = ys.getD k 0 := ⟨_, rfl⟩
        rw [← ex] at cx
        rw [← ey] at cy
        by_cases hxy : x = y
        · subst hxy
          have ek : ∀ j, j < k + 1 → xs.getD j 0 = ys.getD j 0 := fun j hj => by
            by_cases h : j < k
            · exact HE.out j h
            · have : j = k := by omega
              subst this
              rw [← ex, ← ey]
          have EK := Lib.hid ek
          clear ex ey ek
          go_wp2
          go_quiet (fail)
          go_wp2_with fail
          go_roundw
          case rel => exact ⟨⟨k + 1, by omega, by go_num, EK.out⟩, drewN_on HW.out⟩
          case measure => simp [intOf]; omega
        · have hxy2 : ((x : Int) == (y : Int)) = false := beq_eq_false_iff_ne.2 (by omega)
          have key : R = false := by
            rw [HR.out]
            refine decide_eq_false fun h => hxy ?_
            rw [ex, ey, h]
          subst key
          clear ex ey
          go_wp2
          go_quiet (fail)
          go_wp2_with fail
          go_ret
          exact ⟨rfl, drewN_on HW.out⟩
      · have key : R = true := by
          rw [HR.out]
          refine decide_eq_true (List.ext_getElem (by rw [← HN.out, ← HM.out]) fun j h1 h2 => ?_)
          have := HE.out j (by have := HN.out; omega)
          simpa [h1, h2] using this
        subst key
        go_wp2
        go_ret
        exact ⟨rfl, HW.out⟩
  · have key : decide (xs = ys) = false := decide_eq_false fun h => he (by rw [hl, hl', h])
    rw [key]
    have he2 : ((len : Int) == (len' : Int)) = false := beq_eq_false_iff_ne.2 (by omega)
    clear hx hy hl hl' key hp hq
    go_enter Try.func12, Try.ntmps12
    go_wp2_with fail
    go_ret
    exact ⟨rfl, 0, rfl⟩
end Go.Proofs.Ytamhajeighdjeaa
