/-
  What the document's own Dot answers, at every two slices that can be read: the same as the program's.
-/
import Derived.Test.YtcafhlleoailfaaRefs
import Derived.Deep.QuietTactic
import Derived.BigQuiet
import Derived.LoopTactic
namespace Go.Proofs.Ytcafhlleoailfaa
open Go.RowKit

theorem rmul_ok (a b n : Int) (ha : -9223372036854775808 ≤ a ∧ a ≤ 9223372036854775807) (hb : -9223372036854775808 ≤ b ∧ b ≤ 9223372036854775807) (hn : n = a * b) (hf : fits n = true) (w : World) :
    Calls Try.prog 10 #[.int .i64 a, .int .i64 b] w fun e w' => e = .returned (.tuple #[.int .i64 n, .int .i64 0]) ∧ w' = w :=
  (rmul_any a b w ha hb).mono fun _ _ ⟨h, k⟩ => ⟨h.trans (tup_int (by rw [← hn]; unfold num; rw [if_pos hf]) (by rw [← hn]; unfold err; rw [if_pos hf])), k.symm⟩
theorem rmul_over (a b n : Int) (ha : -9223372036854775808 ≤ a ∧ a ≤ 9223372036854775807) (hb : -9223372036854775808 ≤ b ∧ b ≤ 9223372036854775807) (hn : n = a * b) (hf : ¬ fits n = true) (w : World) :
    Calls Try.prog 10 #[.int .i64 a, .int .i64 b] w fun e w' => e = .returned (.tuple #[.int .i64 0, .int .i64 6]) ∧ w' = w :=
  (rmul_any a b w ha hb).mono fun _ _ ⟨h, k⟩ => ⟨h.trans (tup_int (by rw [← hn]; unfold num; rw [if_neg hf]) (by rw [← hn]; unfold err; rw [if_neg hf])), k.symm⟩

set_option maxHeartbeats 400000 in
/-- lists of unlike length -/
theorem rdot_arg (p q : Option Addr) (m n c d : Nat) (hne : ¬ m = n) (w : World) :
    Calls Try.prog 12 #[.slice p m c, .slice q n d] w (Told (0, 1) w) := by
  go_enter Try.func12, Try.ntmps12
  go_wp2
  go_ret2
  exact ⟨rfl, 0, rfl⟩

set_option maxHeartbeats 400000 in
theorem rdot_same (b off c b' off' c' : Nat) (xs ys : List Int) (w : World) (hlen : xs.length = ys.length) (hm : xs.length ≤ maxLen)
    (hx : ∀ k, k < xs.length → w.cell? ⟨b, off + k, none⟩ = some (.int .i64 (xs.getD k 0))) (hy : ∀ k, k < ys.length → w.cell? ⟨b', off' + k, none⟩ = some (.int .i64 (ys.getD k 0)))
    (fx : ∀ k, k < xs.length → -9223372036854775808 ≤ xs.getD k 0 ∧ xs.getD k 0 ≤ 9223372036854775807) (fy : ∀ k, k < ys.length → -9223372036854775808 ≤ ys.getD k 0 ∧ ys.getD k 0 ≤ 9223372036854775807) :
    Calls Try.prog 12 #[.slice (some ⟨b, off, none⟩) xs.length c, .slice (some ⟨b', off', none⟩) xs.length c'] w (Told (dotFrom 0 xs ys) w) := by
  unfold maxLen at hm
  have HX := Lib.hid hx
  have HY := Lib.hid hy
  have FX := Lib.hid fx
  have FY := Lib.hid fy
  have HL := Lib.hid hlen
  clear hx hy fx fy hlen
  obtain ⟨len, hl⟩ : ∃ len : Nat, len = xs.length := ⟨_, rfl⟩
  rw [← hl] at hm ⊢
  have HN := Lib.hid hl
  clear hl
  go_enter Try.func12, Try.ntmps12
  go_wp2
  go_loopw [6, 7] (fun s i wr => DotRel w xs ys s i wr) (fun _ i _ => len - (intOf i).toNat)
  case atStart => exact ⟨0, 0, by omega, rfl, rfl, by omega, by omega, rfl, 0, rfl⟩
  case round =>
    obtain ⟨k, S, hk, rfl, rfl, hS1, hS2, hd, hw⟩ := hrel
    have HD := Lib.hid hd
    have HW := Lib.hid hw
    clear hd hw
    by_cases hlt : k < len
    · have hlx : k < xs.length := by have := HN.out; omega
      have hly : k < ys.length := by have := HN.out; have := HL.out; omega
      have cx : wr.cell? ⟨b, off + k, none⟩ = some (.int .i64 (xs.getD k 0)) := by obtain ⟨n, rfl⟩ := HW.out; exact HX.out k hlx
      have cy : wr.cell? ⟨b', off' + k, none⟩ = some (.int .i64 (ys.getD k 0)) := by obtain ⟨n, rfl⟩ := HW.out; exact HY.out k hly
      have gx := FX.out k hlx
      have gy := FY.out k hly
      obtain ⟨x, ex⟩ : ∃ x, x = xs.getD k 0 := ⟨_, rfl⟩
      obtain ⟨y, ey⟩ : ∃ y, y = ys.getD k 0 := ⟨_, rfl⟩
      rw [← ex] at cx gx
      rw [← ey] at cy gy
      have EX := Lib.hid ex
      have EY := Lib.hid ey
      obtain ⟨p, hp⟩ : ∃ p, p = x * y := ⟨_, rfl⟩
      obtain ⟨q, hq⟩ : ∃ q, q = S + p := ⟨_, rfl⟩
      by_cases h1 : fits p = true
      · have pb := fits_iff.mp h1
        have M := Lib.hid (rmul_ok x y p gx gy hp h1)
        by_cases h2 : fits q = true
        · have A := Lib.hid (radd_ok S p q ⟨hS1, hS2⟩ pb hq h2)
          have qb := fits_iff.mp h2
          have R : Hid (dotFrom q (xs.drop (k + 1)) (ys.drop (k + 1)) = dotFrom 0 xs ys) := by
            rw [← HD.out, dotFrom_on hlx hly (by rw [← ex, ← ey, ← hp]; exact h1) (by rw [← ex, ← ey, ← hp, ← hq]; exact h2), ← ex, ← ey, ← hp, ← hq]; rfl
          clear ex ey hp hq h1 h2 hlx hly
          go_wp2
          go_quiet ((go_at_call 10; exact Calls.quiet_of_same (M.out _)))
          go_wp2_with fail
          refine (A.out _).mono ?_
          rintro e w' ⟨rfl, rfl⟩
          go_wp2_with fail
          go_roundw
          case rel => exact ⟨k + 1, q, by have := HN.out; omega, by go_num, rfl, qb.1, qb.2, R, drewN_on HW.out⟩
          case measure => simp [intOf]; omega
        · have A := Lib.hid (radd_over S p q ⟨hS1, hS2⟩ pb hq h2)
          have R : Hid (dotFrom 0 xs ys = (0, 6)) := by
            rw [← HD.out, dotFrom_sum hlx hly (by rw [← ex, ← ey, ← hp, ← hq]; exact h2)]; rfl
          clear ex ey hp hq h1 h2 hlx hly
          go_wp2
          go_quiet ((go_at_call 10; exact Calls.quiet_of_same (M.out _)))
          go_wp2_with fail
          refine (A.out _).mono ?_
          rintro e w' ⟨rfl, rfl⟩
          go_wp2_with fail
          go_ret2
          exact ⟨by rw [R.out]; rfl, drewN_on HW.out⟩
      · have M := Lib.hid (rmul_over x y p gx gy hp h1)
        have R : Hid (dotFrom 0 xs ys = (0, 6)) := by
          rw [← HD.out, dotFrom_product hlx hly (by rw [← ex, ← ey, ← hp]; exact h1)]; rfl
        clear ex ey hp hq h1 hlx hly
        go_wp2
        go_quiet ((go_at_call 10; exact Calls.quiet_of_same (M.out _)))
        go_wp2_with fail
        go_ret2
        exact ⟨by rw [R.out]; rfl, drewN_on HW.out⟩
    · have R : Hid (dotFrom 0 xs ys = (S, 0)) := by
        rw [← HD.out, dotFrom_end (by have := HN.out; omega)]; rfl
      go_wp2
      go_ret2
      exact ⟨by rw [R.out]; rfl, HW.out⟩

set_option maxHeartbeats 400000 in
/-- lists that are both empty -/
theorem rdot_none (p q : Option Addr) (c d : Nat) (w : World) : Calls Try.prog 12 #[.slice p 0 c, .slice q 0 d] w (Told (0, 0) w) := by
  go_enter Try.func12, Try.ntmps12
  go_wp2
  go_loopw [6, 7] (fun s i wr => s = .int .i64 0 ∧ i = .int .i64 0 ∧ wr = w) (fun _ _ _ => 0)
  case atStart => exact ⟨rfl, rfl, rfl⟩
  case round =>
    obtain ⟨rfl, rfl, rfl⟩ := hrel
    go_wp2
    go_ret2
    exact ⟨rfl, 0, rfl⟩

/-- Dot, at every two slices that read as numbers -/
theorem rdot_any (u v : Value) (xs ys : List Int) (w : World) (hu : Reads w u xs) (hv : Reads w v ys) (hm : xs.length ≤ maxLen)
    (fx : ∀ k, k < xs.length → -9223372036854775808 ≤ xs.getD k 0 ∧ xs.getD k 0 ≤ 9223372036854775807) (fy : ∀ k, k < ys.length → -9223372036854775808 ≤ ys.getD k 0 ∧ ys.getD k 0 ≤ 9223372036854775807) :
    Calls Try.prog 12 #[u, v] w (Told (dot xs ys) w) := by
  unfold dot
  rcases hu with ⟨p0, c0, rfl, rfl⟩ | ⟨b, off, c, rfl, hx⟩
  · rcases hv with ⟨p1, c1, rfl, rfl⟩ | ⟨b', off', c', rfl, hy⟩
    · exact rdot_none _ _ _ _ w
    · by_cases h : ys.length = 0
      · rw [if_pos (by simpa using h.symm)]
        rw [h]
        exact rdot_none _ _ _ _ w
      · rw [if_neg (fun x => h x.symm)]
        exact rdot_arg _ _ _ _ _ _ (fun x => h x.symm) w
  · rcases hv with ⟨p1, c1, rfl, rfl⟩ | ⟨b', off', c', rfl, hy⟩
    · by_cases h : xs.length = 0
      · obtain rfl : xs = [] := List.eq_nil_of_length_eq_zero h
        exact rdot_none _ _ _ _ w
      · rw [if_neg (by simpa using h)]
        exact rdot_arg _ _ _ _ _ _ h w
    · by_cases h : xs.length = ys.length
      · rw [if_pos h, ← h]
        exact rdot_same b off c b' off' c' xs ys w h hm hx hy fx fy
      · rw [if_neg h]
        exact rdot_arg _ _ _ _ _ _ h w
end Go.Proofs.Ytcafhlleoailfaa
