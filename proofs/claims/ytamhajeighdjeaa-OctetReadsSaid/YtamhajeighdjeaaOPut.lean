/-
  What Put answers, and the document's Put.
-/
import Derived.Test.YtamhajeighdjeaaOLaid
import Derived.StillTailTactics
import Derived.Deep.RegionWith
namespace Go.Proofs.Ytamhajeighdjeaa
open Go.RowKit

theorem laid_at (a b : Int) (n s : Nat) (ha : a = n) (hb : b = s) (hs : s ≤ 8) (w : World) :
    Calls Try.prog 27 #[.int .u64 a, .int .i64 b] w fun e w' => ∃ v, e = .returned v ∧ Owns w' w.heap.size v (be s n) ∧ Below w.heap.size w w' := by
  subst ha hb
  exact laid_any n s hs w

theorem put_big (n : Int) (h : 4611686018427387903 < n) (w : World) :
    Calls Try.prog 8 #[.int .u64 n] w fun e w' => e = .returned (.tuple #[.slice none 0 0, .int .i64 5]) ∧ w = w' := by
  go_enter Try.func8, Try.ntmps8
  go_wp2_with fail
  go_ret2
  exact ⟨rfl, rfl⟩
theorem rput_big (n : Int) (h : 4611686018427387903 < n) (w : World) :
    Calls Try.prog 9 #[.int .u64 n] w fun e w' => e = .returned (.tuple #[.slice none 0 0, .int .i64 5]) ∧ w = w' := by
  go_enter Try.func9, Try.ntmps9
  go_wp2_with fail
  go_ret2
  exact ⟨rfl, rfl⟩

/-- how Put ends -/
def Puts (w : World) (xs : List Nat) (e : Ending) (w' : World) : Prop := ∃ v, e = .returned (.tuple #[v, .int .i64 0]) ∧ Owns w' w.heap.size v xs ∧ Below w.heap.size w w'

theorem or_at (n K i : Nat) (hn : n < 2 ^ i) (hK : K % 2 ^ i = 0) (h1 : n < 18446744073709551616) (h2 : K < 18446744073709551616) : bits .or .u64 (n : Int) (K : Int) = ((n + K : Nat) : Int) := by
  rw [bits_or_u64_nat n K h1 h2, Nat.or_comm, nat_join i K n hK hn, Nat.add_comm]

set_option maxHeartbeats 400000 in
theorem put_core (n : Nat) (r : Nat) (xs : List Nat) (w : World) (h : (n : Int) ≤ 4611686018427387903) (hk : kind n = r) (hc : r = 0 ∧ n < 64 ∧ xs = be 1 n ∨ r = 1 ∧ n < 16384 ∧ xs = be 2 (n + 16384) ∨ r = 2 ∧ n < 1073741824 ∧ xs = be 4 (n + 2147483648) ∨ r = 3 ∧ n < 4611686018427387904 ∧ xs = be 8 (n + 13835058055282163712)) :
    Calls Try.prog 8 #[.int .u64 n] w (Puts w xs) := by
  have C := kind_any n
  rw [hk] at C
  have C := Lib.hid C
  clear hk
  rcases hc with ⟨rfl, h1, rfl⟩ | ⟨rfl, h1, rfl⟩ | ⟨rfl, h1, rfl⟩ | ⟨rfl, h1, rfl⟩
  · have D := Lib.hid (laid_at _ _ (n + 0) 1 (or_at n 0 6 (by omega) (by decide) (by omega) (by decide)) rfl (by omega))
    go_enter Try.func8, Try.ntmps8
    go_wp2_with fail
    refine (C.out _).mono ?_
    rintro e w1 ⟨rfl, rfl⟩
    go_wp2_with fail
    refine (D.out _).mono ?_
    rintro e w2 ⟨v, rfl, hv, hB⟩
    have HV := Lib.hid hv
    have HB := Lib.hid hB
    clear hv hB
    go_wp2_with fail
    go_ret2
    exact ⟨v, rfl, HV.out, HB.out⟩
  · have D := Lib.hid (laid_at _ _ (n + 16384) 2 (or_at n 16384 14 (by omega) (by decide) (by omega) (by decide)) rfl (by omega))
    go_enter Try.func8, Try.ntmps8
    go_wp2_with fail
    refine (C.out _).mono ?_
    rintro e w1 ⟨rfl, rfl⟩
    go_wp2_with fail
    refine (D.out _).mono ?_
    rintro e w2 ⟨v, rfl, hv, hB⟩
    have HV := Lib.hid hv
    have HB := Lib.hid hB
    clear hv hB
    go_wp2_with fail
    go_ret2
    exact ⟨v, rfl, HV.out, HB.out⟩
  · have D := Lib.hid (laid_at _ _ (n + 2147483648) 4 (or_at n 2147483648 30 (by omega) (by decide) (by omega) (by decide)) rfl (by omega))
    go_enter Try.func8, Try.ntmps8
    go_wp2_with fail
    refine (C.out _).mono ?_
    rintro e w1 ⟨rfl, rfl⟩
    go_wp2_with fail
    refine (D.out _).mono ?_
    rintro e w2 ⟨v, rfl, hv, hB⟩
    have HV := Lib.hid hv
    have HB := Lib.hid hB
    clear hv hB
    go_wp2_with fail
    go_ret2
    exact ⟨v, rfl, HV.out, HB.out⟩
  · have D := Lib.hid (laid_at _ _ (n + 13835058055282163712) 8 (or_at n 13835058055282163712 62 (by omega) (by decide) (by omega) (by decide)) rfl (by omega))
    go_enter Try.func8, Try.ntmps8
    go_wp2_with fail
    refine (C.out _).mono ?_
    rintro e w1 ⟨rfl, rfl⟩
    go_wp2_with fail
    refine (D.out _).mono ?_
    rintro e w2 ⟨v, rfl, hv, hB⟩
    have HV := Lib.hid hv
    have HB := Lib.hid hB
    clear hv hB
    go_wp2_with fail
    go_ret2
    exact ⟨v, rfl, HV.out, HB.out⟩
theorem put_any (n : Nat) (w : World) (h : n < 4611686018427387904) : Calls Try.prog 8 #[.int .u64 n] w (Puts w (put n)) := by
  have hr := room_kind h
  refine put_core n (kind n) (put n) w (by omega) rfl ?_
  unfold put
  have hk := kind_le n
  generalize kind n = k at hr hk
  match k, hk with
  | 0, _ => exact .inl ⟨rfl, by simpa [room] using hr, by simp⟩
  | 1, _ => exact .inr (.inl ⟨rfl, by simpa [room] using hr, by simp [room]⟩)
  | 2, _ => exact .inr (.inr (.inl ⟨rfl, by simpa [room] using hr, by simp [room]⟩))
  | 3, _ => exact .inr (.inr (.inr ⟨rfl, h, by simp [room]⟩))

theorem rbytes_at (a b : Int) (n s : Nat) (ha : a = n) (hb : b = s) (hn : n < 18446744073709551616) (hs : s ≤ 8) (w : World) :
    Calls Try.prog 28 #[.int .u64 a, .int .i64 b] w fun e w' => ∃ v, e = .returned v ∧ Owns w' w.heap.size v (be s n) ∧ Below w.heap.size w w' := by
  subst ha hb
  exact rbytes_any n s hn hs w

theorem Owns.first {w : World} {base : Nat} {v : Value} {x : Nat} {r : List Nat} (h : Owns w base v (x :: r)) :
    ∃ g c, v = .slice (some ⟨g, 0, none⟩) (r.length + 1) c ∧ base ≤ g ∧ g < w.heap.size ∧ w.cell? ⟨g, 0, none⟩ = some (.int .u8 (x : Int)) ∧ w.frozen? ⟨g, 0, none⟩ = false := by
  have h0 := h
  rcases h.2 with ⟨rfl, h1⟩ | ⟨g, cap, cur, rfl, hb, hg, hn, hc, hs, ht⟩
  · simp at h1
  · exact ⟨g, cap, rfl, hb, (Array.getElem?_eq_some_iff.1 hg).1, h0.cellAt 0 (by simp), frozen_of_heap hg⟩
theorem Owns.setFirst {w : World} {base g l c : Nat} {x y : Nat} {r : List Nat} (h : Owns w base (.slice (some ⟨g, 0, none⟩) l c) (x :: r)) (z : Int) (hz : z = y) : Owns (w.setCell ⟨g, 0, none⟩ (.int .u8 z)) base (.slice (some ⟨g, 0, none⟩) l c) (y :: r) := by
  refine ⟨by simp, ?_⟩
  rcases h.2 with ⟨h1, _⟩ | ⟨g', cap, cur, h1, hb, hg, hn, hc, hs, ht⟩
  · cases h1
  · obtain ⟨rfl, rfl, rfl⟩ : g = g' ∧ l = (x :: r).length ∧ c = cap := by
      injection h1 with e1 e2 e3
      injection e1 with e1
      injection e1 with e1
      exact ⟨e1, e2, e3⟩
    refine .inr ⟨g, c, _, by simp, hb, heap_setCell_same hg _, hn, hc, by simpa using hs, ?_⟩
    have e : (y :: r).length * 1 = (x :: r).length * 1 := by simp
    rw [Array.toList_setIfInBounds, e, List.take_set, ht]
    simp [enc, hz]

/-- the document's table of first bytes -/
def firsts : List Value := [.int .u8 0, .int .u8 0, .int .u8 64, .int .u8 0, .int .u8 128, .int .u8 0, .int .u8 0, .int .u8 0, .int .u8 192]
theorem first_at (w : World) (k : Nat) (hk : k ≤ 3) : (w.alloc (.cells firsts.toArray 5)).cell? ⟨w.heap.size, 2 ^ k, none⟩ = some (.int .u8 ((64 * k : Nat) : Int)) := by
  rw [cell_of_heap (new_block w _)]
  match k, hk with
  | 0, _ => rfl
  | 1, _ => rfl
  | 2, _ => rfl
  | 3, _ => rfl

set_option maxHeartbeats 1000000 in
theorem rput_any (n : Nat) (w : World) (h : n < 4611686018427387904) : Calls Try.prog 9 #[.int .u64 n] w (Puts w (put n)) := by
  have hi : (n : Int) < 4611686018427387904 := by omega
  have C' := Lib.hid (size_any n)
  have hk := kind_le n
  have hp : 2 ^ kind n ≤ 8 := Nat.pow_le_pow_right (n := 2) (by decide) hk
  have D := rbytes_at n (size n : Nat) n (2 ^ kind n) rfl (by rw [size_kind]) (by omega) hp
  have hb : be (2 ^ kind n) n = (n / 256 ^ (2 ^ kind n - 1) % 256) :: be (2 ^ kind n - 1) n := by
    have e : be (2 ^ kind n) n = be (2 ^ kind n - 1 + 1) n := congrArg (fun s => be s n) (pow_pos' _)
    rw [e, be_cons]
  obtain ⟨hq, hx⟩ := put_cons h
  rw [Nat.mod_eq_of_lt (by omega)] at hb
  rw [hb] at D
  rw [hq]
  obtain ⟨k, ek⟩ : ∃ k, k = kind n := ⟨_, rfl⟩
  obtain ⟨s, es⟩ : ∃ s, s = size n := ⟨_, rfl⟩
  have hs : s = 2 ^ k := by rw [es, ek, size_kind]
  rw [← es] at D
  rw [← ek] at D hx hk ⊢
  obtain ⟨x, ex⟩ : ∃ x, x = n / 256 ^ (2 ^ k - 1) := ⟨_, rfl⟩
  obtain ⟨r, er⟩ : ∃ r, r = be (2 ^ k - 1) n := ⟨_, rfl⟩
  rw [← ex, ← er] at D
  rw [← ex] at hx
  rw [← ex, ← er]
  obtain ⟨z, ez⟩ : ∃ z : Int, z = (n : Int) := ⟨_, rfl⟩
  have C : Hid (∀ w, Calls Try.prog 29 #[.int .u64 z] w fun e w' => e = .returned (.int .i64 (s : Nat)) ∧ w' = w) := Lib.hid (by rw [es, ez]; exact C'.out)
  rw [← ez] at D hi ⊢
  have D := Lib.hid D
  have hs8 : s ≤ 8 := by rw [hs, ek]; exact hp
  have HS := Lib.hid hs
  clear hp hb hq ek es ex er hs h ez C'
  go_enter Try.func9, Try.ntmps9
  go_wp2_with fail
  refine (C.out _).mono ?_
  rintro e w1 ⟨rfl, rfl⟩
  go_wp2_with fail
  refine (D.out _).mono ?_
  rintro e w2 ⟨v, rfl, hv, hB⟩
  obtain ⟨g, c, rfl, hbg, hgl, c0, f0⟩ := hv.first
  have HV := Lib.hid hv
  have HB := Lib.hid hB
  clear hv hB
  go_wp2_with fail
  obtain ⟨u, hu⟩ : ∃ u, u = w2.alloc (.cells #[.int .u8 0, .int .u8 0, .int .u8 64, .int .u8 0, .int .u8 128, .int .u8 0, .int .u8 0, .int .u8 0, .int .u8 192] 5) := ⟨_, rfl⟩
  rw [← hu]
  have hB2 : Below w2.heap.size w2 u := by rw [hu]; exact (Below.refl _ w2).alloc (Nat.le_refl _) _
  have t0 : u.cell? ⟨w2.heap.size, s, none⟩ = some (.int .u8 ((64 * k : Nat) : Int)) := by rw [hu, HS.out]; exact first_at w2 k hk
  have c0 : u.cell? ⟨g, 0, none⟩ = some (.int .u8 (x : Int)) := cell_below hB2 c0
  have f0 : u.frozen? ⟨g, 0, none⟩ = false := by rw [hB2.frozen hgl]; exact f0
  have HV := Lib.hid (owns_below HV.out hB2)
  have HB := Lib.hid (HB.out.trans (hB2.mono HB.out.size))
  clear hu hB2 hgl
  generalize w2.heap.size = T at t0 ⊢
  go_region_with (refine (C.out _).mono ?_; rintro e w3 ⟨rfl, rfl⟩)
  all_goals go_wp2_with fail
  all_goals go_ret2
  all_goals exact ⟨_, rfl, HV.out.setFirst _ (by rw [IntKind.wrap_u8']; omega), (HB.out.setCell hbg _).drew⟩
end Go.Proofs.Ytamhajeighdjeaa
