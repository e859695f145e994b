/-
  What List, Next and Same of the document's answers answer.
-/
import Derived.Test.YtbnbicjnfkhdbaaDoorList
import Derived.Test.YtbnbicjnfkhdbaaDoorSet
namespace Go.Proofs.YtbnbicjnfkhdbaaDoor
open Go.RowKit

theorem add_at (g j : Nat) : (⟨g, 0, none⟩ : Addr).add j = ⟨g, 0 + j, none⟩ := by
  unfold Addr.add
  split <;> simp_all

theorem reads_of_owns {W : World} {base : Nat} {v : Value} {xs : List Int} (h : W.ownsRow base 3 1 v xs.length (xs.map (Value.int .i64))) : Reads W v xs := by
  rcases h.2 with ⟨rfl, h0⟩ | ⟨g, cap, cur, rfl, hb, hg, hn, hc, hs, ht⟩
  · exact .inl ⟨none, 0, rfl, List.eq_nil_of_length_eq_zero h0⟩
  · refine .inr ⟨g, 0, cap, rfl, fun k hk => ?_⟩
    have := h.cells (g := g) rfl k (.int .i64 (xs.getD k 0)) (by simp [hk])
    rw [add_at] at this
    exact this

theorem reads_below {A B : World} {v : Value} {xs : List Int} (h : Reads A v xs) (hb : Below A.heap.size A B) : Reads B v xs := by
  rcases h with h | ⟨b, off, c, rfl, hx⟩
  · exact .inl h
  · by_cases h0 : xs = []
    · subst h0
      exact .inl ⟨_, _, rfl, rfl⟩
    · refine .inr ⟨b, off, c, rfl, fun k hk => ?_⟩
      have h := hx k hk
      have hlt : b < A.heap.size := by
        unfold World.cell? at h
        cases hh : A.heap[b]? with
        | none => simp [hh] at h
        | some q => exact (Array.getElem?_eq_some_iff.1 hh).1
      exact (hb.cell (p := ⟨b, off + k, none⟩) hlt).trans h

theorem drewN_on {w wr : World} {m : Nat} (h : ∃ n, wr = w.drewN n) : ∃ n, wr.drewN m = w.drewN n := by
  obtain ⟨n, rfl⟩ := h
  exact ⟨n + m, by rw [World.drewN_drewN]⟩

set_option maxHeartbeats 400000 in
theorem same_some (b off c b' off' c' : Nat) (xs : List Int) (w : World) (hm : xs.length ≤ maxLen)
    (hx : ∀ k, k < xs.length → w.cell? ⟨b, off + k, none⟩ = some (.int .i64 (xs.getD k 0))) (hy : ∀ k, k < xs.length → w.cell? ⟨b', off' + k, none⟩ = some (.int .i64 (xs.getD k 0))) :
    Calls Tryd.prog 14 #[.slice (some ⟨b, off, none⟩) xs.length c, .slice (some ⟨b', off', none⟩) xs.length c'] w fun e w' => e = .returned (.bool true) ∧ ∃ n, w' = w.drewN n := by
  unfold maxLen at hm
  have HX := Lib.hid hx
  have HY := Lib.hid hy
  clear hx hy
  obtain ⟨len, hl⟩ : ∃ len : Nat, len = xs.length := ⟨_, rfl⟩
  rw [← hl] at hm ⊢
  have HN := Lib.hid hl
  clear hl
  go_enter Tryd.func14, Tryd.ntmps14
  go_wp2
  go_loopw [5] (fun i wr => ∃ k : Nat, k ≤ len ∧ i = .int .i64 k ∧ ∃ n, wr = w.drewN n) (fun i _ => len - (intOf i).toNat)
  case atStart => exact ⟨0, by omega, rfl, 0, rfl⟩
  case round =>
    obtain ⟨k, hk, rfl, hw⟩ := hrel
    have HW := Lib.hid hw
    clear hw
    by_cases hlt : k < len
    · have hlx : k < xs.length := by have := HN.out; omega
      have cx : wr.cell? ⟨b, off + k, none⟩ = some (.int .i64 (xs.getD k 0)) := by obtain ⟨n, rfl⟩ := HW.out; exact HX.out k hlx
      have cy : wr.cell? ⟨b', off' + k, none⟩ = some (.int .i64 (xs.getD k 0)) := by obtain ⟨n, rfl⟩ := HW.out; exact HY.out k hlx
      obtain ⟨x, ex⟩ : ∃ x, x = xs.getD k 0 := ⟨_, rfl⟩
      rw [← ex] at cx cy
      clear ex hlx
      go_wp2
      go_quiet (fail)
      go_wp2_with fail
      go_roundw
      case rel => exact ⟨k + 1, by omega, by go_num, drewN_on HW.out⟩
      case measure => simp [intOf]; omega
    · go_wp2
      go_ret
      exact ⟨rfl, HW.out⟩

set_option maxHeartbeats 400000 in
theorem same_none (p q : Option Addr) (c d : Nat) (w : World) :
    Calls Tryd.prog 14 #[.slice p 0 c, .slice q 0 d] w fun e w' => e = .returned (.bool true) ∧ ∃ n, w' = w.drewN n := by
  go_enter Tryd.func14, Tryd.ntmps14
  go_wp2
  go_loopw [5] (fun i wr => i = .int .i64 0 ∧ wr = w) (fun _ _ => 0)
  case atStart => exact ⟨rfl, rfl⟩
  case round =>
    obtain ⟨rfl, rfl⟩ := hrel
    go_wp2
    go_ret
    exact ⟨rfl, 0, rfl⟩

theorem same_any (u v : Value) (xs : List Int) (w : World) (hu : Reads w u xs) (hv : Reads w v xs) (hm : xs.length ≤ maxLen) :
    Calls Tryd.prog 14 #[u, v] w fun e w' => e = .returned (.bool true) ∧ ∃ n, w' = w.drewN n := by
  rcases hu with ⟨p0, c0, rfl, rfl⟩ | ⟨b, off, c, rfl, hx⟩
  · rcases hv with ⟨p1, c1, rfl, _⟩ | ⟨b', off', c', rfl, hy⟩
    · exact same_none _ _ _ _ w
    · exact same_none _ _ _ _ w
  · rcases hv with ⟨p1, c1, rfl, rfl⟩ | ⟨b', off', c', rfl, hy⟩
    · exact same_none _ _ _ _ w
    · exact same_some b off c b' off' c' xs w hm hx hy

/-- the numbers below k of a set -/
def upto (k x : Nat) : List Int := (mem k x).map (fun j : Nat => (j : Int))
theorem upto_hit (k x : Nat) (h : x.testBit k = true) : upto (k + 1) x = upto k x ++ [(k : Int)] := by
  unfold upto mem
  rw [List.range_succ, List.filter_append, List.map_append]
  simp [h]
theorem upto_miss (k x : Nat) (h : x.testBit k = false) : upto (k + 1) x = upto k x := by
  unfold upto mem
  rw [List.range_succ, List.filter_append, List.map_append]
  simp [h]
theorem upto_le (k x : Nat) : (upto k x).length ≤ k := by
  unfold upto
  rw [List.length_map]
  exact mem_length_le k x
theorem upto_none (x : Nat) : upto 0 x = [] := rfl
theorem upto_all (x : Nat) : upto 64 x = all x := rfl

theorem cells_one (w : World) (u : Value) (t : TypeId) : ∀ j v, [u][j]? = some v → (w.alloc (.cells #[u] t)).cell? ((⟨w.heap.size, 0, none⟩ : Addr).add j) = some v := cell_one_new w u t

set_option maxHeartbeats 1000000 in
theorem rlist_any (x : Nat) (hx : x < 18446744073709551616) (w : World) :
    Calls Tryd.prog 7 #[.int .u64 x] w fun e W' => ∃ v, e = .returned v ∧ W'.ownsRow w.heap.size 3 1 v (all x).length ((all x).map (Value.int .i64)) ∧ Below w.heap.size w W' := by
  obtain ⟨i0, hi, hz0, hz1, hz2⟩ := info_parts info3
  go_enter Tryd.func7, Tryd.ntmps7
  go_wp2
  go_loopw [3, 4] (fun v i wr => ∃ k : Nat, k ≤ 64 ∧ i = .int .i64 k ∧ wr.ownsRow w.heap.size 3 1 v (upto k x).length ((upto k x).map (Value.int .i64)) ∧ Below w.heap.size w wr) (fun _ i _ => 64 - (intOf i).toNat)
  case atStart => exact ⟨0, by omega, rfl, World.ownsRow_made w #[] 0 (Nat.le_refl _) (by decide) rfl, (Below.refl _ w).alloc (Nat.le_refl _) _⟩
  case round =>
    obtain ⟨k, hk, rfl, hown, hB⟩ := hrel
    by_cases hlt : k < 64
    · have c := Lib.hid (has_any x k hx hlt)
      have hle := upto_le k x
      have hsz := hB.size
      cases hb : x.testBit k
      · rw [hb] at c
        have R := Lib.hid (upto_miss k x hb)
        have HO := Lib.hid hown
        have HB := Lib.hid hB
        clear hb hown hB hle hsz hi hz0 hz1 hz2
        go_wp2_with fail
        refine (c.out _).mono ?_
        rintro e w' ⟨rfl, rfl⟩
        go_wp2_with fail
        go_roundw
        case rel => exact ⟨k + 1, by omega, by go_num, by rw [R.out]; exact HO.out, HB.out⟩
        case measure => simp [intOf]; omega
      · rw [hb] at c
        have R := Lib.hid (upto_hit k x hb)
        clear hb
        have hmx : (upto k x).length + 1 ≤ maxLen := by unfold maxLen; omega
        go_wp2_with fail
        refine (c.out _).mono ?_
        rintro e w' ⟨rfl, rfl⟩
        go_wp2_with (at_builtin; refine wpList_append_own _ rfl _ _ 23 rfl w.heap.size 3 i0 (.int .i64 0) 1 8 Tryd.underlying23 hi hz0 hz1 hz2 rfl (by decide) _ _ _ rfl (hown.alloc _) ⟨w'.heap.size, 0, none⟩ 1 1 [.int .i64 k] rfl rfl (cells_one _ _ _) (by simp [Value.oneCell']) (by omega) (by omega) (by simp; omega) ?_; intro v' w1 hown' hgrow _)
        go_roundw
        case rel =>
          refine ⟨k + 1, by omega, by go_num, by rw [R.out]; simpa using hown', ?_⟩
          exact (hB.alloc hsz _).grown hgrow (by simp; omega) (fun j e => (hown.lt j e).1)
        case measure => simp [intOf]; omega
    · have e : k = 64 := by omega
      subst e
      have HO := Lib.hid hown
      have HB := Lib.hid hB
      clear hown hB hi hz0 hz1 hz2
      go_wp2
      go_ret
      exact ⟨_, rfl, HO.out, HB.out⟩
end Go.Proofs.YtbnbicjnfkhdbaaDoor
