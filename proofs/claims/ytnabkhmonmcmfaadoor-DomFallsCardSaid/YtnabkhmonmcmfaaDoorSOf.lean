/-
  What Of of the program answers, at every list of numbers that can be read.
-/
import Derived.Test.YtnabkhmonmcmfaaDoorSOwn
namespace Go.Proofs.YtnabkhmonmcmfaaDoor
open Go.RowKit

def okI (xs : List Int) : Bool := xs.all fun x => decide (-1048576 ≤ x) && decide (x ≤ 1048576)
theorem ok_iff {xs : List Int} : okI xs = true ↔ ∀ x ∈ xs, -1048576 ≤ x ∧ x ≤ 1048576 := by simp [okI]
theorem ok_not {xs : List Int} {x : Int} (h : x ∈ xs) (hx : x < -1048576 ∨ 1048576 < x) : okI xs = false := by
  cases e : okI xs
  · rfl
  · have := ok_iff.1 e x h
    omega

/-- what Of answers: ErrArg, or the right list of just these numbers, in memory from base on -/
def OfPost (base : Nat) (xs : List Int) (e : Ending) (w' : World) : Prop :=
  (okI xs = false ∧ e = .returned (.tuple #[.slice none 0 0, .int .i64 1])) ∨
  (okI xs = true ∧ ∃ s L, e = .returned (.tuple #[s, .int .i64 0]) ∧ rightL L = true ∧ (∀ v, inL L v = decide (v ∈ xs)) ∧ OwnsS w' base s L ∧ L.length ≤ xs.length)

theorem take_mem_succ {xs : List Int} {k : Nat} (h : k < xs.length) (v : Int) : v ∈ xs.take (k + 1) ↔ v ∈ xs.take k ∨ v = xs.getD k 0 := by
  rw [List.take_add_one, List.getElem?_eq_getElem h, List.mem_append]
  simp [h]
theorem up_le {xs : List Int} (h : xs.Pairwise (· ≤ ·)) {j k : Nat} (hj : j ≤ k) (hk : k < xs.length) : xs.getD j 0 ≤ xs.getD k 0 := by
  rcases Nat.lt_or_ge j k with h1 | h1
  · have := List.pairwise_iff_getElem.1 h j k (by omega) hk h1
    simpa [hk, show j < xs.length by omega] using this
  · obtain rfl : j = k := by omega
    exact Int.le_refl _
theorem mem_getD {xs : List Int} {k : Nat} (h : k < xs.length) : xs.getD k 0 ∈ xs := by
  rw [List.getD_eq_getElem?_getD, List.getElem?_eq_getElem h]
  exact List.getElem_mem h
theorem mem_at {xs : List Int} {v : Int} (h : v ∈ xs) : ∃ k, k < xs.length ∧ xs.getD k 0 = v := by
  obtain ⟨k, hk, e⟩ := List.getElem_of_mem h
  exact ⟨k, hk, by simp [hk, e]⟩

/-- the spans of the first k numbers -/
def OfRel (ys : List Int) (k : Nat) (A : List (Int × Int)) : Prop := Built A (fun v => v ∈ ys.take k) (ys.getD (k - 1) 0) ∧ A.length ≤ k ∧ (A = [] → k = 0)
theorem of_start (ys : List Int) : OfRel ys 0 [] :=
  ⟨⟨rfl, fun v => by simp [inL], fun B s h => by simp at h⟩, Nat.le_refl _, fun _ => rfl⟩
theorem of_next {ys : List Int} {k : Nat} {A : List (Int × Int)} (h : OfRel ys k A) (hu : ys.Pairwise (· ≤ ·)) (hk : k < ys.length) (h1 : -1048576 ≤ ys.getD k 0) (h2 : ys.getD k 0 ≤ 1048576) : OfRel ys (k + 1) (step A (ys.getD k 0)) := by
  obtain ⟨hb, hl, hn⟩ := h
  refine ⟨step_built hb (fun hA => up_le hu (by omega) hk) h1 h2 (fun x => take_mem_succ hk x), ?_, fun e => ?_⟩
  · by_cases e : A = []
    · subst e
      simp [step_nil]
    · obtain ⟨B, s, rfl⟩ := last_split e
      rw [step_snoc]
      split <;> simp at hl ⊢ <;> omega
  · by_cases e0 : A = []
    · subst e0
      simp [step_nil] at e
    · obtain ⟨B, s, rfl⟩ := last_split e0
      rw [step_snoc] at e
      split at e <;> simp at e

theorem ints_shape {w : World} {base : Nat} {v : Value} {xs : List Int} (h : OwnsI w base v xs) :
    ∃ (p : Option Addr) (g cap : Nat), v = .slice p xs.length cap ∧ (0 < xs.length → p = some ⟨g, 0, none⟩) ∧ ∀ k, k < xs.length → w.cell? ⟨g, k, none⟩ = some (.int .i64 (xs.getD k 0)) := by
  have h0 := h
  rcases h.2 with ⟨rfl, h1⟩ | ⟨g, cap, cur, rfl, hb, hg, hn, hc, hs, ht⟩
  · exact ⟨none, 0, 0, by rw [h1], fun h => by omega, fun k hk => by omega⟩
  · refine ⟨_, g, cap, rfl, fun _ => rfl, fun k hk => ?_⟩
    rw [h0.cellAt k (by omega)]
    simp [hk]
theorem spans_shape {w : World} {base : Nat} {v : Value} {A : List (Int × Int)} (h : OwnsS w base v A) : ∃ (p : Option Addr) (cap : Nat), v = .slice p A.length cap := by
  rcases h.2 with ⟨rfl, h1⟩ | ⟨g, cap, cur, rfl, hb, hg, hn, hc, hs, ht⟩
  · exact ⟨none, 0, by rw [h1]⟩
  · exact ⟨_, cap, rfl⟩
theorem spans_last {w : World} {base : Nat} {v : Value} {B : List (Int × Int)} {s : Int × Int} (h : OwnsS w base v (B ++ [s])) :
    ∃ g cap, v = .slice (some ⟨g, 0, none⟩) (B.length + 1) cap ∧ base ≤ g ∧ g < w.heap.size ∧ w.cell? ⟨g, B.length * 2 + 1, none⟩ = some (.int .i64 s.2) ∧ w.frozen? ⟨g, B.length * 2 + 1, none⟩ = false ∧
      (∀ x, OwnsS (w.setCell ⟨g, B.length * 2 + 1, none⟩ (.int .i64 x)) base v (B ++ [(s.1, x)])) := by
  have h0 := h
  rcases h.2 with ⟨_, h1⟩ | ⟨g, cap, cur, rfl, hb, hg, hn, hc, hs, ht⟩
  · simp at h1
  · have hl : (B ++ [s]).length = B.length + 1 := by simp
    refine ⟨g, cap, by rw [hl], hb, (Array.getElem?_eq_some_iff.1 hg).1, ?_, h0.frozenAt _, fun x => ?_⟩
    · rw [h0.cellAt (B.length * 2 + 1) (by omega), (cellsOf_get (B ++ [s]) B.length (by omega)).2]
      simp
    · have := (h0.stored (B.length * 2 + 1) (.int .i64 x)).1
      rw [cellsOf_set] at this
      unfold OwnsS
      rw [show (B ++ [(s.1, x)]).length = (B ++ [s]).length by simp]
      exact this

set_option maxRecDepth 100000 in
set_option maxHeartbeats 2000000 in
theorem of_cells (v : Value) (xs : List Int) (w : World) (hm : xs.length ≤ 100000) (hx : Reads w v xs) :
    Calls Tryd.prog 48 #[v] w fun e w' => OfPost w.heap.size xs e w' ∧ Below w.heap.size w w' := by
  obtain ⟨i0, hi, hz0, hz1, hz2⟩ := info_parts info41
  have C := Lib.hid (clone_any hx hm)
  have I := Lib.hid (And.intro hi (And.intro hz0 (And.intro hz1 hz2)))
  clear hx hi hz0 hz1 hz2
  go_enter Tryd.func48, Tryd.ntmps48
  go_wp2_with fail
  refine C.out.mono ?_
  rintro e w1 ⟨v1, rfl, ho1, hB1⟩
  have D := Lib.hid (sort_any ho1 hB1 hB1.size hm)
  clear ho1 hB1 C
  go_wp2_with fail
  refine D.out.mono ?_
  rintro e w2 ⟨rfl, ho2, hB2⟩
  clear D
  obtain ⟨ys, hys⟩ : ∃ ys, ys = sorted xs := ⟨_, rfl⟩
  have hu : ys.Pairwise (· ≤ ·) := hys ▸ sorted_up xs
  have hmem : ∀ x, x ∈ ys ↔ x ∈ xs := fun x => hys ▸ sorted_mem xs x
  have hln : ys.length = xs.length := hys ▸ sorted_length xs
  rw [← hys] at ho2
  obtain ⟨p, g, cap, rfl, hp, hcell⟩ := ints_shape ho2
  rw [← hln] at hm
  have HB2 := Lib.hid hB2
  have HU := Lib.hid hu
  have HM := Lib.hid hmem
  have HL := Lib.hid hln
  have HC := Lib.hid hcell
  clear hys ho2 hB2 hu hmem hln hcell
  obtain ⟨n, en⟩ : ∃ n, n = ys.length := ⟨_, rfl⟩
  rw [← en] at hm hp ⊢
  have HN := Lib.hid en
  clear en
  cases n with
  | zero =>
    have e0 : xs = [] := List.eq_nil_of_length_eq_zero (by rw [← HL.out, ← HN.out])
    have HE := Lib.hid e0
    clear e0 hp
    go_wp2_with fail
    go_loopw [6, 34] (fun l i wr => l = .slice none 0 0 ∧ i = .int .i64 0 ∧ wr = w2) (fun _ _ _ => 0)
    case atStart => exact ⟨rfl, rfl, rfl⟩
    case round =>
      obtain ⟨rfl, rfl, rfl⟩ := hrel
      go_wp2
      go_ret2
      refine ⟨.inr ?_, HB2.out⟩
      rw [HE.out]
      exact ⟨rfl, _, [], rfl, rfl, fun v => rfl, World.ownsRow_nil _ _ _ _, Nat.le_refl _⟩
  | succ m =>
    obtain rfl := hp (by omega)
    have c0 := HC.out 0 (by have := HN.out; omega)
    have cm := HC.out m (by have := HN.out; omega)
    obtain ⟨a0, e0⟩ : ∃ a0, a0 = ys.getD 0 0 := ⟨_, rfl⟩
    obtain ⟨am, em⟩ : ∃ am, am = ys.getD m 0 := ⟨_, rfl⟩
    rw [← e0] at c0
    rw [← em] at cm
    have HE := Lib.hid (And.intro e0 em)
    clear e0 em hp
    by_cases h1 : a0 < -1048576
    · have bad : okI xs = false := ok_not ((HM.out _).1 (HE.out.1 ▸ mem_getD (by have := HN.out; omega))) (.inl h1)
      have HX := Lib.hid bad
      clear bad
      go_wp2_with fail
      go_ret2
      exact ⟨.inl ⟨HX.out, rfl⟩, HB2.out⟩
    · by_cases h2 : 1048576 < am
      · have bad : okI xs = false := ok_not ((HM.out _).1 (HE.out.2 ▸ mem_getD (by have := HN.out; omega))) (.inr h2)
        have HX := Lib.hid bad
        clear bad
        go_wp2_with fail
        go_ret2
        exact ⟨.inl ⟨HX.out, rfl⟩, HB2.out⟩
      · have hok : ∀ k, k < m + 1 → -1048576 ≤ ys.getD k 0 ∧ ys.getD k 0 ≤ 1048576 := fun k hk => by
          have t1 := up_le HU.out (j := 0) (k := k) (by omega) (by have := HN.out; omega)
          have t2 := up_le HU.out (j := k) (k := m) (by omega) (by have := HN.out; omega)
          have := HE.out
          omega
        have good : okI xs = true := ok_iff.2 fun x hx => by
          obtain ⟨k, hk, rfl⟩ := mem_at ((HM.out x).2 hx)
          exact hok k (by have := HN.out; omega)
        have HX := Lib.hid good
        have HK := Lib.hid hok
        have HS := Lib.hid (World.ownsRow_nil w2 w2.heap.size 58 2)
        have g1 : -1048576 ≤ a0 := by omega
        have g2 : am ≤ 1048576 := by omega
        clear good hok h1 h2
        go_wp2_with fail
        · exfalso; omega
        go_loopw [6, 34] (fun l i wr => ∃ k : Nat, k ≤ m + 1 ∧ i = .int .i64 k ∧ ∃ A, OfRel ys k A ∧ OwnsS wr w2.heap.size l A ∧ Below w2.heap.size w2 wr) (fun _ i _ => m + 1 - (intOf i).toNat)
        case atStart => exact ⟨0, by omega, rfl, [], of_start ys, HS.out, Below.refl _ _⟩
        case round =>
          obtain ⟨k, hk, rfl, A, hrel, hown, hB⟩ := hrel
          by_cases hlt : k < m + 1
          · have hlx : k < ys.length := by have := HN.out; omega
            have ck := cell_below hB (HC.out k hlx)
            have hnx := of_next hrel HU.out hlx (HK.out k hlt).1 (HK.out k hlt).2
            have hxb := HK.out k hlt
            obtain ⟨x, ex⟩ : ∃ x, x = ys.getD k 0 := ⟨_, rfl⟩
            rw [← ex] at ck hnx hxb
            have HO := Lib.hid hnx
            have hlen := hrel.2.1
            by_cases hA : A = []
            · subst hA
              obtain ⟨q, cp, rfl⟩ := spans_shape hown
              have hsz := hB.size
              have hi := I.out.1
              have hz0 := I.out.2.1
              have hz1 := I.out.2.2.1
              have hz2 := I.out.2.2.2
              clear hrel hnx hlx ex
              go_wp2_with (at_builtin; refine wpList_append_own _ rfl _ _ 22 rfl w2.heap.size 58 i0 (.agg #[.int .i64 0, .int .i64 0]) 2 16 Tryd.underlying22 hi hz0 hz1 hz2 rfl (by decide) _ _ _ rfl (hown.alloc _) ⟨wr.heap.size, 0, none⟩ 1 1 [.int .i64 x, .int .i64 x] rfl rfl (cells_two _ _ _ _) (by simp [Value.oneCell']) (by unfold maxLen; simp) (by simp) (by simp; omega) ?_; intro v' w1 hown' hgrow _)
              go_roundw
              case rel =>
                refine ⟨k + 1, by omega, by go_num, step [] x, HO.out, ?_, ?_⟩
                · exact hown'
                · exact (hB.alloc hsz _).grown hgrow (by simp; omega) (fun j e => (hown.lt j e).1)
              case measure => simp [intOf]; omega
            · obtain ⟨B, s, rfl⟩ := last_split hA
              have hr := hrel.1.right
              rw [rightL, right_snoc] at hr
              have hr4 := hr.2.2
              obtain ⟨g', cp, rfl, hgb, hgl, c2, fz, hset⟩ := spans_last hown
              have hs2 : -1048576 ≤ s.2 ∧ s.2 ≤ 1048576 := by
                have h1 : inL (B ++ [s]) s.2 = true := by rw [in_snoc, decide_eq_true hr4.1]; simp
                have := in_low hrel.1.right h1
                omega
              rw [step_snoc] at hnx
              have hl : (B ++ [s]).length = B.length + 1 := by simp
              rw [hl] at hlen
              obtain ⟨y, ey⟩ : ∃ y, y = s.2 := ⟨_, rfl⟩
              rw [← ey] at c2 hs2 hnx
              have HNX := Lib.hid hnx
              by_cases hle : x ≤ y + 1
              · have HSET := Lib.hid (hset x)
                have HB := Lib.hid (hB.setCell (p := ⟨g', B.length * 2 + 1, none⟩) hgb (.int .i64 x))
                clear hrel hnx hlx ex HO ey hr hr4 hset hown hB hA hl
                go_wp2_with fail
                go_roundw
                case rel => exact ⟨k + 1, by omega, by go_num, _, by have := HNX.out; rw [if_pos hle] at this; exact this, HSET.out, HB.out⟩
                case measure => simp [intOf]; omega
              · have hgt : y + 1 < x := by omega
                have hown : wr.ownsRow w2.heap.size 58 2 (.slice (some ⟨g', 0, none⟩) (B.length + 1) cp) (B.length + 1) (cellsOf (B ++ [s])) := by rw [← hl]; rw [← hl] at hown; exact hown
                have hsz := hB.size
                have hi := I.out.1
                have hz0 := I.out.2.1
                have hz1 := I.out.2.2.1
                have hz2 := I.out.2.2.2
                have hmx : B.length + 1 + 1 ≤ maxLen := by unfold maxLen; omega
                clear hrel hnx hlx ex HO ey hr hr4 hset hA hl hle
                go_wp2_with (at_builtin; refine wpList_append_own _ rfl _ _ 22 rfl w2.heap.size 58 i0 (.agg #[.int .i64 0, .int .i64 0]) 2 16 Tryd.underlying22 hi hz0 hz1 hz2 rfl (by decide) _ _ _ rfl (hown.alloc _) ⟨wr.heap.size, 0, none⟩ 1 1 [.int .i64 x, .int .i64 x] rfl rfl (cells_two _ _ _ _) (by simp [Value.oneCell']) hmx (by omega) (by simp; omega) ?_; intro v' w1 hown' hgrow _)
                go_roundw
                case rel =>
                  refine ⟨k + 1, by omega, by go_num, _, by have := HNX.out; rw [if_neg (by omega)] at this; exact this, ?_, ?_⟩
                  · unfold OwnsS
                    rw [cellsOf_snoc]
                    simpa using hown'
                  · exact (hB.alloc hsz _).grown hgrow (by simp; omega) (fun j e => (hown.lt j e).1)
                case measure => simp [intOf]; omega
          · have ek : k = ys.length := by have := HN.out; omega
            have hfin : rightL A = true ∧ (∀ v, inL A v = decide (v ∈ xs)) ∧ A.length ≤ xs.length := by
              refine ⟨hrel.1.right, fun v => ?_, by rw [← HL.out, ← ek]; exact hrel.2.1⟩
              rw [Bool.eq_iff_iff, hrel.1.has, ek, List.take_length, HM.out]
              simp
            have HF := Lib.hid hfin
            have HO := Lib.hid (owns_low hown (HB2.out.size))
            have HB := Lib.hid (below_two HB2.out hB)
            clear hrel hown hB ek hfin
            go_wp2
            go_ret2
            exact ⟨.inr ⟨HX.out, _, A, rfl, HF.out.1, HF.out.2.1, HO.out, HF.out.2.2⟩, HB.out⟩

theorem of_any {w : World} {v : Value} {xs : List Int} (hx : Reads w v xs) (hm : xs.length ≤ 100000) :
    Calls Tryd.prog 48 #[v] w fun e w' => OfPost w.heap.size xs e w' ∧ Below w.heap.size w w' := of_cells v xs w hm hx
end Go.Proofs.YtnabkhmonmcmfaaDoor
