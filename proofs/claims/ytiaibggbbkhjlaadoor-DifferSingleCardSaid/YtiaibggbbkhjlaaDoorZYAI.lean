/-
  What Of of the program answers, at every list of numbers that can be read.
  What Of of the document's answers answers, at every list of numbers that can be read.
  What May of the program answers, at every list of values and every set of places.
-/
import Derived.Test.YtiaibggbbkhjlaaDoorZYAH
import Derived.Test.YtiaibggbbkhjlaaDoorZYAG
namespace Go.Proofs.YtiaibggbbkhjlaaDoor.Dm
open Go.RowKit

def okI (xs : List Int) : Bool := xs.all fun x => decide (-1048576 ≤ x) && decide (x ≤ 1048576)
theorem ok_iff {xs : List Int} : okI xs = true ↔ ∀ x ∈ xs, -1048576 ≤ x ∧ x ≤ 1048576 := by simp [okI]
theorem ok_not {xs : List Int} {x : Int} (h : x ∈ xs) (hx : x < -1048576 ∨ 1048576 < x) : okI xs = false := by
  cases e : okI xs
  · rfl
  · have := ok_iff.1 e x h
    omega

theorem take_mem_succ {xs : List Int} {k : Nat} (h : k < xs.length) (v : Int) : v ∈ xs.take (k + 1) ↔ v ∈ xs.take k ∨ v = xs.getD k 0 := by
  rw [List.take_add_one, List.getElem?_eq_getElem h, List.mem_append]
  simp [h]
theorem up_le {xs : List Int} (h : xs.Pairwise (· ≤ ·)) {j k : Nat} (hj : j ≤ k) (hk : k < xs.length) : xs.getD j 0 ≤ xs.getD k 0 := by
  rcases Nat.lt_or_ge j k with h1 | h1
  · have := List.pairwise_iff_getElem.1 h j k (by omega) hk h1
    simpa [hk, show j < xs.length by omega] using this
  · obtain rfl : j = k := by omega
    exact Int.le_refl _
theorem mem_getD {xs : List Int} {k : Nat} (h : k < xs.length) : xs.getD k 0 ∈ xs := by
  rw [List.getD_eq_getElem?_getD, List.getElem?_eq_getElem h]
  exact List.getElem_mem h
theorem mem_at {xs : List Int} {v : Int} (h : v ∈ xs) : ∃ k, k < xs.length ∧ xs.getD k 0 = v := by
  obtain ⟨k, hk, e⟩ := List.getElem_of_mem h
  exact ⟨k, hk, by simp [hk, e]⟩

/-- the spans of the first k numbers -/
def OfRel (ys : List Int) (k : Nat) (A : List (Int × Int)) : Prop := Built A (fun v => v ∈ ys.take k) (ys.getD (k - 1) 0) ∧ A.length ≤ k ∧ (A = [] → k = 0)
theorem of_start (ys : List Int) : OfRel ys 0 [] :=
  ⟨⟨rfl, fun v => by simp [inL], fun B s h => by simp at h⟩, Nat.le_refl _, fun _ => rfl⟩
theorem of_next {ys : List Int} {k : Nat} {A : List (Int × Int)} (h : OfRel ys k A) (hu : ys.Pairwise (· ≤ ·)) (hk : k < ys.length) (h1 : -1048576 ≤ ys.getD k 0) (h2 : ys.getD k 0 ≤ 1048576) : OfRel ys (k + 1) (step A (ys.getD k 0)) := by
  obtain ⟨hb, hl, hn⟩ := h
  refine ⟨step_built hb (fun hA => up_le hu (by omega) hk) h1 h2 (fun x => take_mem_succ hk x), ?_, fun e => ?_⟩
  · by_cases e : A = []
    · subst e
      simp [step_nil]
    · obtain ⟨B, s, rfl⟩ := last_split e
      rw [step_snoc]
      split <;> simp at hl ⊢ <;> omega
  · by_cases e0 : A = []
    · subst e0
      simp [step_nil] at e
    · obtain ⟨B, s, rfl⟩ := last_split e0
      rw [step_snoc] at e
      split at e <;> simp at e

theorem ints_shape {w : World} {base : Nat} {v : Value} {xs : List Int} (h : OwnsI w base v xs) :
    ∃ (p : Option Addr) (g cap : Nat), v = .slice p xs.length cap ∧ (0 < xs.length → p = some ⟨g, 0, none⟩) ∧ ∀ k, k < xs.length → w.cell? ⟨g, k, none⟩ = some (.int .i64 (xs.getD k 0)) := by
  have h0 := h
  rcases h.2 with ⟨rfl, h1⟩ | ⟨g, cap, cur, rfl, hb, hg, hn, hc, hs, ht⟩
  · exact ⟨none, 0, 0, by rw [h1], fun h => by omega, fun k hk => by omega⟩
  · refine ⟨_, g, cap, rfl, fun _ => rfl, fun k hk => ?_⟩
    rw [h0.cellAt k (by omega)]
    simp [hk]
end Go.Proofs.YtiaibggbbkhjlaaDoor.Dm
namespace Go.Proofs.YtiaibggbbkhjlaaDoor.Dm
open Go.RowKit

theorem reads_shape {w : World} {v : Value} {xs : List Int} (h : Reads w v xs) :
    ∃ (p : Option Addr) (b off c : Nat), v = .slice p xs.length c ∧ (0 < xs.length → p = some ⟨b, off, none⟩) ∧ ∀ k, k < xs.length → w.cell? ⟨b, off + k, none⟩ = some (.int .i64 (xs.getD k 0)) := by
  rcases h with ⟨p, c, rfl, rfl⟩ | ⟨b, off, c, rfl, hx⟩
  · exact ⟨p, 0, 0, c, rfl, fun h => by simp at h, fun k hk => by simp at hk⟩
  · exact ⟨_, b, off, c, rfl, fun _ => rfl, hx⟩

/-- how many are above -/
def above (low : Int) : List Int → Nat
  | [] => 0
  | x :: r => above low r + if low < x then 1 else 0
theorem above_le {low high : Int} (h : low ≤ high) : ∀ xs : List Int, above high xs ≤ above low xs
  | [] => Nat.le_refl _
  | x :: r => by
    have := above_le h r
    simp only [above]
    split <;> split <;> omega
theorem above_lt {low high : Int} (h : low < high) : ∀ {xs : List Int}, high ∈ xs → above high xs < above low xs
  | [], hm => by simp at hm
  | x :: r, hm => by
    have hle := above_le (Int.le_of_lt h) r
    simp only [above]
    rcases List.mem_cons.1 hm with e | hm
    · rw [if_neg (by omega), if_pos (by omega)]
      omega
    · have := above_lt h hm
      split <;> split <;> omega
theorem above_most (low : Int) : ∀ xs : List Int, above low xs ≤ xs.length
  | [] => Nat.le_refl _
  | x :: r => by
    have := above_most low r
    simp only [above, List.length_cons]
    split <;> omega

def flag : Value → Nat
  | .bool true => 1
  | _ => 0

/-- the least of those above low, or 2000000 -/
structure Least (xs : List Int) (low : Int) (k : Nat) (t : Int) : Prop where
  one : t = 2000000 ∨ t ∈ xs ∧ low < t
  low : ∀ j, j < k → low < xs.getD j 0 → t ≤ xs.getD j 0
theorem least_start (xs : List Int) (low : Int) : Least xs low 0 2000000 := ⟨.inl rfl, fun j h => by omega⟩
theorem least_take {xs : List Int} {low t : Int} {k : Nat} (h : Least xs low k t) (hk : k < xs.length) (h1 : low < xs.getD k 0) (h2 : xs.getD k 0 < t) : Least xs low (k + 1) (xs.getD k 0) := by
  refine ⟨.inr ⟨mem_getD hk, h1⟩, fun j hj hl => ?_⟩
  rcases Nat.lt_or_ge j k with h3 | h3
  · have := h.low j h3 hl
    omega
  · obtain rfl : j = k := by omega
    exact Int.le_refl _
theorem least_leave {xs : List Int} {low t : Int} {k : Nat} (h : Least xs low k t) (h1 : low < xs.getD k 0 → t ≤ xs.getD k 0) : Least xs low (k + 1) t := by
  refine ⟨h.one, fun j hj hl => ?_⟩
  rcases Nat.lt_or_ge j k with h3 | h3
  · exact h.low j h3 hl
  · obtain rfl : j = k := by omega
    exact h1 hl

/-- the spans of those up to low; or of all -/
def RofRel (xs : List Int) (A : List (Int × Int)) (low : Int) (more : Bool) : Prop :=
  (more = true ∧ Built A (fun v => v ∈ xs ∧ v ≤ low) low ∧ A.length + above low xs ≤ xs.length ∧ -2000000 ≤ low ∧ low ≤ 1048576) ∨ (more = false ∧ A.length ≤ xs.length ∧ ∃ t, Built A (fun v => v ∈ xs) t)
theorem rof_start {xs : List Int} (ok : okI xs = true) : RofRel xs [] (-2000000) true := by
  refine .inl ⟨rfl, ⟨rfl, fun v => ?_, fun B s h => by simp at h⟩, by simpa using above_most _ xs, by omega, by omega⟩
  simp [inL]
  intro hv
  have := ok_iff.1 ok v hv
  omega
theorem rof_end {xs : List Int} {A : List (Int × Int)} {low : Int} (h : RofRel xs A low true) (hl : Least xs low xs.length 2000000) (ok : okI xs = true) : RofRel xs A 2000000 false := by
  rcases h with ⟨_, hb, hc, _⟩ | ⟨h, _⟩
  · refine .inr ⟨rfl, by omega, low, hb.right, fun v => ?_, hb.last⟩
    rw [hb.has]
    constructor
    · exact fun h => h.1
    · intro hv
      refine ⟨hv, ?_⟩
      obtain ⟨k, hk, rfl⟩ := mem_at hv
      by_cases hlt : low < xs.getD k 0
      · have := hl.low k hk hlt
        have := ok_iff.1 ok _ hv
        omega
      · omega
  · simp at h
theorem rof_on {xs : List Int} {A : List (Int × Int)} {low t : Int} (h : RofRel xs A low true) (hl : Least xs low xs.length t) (ht : t < 2000000) (ok : okI xs = true) : RofRel xs (step A t) t true ∧ low < t ∧ t ≤ 1048576 ∧ -1048576 ≤ t ∧ above t xs < above low xs := by
  rcases h with ⟨_, hb, hc, _⟩ | ⟨h, _⟩
  · rcases hl.one with e | ⟨hm, hlt⟩
    · omega
    · have hr := ok_iff.1 ok t hm
      have hab := above_lt hlt hm
      refine ⟨.inl ⟨rfl, step_built hb (fun _ => Int.le_of_lt hlt) hr.1 hr.2 (fun x => ?_), ?_, by omega, by omega⟩, hlt, hr.2, hr.1, hab⟩
      · constructor
        · rintro ⟨h1, h2⟩
          by_cases h3 : x ≤ low
          · exact .inl ⟨h1, h3⟩
          · obtain ⟨k, hk, rfl⟩ := mem_at h1
            have := hl.low k hk (by omega)
            exact .inr (by omega)
        · rintro (⟨h1, h2⟩ | rfl)
          · exact ⟨h1, by omega⟩
          · exact ⟨hm, Int.le_refl _⟩
      · by_cases e : A = []
        · subst e
          simp only [step_nil, List.length_cons, List.length_nil] at hc ⊢
          omega
        · obtain ⟨B, s, rfl⟩ := last_split e
          rw [step_snoc]
          split <;> simp only [List.length_append, List.length_cons, List.length_nil] at hc ⊢ <;> omega
  · simp at h

end Go.Proofs.YtiaibggbbkhjlaaDoor.Dm
namespace Go.Proofs.YtiaibggbbkhjlaaDoor.Dm
open Go.RowKit

theorem drop_consI {xs : List Int} {k : Nat} (h : k < xs.length) : xs.drop k = xs.getD k 0 :: xs.drop (k + 1) := by
  rw [List.getD_eq_getElem?_getD, List.getElem?_eq_getElem h]
  exact List.drop_eq_getElem_cons h
theorem drop_endI {xs : List Int} {k : Nat} (h : xs.length ≤ k) : xs.drop k = [] := List.drop_eq_nil_of_le h

/-- the first k values rise up to z -/
def RiseRel (xs : List Int) (k : Nat) (z : Int) : Prop := riseF (-1048576) xs = riseF z (xs.drop k) ∧ -1048576 ≤ z ∧ z ≤ 1048577

set_option maxRecDepth 100000 in
set_option maxHeartbeats 1000000 in
theorem may_cells (p : Option Addr) (b off c len x : Nat) (xs : List Int) (w : World) (hl : len = xs.length) (hm : len ≤ 1000000) (hx : x < 18446744073709551616) (hp : 0 < len → p = some ⟨b, off, none⟩) (hc : ∀ k, k < xs.length → w.cell? ⟨b, off + k, none⟩ = some (.int .i64 (xs.getD k 0))) :
    Calls Tryd.prog 40 #[.agg #[.slice p len c, .int .u64 x]] w fun e w' => e = .returned (.bool (mayL xs x)) ∧ Below w.heap.size w w' := by
  have G := Lib.hid (B.greatest_any x hx)
  have HX := Lib.hid hc
  have HN := Lib.hid hl
  have HS := Lib.hid (show RiseRel xs 0 (-1048576) from ⟨rfl, by omega, by omega⟩)
  have HB := Lib.hid (fun n => below_drewN (n := n) ((Below.refl _ w).alloc (Nat.le_refl _) (.cells #[.slice p len c, .int .u64 x] 47)))
  by_cases h64 : len ≤ 64
  · have d1 : decide ((64 : Int) < (len : Int)) = false := decide_eq_false (by omega)
    have hgl := greatest_lt (n := len) hx h64
    have hlow : -1 ≤ B.lastZ (B.mem 64 x) := by rw [B.greatest_eq x hx]; omega
    obtain ⟨g, eg⟩ : ∃ g, B.lastZ (B.mem 64 x) = g := ⟨_, rfl⟩
    rw [eg] at hgl G hlow
    clear eg
    by_cases hg : g < (len : Int)
    · have hM : mayL xs x = riseF (-1048576) xs := by
        rw [mayL, ← hl, decide_eq_true h64, decide_eq_true (hgl.1 hg)]
        simp
      have d2 : decide ((len : Int) ≤ g) = false := decide_eq_false (by omega)
      obtain ⟨R, hR⟩ : ∃ R, R = mayL xs x := ⟨_, rfl⟩
      rw [← hR]
      have HR := Lib.hid (hR.trans hM)
      clear hR hM hc hl hgl hg
      go_enter Tryd.func40, Tryd.ntmps40
      go_wp2
      go_quiet (first | (go_at_call 52; refine Calls.quiet_of_same (G.out _)))
      go_wp2
      go_loopw [3, 22] (fun v i wr => ∃ k : Nat, k ≤ len ∧ i = .int .i64 k ∧ ∃ z, v = .int .i64 z ∧ RiseRel xs k z ∧ Below w.heap.size w wr) (fun _ i _ => len - (intOf i).toNat)
      case atStart => exact ⟨0, by omega, rfl, _, rfl, HS.out, HB.out _⟩
      case round =>
        obtain ⟨k, hk, rfl, z, rfl, hrel, hB⟩ := hrel
        by_cases hlt : k < len
        · obtain rfl := hp (by omega)
          have hlx : k < xs.length := by have := HN.out; omega
          have c0 := cell_below hB (HX.out k hlx)
          have hd := drop_consI hlx
          obtain ⟨y, ey⟩ : ∃ y, y = xs.getD k 0 := ⟨_, rfl⟩
          rw [← ey] at c0 hd
          have key : riseF (-1048576) xs = (decide (z ≤ y) && decide (y ≤ 1048576) && riseF (y + 1) (xs.drop (k + 1))) := by rw [hrel.1, hd, riseF]
          have HK := Lib.hid key
          have hz := hrel.2
          have HBB := Lib.hid hB
          clear ey hd hlx hB hrel key
          by_cases h1 : y < z
          · go_wp2_with fail
            go_ret
            exact ⟨by rw [HR.out, HK.out, decide_eq_false (by omega)]; rfl, HBB.out⟩
          · by_cases h2 : 1048576 < y
            · go_wp2_with fail
              go_ret
              exact ⟨by rw [HR.out, HK.out, decide_eq_false (p := y ≤ 1048576) (by omega)]; simp, HBB.out⟩
            · have g1 : z ≤ y := by omega
              have g2 : y ≤ 1048576 := by omega
              go_wp2_with fail
              go_roundw
              case rel => exact ⟨k + 1, by omega, by go_num, y + 1, by go_num, ⟨by rw [HK.out, decide_eq_true (by omega), decide_eq_true (p := y ≤ 1048576) (by omega)]; simp, by omega, by omega⟩, HBB.out⟩
              case measure => simp [intOf]; omega
        · have hd : xs.drop k = [] := drop_endI (by have := HN.out; omega)
          have key : riseF (-1048576) xs = true := by rw [hrel.1, hd]; rfl
          have HK := Lib.hid key
          have HBB := Lib.hid hB
          clear hrel hB key hd hp
          go_wp2
          go_ret
          exact ⟨by rw [HR.out, HK.out]; rfl, HBB.out⟩
    · have hM : mayL xs x = false := by
        rw [mayL, ← hl, decide_eq_false (p := x < 2 ^ len) (fun h => hg (hgl.2 h))]
        simp
      rw [hM]
      have d2 : (len : Int) ≤ g := by omega
      clear hM hc hl hgl hg
      go_enter Tryd.func40, Tryd.ntmps40
      go_wp2
      go_quiet (first | (go_at_call 52; refine Calls.quiet_of_same (G.out _)))
      go_wp2
      go_ret
      exact ⟨rfl, HB.out _⟩
  · have hM : mayL xs x = false := by
      rw [mayL, ← hl, decide_eq_false h64]
      simp
    rw [hM]
    have d1 : (64 : Int) < (len : Int) := by omega
    clear hM hc hl h64
    go_enter Tryd.func40, Tryd.ntmps40
    go_wp2
    go_quiet (first | (go_at_call 52; refine Calls.quiet_of_same (G.out _)))
    go_wp2
    go_ret
    exact ⟨rfl, HB.out _⟩

theorem may_any {w : World} {v : Value} {xs : List Int} (h : Reads w v xs) (hm : xs.length ≤ 1000000) (x : Nat) (hx : x < 18446744073709551616) :
    Calls Tryd.prog 40 #[.agg #[v, .int .u64 x]] w fun e w' => e = .returned (.bool (mayL xs x)) ∧ Below w.heap.size w w' := by
  obtain ⟨p, b, off, c, rfl, hp, hc⟩ := reads_shape h
  exact may_cells p b off c _ x xs w rfl hm hx hp hc
end Go.Proofs.YtiaibggbbkhjlaaDoor.Dm
