/-
  What Of of the document's answers answers, at every list of numbers that can be read.
-/
import Derived.Test.YtnabkhmonmcmfaaDoorSOf
namespace Go.Proofs.YtnabkhmonmcmfaaDoor
open Go.RowKit

theorem reads_shape {w : World} {v : Value} {xs : List Int} (h : Reads w v xs) :
    ∃ (p : Option Addr) (b off c : Nat), v = .slice p xs.length c ∧ (0 < xs.length → p = some ⟨b, off, none⟩) ∧ ∀ k, k < xs.length → w.cell? ⟨b, off + k, none⟩ = some (.int .i64 (xs.getD k 0)) := by
  rcases h with ⟨p, c, rfl, rfl⟩ | ⟨b, off, c, rfl, hx⟩
  · exact ⟨p, 0, 0, c, rfl, fun h => by simp at h, fun k hk => by simp at hk⟩
  · exact ⟨_, b, off, c, rfl, fun _ => rfl, hx⟩

/-- how many are above -/
def above (low : Int) : List Int → Nat
  | [] => 0
  | x :: r => above low r + if low < x then 1 else 0
theorem above_le {low high : Int} (h : low ≤ high) : ∀ xs : List Int, above high xs ≤ above low xs
  | [] => Nat.le_refl _
  | x :: r => by
    have := above_le h r
    simp only [above]
    split <;> split <;> omega
theorem above_lt {low high : Int} (h : low < high) : ∀ {xs : List Int}, high ∈ xs → above high xs < above low xs
  | [], hm => by simp at hm
  | x :: r, hm => by
    have hle := above_le (Int.le_of_lt h) r
    simp only [above]
    rcases List.mem_cons.1 hm with e | hm
    · rw [if_neg (by omega), if_pos (by omega)]
      omega
    · have := above_lt h hm
      split <;> split <;> omega
theorem above_most (low : Int) : ∀ xs : List Int, above low xs ≤ xs.length
  | [] => Nat.le_refl _
  | x :: r => by
    have := above_most low r
    simp only [above, List.length_cons]
    split <;> omega

def flag : Value → Nat
  | .bool true => 1
  | _ => 0

/-- the least of those above low, or 2000000 -/
structure Least (xs : List Int) (low : Int) (k : Nat) (t : Int) : Prop where
  one : t = 2000000 ∨ t ∈ xs ∧ low < t
  low : ∀ j, j < k → low < xs.getD j 0 → t ≤ xs.getD j 0
theorem least_start (xs : List Int) (low : Int) : Least xs low 0 2000000 := ⟨.inl rfl, fun j h => by omega⟩
theorem least_take {xs : List Int} {low t : Int} {k : Nat} (h : Least xs low k t) (hk : k < xs.length) (h1 : low < xs.getD k 0) (h2 : xs.getD k 0 < t) : Least xs low (k + 1) (xs.getD k 0) := by
  refine ⟨.inr ⟨mem_getD hk, h1⟩, fun j hj hl => ?_⟩
  rcases Nat.lt_or_ge j k with h3 | h3
  · have := h.low j h3 hl
    omega
  · obtain rfl : j = k := by omega
    exact Int.le_refl _
theorem least_leave {xs : List Int} {low t : Int} {k : Nat} (h : Least xs low k t) (h1 : low < xs.getD k 0 → t ≤ xs.getD k 0) : Least xs low (k + 1) t := by
  refine ⟨h.one, fun j hj hl => ?_⟩
  rcases Nat.lt_or_ge j k with h3 | h3
  · exact h.low j h3 hl
  · obtain rfl : j = k := by omega
    exact h1 hl

/-- the spans of those up to low; or of all -/
def RofRel (xs : List Int) (A : List (Int × Int)) (low : Int) (more : Bool) : Prop :=
  (more = true ∧ Built A (fun v => v ∈ xs ∧ v ≤ low) low ∧ A.length + above low xs ≤ xs.length ∧ -2000000 ≤ low ∧ low ≤ 1048576) ∨ (more = false ∧ A.length ≤ xs.length ∧ ∃ t, Built A (fun v => v ∈ xs) t)
theorem rof_start {xs : List Int} (ok : okI xs = true) : RofRel xs [] (-2000000) true := by
  refine .inl ⟨rfl, ⟨rfl, fun v => ?_, fun B s h => by simp at h⟩, by simpa using above_most _ xs, by omega, by omega⟩
  simp [inL]
  intro hv
  have := ok_iff.1 ok v hv
  omega
theorem rof_end {xs : List Int} {A : List (Int × Int)} {low : Int} (h : RofRel xs A low true) (hl : Least xs low xs.length 2000000) (ok : okI xs = true) : RofRel xs A 2000000 false := by
  rcases h with ⟨_, hb, hc, _⟩ | ⟨h, _⟩
  · refine .inr ⟨rfl, by omega, low, hb.right, fun v => ?_, hb.last⟩
    rw [hb.has]
    constructor
    · exact fun h => h.1
    · intro hv
      refine ⟨hv, ?_⟩
      obtain ⟨k, hk, rfl⟩ := mem_at hv
      by_cases hlt : low < xs.getD k 0
      · have := hl.low k hk hlt
        have := ok_iff.1 ok _ hv
        omega
      · omega
  · simp at h
theorem rof_on {xs : List Int} {A : List (Int × Int)} {low t : Int} (h : RofRel xs A low true) (hl : Least xs low xs.length t) (ht : t < 2000000) (ok : okI xs = true) : RofRel xs (step A t) t true ∧ low < t ∧ t ≤ 1048576 ∧ -1048576 ≤ t ∧ above t xs < above low xs := by
  rcases h with ⟨_, hb, hc, _⟩ | ⟨h, _⟩
  · rcases hl.one with e | ⟨hm, hlt⟩
    · omega
    · have hr := ok_iff.1 ok t hm
      have hab := above_lt hlt hm
      refine ⟨.inl ⟨rfl, step_built hb (fun _ => Int.le_of_lt hlt) hr.1 hr.2 (fun x => ?_), ?_, by omega, by omega⟩, hlt, hr.2, hr.1, hab⟩
      · constructor
        · rintro ⟨h1, h2⟩
          by_cases h3 : x ≤ low
          · exact .inl ⟨h1, h3⟩
          · obtain ⟨k, hk, rfl⟩ := mem_at h1
            have := hl.low k hk (by omega)
            exact .inr (by omega)
        · rintro (⟨h1, h2⟩ | rfl)
          · exact ⟨h1, by omega⟩
          · exact ⟨hm, Int.le_refl _⟩
      · by_cases e : A = []
        · subst e
          simp only [step_nil, List.length_cons, List.length_nil] at hc ⊢
          omega
        · obtain ⟨B, s, rfl⟩ := last_split e
          rw [step_snoc]
          split <;> simp only [List.length_append, List.length_cons, List.length_nil] at hc ⊢ <;> omega
  · simp at h

set_option maxRecDepth 100000 in
set_option maxHeartbeats 4000000 in
theorem rof_cells (p : Option Addr) (b off c n : Nat) (xs : List Int) (w : World) (hl : n = xs.length) (hm : n ≤ 100000) (hp : 0 < n → p = some ⟨b, off, none⟩) (hx : ∀ k, k < xs.length → w.cell? ⟨b, off + k, none⟩ = some (.int .i64 (xs.getD k 0))) :
    Calls Tryd.prog 19 #[.slice p n c] w fun e w' => OfPost w.heap.size xs e w' ∧ Below w.heap.size w w' := by
  obtain ⟨i0, hi, hz0, hz1, hz2⟩ := info_parts info41
  have I := Lib.hid (And.intro hi (And.intro hz0 (And.intro hz1 hz2)))
  have HX := Lib.hid hx
  have HN := Lib.hid hl
  have HS := Lib.hid (show OwnsS (w.alloc (.cells #[] 58)) w.heap.size (.slice (some ⟨w.heap.size, 0, none⟩) 0 0) [] from World.ownsRow_made w #[] 0 (Nat.le_refl _) (by decide) rfl)
  have HW := Lib.hid (show Below w.heap.size w (w.alloc (.cells #[] 58)) from (Below.refl _ w).alloc (Nat.le_refl _) _)
  clear hx hl hi hz0 hz1 hz2
  go_enter Tryd.func19, Tryd.ntmps19
  go_wp2
  generalize hw1 : w.alloc (.cells #[] 58) = w1
  rw [hw1] at HS HW
  clear hw1
  go_loopw [6] (fun i wr => ∃ k : Nat, k ≤ n ∧ i = .int .i64 k ∧ (∀ j, j < k → -1048576 ≤ xs.getD j 0 ∧ xs.getD j 0 ≤ 1048576) ∧ wr = w1) (fun i _ => n - (intOf i).toNat)
  case atStart => exact ⟨0, by omega, rfl, fun j h => by omega, rfl⟩
  case round =>
    obtain ⟨k, hk, rfl, hrel, rfl⟩ := hrel
    by_cases hlt : k < n
    · obtain rfl := hp (by omega)
      have hlx : k < xs.length := by have := HN.out; omega
      have ck := cell_below HW.out (HX.out k hlx)
      have hmem := mem_getD hlx
      obtain ⟨x, ex⟩ : ∃ x, x = xs.getD k 0 := ⟨_, rfl⟩
      rw [← ex] at ck hmem
      have HE := Lib.hid ex
      have HR := Lib.hid hrel
      have HM := Lib.hid hmem
      clear ex hrel hmem hlx
      by_cases h1 : x < -1048576
      · go_wp2_with fail
        go_ret2
        exact ⟨.inl ⟨ok_not HM.out (.inl h1), rfl⟩, HW.out⟩
      · by_cases h2 : 1048576 < x
        · go_wp2_with fail
          go_ret2
          exact ⟨.inl ⟨ok_not HM.out (.inr h2), rfl⟩, HW.out⟩
        · have g1 : -1048576 ≤ x := by omega
          have g2 : x ≤ 1048576 := by omega
          clear h1 h2
          go_wp2_with fail
          go_roundw
          case rel =>
            refine ⟨k + 1, by omega, by go_num, fun j hj => ?_, trivial⟩
            rcases Nat.lt_or_ge j k with h3 | h3
            · exact HR.out j h3
            · obtain rfl : j = k := by omega
              rw [← HE.out]
              omega
          case measure => simp [intOf]; omega
    · have ok : okI xs = true := ok_iff.2 fun x hx => by
        obtain ⟨j, hj, rfl⟩ := mem_at hx
        exact hrel j (by have := HN.out; omega)
      have OK := Lib.hid ok
      have HR := Lib.hid (rof_start ok)
      clear ok hrel
      go_wp2_with fail
      go_loopw [4, 5, 7] (fun out low more wq => ∃ A lo mo, OwnsS wq w.heap.size out A ∧ low = .int .i64 lo ∧ more = .bool mo ∧ RofRel xs A lo mo ∧ Below w.heap.size w wq) (fun _ low more _ => flag more + above (intOf low) xs)
      case atStart => exact ⟨[], -2000000, true, HS.out, rfl, rfl, HR.out, HW.out⟩
      case round =>
        obtain ⟨A, lo, mo, hown, rfl, rfl, hrel, hB⟩ := hrel
        cases mo with
        | false =>
          have hfin : rightL A = true ∧ (∀ v, inL A v = decide (v ∈ xs)) ∧ A.length ≤ xs.length := by
            rcases hrel with ⟨h, _⟩ | ⟨_, h1, t, h2⟩
            · simp at h
            · refine ⟨h2.right, fun v => ?_, h1⟩
              rw [Bool.eq_iff_iff, h2.has]
              simp
          have HF := Lib.hid hfin
          have HO := Lib.hid hown
          have HB := Lib.hid hB
          clear hrel hown hB hfin
          go_wp2_with fail
          go_ret2
          exact ⟨.inr ⟨OK.out, _, A, rfl, HF.out.1, HF.out.2.1, HO.out, HF.out.2.2⟩, HB.out⟩
        | true =>
          have hlo : -2000000 ≤ lo ∧ lo ≤ 1048576 ∧ A.length ≤ n := by
            rcases hrel with ⟨_, _, h3, h4⟩ | ⟨h, _⟩
            · have := HN.out
              exact ⟨h4.1, h4.2, by omega⟩
            · simp at h
          have HL := Lib.hid hrel
          have HO := Lib.hid hown
          have HB := Lib.hid hB
          have L0 := Lib.hid (least_start xs lo)
          clear hrel hown hB
          go_wp2_with fail
          go_loopw [8, 9] (fun best i wq => ∃ k : Nat, k ≤ n ∧ i = .int .i64 k ∧ ∃ t, best = .int .i64 t ∧ Least xs lo k t ∧ wq = wr) (fun _ i _ => n - (intOf i).toNat)
          case atStart => exact ⟨0, by omega, rfl, 2000000, rfl, L0.out, rfl⟩
          case round =>
            obtain ⟨k, hk, rfl, t, rfl, hrel, rfl⟩ := hrel
            by_cases hlt : k < n
            · obtain rfl := hp (by omega)
              have hlx : k < xs.length := by have := HN.out; omega
              have ck := cell_below HB.out (HX.out k hlx)
              have n1 := least_take hrel hlx
              have n2 := least_leave hrel
              obtain ⟨x, ex⟩ : ∃ x, x = xs.getD k 0 := ⟨_, rfl⟩
              rw [← ex] at ck n1 n2
              have N1 := Lib.hid n1
              have N2 := Lib.hid n2
              clear ex hrel hlx n1 n2
              by_cases h1 : lo < x
              · by_cases h2 : x < t
                · go_wp2_with fail
                  go_roundw
                  case rel => exact ⟨k + 1, by omega, by go_num, x, rfl, N1.out h1 h2, trivial⟩
                  case measure => simp [intOf]; omega
                · go_wp2_with fail
                  go_roundw
                  case rel => exact ⟨k + 1, by omega, by go_num, t, rfl, N2.out (fun _ => by omega), trivial⟩
                  case measure => simp [intOf]; omega
              · go_wp2_with fail
                go_roundw
                case rel => exact ⟨k + 1, by omega, by go_num, t, rfl, N2.out (fun _ => by omega), trivial⟩
                case measure => simp [intOf]; omega
            · have hk' : k = xs.length := by have := HN.out; omega
              rw [hk'] at hrel
              by_cases ht : t < 2000000
              · obtain ⟨r1, r2, r3, r4, r5⟩ := rof_on HL.out hrel ht OK.out
                have R5 := Lib.hid r5
                have hown := HO.out
                have hB := HB.out
                by_cases hA : A = []
                · subst hA
                  obtain ⟨q, cp, rfl⟩ := spans_shape hown
                  have hsz := hB.size
                  have hi := I.out.1
                  have hz0 := I.out.2.1
                  have hz1 := I.out.2.2.1
                  have hz2 := I.out.2.2.2
                  have R1 := Lib.hid r1
                  clear hrel hk' r1 r5
                  go_wp2_with (at_builtin; refine wpList_append_own _ rfl _ _ 22 rfl w.heap.size 58 i0 (.agg #[.int .i64 0, .int .i64 0]) 2 16 Tryd.underlying22 hi hz0 hz1 hz2 rfl (by decide) _ _ _ rfl (hown.alloc _) ⟨wr.heap.size, 0, none⟩ 1 1 [.int .i64 t, .int .i64 t] rfl rfl (cells_two _ _ _ _) (by simp [Value.oneCell']) (by unfold maxLen; simp) (by simp) (by simp; omega) ?_; intro v' w1 hown' hgrow _)
                  go_roundw
                  case rel =>
                    refine ⟨step [] t, t, true, ?_, rfl, ?_, R1.out, ?_⟩
                    · exact hown'
                    · go_num
                    · exact (hB.alloc hsz _).grown hgrow (by simp; omega) (fun j e => (hown.lt j e).1)
                  case measure =>
                    have := R5.out
                    simp [intOf, flag]
                    omega
                · obtain ⟨B, s, rfl⟩ := last_split hA
                  have hbt : s.2 = lo ∧ -1048576 ≤ s.2 ∧ s.2 ≤ 1048576 := by
                    rcases HL.out with ⟨_, hb, _⟩ | ⟨h, _⟩
                    · have h1 := hb.right
                      rw [rightL, right_snoc] at h1
                      have h2 : inL (B ++ [s]) s.2 = true := by rw [in_snoc, decide_eq_true h1.2.2.1]; simp
                      have := in_low hb.right h2
                      exact ⟨hb.last B s rfl, by omega, by omega⟩
                    · simp at h
                  obtain ⟨g', cp, rfl, hgb, hgl, c2, fz, hset⟩ := spans_last hown
                  rw [step_snoc] at r1
                  have hl : (B ++ [s]).length = B.length + 1 := by simp
                  have hlen := hlo.2.2
                  rw [hl] at hlen
                  obtain ⟨y, ey⟩ : ∃ y, y = s.2 := ⟨_, rfl⟩
                  rw [← ey] at c2 hbt r1
                  have R1 := Lib.hid r1
                  by_cases hle : y + 1 = t
                  · subst hle
                    have HSET := Lib.hid (hset (y + 1))
                    have HBS := Lib.hid (hB.setCell (p := ⟨g', B.length * 2 + 1, none⟩) hgb (.int .i64 (y + 1)))
                    have hB1 := hbt.2
                    clear hrel r1 r5 ey hset hown hB hA hl hk' hlo hbt
                    go_wp2_with fail
                    go_roundw
                    case rel => exact ⟨_, y + 1, true, HSET.out, rfl, rfl, by have := R1.out; rw [if_pos (Int.le_refl _)] at this; exact this, HBS.out⟩
                    case measure =>
                      have := R5.out
                      simp [intOf, flag]
                      omega
                  · have hgt : y + 1 < t := by omega
                    have hown : wr.ownsRow w.heap.size 58 2 (.slice (some ⟨g', 0, none⟩) (B.length + 1) cp) (B.length + 1) (cellsOf (B ++ [s])) := by rw [← hl]; rw [← hl] at hown; exact hown
                    have hsz := hB.size
                    have hi := I.out.1
                    have hz0 := I.out.2.1
                    have hz1 := I.out.2.2.1
                    have hz2 := I.out.2.2.2
                    have hB1 := hbt.2
                    have hmx : B.length + 1 + 1 ≤ maxLen := by unfold maxLen; omega
                    clear hrel r1 r5 ey hset hA hl hk' hbt
                    go_wp2_with (at_builtin; refine wpList_append_own _ rfl _ _ 22 rfl w.heap.size 58 i0 (.agg #[.int .i64 0, .int .i64 0]) 2 16 Tryd.underlying22 hi hz0 hz1 hz2 rfl (by decide) _ _ _ rfl (hown.alloc _) ⟨wr.heap.size, 0, none⟩ 1 1 [.int .i64 t, .int .i64 t] rfl rfl (cells_two _ _ _ _) (by simp [Value.oneCell']) hmx (by omega) (by simp; omega) ?_; intro v' w1 hown' hgrow _)
                    go_roundw
                    case rel =>
                      refine ⟨_, t, true, ?_, rfl, ?_, by have := R1.out; rw [if_neg (by omega)] at this; exact this, ?_⟩
                      · unfold OwnsS
                        rw [cellsOf_snoc]
                        simpa using hown'
                      · go_num
                      · exact (hB.alloc hsz _).grown hgrow (by simp; omega) (fun j e => (hown.lt j e).1)
                    case measure =>
                      have := R5.out
                      simp [intOf, flag]
                      omega
              · have et : t = 2000000 := by
                  rcases hrel.one with h | ⟨h, _⟩
                  · exact h
                  · have := ok_iff.1 OK.out t h
                    omega
                subst et
                have R1 := Lib.hid (rof_end HL.out hrel OK.out)
                have hab : above 2000000 xs ≤ above lo xs := above_le (by omega) xs
                have HA := Lib.hid hab
                clear hrel hk' hab ht
                go_wp2_with fail
                go_roundw
                case rel => exact ⟨A, 2000000, false, HO.out, rfl, rfl, R1.out, HB.out⟩
                case measure =>
                  have := HA.out
                  simp [intOf, flag]
                  omega

theorem rof_any {w : World} {v : Value} {xs : List Int} (hx : Reads w v xs) (hm : xs.length ≤ 100000) :
    Calls Tryd.prog 19 #[v] w fun e w' => OfPost w.heap.size xs e w' ∧ Below w.heap.size w w' := by
  obtain ⟨p, b, off, c, rfl, hp, hc⟩ := reads_shape hx
  exact rof_cells p b off c _ xs w rfl hm hp hc
end Go.Proofs.YtnabkhmonmcmfaaDoor
