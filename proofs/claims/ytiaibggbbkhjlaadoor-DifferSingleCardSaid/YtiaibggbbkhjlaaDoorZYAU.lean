/-
  What Size, Least, Greatest and Single of package dom answer, at every domain.
  What Lists of the document's answers for steps answers: what is left of each domain.
-/
import Derived.Test.YtiaibggbbkhjlaaDoorZYAK
import Derived.Test.YtiaibggbbkhjlaaDoorZJMem
namespace Go.Proofs.YtiaibggbbkhjlaaDoor.Dm
open Go.RowKit
set_option maxRecDepth 100000

section
variable {w : World} {v : Value} {xs : List Int} (hr : Reads w v xs) (hm : xs.length ≤ 1000000) (x : Nat) (hx : x < 18446744073709551616)

set_option maxHeartbeats 1000000 in
theorem size1_any (p : Option Addr) (n c : Nat) (hx : x < 18446744073709551616) (u : World) :
    Calls Tryd.prog 57 #[.agg #[.slice p n c, .int .u64 x]] u fun e w' => ∃ r, e = .returned r ∧ r = .int .i64 ((B.mem 64 x).length : Nat) ∧ Below u.heap.size u w' := by
  have C := Lib.hid (B.count_any x hx)
  have HB := Lib.hid ((Below.refl _ u).alloc (Nat.le_refl _) (.cells #[.slice p n c, .int .u64 x] 47))
  go_enter Tryd.func57, Tryd.ntmps57
  go_wp2_with fail
  refine (C.out _).mono ?_
  rintro e w' ⟨rfl, rfl⟩
  go_wp2_with fail
  go_ret
  exact ⟨_, rfl, rfl, HB.out⟩

include hr hm hx

set_option maxHeartbeats 1000000 in
theorem dsize_any : Calls Tryd.prog 43 #[.agg #[v, .int .u64 x]] w fun e w' => e = .returned (.int .i64 ((leftM xs x).length : Nat)) ∧ Below w.heap.size w w' := by
  obtain ⟨p, n, c, rfl⟩ := reads_slice hr
  have HB := Lib.hid ((Below.refl _ w).alloc (Nat.le_refl _) (.cells #[.slice p n c, .int .u64 x] 47))
  have A := Lib.hid (askI (reads_alloc hr (.cells #[.slice p n c, .int .u64 x] 47)) hm x hx 57 (enters_of Tryd.func57 (by kernel_rfl) rfl) #[] (fun r _ => r = .int .i64 ((B.mem 64 x).length : Nat)) (fun _ u _ => size1_any x p n c hx u))
  have key : ∀ e w', Asked (mayL xs x) (.int .i64 0) (fun r _ => r = .int .i64 ((B.mem 64 x).length : Nat)) e w' → e = .returned (.int .i64 ((leftM xs x).length : Nat)) := by
    rintro e w' (⟨h, rfl⟩ | ⟨h, r, rfl, rfl⟩)
    · simp [leftM, h]
    · rw [leftM, if_pos h, left_length]
  have HK := Lib.hid key
  clear hr key
  go_enter Tryd.func43, Tryd.ntmps43
  go_wp2_with fail
  refine A.out.mono ?_
  rintro e w1 ⟨h, hB⟩
  obtain rfl := HK.out _ _ h
  have HB1 := Lib.hid (below_two HB.out hB)
  clear h hB
  go_wp2_with fail
  go_ret
  exact ⟨rfl, HB1.out⟩

/-- what is picked at place k -/
def pickN (xs : List Int) (k : Int) : Int := if k < 0 then 0 else xs.getD k.toNat 0

end

theorem mem_may {xs : List Int} {x : Nat} (h : mayL xs x = true) {k : Nat} (hk : k ∈ B.mem 64 x) : k < xs.length :=
  bit_len (may_iff.1 h).2.1 (B.mem_iff.1 hk).2
theorem head_lt {xs : List Int} {x : Nat} (h : mayL xs x = true) : B.headZ (B.mem 64 x) < (xs.length : Int) := by
  cases e : B.mem 64 x with
  | nil => simp [B.headZ]; omega
  | cons a r =>
    have := mem_may h (k := a) (by simp [e])
    simp [B.headZ]
    omega
theorem head_ge (x : Nat) : -1 ≤ B.headZ (B.mem 64 x) := by
  cases e : B.mem 64 x with
  | nil => simp [B.headZ]
  | cons a r => simp [B.headZ]
theorem last_lt {xs : List Int} {x : Nat} (h : mayL xs x = true) : B.lastZ (B.mem 64 x) < (xs.length : Int) :=
  (greatest_lt (may_lt h) (may_iff.1 h).1).2 (may_iff.1 h).2.1
theorem last_ge (x : Nat) (hx : x < 18446744073709551616) : -1 ≤ B.lastZ (B.mem 64 x) := by
  rw [B.greatest_eq x hx]
  omega
theorem head_pick {xs : List Int} {x : Nat} : (if mayL xs x = true then pickN xs (B.headZ (B.mem 64 x)) else 0) = (leftM xs x).getD 0 0 ∧ (mayL xs x && decide (0 ≤ B.headZ (B.mem 64 x))) = decide (0 < (leftM xs x).length) := by
  cases hm : mayL xs x with
  | false => simp [leftM, hm]
  | true =>
    simp only [leftM, hm, if_true, left, pickN]
    cases e : B.mem 64 x with
    | nil => simp [B.headZ]
    | cons a r =>
      have : ¬ ((a : Int) < 0) := by omega
      simp [B.headZ, this]
theorem last_pick {xs : List Int} {x : Nat} : (if mayL xs x = true then pickN xs (B.lastZ (B.mem 64 x)) else 0) = (leftM xs x).getD ((leftM xs x).length - 1) 0 ∧ (mayL xs x && decide (0 ≤ B.lastZ (B.mem 64 x))) = decide (0 < (leftM xs x).length) := by
  cases hm : mayL xs x with
  | false => simp [leftM, hm]
  | true =>
    simp only [leftM, hm, if_true, left, pickN]
    rcases List.eq_nil_or_concat (B.mem 64 x) with e | ⟨r, a, e⟩
    · simp [e, B.lastZ]
    · have : ¬ ((a : Int) < 0) := by omega
      simp [e, B.lastZ, this]
/-- the one place -/
def oneZ (x : Nat) : Int := if (B.mem 64 x).length = 1 then B.headZ (B.mem 64 x) else -1
theorem one_pick {xs : List Int} {x : Nat} : (if mayL xs x = true then pickN xs (oneZ x) else 0) = (if (leftM xs x).length = 1 then (leftM xs x).getD 0 0 else 0) ∧ (mayL xs x && decide (0 ≤ oneZ x)) = decide ((leftM xs x).length = 1) := by
  cases hm : mayL xs x with
  | false => simp [leftM, hm]
  | true =>
    simp only [leftM, hm, if_true, left, pickN, oneZ]
    have e : B.mem 64 x = [] ∨ (∃ a, B.mem 64 x = [a]) ∨ ∃ a b r, B.mem 64 x = a :: b :: r := by
      rcases B.mem 64 x with _ | ⟨a, _ | ⟨b, r⟩⟩
      · exact .inl rfl
      · exact .inr (.inl ⟨_, rfl⟩)
      · exact .inr (.inr ⟨_, _, _, rfl⟩)
    rcases e with e | ⟨a, e⟩ | ⟨a, b, r, e⟩
    · simp [e]
    · have : ¬ ((a : Int) < 0) := by omega
      simp [e, B.headZ, this]
    · simp [e]

section
variable {w : World} {v : Value} {xs : List Int} (hr : Reads w v xs) (hm : xs.length ≤ 1000000) (x : Nat) (hx : x < 18446744073709551616) (hT : B.Tab w) (h0 : 0 < w.heap.size)
include hr hm hx hT h0

omit hr hm hx hT h0 in
theorem one_lt (h : mayL xs x = true) : oneZ x < (xs.length : Int) := by
  unfold oneZ
  split
  · exact head_lt h
  · omega
omit hr hm hx hT h0 in
theorem one_ge : -1 ≤ oneZ x := by
  unfold oneZ
  split
  · exact head_ge x
  · omega

end
end Go.Proofs.YtiaibggbbkhjlaaDoor.Dm
namespace Go.Proofs.YtiaibggbbkhjlaaDoor.St
open Go.RowKit
set_option maxRecDepth 100000

def leftOf (d : List Int × Nat) : List Int := Dm.leftM d.1 d.2
def leftsOf (L : List (List Int × Nat)) : List (List Int) := L.map leftOf
theorem lefts_snoc {L : List (List Int × Nat)} {k : Nat} (hk : k < L.length) : leftsOf (L.take (k + 1)) = leftsOf (L.take k) ++ [leftOf (L.getD k ([], 0))] := by
  unfold leftsOf
  rw [List.take_succ_eq_append_getElem hk, List.map_append]
  simp [List.getD, List.getElem?_eq_getElem hk]

set_option maxHeartbeats 4000000 in
theorem rlists_any {w : World} {v : Value} {L : List (List Int × Nat)} (h : Slc rDom 2 w v L) (hn : L.length ≤ 1000) (hm : ∀ d ∈ L, d.1.length ≤ 1000) :
    Calls Tryd.prog 29 #[v] w fun e w' => ∃ r, e = .returned r ∧ ListsAt w' w.heap.size r (leftsOf L) ∧ Below w.heap.size w w' := by
  obtain ⟨p, b, off, c, len, rfl, _, hs⟩ := h
  have hl := hs.long
  have hp := hs.at_
  have HL := Lib.hid hl
  have HS := Lib.hid hs
  have HM := Lib.hid hm
  obtain ⟨R, hR⟩ : ∃ R, R = leftsOf L := ⟨_, rfl⟩
  rw [← hR]
  have HR := Lib.hid hR
  have hlen : len ≤ 1000 := by omega
  clear hs hm hR hl hn
  go_enter Tryd.func29, Tryd.ntmps29
  go_wp2_with fail
  go_loopw [3, 4] (fun out i wr => ∃ k : Nat, k ≤ len ∧ i = .int .i64 k ∧ ListsAt wr w.heap.size out (leftsOf (L.take k)) ∧ Below w.heap.size w wr) (fun _ i _ => len - (intOf i).toNat)
  case atStart => exact ⟨0, by omega, rfl, ownsP_made _ _ _ _ (Nat.le_refl _), new_below _ _⟩
  case round =>
    rename_i out wr
    obtain ⟨k, hk, rfl, hown, hB⟩ := hrel
    have HO := Lib.hid hown
    have HB := Lib.hid hB
    clear hown hB
    by_cases hlt : k < len
    · obtain rfl := hp (by omega)
      have hlL : k < L.length := by have := HL.out; omega
      obtain ⟨u, c0, c1, hrd, hx, _⟩ := dom_at (HS.out.below rDom_stays HB.out) hlt
      have hy := lefts_snoc hlL
      have hmk : (L.getD k ([], 0)).1.length ≤ 1000 := HM.out _ (by rw [List.getD_eq_getElem?_getD, List.getElem?_eq_getElem hlL]; exact List.getElem_mem hlL)
      obtain ⟨d, hd⟩ : ∃ d, d = L.getD k ([], 0) := ⟨_, rfl⟩
      rw [← hd] at c1 hrd hx hy hmk
      obtain ⟨xs, x⟩ := d
      have HY := Lib.hid hy
      have LX := Lib.hid (fun q => Dm.rlist_any (Dm.reads_below (Dm.reads_of_readsN hrd) (below_drewN (n := q) (Below.refl _ wr))) (Nat.le_trans hmk (by decide)) x hx)
      have d5 : (k : Int) < (len : Int) := by omega
      have hl6 : (leftsOf (L.take k)).length ≤ 100000 := by unfold leftsOf; rw [List.length_map, List.length_take]; omega
      have hl7 : (leftsOf (L.take k)).length = k := by unfold leftsOf; rw [List.length_map, List.length_take]; omega
      obtain ⟨M, hM⟩ : ∃ M, M = leftsOf (L.take k) := ⟨_, rfl⟩
      rw [← hM] at HO hl6 hl7 HY
      clear hd hrd hy hmk hM hlL
      go_wp2_with fail
      refine (LX.out 0).mono ?_
      rintro e w7 ⟨r, rfl, hr, hB7⟩
      obtain ⟨p7, g7, cap7, rfl, _, _⟩ := Dm.ints_shape hr
      have B7 := Lib.hid (new_below w7 (.cells #[.slice p7 (Dm.leftM xs x).length cap7] 22))
      have BW := Lib.hid (show Below wr.heap.size wr w7 from hB7)
      have HAV := Lib.hid ((HO.out.below BW.out).below B7.out)
      have HCV := Lib.hid (one_cell w7 (.slice p7 (Dm.leftM xs x).length cap7) 22)
      have HSN := Lib.hid (show listP (w7.alloc (.cells #[.slice p7 (Dm.leftM xs x).length cap7] 22)) [.slice p7 (Dm.leftM xs x).length cap7] (leftOf (xs, x)) from ⟨_, rfl, owns_low (owns_below hr B7.out) (Nat.zero_le _)⟩)
      have HLB := Lib.hid (below_two (below_two HB.out BW.out) B7.out)
      have HLV := Lib.hid HLB.out.size
      clear hr hB7
      go_wp2_with (at_builtin; refine put_row info22 rfl (by decide) (by decide) Tryd.underlying58 rfl _ _ rfl rfl rfl HAV.out rfl HCV.out (by simp [Value.oneCell']) HSN.out hl6 HLV.out ?_; intro p8 cap8 w8 hp1 hp2 hp3; have HN := Lib.hid (lists_put HAV.out hp1 hp2 HLB.out HLV.out); clear hp1 hp2 hp3)
      go_roundw
      case rel => exact ⟨k + 1, by omega, by go_num, by have h := HN.out.1; rw [hl7] at h; rw [HY.out]; exact h, HN.out.2⟩
      case measure => simp [intOf]; omega
    · have d6 : ¬ ((k : Int) < (len : Int)) := by omega
      have hall : R = leftsOf (L.take k) := by rw [HR.out, List.take_of_length_le (by have := HL.out; omega)]
      rw [← hall] at HO
      clear hall
      go_wp2_with fail
      go_ret
      exact ⟨_, rfl, HO.out, HB.out⟩
end Go.Proofs.YtiaibggbbkhjlaaDoor.St
