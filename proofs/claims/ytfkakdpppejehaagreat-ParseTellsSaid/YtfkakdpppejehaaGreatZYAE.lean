/-
  The contracts of the library that the program leans on (a byte's place in a text, a copy of a text), laid at this program.
  What the program's and the document's tests of bytes answer.
  What word, number and mark of the program answer, and its copy of a text, at every text that is no longer than may be.
  What mark of the program answers, and its copy of a text.
-/
import Derived.Shelf.Small.Strs
import Derived.Shelf.LaysM
import Derived.Shelf.Strconv.Clone
import Derived.Shelf.Strings.Search1
import Derived.Test.YtfkakdpppejehaaGreatProg
import Derived.Test.YtfkakdpppejehaaGreatRows
import Derived.Test.YtfkakdpppejehaaGreatCNum
import Derived.Below
import Derived.Deep.Draws
import Derived.WalkKit
import Derived.ProofKit
import Derived.OpenShut
import Derived.Outline
import Derived.WalkMore
import Derived.Lib.Hide
import Derived.BigGuardPart
import Derived.Deep.DeepCutAuto
import Derived.Deep.Light
import Derived.Deep.QuietTactic
import Derived.BigQuiet
import Derived.LoopTactic
import Derived.OwnWalk
import Derived.Maps.AppendAt
import Derived.Great.BuildSlice
import Derived.Laws.OwnMore
import Derived.Lib.OwnBridge
import Derived.Lib.Strings
namespace Go.Proofs
open Go.Shelf
def Tryz.lays137_ren : Go.Shelf.Ren := ⟨fun | 137 => 63 | 217 => 78 | 266 => 95 | n => n, fun | 9 => 9 | 5 => 5 | 3 => 3 | n => n, fun | n => n⟩
theorem Tryz.lays137 : Go.Proofs.Lays.n137 Tryz.prog Tryz.lays137_ren := {
  mixed := by kernel_rfl
  f137 := Tryz.func63.trans (congrArg some (by kernel_rfl))
  f217 := Tryz.func78.trans (congrArg some (by kernel_rfl))
  f266 := Tryz.func95.trans (congrArg some (by kernel_rfl))
  t3 := Tryz.underlying3
  a3 := Tryz.isAgg3
  z3 := Tryz.sizeOf3
  v3 := Tryz.zeroValue3
  t5 := Tryz.underlying5
  a5 := Tryz.isAgg5
  z5 := Tryz.sizeOf5
  v5 := Tryz.zeroValue5
  t9 := Tryz.underlying9
  a9 := Tryz.isAgg9
  z9 := Tryz.sizeOf9
  v9 := Tryz.zeroValue9 }
open Go.RowKit in
theorem Tryz.strings_IndexByte (s : ByteArray) (c : Int) (w : World) :
    Calls Tryz.prog 63 #[.string s, .int .u8 c] w fun e w' => e = .returned (.int .i64 (Lib.indexByte s.data.toList c.toNat.toUInt8)) ∧ w' = w := Any.strings_IndexByte Tryz.lays137 s c w
def Tryz.laysM316_ren : Go.Shelf.Ren := ⟨fun | 316 => 64 | n => n, fun | 9 => 9 | 3 => 3 | 4 => 4 | 37 => 92 | 0 => 0 | 127 => 105 | 5 => 5 | n => n, fun | n => n⟩
theorem Tryz.laysM316 : Go.Proofs.LaysM.n316 Tryz.prog Tryz.laysM316_ren := {
  mixed := by kernel_rfl
  f316 := Tryz.func64.trans (congrArg some (by kernel_rfl))
  t0 := Tryz.underlying0
  a0 := Tryz.isAgg0
  z0 := Tryz.sizeOf0
  v0 := Tryz.zeroValue0
  t3 := Tryz.underlying3
  a3 := Tryz.isAgg3
  z3 := Tryz.sizeOf3
  v3 := Tryz.zeroValue3
  t4 := Tryz.underlying4
  a4 := Tryz.isAgg4
  z4 := Tryz.sizeOf4
  v4 := Tryz.zeroValue4
  t9 := Tryz.underlying9
  a9 := Tryz.isAgg9
  z9 := Tryz.sizeOf9
  v9 := Tryz.zeroValue9
  t37 := Tryz.underlying92
  a37 := Tryz.isAgg92
  z37 := Tryz.sizeOf92
  v37 := Tryz.zeroValue92
  t127 := Tryz.underlying105
  a127 := Tryz.isAgg105
  z127 := Tryz.sizeOf105
  v127 := Tryz.zeroValue105
  t5 := Tryz.underlying5
  a5 := Tryz.isAgg5
  z5 := Tryz.sizeOf5
  v5 := Tryz.zeroValue5
  i0 := by kernel_rfl
  i3 := by kernel_rfl
  i4 := by kernel_rfl
  i5 := by kernel_rfl
  i9 := by kernel_rfl
  i37 := by kernel_rfl
  i127 := by kernel_rfl }
open Go.RowKit in
theorem Tryz.stringslite_Clone (s : ByteArray) (w : World) (hlim : s.size ≤ 281474976710656) :
    Calls Tryz.prog 64 #[.string s] w fun e w' => e = .returned (.string s) ∧ Below w.heap.size w w' := Any.stringslite_Clone Tryz.laysM316 s w hlim
def Tryz.lays217_ren : Go.Shelf.Ren := ⟨fun | 217 => 78 | 266 => 95 | n => n, fun | 9 => 9 | 5 => 5 | 3 => 3 | n => n, fun | n => n⟩
theorem Tryz.lays217 : Go.Proofs.Lays.n217 Tryz.prog Tryz.lays217_ren := {
  mixed := by kernel_rfl
  f217 := Tryz.func78.trans (congrArg some (by kernel_rfl))
  f266 := Tryz.func95.trans (congrArg some (by kernel_rfl))
  t3 := Tryz.underlying3
  a3 := Tryz.isAgg3
  z3 := Tryz.sizeOf3
  v3 := Tryz.zeroValue3
  t5 := Tryz.underlying5
  a5 := Tryz.isAgg5
  z5 := Tryz.sizeOf5
  v5 := Tryz.zeroValue5
  t9 := Tryz.underlying9
  a9 := Tryz.isAgg9
  z9 := Tryz.sizeOf9
  v9 := Tryz.zeroValue9 }
open Go.RowKit Go.Lib in
theorem Tryz.stringslite_IndexByte (s : ByteArray) (c : Int) (w : World) :
    Calls Tryz.prog 78 #[.string s, .int .u8 c] w fun e w' => e = .returned (.int .i64 (Lib.indexByte s.data.toList c.toNat.toUInt8)) ∧ w' = w := Any.stringslite_IndexByte Tryz.lays217 s c w
end Go.Proofs
namespace Go.Proofs.YtfkakdpppejehaaGreat.Sc
open Go.RowKit

theorem ret_bool {a b : Bool} (h : a = b) : Ending.returned (.bool a) = .returned (.bool b) := by rw [h]
theorem beq_eq_decide (a b : Int) : (a == b) = decide (a = b) := by rw [Bool.eq_iff_iff]; simp
theorem ret_int {k : IntKind} {a b : Int} (h : a = b) : Ending.returned (.int k a) = .returned (.int k b) := by rw [h]

set_option maxHeartbeats 400000 in
theorem letter_core (z : Int) (w : World) : Calls Tryz.prog 40 #[.int .u8 z] w fun e w' => e = .returned (.bool (decide (97 ≤ z) && decide (z ≤ 122))) ∧ w' = w := by
  go_enter Tryz.func40, Tryz.ntmps40
  go_wp2_with fail
  all_goals go_ret
  all_goals exact ⟨ret_bool (by simp; omega), rfl⟩
set_option maxHeartbeats 400000 in
theorem digit_core (z : Int) (w : World) : Calls Tryz.prog 42 #[.int .u8 z] w fun e w' => e = .returned (.bool (decide (48 ≤ z) && decide (z ≤ 57))) ∧ w' = w := by
  go_enter Tryz.func42, Tryz.ntmps42
  go_wp2_with fail
  all_goals go_ret
  all_goals exact ⟨ret_bool (by simp; omega), rfl⟩
set_option maxHeartbeats 400000 in
theorem between_core (z : Int) (w : World) : Calls Tryz.prog 19 #[.int .u8 z] w fun e w' => e = .returned (.bool (decide (z = 32) || decide (z = 10))) ∧ w' = w := by
  go_enter Tryz.func19, Tryz.ntmps19
  go_wp2_with fail
  all_goals go_ret
  all_goals exact ⟨ret_bool (by simp_all [beq_eq_decide]), rfl⟩
set_option maxHeartbeats 400000 in
theorem rword_core (z : Int) (w : World) : Calls Tryz.prog 24 #[.int .u8 z] w fun e w' => e = .returned (.bool (decide (97 ≤ z) && decide (z ≤ 122))) ∧ w' = w := by
  go_enter Tryz.func24, Tryz.ntmps24
  go_wp2_with fail
  all_goals go_ret
  all_goals exact ⟨ret_bool (by simp; omega), rfl⟩
set_option maxHeartbeats 400000 in
theorem rdigit_core (z : Int) (w : World) : Calls Tryz.prog 25 #[.int .u8 z] w fun e w' => e = .returned (.bool (decide (48 ≤ z) && decide (z ≤ 57))) ∧ w' = w := by
  go_enter Tryz.func25, Tryz.ntmps25
  go_wp2_with fail
  all_goals go_ret
  all_goals exact ⟨ret_bool (by simp; omega), rfl⟩
set_option maxHeartbeats 1000000 in
theorem rpair_core (x y : Int) (w : World) : Calls Tryz.prog 26 #[.int .u8 x, .int .u8 y] w fun e w' => e = .returned (.bool (decide (x = 46) && decide (y = 46) || (decide (x = 33) || decide (x = 60) || decide (x = 62)) && decide (y = 61))) ∧ w' = w := by
  go_enter Tryz.func26, Tryz.ntmps26
  go_wp2_with fail
  all_goals go_ret
  all_goals exact ⟨ret_bool (by simp_all [beq_eq_decide]), rfl⟩

theorem eqn {a b : Nat} : decide ((a : Int) = (b : Int)) = decide (a = b) := by
  rw [Bool.eq_iff_iff]; simp only [decide_eq_true_eq]; omega
theorem letter_any (c : UInt8) (w : World) : Calls Tryz.prog 40 #[.int .u8 (c.toNat : Int)] w fun e w' => e = .returned (.bool (letter c)) ∧ w' = w := by
  refine (letter_core (c.toNat : Int) w).mono ?_
  rintro e w' ⟨rfl, rfl⟩
  refine ⟨ret_bool ?_, rfl⟩
  unfold letter
  rw [Bool.eq_iff_iff]; simp; omega
theorem digit_any (c : UInt8) (w : World) : Calls Tryz.prog 42 #[.int .u8 (c.toNat : Int)] w fun e w' => e = .returned (.bool (digit c)) ∧ w' = w := by
  refine (digit_core (c.toNat : Int) w).mono ?_
  rintro e w' ⟨rfl, rfl⟩
  refine ⟨ret_bool ?_, rfl⟩
  unfold digit
  rw [Bool.eq_iff_iff]; simp; omega
theorem between_any (c : UInt8) (w : World) : Calls Tryz.prog 19 #[.int .u8 (c.toNat : Int)] w fun e w' => e = .returned (.bool (between c)) ∧ w' = w := by
  refine (between_core (c.toNat : Int) w).mono ?_
  rintro e w' ⟨rfl, rfl⟩
  refine ⟨ret_bool ?_, rfl⟩
  unfold between
  rw [Bool.eq_iff_iff]; simp; omega
theorem rword_any (c : UInt8) (w : World) : Calls Tryz.prog 24 #[.int .u8 (c.toNat : Int)] w fun e w' => e = .returned (.bool (letter c)) ∧ w' = w := by
  refine (rword_core (c.toNat : Int) w).mono ?_
  rintro e w' ⟨rfl, rfl⟩
  refine ⟨ret_bool ?_, rfl⟩
  unfold letter
  rw [Bool.eq_iff_iff]; simp; omega
theorem rdigit_any (c : UInt8) (w : World) : Calls Tryz.prog 25 #[.int .u8 (c.toNat : Int)] w fun e w' => e = .returned (.bool (digit c)) ∧ w' = w := by
  refine (rdigit_core (c.toNat : Int) w).mono ?_
  rintro e w' ⟨rfl, rfl⟩
  refine ⟨ret_bool ?_, rfl⟩
  unfold digit
  rw [Bool.eq_iff_iff]; simp; omega
theorem rpair_any (a b : UInt8) (w : World) : Calls Tryz.prog 26 #[.int .u8 (a.toNat : Int), .int .u8 (b.toNat : Int)] w fun e w' => e = .returned (.bool (isPair a b)) ∧ w' = w := by
  refine (rpair_core (a.toNat : Int) (b.toNat : Int) w).mono ?_
  rintro e w' ⟨rfl, rfl⟩
  refine ⟨ret_bool ?_, rfl⟩
  unfold isPair
  rw [Bool.eq_iff_iff]; simp; omega

/- is a byte a mark: the document's -/
def ones : List Nat := [44, 59, 58, 91, 93, 61, 60, 62, 43, 45, 42]
structure OnesAt (w wr : World) : Prop where
  below : Below w.heap.size w wr
  cell : ∀ k, k < 11 → wr.cell? ⟨w.heap.size, k, none⟩ = some (.int .u8 (ones.getD k 0 : Nat))
theorem ones_at (w : World) : OnesAt w (w.alloc (.cells #[.int .u8 44, .int .u8 59, .int .u8 58, .int .u8 91, .int .u8 93, .int .u8 61, .int .u8 60, .int .u8 62, .int .u8 43, .int .u8 45, .int .u8 42] 5)) :=
  ⟨(Below.refl _ w).alloc (Nat.le_refl _) _, fun k hk => by
    rw [World.cell?_alloc_mark]
    match k, hk with
    | 0, _ => rfl
    | 1, _ => rfl
    | 2, _ => rfl
    | 3, _ => rfl
    | 4, _ => rfl
    | 5, _ => rfl
    | 6, _ => rfl
    | 7, _ => rfl
    | 8, _ => rfl
    | 9, _ => rfl
    | 10, _ => rfl⟩
theorem ones_has {n : Nat} (h : ∀ j, j < 11 → ones.getD j 0 ≠ n) : ones.contains n = false := by
  cases e : ones.contains n
  · rfl
  · obtain ⟨j, hj, e⟩ := List.getElem_of_mem (List.contains_iff_mem.1 e)
    have hj2 : j < 11 := hj
    exact absurd (by simp [hj, e]) (h j hj2)
set_option maxHeartbeats 1000000 in
theorem rone_core (n : Nat) (w : World) (hn : n < 256) : Calls Tryz.prog 27 #[.int .u8 (n : Int)] w fun e w' => e = .returned (.bool (ones.contains n)) ∧ Below w.heap.size w w' := by
  obtain ⟨R, hR⟩ : ∃ R, R = ones.contains n := ⟨_, rfl⟩
  rw [← hR]
  have HR := Lib.hid hR
  have HO := Lib.hid (ones_at w)
  have HZ := Lib.hid (show ∀ j, j < 0 → ones.getD j 0 ≠ n from fun j h => by omega)
  clear hR
  go_enter Tryz.func27, Tryz.ntmps27
  go_wp2
  go_loopw [4] (fun i wr => ∃ k : Nat, k ≤ 11 ∧ i = .int .i64 k ∧ (∀ j, j < k → ones.getD j 0 ≠ n) ∧ OnesAt w wr) (fun i _ => 11 - (intOf i).toNat)
  case atStart => exact ⟨0, by omega, rfl, HZ.out, HO.out⟩
  case round =>
    obtain ⟨k, hk, rfl, hne, hat⟩ := hrel
    by_cases hlt : k < 11
    · have c0 := hat.cell k hlt
      have HB := Lib.hid hat
      have HE := Lib.hid hne
      have hin : ones.getD k 0 ∈ ones := by
        rw [List.getD_eq_getElem?_getD, List.getElem?_eq_getElem (show k < ones.length from hlt)]
        exact List.getElem_mem _
      obtain ⟨x, ex⟩ : ∃ x, x = ones.getD k 0 := ⟨_, rfl⟩
      rw [← ex] at c0 hin
      have HX := Lib.hid ex
      have HI := Lib.hid hin
      clear hat hne ex hin
      by_cases hx : x = n
      · subst hx
        have e0 : ((x : Int) == (x : Int)) = true := beq_self_eq_true _
        go_wp2_with fail
        go_ret
        exact ⟨ret_bool (by rw [HR.out]; exact (List.contains_iff_mem.2 HI.out).symm), HB.out.below⟩
      · have e0 : ((x : Int) == (n : Int)) = false := beq_eq_false_iff_ne.2 (by omega)
        have HK := Lib.hid (show ∀ j, j < k + 1 → ones.getD j 0 ≠ n from fun j hj => by
          by_cases h : j < k
          · exact HE.out j h
          · obtain rfl : j = k := by omega
            rw [← HX.out]; exact hx)
        go_wp2_with fail
        go_roundw
        case rel => exact ⟨k + 1, by omega, by go_num, HK.out, HB.out⟩
        case measure => simp [intOf]; omega
    · have HB := Lib.hid hat
      obtain rfl : k = 11 := by omega
      have HE := Lib.hid hne
      clear hat hne
      go_wp2
      go_ret
      exact ⟨ret_bool (by rw [HR.out]; exact (ones_has HE.out).symm), HB.out.below⟩
theorem u8_lt (c : UInt8) : c.toNat < 256 := UInt8.toNat_lt c
theorem rone_any (c : UInt8) (w : World) : Calls Tryz.prog 27 #[.int .u8 (c.toNat : Int)] w fun e w' => e = .returned (.bool (isOne c)) ∧ Below w.heap.size w w' :=
  rone_core c.toNat w (u8_lt c)

/- the program's: a byte's place in a text -/
theorem index_ge (c : UInt8) : ∀ l : List UInt8, decide (0 ≤ Lib.indexByte l c) = (l.contains c)
  | [] => rfl
  | b :: l => by
    have ih := index_ge c l
    have hg := Lib.indexByte_ge l c
    unfold Lib.indexByte
    rw [List.contains_cons]
    by_cases h : (b == c) = true
    · have h2 : (c == b) = true := by rw [beq_iff_eq] at h ⊢; exact h.symm
      simp [h, h2]
    · have h2 : (c == b) = false := by
        rw [beq_eq_false_iff_ne]
        intro e
        exact h (beq_iff_eq.2 e.symm)
      rw [if_neg h, h2, Bool.false_or, ← ih]
      split
      · rename_i e
        rw [beq_iff_eq] at e
        rw [e]
      · rename_i e
        rw [beq_iff_eq] at e
        rw [Bool.eq_iff_iff]; simp; omega
end Go.Proofs.YtfkakdpppejehaaGreat.Sc
namespace Go.Proofs.YtfkakdpppejehaaGreat.Sc
open Go.RowKit

/-- the bytes of a text -/
abbrev txt (s : ByteArray) : List UInt8 := s.data.toList
theorem txt_size (s : ByteArray) : s.size = (txt s).length := Lib.size_eq s
theorem idx {s : ByteArray} {k : Nat} {c : UInt8} (h : (txt s)[k]? = some c) : ∀ W, (Instr.index 9 (.string s) (.int .i64 (k : Int))).run Tryz.prog W = .ok (.int .u8 (c.toNat : Int)) W := by
  intro W
  obtain ⟨hk, e⟩ := List.getElem?_eq_some_iff.1 h
  have hk2 : k < s.size := by rw [txt_size]; exact hk
  rw [run_index_string W 9 s .i64 (k : Int) Tryz.underlying9, dif_pos ⟨by omega, by omega⟩]
  have e2 : s[(k : Int).toNat]'(by omega) = c := by
    rw [← e]
    rfl
  rw [e2]
theorem drop_at {l : List UInt8} {k : Nat} (h : k < l.length) : ∃ c, l[k]? = some c ∧ l.drop k = c :: l.drop (k + 1) := ⟨l[k], List.getElem?_eq_getElem h, List.drop_eq_getElem_cons h⟩

theorem takeWhile_in {p : UInt8 → Bool} {c : UInt8} (r : List UInt8) (h : p c = true) : ((c :: r).takeWhile p).length = (r.takeWhile p).length + 1 := by
  rw [List.takeWhile_cons_of_pos h]; rfl
theorem takeWhile_out {p : UInt8 → Bool} {c : UInt8} (r : List UInt8) (h : p c = false) : ((c :: r).takeWhile p).length = 0 := by
  rw [List.takeWhile_cons_of_neg (by simp [h])]; rfl

set_option maxHeartbeats 1000000 in
theorem word_any (s : ByteArray) (w : World) (hm : s.size ≤ 100000) :
    Calls Tryz.prog 41 #[.string s] w fun e w' => e = .returned (.int .i64 ((txt s).takeWhile inWord).length) ∧ w' = w := by
  obtain ⟨R, hR⟩ : ∃ R, R = ((txt s).takeWhile inWord).length := ⟨_, rfl⟩
  rw [← hR]
  obtain ⟨n, hn⟩ : ∃ n, n = s.size := ⟨_, rfl⟩
  rw [← hn] at hm
  have HN := Lib.hid hn
  have HS := Lib.hid (show 0 ≤ n ∧ R = 0 + (((txt s).drop 0).takeWhile inWord).length from ⟨by omega, by simp [hR]⟩)
  have hsz : ((s.size : Nat) : Int) = (n : Int) := by rw [hn]
  clear hR hn
  go_enter Tryz.func41, Tryz.ntmps41
  go_wp2
  go_loopw [3] (fun i wr => (∃ k : Nat, i = .int .i64 k ∧ k ≤ n ∧ R = k + (((txt s).drop k).takeWhile inWord).length) ∧ wr = w) (fun i _ => n - (intOf i).toNat)
  case atStart => exact ⟨⟨0, rfl, HS.out⟩, rfl⟩
  case round =>
    obtain ⟨⟨k, rfl, hk, hrel⟩, rfl⟩ := hrel
    by_cases hlt : k < n
    · obtain ⟨c, ec, ed⟩ := drop_at (l := txt s) (k := k) (by rw [← txt_size, ← HN.out]; exact hlt)
      have hx := idx ec
      have hl := letter_any c
      have hd := digit_any c
      rw [ed] at hrel
      have e95 : ((c.toNat : Int) == 95) = decide (c.toNat = 95) := by rw [beq_eq_decide, Bool.eq_iff_iff]; simp; omega
      by_cases hw : inWord c = true
      · have hnx : R = k + 1 + (((txt s).drop (k + 1)).takeWhile inWord).length := by rw [hrel, takeWhile_in _ hw]; omega
        have HX := Lib.hid hnx
        clear hrel ed ec hnx
        cases el : letter c
        · cases eg : digit c
          · rw [el] at hl
            rw [eg] at hd
            have e5 : ((c.toNat : Int) == 95) = true := by rw [e95]; simpa [inWord, el, eg] using hw
            have L := Lib.hid hl
            have D := Lib.hid hd
            clear hl hd e95 hw el eg
            go_wp2_with (first | (go_at_call 40; refine (L.out _).mono ?_; rintro e w' ⟨rfl, rfl⟩) | (go_at_call 42; refine (D.out _).mono ?_; rintro e w' ⟨rfl, rfl⟩))
            go_roundw
            case rel => exact ⟨⟨k + 1, by go_num, by omega, HX.out⟩, trivial⟩
            case measure => simp [intOf]; omega
          · rw [el] at hl
            rw [eg] at hd
            have L := Lib.hid hl
            have D := Lib.hid hd
            clear hl hd e95 hw el eg
            go_wp2_with (first | (go_at_call 40; refine (L.out _).mono ?_; rintro e w' ⟨rfl, rfl⟩) | (go_at_call 42; refine (D.out _).mono ?_; rintro e w' ⟨rfl, rfl⟩))
            go_roundw
            case rel => exact ⟨⟨k + 1, by go_num, by omega, HX.out⟩, trivial⟩
            case measure => simp [intOf]; omega
        · rw [el] at hl
          have L := Lib.hid hl
          clear hl hd e95 hw el
          go_wp2_with (first | (go_at_call 40; refine (L.out _).mono ?_; rintro e w' ⟨rfl, rfl⟩))
          go_roundw
          case rel => exact ⟨⟨k + 1, by go_num, by omega, HX.out⟩, trivial⟩
          case measure => simp [intOf]; omega
      · have hw2 : inWord c = false := by simpa using hw
        have hnx : R = k := by rw [hrel, takeWhile_out _ hw2]; omega
        have HX := Lib.hid hnx
        have el : letter c = false := by cases e : letter c <;> simp [inWord, e] at hw2 ⊢
        have eg : digit c = false := by cases e : digit c <;> simp [inWord, e] at hw2 ⊢
        rw [el] at hl
        rw [eg] at hd
        have e5 : ((c.toNat : Int) == 95) = false := by rw [e95]; simpa [inWord, el, eg] using hw2
        have L := Lib.hid hl
        have D := Lib.hid hd
        clear hl hd e95 hw hw2 el eg hrel ed ec hnx
        go_wp2_with (first | (go_at_call 40; refine (L.out _).mono ?_; rintro e w' ⟨rfl, rfl⟩) | (go_at_call 42; refine (D.out _).mono ?_; rintro e w' ⟨rfl, rfl⟩))
        go_ret
        exact ⟨ret_int (by rw [HX.out]), rfl⟩
    · obtain rfl : k = n := by omega
      have hnx : R = k := by rw [hrel, List.drop_of_length_le (by rw [← txt_size, ← HN.out]; exact Nat.le_refl _)]; simp
      have HX := Lib.hid hnx
      clear hrel hnx
      go_wp2
      go_ret
      exact ⟨ret_int (by rw [HX.out]), rfl⟩

theorem numF_cons (v : Nat) (c : UInt8) (r : List UInt8) : numF v (c :: r) = numF (10 * v + (c.toNat - 48)) r := by unfold numF; rw [List.foldl_cons]
theorem num_le : ∀ (l : List UInt8) (v : Nat), v ≤ numF v l
  | [], v => Nat.le_refl v
  | c :: r, v => by
    have := num_le r (10 * v + (c.toNat - 48))
    rw [numF_cons]
    omega
theorem takeWhile_cons_in {p : UInt8 → Bool} {c : UInt8} (r : List UInt8) (h : p c = true) : (c :: r).takeWhile p = c :: r.takeWhile p := List.takeWhile_cons_of_pos h
theorem takeWhile_cons_out {p : UInt8 → Bool} {c : UInt8} (r : List UInt8) (h : p c = false) : (c :: r).takeWhile p = [] := List.takeWhile_cons_of_neg (by simp [h])

/-- what number answers: the number and how many digits it has, or one that is too big -/
def numGo : Nat → Nat → List UInt8 → Nat × Nat
  | v, k, [] => (v, k)
  | v, k, c :: r => if digit c = true ∧ v ≤ mostV then numGo (10 * v + (c.toNat - 48)) (k + 1) r else (v, k)
theorem num_post : ∀ (l : List UInt8) (v k : Nat), (mostV < v → 0 < k) → v ≤ 10 * mostV + 9 →
    (numF v (l.takeWhile digit) ≤ mostV → numGo v k l = (numF v (l.takeWhile digit), k + (l.takeWhile digit).length)) ∧ (mostV < numF v (l.takeWhile digit) → mostV < (numGo v k l).1 ∧ 0 < (numGo v k l).2) ∧ (numGo v k l).2 ≤ k + l.length ∧ (numGo v k l).1 ≤ 10 * mostV + 9
  | [], v, k, h, h' => by
    rw [numGo]
    exact ⟨fun _ => rfl, fun hv => ⟨hv, h hv⟩, Nat.le_refl _, h'⟩
  | c :: r, v, k, h, h' => by
    rw [numGo]
    by_cases hc : digit c = true
    · have hd : c.toNat ≤ 57 := by simp [digit] at hc; omega
      rw [takeWhile_cons_in _ hc, numF_cons]
      by_cases hv : v ≤ mostV
      · rw [if_pos ⟨hc, hv⟩]
        obtain ⟨h1, h2, h3, h4⟩ := num_post r (10 * v + (c.toNat - 48)) (k + 1) (fun _ => by omega) (by omega)
        refine ⟨fun q => by rw [h1 q, List.length_cons]; congr 1; omega, h2, by rw [List.length_cons]; omega, h4⟩
      · rw [if_neg (fun q => hv q.2)]
        have := num_le (r.takeWhile digit) (10 * v + (c.toNat - 48))
        exact ⟨fun q => by omega, fun _ => ⟨by omega, h (by omega)⟩, by omega, h'⟩
    · have hc2 : digit c = false := by simpa using hc
      rw [takeWhile_cons_out _ hc2, if_neg (fun q => hc q.1)]
      exact ⟨fun _ => rfl, fun hv => ⟨hv, h hv⟩, by omega, h'⟩

theorem ret_two {R : Nat × Nat} {v k : Nat} (h : R = (v, k)) : Ending.returned (.tuple #[.int .i64 (v : Int), .int .i64 (k : Int)]) = .returned (.tuple #[.int .i64 (R.1 : Nat), .int .i64 (R.2 : Nat)]) := by rw [h]
/-- how far number has come -/
def NumRel (l : List UInt8) (v k : Nat) : Prop := numGo 0 0 l = numGo v k (l.drop k) ∧ v ≤ 10 * mostV + 9
theorem num_start (l : List UInt8) : NumRel l 0 0 := ⟨by simp, by omega⟩
theorem num_next {l r : List UInt8} {v k : Nat} {c : UInt8} (h : NumRel l v k) (e : l.drop k = c :: r) (er : l.drop (k + 1) = r) (hc : digit c = true) (hv : v ≤ mostV) : NumRel l (10 * v + (c.toNat - 48)) (k + 1) := by
  obtain ⟨h1, h4⟩ := h
  have hd : c.toNat ≤ 57 := by simp [digit] at hc; omega
  rw [e, numGo, if_pos ⟨hc, hv⟩] at h1
  exact ⟨by rw [h1, er], by omega⟩
theorem num_out {l r : List UInt8} {v k : Nat} {c : UInt8} (h : NumRel l v k) (e : l.drop k = c :: r) (hc : ¬ (digit c = true ∧ v ≤ mostV)) : numGo 0 0 l = (v, k) := by
  rw [h.1, e, numGo, if_neg hc]
theorem num_end {l : List UInt8} {v k : Nat} (h : NumRel l v k) (hk : l.length ≤ k) : numGo 0 0 l = (v, k) := by
  rw [h.1, List.drop_of_length_le hk, numGo]

set_option maxHeartbeats 1000000 in
theorem number_any (s : ByteArray) (w : World) (hm : s.size ≤ 100000) :
    Calls Tryz.prog 43 #[.string s] w fun e w' => e = .returned (.tuple #[.int .i64 ((numGo 0 0 (txt s)).1 : Nat), .int .i64 ((numGo 0 0 (txt s)).2 : Nat)]) ∧ w' = w := by
  obtain ⟨n, hn⟩ : ∃ n, n = s.size := ⟨_, rfl⟩
  rw [← hn] at hm
  have HN := Lib.hid hn
  have HS := Lib.hid (num_start (txt s))
  have hsz : ((s.size : Nat) : Int) = (n : Int) := by rw [hn]
  obtain ⟨R, hR⟩ : ∃ R, R = numGo 0 0 (txt s) := ⟨_, rfl⟩
  rw [← hR]
  have HQ := Lib.hid hR
  clear hn hR
  go_enter Tryz.func43, Tryz.ntmps43
  go_wp2
  go_step3
  go_wp2
  go_step3
  go_wp2
  go_loopw [2, 3] (fun a i wr => (∃ v k : Nat, a = .int .i64 v ∧ i = .int .i64 k ∧ k ≤ n ∧ NumRel (txt s) v k) ∧ wr = w) (fun _ i _ => n - (intOf i).toNat)
  case atStart => exact ⟨⟨0, 0, rfl, rfl, by omega, HS.out⟩, rfl⟩
  case round =>
    obtain ⟨⟨v, k, rfl, rfl, hk, hrel⟩, rfl⟩ := hrel
    have hv4 : v ≤ 10 * mostV + 9 := hrel.2
    unfold mostV at hv4
    have HR := Lib.hid hrel
    clear hrel
    by_cases hlt : k < n
    · obtain ⟨c, ec, ed⟩ := drop_at (l := txt s) (k := k) (by rw [← txt_size, ← HN.out]; exact hlt)
      have hx := idx ec
      have hd := digit_any c
      cases eg : digit c
      · rw [eg] at hd
        have HX := Lib.hid (num_out HR.out ed (by rw [eg]; simp))
        have D := Lib.hid hd
        clear hd eg ed ec
        go_wp2_with (first | (go_at_call 42; refine (D.out _).mono ?_; rintro e w' ⟨rfl, rfl⟩))
        rw [Exit.noGoto_ret]
        go_ret2
        exact ⟨ret_two (HQ.out.trans HX.out), rfl⟩
      · rw [eg] at hd
        have D := Lib.hid hd
        have hb : 48 ≤ c.toNat ∧ c.toNat ≤ 57 := by simpa [digit] using eg
        by_cases hv : v ≤ 1099511627776
        · have HX := Lib.hid (num_next HR.out ed rfl eg hv)
          clear hd eg ed ec
          go_wp2_with (first | (go_at_call 42; refine (D.out _).mono ?_; rintro e w' ⟨rfl, rfl⟩))
          go_roundw
          case rel => exact ⟨⟨10 * v + (c.toNat - 48), k + 1, by go_num, by go_num, by omega, HX.out⟩, trivial⟩
          case measure => simp [intOf]; omega
        · have HX := Lib.hid (num_out HR.out ed (fun q => hv q.2))
          clear hd eg ed ec
          go_wp2_with (first | (go_at_call 42; refine (D.out _).mono ?_; rintro e w' ⟨rfl, rfl⟩))
          rw [Exit.noGoto_ret]
          go_ret2
          exact ⟨ret_two (HQ.out.trans HX.out), rfl⟩
    · have HX := Lib.hid (num_end HR.out (by rw [← txt_size, ← HN.out]; omega))
      go_wp2
      rw [Exit.noGoto_ret]
      go_ret2
      exact ⟨ret_two (HQ.out.trans HX.out), rfl⟩
end Go.Proofs.YtfkakdpppejehaaGreat.Sc
namespace Go.Proofs.YtfkakdpppejehaaGreat.Sc
open Go.RowKit

theorem clone_any (s : ByteArray) (w : World) (hm : s.size ≤ 100000) :
    Calls Tryz.prog 45 #[.string s] w fun e w' => e = .returned (.string s) ∧ Below w.heap.size w w' := by
  go_enter Tryz.func45, Tryz.ntmps45
  go_wp2_with (go_at_call 64; refine (Tryz.stringslite_Clone _ _ (by omega)).mono ?_; rintro e w' ⟨rfl, hB⟩)
  go_ret
  exact ⟨rfl, hB⟩

def singles : ByteArray := ⟨#[44, 59, 58, 91, 93, 61, 60, 62, 43, 45, 42]⟩
theorem u8_eq {a b : UInt8} : (a == b) = decide (a.toNat = b.toNat) := by
  rw [Bool.eq_iff_iff, beq_iff_eq, decide_eq_true_eq]
  exact ⟨fun h => by rw [h], fun h => UInt8.toNat_inj.1 h⟩
theorem singles_has (a : UInt8) : decide (0 ≤ Lib.indexByte singles.data.toList ((a.toNat : Int).toNat.toUInt8)) = isOne a := by
  rw [index_ge]
  have e : (a.toNat : Int).toNat.toUInt8 = a := by simp
  rw [e]
  unfold isOne singles
  simp only [List.contains_cons, u8_eq]
  simp [Bool.beq_eq_decide_eq]
theorem two_bytes {s : ByteArray} {a b : UInt8} {r : List UInt8} (h : txt s = a :: b :: r) : (s.extract 0 2).toList = [a, b] := by
  rw [Lib.extract_toList]
  simp [h]

theorem pair_eq (t : ByteArray) (a b : UInt8) (x y : UInt8) (h : t.toList = [a, b]) : (t.toList == (⟨#[x, y]⟩ : ByteArray).toList) = (decide (a.toNat = x.toNat) && decide (b.toNat = y.toNat)) := by
  have e : (⟨#[x, y]⟩ : ByteArray).toList = [x, y] := ByteArray.toList_mk [x, y]
  rw [h, e]
  show (a == x && (b == y && true)) = _
  rw [u8_eq, u8_eq, Bool.and_true]
theorem pair_bools (a b : UInt8) : isPair a b = ((decide (a.toNat = 46) && decide (b.toNat = 46)) || (decide (a.toNat = 33) && decide (b.toNat = 61)) || (decide (a.toNat = 60) && decide (b.toNat = 61)) || (decide (a.toNat = 62) && decide (b.toNat = 61))) := by
  unfold isPair
  cases decide (b.toNat = 61) <;> cases decide (a.toNat = 46) <;> cases decide (a.toNat = 33) <;> cases decide (a.toNat = 60) <;> cases decide (a.toNat = 62) <;> cases decide (b.toNat = 46) <;> rfl
theorem cut_to (s : ByteArray) (k : Nat) (h : k ≤ s.size) (W : World) : (Instr.slice 9 (.string s) none (some (.int .i64 (k : Int))) none).run Tryz.prog W = .ok (.string (s.extract 0 k)) W := by
  rw [run_slice_string_to_if W 9 s .i64 (k : Int) Tryz.underlying9, if_pos ⟨by omega, by omega⟩]
  rfl

set_option maxHeartbeats 1000000 in
theorem mark_any (s : ByteArray) (w : World) (hm : s.size ≤ 100000) (h0 : 0 < s.size) :
    Calls Tryz.prog 44 #[.string s] w fun e w' => e = .returned (.int .i64 (mark (txt s) : Nat)) ∧ w' = w := by
  obtain ⟨n, hn⟩ : ∃ n, n = s.size := ⟨_, rfl⟩
  have hsz : ((s.size : Nat) : Int) = (n : Int) := by rw [hn]
  rw [← hn] at hm h0
  cases ht : txt s with
  | nil => rw [hn, txt_size, ht] at h0; simp at h0
  | cons a r =>
    have hx : ∀ W, (Instr.index 9 (.string s) (.int .i64 0)).run Tryz.prog W = .ok (.int .u8 (a.toNat : Int)) W := idx (s := s) (k := 0) (c := a) (by rw [ht]; rfl)
    have hz := singles_has a
    obtain ⟨z, ez⟩ : ∃ z, z = Lib.indexByte singles.data.toList ((a.toNat : Int).toNat.toUInt8) := ⟨_, rfl⟩
    have hI : ∀ W, Calls Tryz.prog 63 #[.string ⟨#[44, 59, 58, 91, 93, 61, 60, 62, 43, 45, 42]⟩, .int .u8 (a.toNat : Int)] W fun e w' => e = .returned (.int .i64 z) ∧ w' = W := fun W => by
      rw [ez]; exact Tryz.strings_IndexByte singles (a.toNat : Int) W
    rw [← ez] at hz
    clear ez
    have I := Lib.hid hI
    clear hI
    cases r with
    | nil =>
      obtain rfl : n = 1 := by rw [hn, txt_size, ht]; rfl
      rw [mark_one]
      clear hn ht
      cases e1 : isOne a
      · have hz1 : ¬ 0 ≤ z := by rw [e1] at hz; simpa using hz
        clear hz e1
        go_enter Tryz.func44, Tryz.ntmps44
        go_wp2_with (go_at_call 63; go_loud (refine (I.out _).mono ?_); rintro e w' ⟨rfl, rfl⟩)
        go_ret
        exact ⟨rfl, rfl⟩
      · have hz1 : 0 ≤ z := by rw [e1] at hz; simpa using hz
        clear hz e1
        go_enter Tryz.func44, Tryz.ntmps44
        go_wp2_with (go_at_call 63; go_loud (refine (I.out _).mono ?_); rintro e w' ⟨rfl, rfl⟩)
        go_ret
        exact ⟨rfl, rfl⟩
    | cons b r =>
      rw [mark_two]
      have h2 : 2 ≤ n := by rw [hn, txt_size, ht]; simp
      have hx2 := two_bytes ht
      have hc : ∀ W, (Instr.slice 9 (.string s) none (some (.int .i64 2)) none).run Tryz.prog W = .ok (.string (s.extract 0 2)) W := cut_to s 2 (by omega)
      obtain ⟨t2, e2⟩ : ∃ t2, t2 = s.extract 0 2 := ⟨_, rfl⟩
      rw [← e2] at hc hx2
      have q1 := pair_eq t2 a b 46 46 hx2
      have q2 := pair_eq t2 a b 33 61 hx2
      have q3 := pair_eq t2 a b 60 61 hx2
      have q4 := pair_eq t2 a b 62 61 hx2
      rw [pair_bools]
      change _ = (decide (a.toNat = 46) && decide (b.toNat = 46)) at q1
      change _ = (decide (a.toNat = 33) && decide (b.toNat = 61)) at q2
      change _ = (decide (a.toNat = 60) && decide (b.toNat = 61)) at q3
      change _ = (decide (a.toNat = 62) && decide (b.toNat = 61)) at q4
      generalize (decide (a.toNat = 46) && decide (b.toNat = 46)) = b1 at q1 ⊢
      generalize (decide (a.toNat = 33) && decide (b.toNat = 61)) = b2 at q2 ⊢
      generalize (decide (a.toNat = 60) && decide (b.toNat = 61)) = b3 at q3 ⊢
      generalize (decide (a.toNat = 62) && decide (b.toNat = 61)) = b4 at q4 ⊢
      have f1 : binOp .eql 9 (.string t2) (.string ⟨#[46, 46]⟩) = pure (.bool b1) := by rw [binOp_string_eql, q1]
      have f2 : binOp .eql 9 (.string t2) (.string ⟨#[33, 61]⟩) = pure (.bool b2) := by rw [binOp_string_eql, q2]
      have f3 : binOp .eql 9 (.string t2) (.string ⟨#[60, 61]⟩) = pure (.bool b3) := by rw [binOp_string_eql, q3]
      have f4 : binOp .eql 9 (.string t2) (.string ⟨#[62, 61]⟩) = pure (.bool b4) := by rw [binOp_string_eql, q4]
      obtain ⟨R, hR⟩ : ∃ R, R = (if (b1 || b2 || b3 || b4) = true then 2 else if isOne a = true then 1 else 0) := ⟨_, rfl⟩
      rw [← hR]
      have HR := Lib.hid hR
      clear hn ht e2 q1 q2 q3 q4 hx2 hR
      have hsz2 : (1 : Int) < (n : Int) := by omega
      cases b1 with
      | true =>
        have key : R = 2 := by rw [HR.out]; rfl
        subst key
        clear f2 f3 f4 hz
        go_enter Tryz.func44, Tryz.ntmps44
        go_wp2_with fail
        go_ret
        exact ⟨rfl, rfl⟩
      | false =>
        cases b2 with
        | true =>
          have key : R = 2 := by rw [HR.out]; rfl
          subst key
          clear f3 f4 hz
          go_enter Tryz.func44, Tryz.ntmps44
          go_wp2_with fail
          go_ret
          exact ⟨rfl, rfl⟩
        | false =>
          cases b3 with
          | true =>
            have key : R = 2 := by rw [HR.out]; rfl
            subst key
            clear f4 hz
            go_enter Tryz.func44, Tryz.ntmps44
            go_wp2_with fail
            go_ret
            exact ⟨rfl, rfl⟩
          | false =>
            cases b4 with
            | true =>
              have key : R = 2 := by rw [HR.out]; rfl
              subst key
              clear hz
              go_enter Tryz.func44, Tryz.ntmps44
              go_wp2_with fail
              go_ret
              exact ⟨rfl, rfl⟩
            | false =>
              cases e1 : isOne a
              · have key : R = 0 := by rw [HR.out, e1]; rfl
                have hz1 : ¬ 0 ≤ z := by rw [e1] at hz; simpa using hz
                subst key
                clear hz e1
                go_enter Tryz.func44, Tryz.ntmps44
                go_wp2_with (go_at_call 63; refine (I.out _).mono ?_; rintro e w' ⟨rfl, rfl⟩)
                go_ret
                exact ⟨rfl, rfl⟩
              · have key : R = 1 := by rw [HR.out, e1]; rfl
                have hz1 : 0 ≤ z := by rw [e1] at hz; simpa using hz
                subst key
                clear hz e1
                go_enter Tryz.func44, Tryz.ntmps44
                go_wp2_with (go_at_call 63; refine (I.out _).mono ?_; rintro e w' ⟨rfl, rfl⟩)
                go_ret
                exact ⟨rfl, rfl⟩
end Go.Proofs.YtfkakdpppejehaaGreat.Sc
