/-
  BitsTells answers true, at every set, every two numbers and every slice of numbers, where the table of the library lies in its variable.
-/
import Derived.Test.YtbnbicjnfkhdbaaDoorBack
namespace Go.Proofs.YtbnbicjnfkhdbaaDoor
open Go.RowKit

/-- what the last chain of calls leans on -/
structure St (w : World) (l v : Value) (xs ys : List Int) (u : World) : Prop where
  tab : Tab u
  pos : 0 < u.heap.size
  rl : Reads u l xs
  rv : Reads u v ys
  below : Below w.heap.size w u

theorem St.on {w u u' : World} {l v : Value} {xs ys : List Int} (h : St w l v xs ys u) (hb : Below u.heap.size u u') : St w l v xs ys u' :=
  ⟨Tab.below h.tab h.pos hb, Nat.lt_of_lt_of_le h.pos hb.size, reads_below h.rl hb, reads_below h.rv hb, h.below.trans (hb.mono h.below.size)⟩
theorem St.drawn {w u : World} {l v : Value} {xs ys : List Int} (h : St w l v xs ys u) (n : Nat) : St w l v xs ys (u.drewN n) :=
  h.on (below_drawn (Below.refl _ _) n)

theorem head_all (x : Nat) : headZ (mem 64 x) = (all x).head?.getD (-1) := by
  unfold headZ all
  cases mem 64 x <;> rfl
theorem last_all (x : Nat) : lastZ (mem 64 x) = (all x).getLast?.getD (-1) := by
  unfold lastZ all
  rw [List.getLast?_map]
  cases (mem 64 x).getLast? <;> rfl

theorem head_at (ys : List Int) (n : Nat) (h : ys.length = n + 1) : ys.head?.getD (-1) = ys.getD 0 0 := by
  cases ys with
  | nil => simp at h
  | cons y ys => rfl
theorem last_at (ys : List Int) (n : Nat) (h : ys.length = n + 1) : ys.getLast?.getD (-1) = ys.getD n 0 := by
  rw [List.getLast?_eq_getElem?, h, List.getD_eq_getElem?_getD, List.getElem?_eq_getElem (by omega)]
  simp [List.getElem?_eq_getElem (show n < ys.length by omega)]

theorem shape {w : World} {v : Value} {ys : List Int} (h : Reads w v ys) : (∃ (q : Option Addr) (c : Nat), v = .slice q 0 c ∧ ys = []) ∨ ∃ (b off c n : Nat), v = .slice (some ⟨b, off, none⟩) (n + 1) c ∧ ys.length = n + 1 ∧
    w.cell? ⟨b, off, none⟩ = some (.int .i64 (ys.getD 0 0)) ∧ w.cell? ⟨b, off + n, none⟩ = some (.int .i64 (ys.getD n 0)) := by
  rcases h with h | ⟨b, off, c, rfl, hx⟩
  · exact .inl h
  · cases hn : ys.length with
    | zero => exact .inl ⟨_, _, rfl, List.eq_nil_of_length_eq_zero hn⟩
    | succ n => exact .inr ⟨b, off, c, n, rfl, rfl, hx 0 (by omega), hx n (by omega)⟩

theorem first_from (low : Int) : betweenN 0 (low - 1) = firstN low := by
  unfold betweenN firstN
  refine mk_congr fun k _ => ?_
  rw [Bool.eq_iff_iff]
  simp
  omega

set_option maxRecDepth 100000 in
set_option maxHeartbeats 4000000 in
theorem tells_law (x : Nat) (hx : x < 18446744073709551616) (low high : Int) (hlow : -9223372036854775808 ≤ low) (hlow2 : low ≤ 9223372036854775807) (hhigh : -9223372036854775808 ≤ high) (p : Option Addr) (m c : Nat) (xs : List Int) (w : World)
    (hT : Tab w) (h0 : 0 < w.heap.size) (hl : Reads w (.slice p m c) xs) (hm : xs.length ≤ maxLen)
    (fx : ∀ k, k < xs.length → -9223372036854775808 ≤ xs.getD k 0 ∧ xs.getD k 0 ≤ 9223372036854775807) :
    Calls Tryd.prog 3 #[.int .u64 x, .int .i64 low, .int .i64 high, .slice p m c] w (Yes w) := by
  have A := Lib.hid (awake_any w hT h0)
  have RL := Lib.hid (rlist_any x hx)
  have CN := Lib.hid (count_is x _ hx (all_length x).symm)
  have LS := Lib.hid (fun u hu => least_is x _ hx (head_all x) u hu)
  have GS := Lib.hid (fun u => greatest_is x _ hx (last_all x) u)
  have NX := Lib.hid (fun u hu => next_any x hx low u hu)
  have RN := Lib.hid (fun u => rnext_any x hx low u)
  have LI := Lib.hid (fun u hu hp => list_any x hx u hu hp)
  have FS := Lib.hid (fun u => first_any low u)
  have RF := Lib.hid (fun u => rbetween_any 0 (low - 1) u)
  rw [first_from] at RF
  have F0 := Lib.hid (first_low low)
  have BT := Lib.hid (fun u => between_any low high hhigh u)
  have RB := Lib.hid (fun u => rbetween_any low high u)
  have OF := Lib.hid (fun u hu => of_any (.slice p m c) xs u hu hm fx)
  have RO := Lib.hid (fun u hu => rof_any (.slice p m c) xs u hu hm)
  have HT := Lib.hid hT
  have H0 := Lib.hid h0
  have HL := Lib.hid hl
  have hle := all_le x
  obtain ⟨nx, hnx⟩ : ∃ n, headZ ((mem 64 x).filter (fun k : Nat => decide (low ≤ (k : Int)))) = n := ⟨_, rfl⟩
  rw [hnx] at NX RN
  obtain ⟨ys, hys⟩ : ∃ ys, all x = ys := ⟨_, rfl⟩
  rw [hys] at RL CN LS GS LI hle
  have HLE : Hid (ys.length ≤ maxLen) := by unfold maxLen; exact Nat.le_trans hle (by decide)
  clear hT h0 hl hm fx hnx hys
  go_enter Tryd.func3, Tryd.ntmps3
  go_wp2_with fail
  refine A.out.mono ?_
  rintro e w1 ⟨rfl, hB⟩
  have T1 := Lib.hid (Tab.below HT.out H0.out hB)
  have P1 : Hid (0 < w1.heap.size) := Nat.lt_of_lt_of_le H0.out hB.size
  have R1 := Lib.hid (reads_below HL.out hB)
  have B1 := Lib.hid hB
  clear hB A
  go_wp2_with fail
  · go_ret
    exact ⟨rfl, B1.out⟩
  refine (RL.out w1).mono ?_
  rintro e w2 ⟨v, rfl, hown, hB⟩
  have hr := reads_of_owns (xs := ys) hown
  have ST : Hid (St w (.slice p m c) v xs ys w2) := ⟨Tab.below T1.out P1.out hB, Nat.lt_of_lt_of_le P1.out hB.size, reads_below R1.out hB, hr, B1.out.trans (hB.mono B1.out.size)⟩
  clear hown hB RL
  rcases shape hr with ⟨p', c', rfl, he⟩ | ⟨b', off', c', n, rfl, hn, c0, c1⟩
  · have e1 : ys.length = 0 := by rw [he]; rfl
    have e2 : ys.head?.getD (-1) = -1 := by rw [he]; rfl
    have e3 : ys.getLast?.getD (-1) = -1 := by rw [he]; rfl
    rw [e1] at CN
    rw [e2] at LS
    rw [e3] at GS
    clear e1 e2 e3 he hr
    go_wp2_with fail
    · refine (RF.out _).mono ?_
      rintro e w3 ⟨rfl, hB⟩
      have ST := Lib.hid (ST.out.on hB)
      clear hB
      go_wp2_with fail
      refine (CN.out _).mono ?_
      rintro e w' ⟨rfl, rfl⟩
      go_wp2_with fail
      refine (LS.out _ ST.out.tab).mono ?_
      rintro e w' ⟨rfl, rfl⟩
      go_wp2_with fail
      refine (GS.out _).mono ?_
      rintro e w' ⟨rfl, rfl⟩
      go_wp2_with fail
      refine (NX.out _ ST.out.tab).mono ?_
      rintro e w' ⟨rfl, rfl⟩
      go_wp2_with fail
      refine (RN.out _).mono ?_
      rintro e w4 ⟨rfl, hB⟩
      have ST := Lib.hid (ST.out.on hB)
      clear hB
      go_wp2_with fail
      refine (LI.out _ ST.out.tab ST.out.pos).mono ?_
      rintro e w5 ⟨v', rfl, hown, _, hB⟩
      have R5 := Lib.hid (reads_of_owns (xs := ys) hown)
      have ST := Lib.hid (ST.out.on hB)
      clear hB hown
      go_wp2_with fail
      refine (same_any v' _ ys _ R5.out ST.out.rv HLE.out).mono ?_
      rintro e w6 ⟨rfl, k, rfl⟩
      have ST := Lib.hid (ST.out.drawn k)
      go_wp2_with fail
      refine (FS.out _).mono ?_
      rintro e w' ⟨rfl, rfl⟩
      go_wp2_with fail
      refine (BT.out _).mono ?_
      rintro e w' ⟨rfl, rfl⟩
      go_wp2_with fail
      refine (RB.out _).mono ?_
      rintro e w7 ⟨rfl, hB⟩
      have ST := Lib.hid (ST.out.on hB)
      clear hB
      go_wp2_with fail
      refine (OF.out _ ST.out.rl).mono ?_
      rintro e w' ⟨rfl, rfl⟩
      go_wp2_with fail
      refine (RO.out _ ST.out.rl).mono ?_
      rintro e w8 ⟨rfl, hB⟩
      have ST := Lib.hid (ST.out.on hB)
      clear hB
      go_wp2_with fail
      go_ret
      exact ⟨rfl, ST.out.below⟩
    · have h : low ≤ 0 := by assumption
      rw [F0.out h] at FS
      refine (CN.out _).mono ?_
      rintro e w' ⟨rfl, rfl⟩
      go_wp2_with fail
      refine (LS.out _ ST.out.tab).mono ?_
      rintro e w' ⟨rfl, rfl⟩
      go_wp2_with fail
      refine (GS.out _).mono ?_
      rintro e w' ⟨rfl, rfl⟩
      go_wp2_with fail
      refine (NX.out _ ST.out.tab).mono ?_
      rintro e w' ⟨rfl, rfl⟩
      go_wp2_with fail
      refine (RN.out _).mono ?_
      rintro e w4 ⟨rfl, hB⟩
      have ST := Lib.hid (ST.out.on hB)
      clear hB
      go_wp2_with fail
      refine (LI.out _ ST.out.tab ST.out.pos).mono ?_
      rintro e w5 ⟨v', rfl, hown, _, hB⟩
      have R5 := Lib.hid (reads_of_owns (xs := ys) hown)
      have ST := Lib.hid (ST.out.on hB)
      clear hB hown
      go_wp2_with fail
      refine (same_any v' _ ys _ R5.out ST.out.rv HLE.out).mono ?_
      rintro e w6 ⟨rfl, k, rfl⟩
      have ST := Lib.hid (ST.out.drawn k)
      go_wp2_with fail
      refine (FS.out _).mono ?_
      rintro e w' ⟨rfl, rfl⟩
      go_wp2_with fail
      refine (BT.out _).mono ?_
      rintro e w' ⟨rfl, rfl⟩
      go_wp2_with fail
      refine (RB.out _).mono ?_
      rintro e w7 ⟨rfl, hB⟩
      have ST := Lib.hid (ST.out.on hB)
      clear hB
      go_wp2_with fail
      refine (OF.out _ ST.out.rl).mono ?_
      rintro e w' ⟨rfl, rfl⟩
      go_wp2_with fail
      refine (RO.out _ ST.out.rl).mono ?_
      rintro e w8 ⟨rfl, hB⟩
      have ST := Lib.hid (ST.out.on hB)
      clear hB
      go_wp2_with fail
      go_ret
      exact ⟨rfl, ST.out.below⟩
  · rw [head_at ys n hn] at LS
    rw [last_at ys n hn] at GS
    rw [hn] at CN hle
    clear hn hr
    obtain ⟨y0, ey0⟩ : ∃ y, ys.getD 0 0 = y := ⟨_, rfl⟩
    obtain ⟨y1, ey1⟩ : ∃ y, ys.getD n 0 = y := ⟨_, rfl⟩
    rw [ey0] at LS c0
    rw [ey1] at GS c1
    clear ey0 ey1
    go_wp2_with fail
    go_quiet (fail)
    have ST := Lib.hid (ST.out.drawn nq)
    go_wp2_with fail
    · refine (RF.out _).mono ?_
      rintro e w3 ⟨rfl, hB⟩
      have ST := Lib.hid (ST.out.on hB)
      clear hB
      go_wp2_with fail
      refine (CN.out _).mono ?_
      rintro e w' ⟨rfl, rfl⟩
      go_wp2_with fail
      refine (LS.out _ ST.out.tab).mono ?_
      rintro e w' ⟨rfl, rfl⟩
      go_wp2_with fail
      refine (GS.out _).mono ?_
      rintro e w' ⟨rfl, rfl⟩
      go_wp2_with fail
      refine (NX.out _ ST.out.tab).mono ?_
      rintro e w' ⟨rfl, rfl⟩
      go_wp2_with fail
      refine (RN.out _).mono ?_
      rintro e w4 ⟨rfl, hB⟩
      have ST := Lib.hid (ST.out.on hB)
      clear hB
      go_wp2_with fail
      refine (LI.out _ ST.out.tab ST.out.pos).mono ?_
      rintro e w5 ⟨v', rfl, hown, _, hB⟩
      have R5 := Lib.hid (reads_of_owns (xs := ys) hown)
      have ST := Lib.hid (ST.out.on hB)
      clear hB hown
      go_wp2_with fail
      refine (same_any v' _ ys _ R5.out ST.out.rv HLE.out).mono ?_
      rintro e w6 ⟨rfl, k, rfl⟩
      have ST := Lib.hid (ST.out.drawn k)
      go_wp2_with fail
      refine (FS.out _).mono ?_
      rintro e w' ⟨rfl, rfl⟩
      go_wp2_with fail
      refine (BT.out _).mono ?_
      rintro e w' ⟨rfl, rfl⟩
      go_wp2_with fail
      refine (RB.out _).mono ?_
      rintro e w7 ⟨rfl, hB⟩
      have ST := Lib.hid (ST.out.on hB)
      clear hB
      go_wp2_with fail
      refine (OF.out _ ST.out.rl).mono ?_
      rintro e w' ⟨rfl, rfl⟩
      go_wp2_with fail
      refine (RO.out _ ST.out.rl).mono ?_
      rintro e w8 ⟨rfl, hB⟩
      have ST := Lib.hid (ST.out.on hB)
      clear hB
      go_wp2_with fail
      go_ret
      exact ⟨rfl, ST.out.below⟩
    · have h : low ≤ 0 := by assumption
      rw [F0.out h] at FS
      refine (CN.out _).mono ?_
      rintro e w' ⟨rfl, rfl⟩
      go_wp2_with fail
      refine (LS.out _ ST.out.tab).mono ?_
      rintro e w' ⟨rfl, rfl⟩
      go_wp2_with fail
      refine (GS.out _).mono ?_
      rintro e w' ⟨rfl, rfl⟩
      go_wp2_with fail
      refine (NX.out _ ST.out.tab).mono ?_
      rintro e w' ⟨rfl, rfl⟩
      go_wp2_with fail
      refine (RN.out _).mono ?_
      rintro e w4 ⟨rfl, hB⟩
      have ST := Lib.hid (ST.out.on hB)
      clear hB
      go_wp2_with fail
      refine (LI.out _ ST.out.tab ST.out.pos).mono ?_
      rintro e w5 ⟨v', rfl, hown, _, hB⟩
      have R5 := Lib.hid (reads_of_owns (xs := ys) hown)
      have ST := Lib.hid (ST.out.on hB)
      clear hB hown
      go_wp2_with fail
      refine (same_any v' _ ys _ R5.out ST.out.rv HLE.out).mono ?_
      rintro e w6 ⟨rfl, k, rfl⟩
      have ST := Lib.hid (ST.out.drawn k)
      go_wp2_with fail
      refine (FS.out _).mono ?_
      rintro e w' ⟨rfl, rfl⟩
      go_wp2_with fail
      refine (BT.out _).mono ?_
      rintro e w' ⟨rfl, rfl⟩
      go_wp2_with fail
      refine (RB.out _).mono ?_
      rintro e w7 ⟨rfl, hB⟩
      have ST := Lib.hid (ST.out.on hB)
      clear hB
      go_wp2_with fail
      refine (OF.out _ ST.out.rl).mono ?_
      rintro e w' ⟨rfl, rfl⟩
      go_wp2_with fail
      refine (RO.out _ ST.out.rl).mono ?_
      rintro e w8 ⟨rfl, hB⟩
      have ST := Lib.hid (ST.out.on hB)
      clear hB
      go_wp2_with fail
      go_ret
      exact ⟨rfl, ST.out.below⟩
end Go.Proofs.YtbnbicjnfkhdbaaDoor
