/-
  What awake answers: true; below the memory that it makes nothing has turned.
-/
import Derived.Test.YtehflpgnbbafpaaSets
namespace Go.Proofs.Ytehflpgnbbafpaa
open Go.RowKit

def l1 : List (Int × Int) := [(1, 3), (7, 7)]

theorem grown_alloc {w : World} (o : Obj) : Below w.heap.size w (w.alloc o) := (Below.refl _ w).alloc (Nat.le_refl _) o
theorem sees_alloc {w : World} {v : Value} {L : List (Int × Int)} (h : Sees w v L) (o : Obj) : Sees (w.alloc o) v L := sees_below h (grown_alloc o)
theorem sees_one (w : World) (a b : Int) : Sees (w.alloc (.cells #[.int .i64 a, .int .i64 b] 41)) (.slice (some ⟨w.heap.size, 0, none⟩) 1 1) [(a, b)] :=
  sees_of_owns (World.ownsRow_lit (base := 0) (e := 41) (size := 2) w #[.int .i64 a, .int .i64 b] 1 (Nat.zero_le _) (by decide) rfl)
theorem sees_two (w : World) (a b c d : Int) : Sees (w.alloc (.cells #[.int .i64 a, .int .i64 b, .int .i64 c, .int .i64 d] 41)) (.slice (some ⟨w.heap.size, 0, none⟩) 2 2) [(a, b), (c, d)] :=
  sees_of_owns (World.ownsRow_lit (base := 0) (e := 41) (size := 2) w #[.int .i64 a, .int .i64 b, .int .i64 c, .int .i64 d] 2 (Nat.zero_le _) (by decide) rfl)
theorem reads_lit (w : World) (xs : List Int) (n : Nat) (hn : n = xs.length) (hm : n ≤ 100) : Reads (w.alloc (.cells (xs.map (Value.int .i64)).toArray 3)) (.slice (some ⟨w.heap.size, 0, none⟩) n n) xs := by
  subst hn
  have h := World.ownsRow_lit (base := 0) (e := 3) (size := 1) w (xs.map (Value.int .i64)).toArray xs.length (Nat.zero_le _) (by unfold maxLen; omega) (by simp)
  exact reads_of_owns (by simpa [OwnsI] using h)

/-- Of of numbers that make a known list -/
theorem of_is {w : World} {v : Value} {xs : List Int} {L : List (Int × Int)} (hx : Reads w v xs) (hm : xs.length ≤ 100000) (ok : okI xs = true) (hr : rightL L = true) (hi : ∀ v, inL L v = decide (v ∈ xs)) :
    Calls Try.prog 16 #[v] w fun e w' => ∃ s, e = .returned (.tuple #[s, .int .i64 0]) ∧ Sees w' s L ∧ Below w.heap.size w w' := by
  refine (of_any hx hm).mono ?_
  rintro e w' ⟨h, hB⟩
  rcases h with ⟨h, _⟩ | ⟨_, s, L', rfl, r', i', ho, _⟩
  · rw [ok] at h
    cases h
  · have e1 : L' = L := one r' hr fun v => by rw [i', hi]
    subst e1
    exact ⟨s, rfl, sees_of_owns ho, hB⟩
theorem of_bad {w : World} {v : Value} {xs : List Int} (hx : Reads w v xs) (hm : xs.length ≤ 100000) (ok : okI xs = false) :
    Calls Try.prog 16 #[v] w fun e w' => e = .returned (.tuple #[.slice none 0 0, .int .i64 1]) ∧ Below w.heap.size w w' := by
  refine (of_any hx hm).mono ?_
  rintro e w' ⟨h, hB⟩
  rcases h with ⟨_, h⟩ | ⟨h, _⟩
  · exact ⟨h, hB⟩
  · rw [ok] at h
    cases h
theorem thru_is {keep : Bool → Bool → Bool} {base : Nat} {A B L : List (Int × Int)} {e : Ending} {w' : World} (h : ThruPost keep base A B e w') (ha : rightL A = true) (hb : rightL B = true) (hr : rightL L = true) (hi : ∀ v, inL L v = keep (inL A v) (inL B v)) : ∃ s, e = .returned s ∧ Sees w' s L := by
  rcases h with ⟨h, _⟩ | ⟨_, _, s, L', rfl, r', i', ho, _⟩
  · exact absurd ⟨ha, hb⟩ h
  · have e1 : L' = L := one r' hr fun v => by rw [i', hi]
    subst e1
    exact ⟨s, rfl, sees_of_owns ho⟩

theorem alloc_size (w : World) (o : Obj) : (w.alloc o).heap.size = w.heap.size + 1 := by simp
theorem sees_next (w : World) (o : Obj) (a b : Int) : Sees ((w.alloc o).alloc (.cells #[.int .i64 a, .int .i64 b] 41)) (.slice (some ⟨w.heap.size + 1, 0, none⟩) 1 1) [(a, b)] := by
  have := sees_one (w.alloc o) a b
  rw [alloc_size] at this
  exact this

/-- where the chain of calls stands -/
structure On (w : World) (s : Value) (u : World) : Prop where
  sees : Sees u s l1
  below : Below w.heap.size w u
theorem On.call {w u u' : World} {s : Value} (h : On w s u) (hB : Below u.heap.size u u') : On w s u' := ⟨sees_below h.sees hB, below_two h.below hB⟩
theorem On.new {w u : World} {s : Value} (h : On w s u) (o : Obj) : On w s (u.alloc o) := h.call (grown_alloc o)

set_option maxRecDepth 100000 in
set_option maxHeartbeats 8000000 in
theorem awake_any (w : World) : Calls Try.prog 6 #[] w fun e w' => e = .returned (.bool true) ∧ Below w.heap.size w w' := by
  have OF1 := Lib.hid (fun u v (h : Reads u v [3, 1, 2, 7]) => of_is (L := l1) h (by decide) (by decide) (by decide) (fun v => by rw [Bool.eq_iff_iff]; simp [inL, l1]; omega))
  have OF2 := Lib.hid (fun u v (h : Reads u v [1048577]) => of_bad h (by decide) (by decide))
  have RL1 := Lib.hid (fun u => reads_lit u [3, 1, 2, 7] 4 rfl (by decide))
  have RL2 := Lib.hid (fun u => reads_lit u [1048577] 1 rfl (by decide))
  have AT3 : Hid (∀ u s, Sees u s l1 → Calls Try.prog 8 #[s, .int .i64 3] u fun e w' => e = .returned (.tuple #[.int .i64 7, .bool true]) ∧ Below u.heap.size u w') := Lib.hid (fun u s h => at_any 3 (by decide) h (by decide))
  have AT4 : Hid (∀ u s, Sees u s l1 → Calls Try.prog 8 #[s, .int .i64 4] u fun e w' => e = .returned (.tuple #[.int .i64 0, .bool false]) ∧ Below u.heap.size u w') := Lib.hid (fun u s h => at_any 4 (by decide) h (by decide))
  have SM : Hid (∀ u s t L, Sees u s L → Sees u t L → L.length ≤ 1000000 → Calls Try.prog 18 #[s, t] u fun e w' => e = .returned (.bool true) ∧ Below u.heap.size u w') := Lib.hid (fun u s t L h1 h2 h3 => same_any h1 h2 h3)
  have RT : Hid (∀ u s, Sees u s l1 → Calls Try.prog 9 #[s] u fun e w' => e = .returned (.bool true) ∧ Below u.heap.size u w') := Lib.hid (fun u s h => right_any h (by decide))
  have RW : Hid (∀ u s, Sees u s [(1, 2), (3, 3)] → Calls Try.prog 9 #[s] u fun e w' => e = .returned (.bool false) ∧ Below u.heap.size u w') := Lib.hid (fun u s h => right_any h (by decide))
  have SZ : Hid (∀ u s, Sees u s l1 → Calls Try.prog 10 #[s] u fun e w' => e = .returned (.int .i64 4) ∧ Below u.heap.size u w') := Lib.hid (fun u s h => size_any h (by decide))
  have H2 : Hid (∀ u s, Sees u s l1 → Calls Try.prog 12 #[s, .int .i64 2] u fun e w' => e = .returned (.bool true) ∧ Below u.heap.size u w') := Lib.hid (fun u s h => has_any 2 h (by decide))
  have H4 : Hid (∀ u s, Sees u s l1 → Calls Try.prog 12 #[s, .int .i64 4] u fun e w' => e = .returned (.bool false) ∧ Below u.heap.size u w') := Lib.hid (fun u s h => has_any 4 h (by decide))
  have P7 : Hid (∀ u s, Sees u s l1 → Calls Try.prog 14 #[s, .int .i64 7] u fun e w' => e = .returned (.int .i64 3) ∧ Below u.heap.size u w') := Lib.hid (fun u s h => place_any 7 h (by decide))
  have P5 : Hid (∀ u s, Sees u s l1 → Calls Try.prog 14 #[s, .int .i64 5] u fun e w' => e = .returned (.int .i64 (-1)) ∧ Below u.heap.size u w') := Lib.hid (fun u s h => place_any 5 h (by decide))
  have LE : Hid (∀ u s t, Sees u s [(1, 9)] → Sees u t [(3, 4)] → Calls Try.prog 21 #[s, t] u fun e w' => ∃ r, e = .returned r ∧ Sees w' r [(1, 2), (5, 9)] ∧ Below u.heap.size u w') := Lib.hid (fun u s t h1 h2 => (less_any h1 h2 (by decide) (by decide)).mono fun e w' h => by
    obtain ⟨r, e1, e2⟩ := thru_is (L := [(1, 2), (5, 9)]) h.1 (by decide) (by decide) (by decide) (fun v => by rw [Bool.eq_iff_iff]; simp [inL, keepD]; omega)
    exact ⟨r, e1, e2, h.2⟩)
  have UN : Hid (∀ u s t, Sees u s l1 → Sees u t [(4, 6)] → Calls Try.prog 19 #[s, t] u fun e w' => ∃ r, e = .returned r ∧ Sees w' r [(1, 7)] ∧ Below u.heap.size u w') := Lib.hid (fun u s t h1 h2 => (union_any h1 h2 (by decide) (by decide)).mono fun e w' h => by
    obtain ⟨r, e1, e2⟩ := thru_is (L := [(1, 7)]) h.1 (by decide) (by decide) (by decide) (fun v => by rw [Bool.eq_iff_iff]; simp [inL, keepU, l1]; omega)
    exact ⟨r, e1, e2, h.2⟩)
  have ME : Hid (∀ u s t, Sees u s l1 → Sees u t [(3, 9)] → Calls Try.prog 20 #[s, t] u fun e w' => ∃ r, e = .returned r ∧ Sees w' r [(3, 3), (7, 7)] ∧ Below u.heap.size u w') := Lib.hid (fun u s t h1 h2 => (meet_any h1 h2 (by decide) (by decide)).mono fun e w' h => by
    obtain ⟨r, e1, e2⟩ := thru_is (L := [(3, 3), (7, 7)]) h.1 (by decide) (by decide) (by decide) (fun v => by rw [Bool.eq_iff_iff]; simp [inL, keepM, l1]; omega)
    exact ⟨r, e1, e2, h.2⟩)
  go_enter Try.func6, Try.ntmps6
  go_wp2_with fail
  refine (OF1.out _ _ (RL1.out _)).mono ?_
  rintro e w1 ⟨s, rfl, hs, hB⟩
  have ST : Hid (On w s w1) := Lib.hid ⟨hs, below_two (grown_alloc _) hB⟩
  clear hs hB
  go_wp2_with fail
  refine (OF2.out _ _ (RL2.out _)).mono ?_
  rintro e w2 ⟨rfl, hB⟩
  have ST := Lib.hid ((ST.out.new _).call hB)
  clear hB
  go_wp2_with fail
  refine (AT3.out _ _ ST.out.sees).mono ?_
  rintro e w3 ⟨rfl, hB⟩
  have ST := Lib.hid (ST.out.call hB)
  clear hB
  go_wp2_with fail
  refine (AT4.out _ _ ST.out.sees).mono ?_
  rintro e w4 ⟨rfl, hB⟩
  have ST := Lib.hid (ST.out.call hB)
  clear hB
  go_wp2_with fail
  refine (SM.out _ _ _ l1 (ST.out.new _).sees (sees_two _ _ _ _ _) (by decide)).mono ?_
  rintro e w5 ⟨rfl, hB⟩
  have ST := Lib.hid ((ST.out.new _).call hB)
  clear hB
  go_wp2_with fail
  refine (RT.out _ _ ST.out.sees).mono ?_
  rintro e w6 ⟨rfl, hB⟩
  have ST := Lib.hid (ST.out.call hB)
  clear hB
  go_wp2_with fail
  refine (RW.out _ _ (sees_two _ _ _ _ _)).mono ?_
  rintro e w7 ⟨rfl, hB⟩
  have ST := Lib.hid ((ST.out.new _).call hB)
  clear hB
  go_wp2_with fail
  refine (SZ.out _ _ ST.out.sees).mono ?_
  rintro e w8 ⟨rfl, hB⟩
  have ST := Lib.hid (ST.out.call hB)
  clear hB
  go_wp2_with fail
  refine (H2.out _ _ ST.out.sees).mono ?_
  rintro e w9 ⟨rfl, hB⟩
  have ST := Lib.hid (ST.out.call hB)
  clear hB
  go_wp2_with fail
  refine (H4.out _ _ ST.out.sees).mono ?_
  rintro e w10 ⟨rfl, hB⟩
  have ST := Lib.hid (ST.out.call hB)
  clear hB
  go_wp2_with fail
  refine (P7.out _ _ ST.out.sees).mono ?_
  rintro e w11 ⟨rfl, hB⟩
  have ST := Lib.hid (ST.out.call hB)
  clear hB
  go_wp2_with fail
  refine (P5.out _ _ ST.out.sees).mono ?_
  rintro e w12 ⟨rfl, hB⟩
  have ST := Lib.hid (ST.out.call hB)
  clear hB
  go_wp2_with fail
  refine (LE.out _ _ _ (sees_alloc (sees_one _ _ _) _) (sees_next _ _ _ _)).mono ?_
  rintro e w13 ⟨r1, rfl, hr, hB⟩
  have ST := Lib.hid (((ST.out.new _).new _).call hB)
  have SR := Lib.hid hr
  clear hB hr
  go_wp2_with fail
  refine (SM.out _ _ _ [(1, 2), (5, 9)] (sees_alloc SR.out _) (sees_two _ _ _ _ _) (by decide)).mono ?_
  rintro e w14 ⟨rfl, hB⟩
  have ST := Lib.hid ((ST.out.new _).call hB)
  clear hB SR
  go_wp2_with fail
  refine (UN.out _ _ _ (ST.out.new _).sees (sees_one _ _ _)).mono ?_
  rintro e w15 ⟨r2, rfl, hr, hB⟩
  have ST := Lib.hid ((ST.out.new _).call hB)
  have SR := Lib.hid hr
  clear hB hr
  go_wp2_with fail
  refine (SM.out _ _ _ [(1, 7)] (sees_alloc SR.out _) (sees_one _ _ _) (by decide)).mono ?_
  rintro e w16 ⟨rfl, hB⟩
  have ST := Lib.hid ((ST.out.new _).call hB)
  clear hB SR
  go_wp2_with fail
  refine (ME.out _ _ _ (ST.out.new _).sees (sees_one _ _ _)).mono ?_
  rintro e w17 ⟨r3, rfl, hr, hB⟩
  have ST := Lib.hid ((ST.out.new _).call hB)
  have SR := Lib.hid hr
  clear hB hr
  go_wp2_with fail
  refine (SM.out _ _ _ [(3, 3), (7, 7)] (sees_alloc SR.out _) (sees_two _ _ _ _ _) (by decide)).mono ?_
  rintro e w18 ⟨rfl, hB⟩
  have ST := Lib.hid ((ST.out.new _).call hB)
  clear hB SR
  go_wp2_with fail
  go_ret
  exact ⟨rfl, ST.out.below⟩
end Go.Proofs.Ytehflpgnbbafpaa
