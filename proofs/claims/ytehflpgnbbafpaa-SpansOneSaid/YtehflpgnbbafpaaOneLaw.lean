/-
  SpansOne answers true, at every list of spans and every number of 16 bits.
-/
import Derived.Test.YtehflpgnbbafpaaApp
namespace Go.Proofs.Ytehflpgnbbafpaa
open Go.RowKit

structure Ost (w : World) (v : Value) (L : List (Int × Int)) (u : World) : Prop where
  sees : Sees u v L
  below : Below w.heap.size w u
theorem Ost.call {w u u' : World} {v : Value} {L : List (Int × Int)} (h : Ost w v L u) (hB : Below u.heap.size u u') : Ost w v L u' :=
  ⟨sees_below h.sees hB, below_two h.below hB⟩
theorem few_is {L : List (Int × Int)} (h : fewL L = true) : rightL L = true ∧ sizeL L ≤ 400 := by
  unfold fewL at h
  simpa using h
theorem value_at {L : List (Int × Int)} {vs : List Int} {j : Nat} (hr : rightL L = true) (hv : vs = valuesL L) (hj : j < vs.length) : told (atA L (j : Int)) = .returned (.tuple #[.int .i64 (vs.getD j 0), .bool true]) ∧ placeL L (vs.getD j 0) = j := by
  have h1 : atL L (j : Int) = some (vs.getD j 0) := by
    rw [values_at hr, ← hv, List.getD_eq_getElem?_getD, List.getElem?_eq_getElem hj]
    rfl
  have h2 := (at_place (a := 0) hr (by omega) h1).2
  refine ⟨?_, ?_⟩
  · unfold atA
    rw [if_pos ⟨hr, by omega⟩, h1]
    rfl
  · unfold placeL
    rw [if_pos hr, h2]
    omega
theorem ok_values {L : List (Int × Int)} {xs : List Int} (hr : rightL L = true) (hx : ∀ v, v ∈ xs ↔ inL L v = true) : okI xs = true :=
  ok_iff.2 fun x h => in_low hr ((hx x).1 h)

set_option maxRecDepth 100000 in
set_option maxHeartbeats 4000000 in
theorem one_law (p : Option Addr) (c n : Nat) (L : List (Int × Int)) (f : Int) (w : World) (hf : 0 ≤ f ∧ f ≤ 65535) (en : n = L.length) (hl : Sees w (.slice p n c) L) :
    Calls Try.prog 5 #[.slice p n c, .int .u16 f] w (Yes w) := by
  have AW := Lib.hid (awake_any w)
  have ST : Hid (Ost w (.slice p n c) L w) := Lib.hid ⟨hl, Below.refl _ w⟩
  by_cases h1 : 60 < n
  · clear ST hl en hf
    have g1 : (60 : Int) < (n : Int) := by omega
    go_enter Try.func5, Try.ntmps5
    go_wp2_with fail
    refine AW.out.mono ?_
    rintro e w1 ⟨rfl, hB⟩
    have HB := Lib.hid hB
    clear hB
    go_wp2_with fail
    go_ret
    exact ⟨rfl, HB.out⟩
  · have hm : L.length ≤ 1000000 := by omega
    have FE := Lib.hid (fun u (h : Sees u (.slice p n c) L) => few_any h hm)
    cases hfew : fewL L
    · rw [hfew] at FE
      clear hfew hl en hm h1
      go_enter Try.func5, Try.ntmps5
      go_wp2_with fail
      refine AW.out.mono ?_
      rintro e u ⟨rfl, hB⟩
      have ST := Lib.hid (ST.out.call hB)
      clear hB
      go_wp2_with fail
      · go_ret
        exact ⟨rfl, ST.out.below⟩
      refine (FE.out _ ST.out.sees).mono ?_
      rintro e u ⟨rfl, hB⟩
      have ST := Lib.hid (ST.out.call hB)
      clear hB
      go_wp2_with fail
      go_ret
      exact ⟨rfl, ST.out.below⟩
    · rw [hfew] at FE
      obtain ⟨hr, hs⟩ := few_is hfew
      have VA := Lib.hid (fun u (h : Sees u (.slice p n c) L) => values_any h hm hr (by omega))
      have AT := Lib.hid (fun u (k : Nat) (hk : (k : Int) ≤ 400) (h : Sees u (.slice p n c) L) => at_any (k : Int) (by omega) h hm)
      have PL := Lib.hid (fun u z (h : Sees u (.slice p n c) L) => place_any z h hm)
      have SZ := Lib.hid (fun u (h : Sees u (.slice p n c) L) => size_any h hm)
      rw [hr, if_pos rfl] at SZ
      have SM : Hid (∀ u s t L, Sees u s L → Sees u t L → L.length ≤ 1000000 → Calls Try.prog 18 #[s, t] u fun e w' => e = .returned (.bool true) ∧ Below u.heap.size u w') := Lib.hid (fun u s t L h1 h2 h3 => same_any h1 h2 h3)
      have OF := Lib.hid (fun u v xs (h : Reads u v xs) (hx : ∀ v, v ∈ xs ↔ inL L v = true) (hm : xs.length ≤ 100000) => of_is (L := L) h hm (ok_values hr hx) hr (fun v => by rw [Bool.eq_iff_iff, ← hx]; simp))
      have HR := Lib.hid hr
      have HM := Lib.hid hm
      have lv := values_length hr
      have mv : ∀ v, v ∈ valuesL L ↔ inL L v = true := fun v => values_mem
      obtain ⟨vs, evs⟩ : ∃ vs, vs = valuesL L := ⟨_, rfl⟩
      rw [← evs] at lv mv VA
      have HV := Lib.hid evs
      have MV := Lib.hid mv
      rw [← lv] at SZ hs
      have hvl : vs.length ≤ 400 := by omega
      clear hfew hl en hm h1 hr hs lv mv evs
      go_enter Try.func5, Try.ntmps5
      go_wp2_with fail
      refine AW.out.mono ?_
      rintro e u ⟨rfl, hB⟩
      have ST := Lib.hid (ST.out.call hB)
      clear hB
      go_wp2_with fail
      · go_ret
        exact ⟨rfl, ST.out.below⟩
      refine (FE.out _ ST.out.sees).mono ?_
      rintro e u ⟨rfl, hB⟩
      have ST := Lib.hid (ST.out.call hB)
      clear hB
      go_wp2_with fail
      refine (VA.out _ ST.out.sees).mono ?_
      rintro e w2 ⟨s2, rfl, ho2, hB2⟩
      have ST := Lib.hid (ST.out.call hB2)
      have O2 := Lib.hid ho2
      clear ho2 hB2
      rcases O2.out.2 with ⟨rfl, hl0⟩ | ⟨g2, c2, cur, rfl, hb2, hg2, hn2, hc2, hs2, ht2⟩
      · have ev : vs = [] := List.eq_nil_of_length_eq_zero hl0
        subst ev
        clear hl0
        have HLN : Hid (([] : List Int).length ≤ 400) := Lib.hid (by simp)
        have OM := Lib.hid (show OwnsI (w2.alloc (.cells #[] 3)) w2.heap.size (.slice (some ⟨w2.heap.size, 0, none⟩) 0 0) [] from World.ownsRow_made w2 #[] 0 (Nat.le_refl _) (by decide) rfl)
        have RA := Lib.hid (readsN_below (readsN_of_owns O2.out) (grown_alloc (w := w2) (.cells #[] 3)))
        have RD : Hid (ReadsN (w2.alloc (.cells #[] 3)) (.slice none 0 0) (([] : List Int).drop 0)) := Lib.hid (.inl ⟨rfl, rfl⟩)
        have hT : ∀ v, v ∈ ([] : List Int).drop 0 ++ ([] : List Int) ↔ inL L v = true := fun v => by
          rw [List.mem_append, ← MV.out]
          exact ⟨fun h => h.elim (fun h => List.mem_of_mem_drop h) id, .inr⟩
        have HT := Lib.hid hT
        clear hT
        go_wp2_with (first | (at_builtin; refine wpList_append_ints rfl _ _ rfl w2.heap.size _ _ [] (([] : List Int).drop 0) rfl rfl OM.out RD.out (by have := HLN.out; first | (simp; done) | (simp; omega)) (by simp) ?_; intro v3 w3 ho3 hg3; have B3 := Lib.hid ((grown_alloc (w := w2) (.cells #[] 3)).grown hg3 (by simp) (fun j e => (OM.out.lt j e).1)); have O3 := Lib.hid ho3; have RA3 := Lib.hid (readsN_below (readsN_of_owns O2.out) B3.out); clear ho3 hg3) | (at_builtin; refine wpList_append_ints rfl _ _ rfl w2.heap.size _ _ (([] : List Int).drop 0) [] rfl rfl O3.out RA3.out (by have := HLN.out; first | (simp; done) | (simp; omega)) B3.out.size ?_; intro v4 w4 ho4 hg4; have B4 := Lib.hid (B3.out.grown hg4 B3.out.size (fun j e => (O3.out.lt j e).1)); have O4 := Lib.hid ho4; clear ho4 hg4))
        have ST4 := Lib.hid (ST.out.call B4.out)
        refine (OF.out _ _ _ (reads_of_owns O4.out) HT.out (by have := HLN.out; first | (simp; done) | (simp; omega))).mono ?_
        rintro e w5 ⟨s5, rfl, see5, hB5⟩
        have ST := Lib.hid (ST4.out.call hB5)
        have SE := Lib.hid see5
        have B5 := Lib.hid (below_two B4.out hB5)
        clear see5 hB5 ST4
        go_wp2_with fail
        refine (SM.out _ _ _ L SE.out ST.out.sees HM.out).mono ?_
        rintro e w6 ⟨rfl, hB⟩
        have ST := Lib.hid (ST.out.call hB)
        have B6 := Lib.hid (below_two B5.out hB)
        clear hB
        go_wp2_with fail
        refine (SZ.out _ ST.out.sees).mono ?_
        rintro e w7 ⟨rfl, hB⟩
        have ST := Lib.hid (ST.out.call hB)
        have B7 := Lib.hid (below_two B6.out hB)
        clear hB
        go_wp2_with fail
        go_loopw [63] (fun i wr => i = .int .i64 0 ∧ wr = w7) (fun _ _ => 0)
        case atStart => exact ⟨rfl, rfl⟩
        case round =>
          obtain ⟨rfl, rfl⟩ := hrel
          go_wp2
          go_ret
          exact ⟨rfl, ST.out.below⟩
      · by_cases h0 : vs.length = 0
        · have ev : vs = [] := List.eq_nil_of_length_eq_zero h0
          subst ev
          clear hb2 hg2 hn2 hs2 ht2 h0
          by_cases hc0 : c2 = 0
          · subst hc0
            have HLN : Hid (([] : List Int).length ≤ 400) := Lib.hid (by simp)
            have OM := Lib.hid (show OwnsI (w2.alloc (.cells #[] 3)) w2.heap.size (.slice (some ⟨w2.heap.size, 0, none⟩) 0 0) [] from World.ownsRow_made w2 #[] 0 (Nat.le_refl _) (by decide) rfl)
            have RA := Lib.hid (readsN_below (readsN_of_owns O2.out) (grown_alloc (w := w2) (.cells #[] 3)))
            have RD : Hid (ReadsN (w2.alloc (.cells #[] 3)) (.slice (some ⟨g2, 0, none⟩) 0 0) (([] : List Int).drop 0)) := Lib.hid (.inr ⟨g2, 0, 0, rfl, fun k hk => by simp at hk⟩)
            have hT : ∀ v, v ∈ ([] : List Int).drop 0 ++ ([] : List Int) ↔ inL L v = true := fun v => by
              rw [List.mem_append, ← MV.out]
              exact ⟨fun h => h.elim (fun h => List.mem_of_mem_drop h) id, .inr⟩
            have HT := Lib.hid hT
            clear hT
            go_wp2_with (first | (at_builtin; refine wpList_append_ints rfl _ _ rfl w2.heap.size _ _ [] (([] : List Int).drop 0) rfl rfl OM.out RD.out (by have := HLN.out; first | (simp; done) | (simp; omega)) (by simp) ?_; intro v3 w3 ho3 hg3; have B3 := Lib.hid ((grown_alloc (w := w2) (.cells #[] 3)).grown hg3 (by simp) (fun j e => (OM.out.lt j e).1)); have O3 := Lib.hid ho3; have RA3 := Lib.hid (readsN_below (readsN_of_owns O2.out) B3.out); clear ho3 hg3) | (at_builtin; refine wpList_append_ints rfl _ _ rfl w2.heap.size _ _ (([] : List Int).drop 0) [] rfl rfl O3.out RA3.out (by have := HLN.out; first | (simp; done) | (simp; omega)) B3.out.size ?_; intro v4 w4 ho4 hg4; have B4 := Lib.hid (B3.out.grown hg4 B3.out.size (fun j e => (O3.out.lt j e).1)); have O4 := Lib.hid ho4; clear ho4 hg4))
            have ST4 := Lib.hid (ST.out.call B4.out)
            refine (OF.out _ _ _ (reads_of_owns O4.out) HT.out (by have := HLN.out; first | (simp; done) | (simp; omega))).mono ?_
            rintro e w5 ⟨s5, rfl, see5, hB5⟩
            have ST := Lib.hid (ST4.out.call hB5)
            have SE := Lib.hid see5
            have B5 := Lib.hid (below_two B4.out hB5)
            clear see5 hB5 ST4
            go_wp2_with fail
            refine (SM.out _ _ _ L SE.out ST.out.sees HM.out).mono ?_
            rintro e w6 ⟨rfl, hB⟩
            have ST := Lib.hid (ST.out.call hB)
            have B6 := Lib.hid (below_two B5.out hB)
            clear hB
            go_wp2_with fail
            refine (SZ.out _ ST.out.sees).mono ?_
            rintro e w7 ⟨rfl, hB⟩
            have ST := Lib.hid (ST.out.call hB)
            have B7 := Lib.hid (below_two B6.out hB)
            clear hB
            go_wp2_with fail
            go_loopw [63] (fun i wr => i = .int .i64 0 ∧ wr = w7) (fun _ _ => 0)
            case atStart => exact ⟨rfl, rfl⟩
            case round =>
              obtain ⟨rfl, rfl⟩ := hrel
              go_wp2
              go_ret
              exact ⟨rfl, ST.out.below⟩
          · skip
            have HLN : Hid (([] : List Int).length ≤ 400) := Lib.hid (by simp)
            have OM := Lib.hid (show OwnsI (w2.alloc (.cells #[] 3)) w2.heap.size (.slice (some ⟨w2.heap.size, 0, none⟩) 0 0) [] from World.ownsRow_made w2 #[] 0 (Nat.le_refl _) (by decide) rfl)
            have RA := Lib.hid (readsN_below (readsN_of_owns O2.out) (grown_alloc (w := w2) (.cells #[] 3)))
            have RD : Hid (ReadsN (w2.alloc (.cells #[] 3)) (.slice (some ⟨g2, 0, none⟩) 0 c2) (([] : List Int).drop 0)) := Lib.hid (.inr ⟨g2, 0, c2, rfl, fun k hk => by simp at hk⟩)
            have hT : ∀ v, v ∈ ([] : List Int).drop 0 ++ ([] : List Int) ↔ inL L v = true := fun v => by
              rw [List.mem_append, ← MV.out]
              exact ⟨fun h => h.elim (fun h => List.mem_of_mem_drop h) id, .inr⟩
            have HT := Lib.hid hT
            clear hT
            go_wp2_with (first | (at_builtin; refine wpList_append_ints rfl _ _ rfl w2.heap.size _ _ [] (([] : List Int).drop 0) rfl rfl OM.out RD.out (by have := HLN.out; first | (simp; done) | (simp; omega)) (by simp) ?_; intro v3 w3 ho3 hg3; have B3 := Lib.hid ((grown_alloc (w := w2) (.cells #[] 3)).grown hg3 (by simp) (fun j e => (OM.out.lt j e).1)); have O3 := Lib.hid ho3; have RA3 := Lib.hid (readsN_below (readsN_of_owns O2.out) B3.out); clear ho3 hg3) | (at_builtin; refine wpList_append_ints rfl _ _ rfl w2.heap.size _ _ (([] : List Int).drop 0) [] rfl rfl O3.out RA3.out (by have := HLN.out; first | (simp; done) | (simp; omega)) B3.out.size ?_; intro v4 w4 ho4 hg4; have B4 := Lib.hid (B3.out.grown hg4 B3.out.size (fun j e => (O3.out.lt j e).1)); have O4 := Lib.hid ho4; clear ho4 hg4))
            have ST4 := Lib.hid (ST.out.call B4.out)
            refine (OF.out _ _ _ (reads_of_owns O4.out) HT.out (by have := HLN.out; first | (simp; done) | (simp; omega))).mono ?_
            rintro e w5 ⟨s5, rfl, see5, hB5⟩
            have ST := Lib.hid (ST4.out.call hB5)
            have SE := Lib.hid see5
            have B5 := Lib.hid (below_two B4.out hB5)
            clear see5 hB5 ST4
            go_wp2_with fail
            refine (SM.out _ _ _ L SE.out ST.out.sees HM.out).mono ?_
            rintro e w6 ⟨rfl, hB⟩
            have ST := Lib.hid (ST.out.call hB)
            have B6 := Lib.hid (below_two B5.out hB)
            clear hB
            go_wp2_with fail
            refine (SZ.out _ ST.out.sees).mono ?_
            rintro e w7 ⟨rfl, hB⟩
            have ST := Lib.hid (ST.out.call hB)
            have B7 := Lib.hid (below_two B6.out hB)
            clear hB
            go_wp2_with fail
            go_loopw [63] (fun i wr => i = .int .i64 0 ∧ wr = w7) (fun _ _ => 0)
            case atStart => exact ⟨rfl, rfl⟩
            case round =>
              obtain ⟨rfl, rfl⟩ := hrel
              go_wp2
              go_ret
              exact ⟨rfl, ST.out.below⟩
        · obtain ⟨n2, en2⟩ : ∃ n2, n2 = vs.length := ⟨_, rfl⟩
          have c2c : ∀ j, j < vs.length → w2.cell? ⟨g2, j, none⟩ = some (.int .i64 (vs.getD j 0)) := fun j hj => by
            rw [World.ownsRow.cellAt O2.out j (by omega)]
            simp [hj]
          have C2 := Lib.hid c2c
          have EN := Lib.hid en2
          rw [← en2] at hvl hn2 h0 O2 SZ ⊢
          have hpos : (0 : Int) < (n2 : Int) := by omega
          have hmod : 0 ≤ f % (n2 : Int) ∧ f % (n2 : Int) < (n2 : Int) := ⟨Int.emod_nonneg _ (by omega), Int.emod_lt_of_pos _ hpos⟩
          have hkn : (f % (n2 : Int)).toNat < n2 := by omega
          have hne : ¬ c2 = (f % (n2 : Int)).toNat := by omega
          have HLN : Hid (vs.length ≤ 400) := Lib.hid (by have := EN.out; omega)
          clear hb2 hg2 hs2 ht2 en2 c2c h0
          have OM := Lib.hid (show OwnsI (w2.alloc (.cells #[] 3)) w2.heap.size (.slice (some ⟨w2.heap.size, 0, none⟩) 0 0) [] from World.ownsRow_made w2 #[] 0 (Nat.le_refl _) (by decide) rfl)
          have RA := Lib.hid (readsN_below (readsN_of_owns O2.out) (grown_alloc (w := w2) (.cells #[] 3)))
          have RD : Hid (ReadsN (w2.alloc (.cells #[] 3)) (.slice (some ⟨g2, (f % (n2 : Int)).toNat, none⟩) (n2 - (f % (n2 : Int)).toNat) (c2 - (f % (n2 : Int)).toNat)) (vs.drop (f % (n2 : Int)).toNat)) := Lib.hid (.inr ⟨g2, (f % (n2 : Int)).toNat, c2 - (f % (n2 : Int)).toNat, by rw [List.length_drop, ← EN.out], fun j hj => by
            rw [List.length_drop] at hj
            have h1 := cell_below (grown_alloc (w := w2) (.cells #[] 3)) (C2.out ((f % (n2 : Int)).toNat + j) (by omega))
            rw [h1]
            simp [List.getD_eq_getElem?_getD]⟩)
          have hT : ∀ v, v ∈ vs.drop (f % (n2 : Int)).toNat ++ vs ↔ inL L v = true := fun v => by
            rw [List.mem_append, ← MV.out]
            exact ⟨fun h => h.elim (fun h => List.mem_of_mem_drop h) id, .inr⟩
          have HT := Lib.hid hT
          clear hT
          go_wp2_with (first | (at_builtin; refine wpList_append_ints rfl _ _ rfl w2.heap.size _ _ [] (vs.drop (f % (n2 : Int)).toNat) rfl rfl OM.out RD.out (by have := HLN.out; first | (simp; done) | (simp; omega)) (by simp) ?_; intro v3 w3 ho3 hg3; have B3 := Lib.hid ((grown_alloc (w := w2) (.cells #[] 3)).grown hg3 (by simp) (fun j e => (OM.out.lt j e).1)); have O3 := Lib.hid ho3; have RA3 := Lib.hid (readsN_below (readsN_of_owns O2.out) B3.out); clear ho3 hg3) | (at_builtin; refine wpList_append_ints rfl _ _ rfl w2.heap.size _ _ (vs.drop (f % (n2 : Int)).toNat) vs rfl rfl O3.out RA3.out (by have := HLN.out; first | (simp; done) | (simp; omega)) B3.out.size ?_; intro v4 w4 ho4 hg4; have B4 := Lib.hid (B3.out.grown hg4 B3.out.size (fun j e => (O3.out.lt j e).1)); have O4 := Lib.hid ho4; clear ho4 hg4))
          have ST4 := Lib.hid (ST.out.call B4.out)
          refine (OF.out _ _ _ (reads_of_owns O4.out) HT.out (by have := HLN.out; first | (simp; done) | (simp; omega))).mono ?_
          rintro e w5 ⟨s5, rfl, see5, hB5⟩
          have ST := Lib.hid (ST4.out.call hB5)
          have SE := Lib.hid see5
          have B5 := Lib.hid (below_two B4.out hB5)
          clear see5 hB5 ST4
          go_wp2_with fail
          refine (SM.out _ _ _ L SE.out ST.out.sees HM.out).mono ?_
          rintro e w6 ⟨rfl, hB⟩
          have ST := Lib.hid (ST.out.call hB)
          have B6 := Lib.hid (below_two B5.out hB)
          clear hB
          go_wp2_with fail
          refine (SZ.out _ ST.out.sees).mono ?_
          rintro e w7 ⟨rfl, hB⟩
          have ST := Lib.hid (ST.out.call hB)
          have B7 := Lib.hid (below_two B6.out hB)
          clear hB
          go_wp2_with fail
          go_loopw [63] (fun i wr => ∃ j : Nat, j ≤ n2 ∧ i = .int .i64 j ∧ Below w7.heap.size w7 wr) (fun i _ => n2 - (intOf i).toNat)
          case atStart => exact ⟨0, by omega, rfl, Below.refl _ _⟩
          case round =>
            obtain ⟨j, hj, rfl, hB⟩ := hrel
            by_cases hlt : j < n2
            · have hlx : j < vs.length := by have := EN.out; omega
              have cj := cell_below hB (cell_below B7.out (C2.out j hlx))
              obtain ⟨v1, v2⟩ := value_at HR.out HV.out hlx
              have SW := Lib.hid (ST.out.call hB)
              have A1 := Lib.hid (AT.out _ j (by omega) SW.out.sees)
              have P1 := Lib.hid (fun u (h : Sees u (.slice p n c) L) => PL.out u (vs.getD j 0) h)
              rw [v1] at A1
              rw [v2] at P1
              generalize vs.getD j 0 = z at cj A1 P1
              have HB := Lib.hid hB
              clear v1 v2 hlx hB
              go_wp2_with fail
              refine A1.out.mono ?_
              rintro e w8 ⟨rfl, hB⟩
              have SW := Lib.hid (SW.out.call hB)
              have HB := Lib.hid (below_two HB.out hB)
              clear hB
              go_wp2_with fail
              refine (P1.out _ SW.out.sees).mono ?_
              rintro e w9 ⟨rfl, hB⟩
              have HB := Lib.hid (below_two HB.out hB)
              clear hB
              go_wp2_with fail
              go_roundw
              case rel => exact ⟨j + 1, by omega, by go_num, HB.out⟩
              case measure => simp [intOf]; omega
            · have SW := Lib.hid (ST.out.call hB)
              clear hB
              go_wp2
              go_ret
              exact ⟨rfl, SW.out.below⟩
end Go.Proofs.Ytehflpgnbbafpaa
