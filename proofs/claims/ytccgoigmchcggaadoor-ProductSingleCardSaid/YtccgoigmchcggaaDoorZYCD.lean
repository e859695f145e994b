/-
  What List and Spans of package dom answer, at every domain.
  What Step of package product answers.
-/
import Derived.Test.YtccgoigmchcggaaDoorZYAU
import Derived.Test.YtccgoigmchcggaaDoorZYCB
import Derived.Test.YtccgoigmchcggaaDoorZYCC
import Derived.Test.YtccgoigmchcggaaDoorZYBJ
namespace Go.Proofs.YtccgoigmchcggaaDoor.Dm
open Go.RowKit
set_option maxRecDepth 100000

/-- the value at a place -/
def atZ (xs : List Int) (z : Int) : Int := xs.getD z.toNat 0
/-- the first k of the places turned into values -/
def mixL (f : Int → Int) (zs : List Int) (k : Nat) : List Int := (zs.take k).map f ++ zs.drop k
theorem mix_length (f : Int → Int) (zs : List Int) (k : Nat) : (mixL f zs k).length = zs.length := by
  simp [mixL]
  omega
theorem mix_at {f : Int → Int} {zs : List Int} {k : Nat} (h : k < zs.length) : (mixL f zs k).getD k 0 = zs.getD k 0 := by
  unfold mixL
  rw [List.getD_eq_getElem?_getD, List.getElem?_append_right (by simp; omega)]
  have : k - ((zs.take k).map f).length = 0 := by simp; omega
  rw [this, drop_consI h]
  simp
theorem take_onI {zs : List Int} {k : Nat} (h : k < zs.length) : zs.take k ++ [zs.getD k 0] = zs.take (k + 1) := by
  rw [List.take_add_one, List.getD_eq_getElem?_getD, List.getElem?_eq_getElem h]
  rfl
theorem mix_on {f : Int → Int} {zs : List Int} {k : Nat} (h : k < zs.length) : (mixL f zs k).set k (f (zs.getD k 0)) = mixL f zs (k + 1) := by
  unfold mixL
  have hl : ((zs.take k).map f).length = k := by simp; omega
  rw [List.set_append, if_neg (by omega), hl, Nat.sub_self, drop_consI h, List.set_cons_zero, ← take_onI h, List.map_append]
  simp
theorem mix_end (f : Int → Int) (zs : List Int) : mixL f zs zs.length = zs.map f := by simp [mixL]
theorem all_left (xs : List Int) (x : Nat) : (B.all x).map (atZ xs) = left xs x := by
  simp [B.all, left, atZ, Function.comp_def]
theorem all_at {xs : List Int} {x : Nat} (h : mayL xs x = true) {k : Nat} (hk : k < (B.all x).length) : ∃ j : Nat, (B.all x).getD k 0 = (j : Int) ∧ j < xs.length := by
  have hk' : k < (B.mem 64 x).length := by simpa [B.all] using hk
  refine ⟨(B.mem 64 x)[k], ?_, mem_may h (List.getElem_mem hk')⟩
  simp [B.all, hk']

theorem ints_store {w : World} {base : Nat} {v : Value} {ys : List Int} (h : OwnsI w base v ys) {k : Nat} (hk : k < ys.length) :
    ∃ g cap, v = .slice (some ⟨g, 0, none⟩) ys.length cap ∧ base ≤ g ∧ w.cell? ⟨g, k, none⟩ = some (.int .i64 (ys.getD k 0)) ∧ w.frozen? ⟨g, k, none⟩ = false ∧ ∀ y, OwnsI (w.setCell ⟨g, k, none⟩ (.int .i64 y)) base v (ys.set k y) := by
  have h0 := h
  rcases h.2 with ⟨_, h1⟩ | ⟨g, cap, cur, rfl, hb, hg, hn, hc, hs, ht⟩
  · omega
  · refine ⟨g, cap, rfl, hb, ?_, h0.frozenAt _, fun y => ?_⟩
    · rw [h0.cellAt k (by omega)]
      simp [hk]
    · have := (h0.stored k (.int .i64 y)).1
      unfold OwnsI
      rw [List.map_set, List.length_set]
      exact this

set_option maxRecDepth 100000 in
set_option maxHeartbeats 2000000 in
theorem list1_any {v : Value} {xs : List Int} (x : Nat) (u : World) (hr : Reads u v xs) (hmay : mayL xs x = true) (hT : B.Tab u) (h0 : 0 < u.heap.size) :
    Calls Tryd.prog 40 #[.agg #[v, .int .u64 x]] u fun e w' => ∃ r, e = .returned r ∧ OwnsI w' u.heap.size r (left xs x) ∧ Below u.heap.size u w' := by
  obtain ⟨p, bb, off, c, rfl, hp, hcell⟩ := reads_shape hr
  have hB := (Below.refl _ u).alloc (Nat.le_refl _) (.cells #[.slice p xs.length c, .int .u64 x] 47)
  obtain ⟨W0, hW0⟩ : ∃ W0, W0 = u.alloc (.cells #[.slice p xs.length c, .int .u64 x] 47) := ⟨_, rfl⟩
  rw [← hW0] at hB
  have LI := Lib.hid (B.list_any x (may_lt hmay) W0 (B.Tab.below hT h0 hB) (Nat.lt_of_lt_of_le h0 hB.size))
  have c0 : W0.cell? ⟨u.heap.size, 0, none⟩ = some (.slice p xs.length c) := by rw [hW0]; simp
  have c1 : W0.cell? ⟨u.heap.size, 1, none⟩ = some (.int .u64 x) := by rw [hW0]; simp
  have HC := Lib.hid (And.intro c0 c1)
  have HX := Lib.hid hcell
  have HB := Lib.hid hB
  have HM := Lib.hid hmay
  have HW := Lib.hid hW0
  have hl64 := (may_iff.1 hmay).1
  have hle := B.all_le x
  have HAL := Lib.hid (fun k (hk : k < (B.all x).length) => all_at hmay hk)
  obtain ⟨zs, hz⟩ : ∃ zs, B.all x = zs := ⟨_, rfl⟩
  have HF : Hid (left xs x = zs.map (atZ xs)) := by rw [← hz, all_left]; rfl
  rw [hz] at LI hle HAL
  obtain ⟨len, hlen⟩ : ∃ len : Nat, len = xs.length := ⟨_, rfl⟩
  rw [← hlen] at HW hp HC hl64 ⊢
  have HN := Lib.hid hlen
  clear hr hmay hT h0 hB c0 c1 hcell hW0 hz hlen
  go_enter Tryd.func40, Tryd.ntmps40
  go_wp2_with fail
  rw [← HW.out]
  refine LI.out.mono ?_
  rintro e w1 ⟨l, rfl, ho0, _, hB1⟩
  have ho : OwnsI w1 W0.heap.size l (mixL (atZ xs) zs 0) := ho0
  have hlm := mix_length (atZ xs) zs 0
  obtain ⟨q, g, cap, rfl, hq, _⟩ := ints_shape ho
  rw [hlm] at hq ho ⊢
  obtain ⟨n, en⟩ : ∃ n : Nat, n = zs.length := ⟨_, rfl⟩
  rw [← en] at hq ho hle ⊢
  have HO := Lib.hid ho
  have HB1 := Lib.hid hB1
  have HE := Lib.hid en
  clear ho ho0 hB1 hlm en
  go_wp2
  go_loopw [11] (fun i wr => ∃ k : Nat, k ≤ n ∧ i = .int .i64 k ∧ OwnsI wr W0.heap.size (.slice q n cap) (mixL (atZ xs) zs k) ∧ Below W0.heap.size W0 wr) (fun i _ => n - (intOf i).toNat)
  case atStart => exact ⟨0, by omega, rfl, HO.out, HB1.out⟩
  case round =>
    obtain ⟨k, hk, rfl, hown, hB⟩ := hrel
    by_cases hlt : k < n
    · have hlz : k < zs.length := by have := HE.out; omega
      obtain ⟨g', cap', he, hbg, ck, fk, hst⟩ := ints_store hown (k := k) (by rw [mix_length]; exact hlz)
      rw [mix_length, ← HE.out] at he
      obtain ⟨rfl, rfl⟩ : q = some ⟨g', 0, none⟩ ∧ cap = cap' := by
        injection he with h1 h2 h3
        exact ⟨h1, h3⟩
      obtain ⟨j, ej, hj⟩ := HAL.out k hlz
      rw [mix_at hlz, ej] at ck
      have hn := mix_on (f := atZ xs) hlz
      rw [ej] at hn
      have hj' : j < len := by have := HN.out; omega
      obtain rfl := hp (by omega)
      have cv := cell_below hB (cell_below HB.out (HX.out j hj))
      have c0 := cell_below hB HC.out.1
      have ea : atZ xs (j : Int) = xs.getD j 0 := rfl
      rw [ea] at hn
      obtain ⟨y, ey⟩ : ∃ y, y = xs.getD j 0 := ⟨_, rfl⟩
      rw [← ey] at cv hn
      have d5 : (j : Int) < (len : Int) := by omega
      have HST := Lib.hid (hn ▸ hst y)
      have HBS := Lib.hid (hB.setCell (p := ⟨g', k, none⟩) hbg (.int .i64 y))
      clear he hst hn ea ey hown hB hlz ej hj
      go_wp2_with fail
      go_roundw
      case rel => exact ⟨k + 1, by omega, by go_num, HST.out, HBS.out⟩
      case measure => simp [intOf]; omega
    · have hkz : k = zs.length := by have := HE.out; omega
      rw [hkz, mix_end, ← HF.out] at hown
      have HOW := Lib.hid (owns_low hown HB.out.size)
      have HBB := Lib.hid (below_two HB.out hB)
      clear hown hB hkz hp
      go_wp2
      go_ret
      exact ⟨_, rfl, HOW.out, HBB.out⟩

section
variable {w : World} {v : Value} {xs : List Int} (hr : Reads w v xs) (hm : xs.length ≤ 1000000) (x : Nat) (hx : x < 18446744073709551616) (hT : B.Tab w) (h0 : 0 < w.heap.size)
include hr hm hx hT h0

set_option maxHeartbeats 1000000 in
theorem dlist_any : Calls Tryd.prog 20 #[.agg #[v, .int .u64 x]] w fun e w' => ∃ r, e = .returned r ∧ OwnsI w' w.heap.size r (leftM xs x) ∧ Below w.heap.size w w' := by
  have hr0 := hr
  obtain ⟨p, n, c, rfl⟩ := reads_slice hr
  have hb0 := (Below.refl _ w).alloc (Nat.le_refl _) (.cells #[.slice p n c, .int .u64 x] 47)
  have HB := Lib.hid hb0
  have A := Lib.hid (askL (reads_below hr hb0) hm x hx 40 (enters_of Tryd.func40 (by kernel_rfl) rfl) #[] (fun r w' => OwnsI w' w.heap.size r (left xs x)) (fun hmay u hu => by
    have hb := below_two hb0 hu
    exact (list1_any x u (reads_below hr0 hb) hmay (B.Tab.below hT h0 hb) (Nat.lt_of_lt_of_le h0 hb.size)).mono fun e w' ⟨r, h1, h2, h3⟩ => ⟨r, h1, owns_low h2 hb.size, h3⟩))
  have key : ∀ e w', Asked (mayL xs x) (.slice none 0 0) (fun r w' => OwnsI w' w.heap.size r (left xs x)) e w' → ∃ r, e = .returned r ∧ OwnsI w' w.heap.size r (leftM xs x) := by
    rintro e w' (⟨h, rfl⟩ | ⟨h, r, rfl, ho⟩)
    · rw [leftM, h, if_neg (by simp)]
      exact ⟨_, rfl, World.ownsRow_nil _ _ _ _⟩
    · rw [leftM, h, if_pos rfl]
      exact ⟨_, rfl, ho⟩
  have HK := Lib.hid key
  clear hr hr0 key hb0 hT h0
  go_enter Tryd.func20, Tryd.ntmps20
  go_wp2_with fail
  refine A.out.mono ?_
  rintro e w1 ⟨h, hB⟩
  obtain ⟨r, rfl, ho⟩ := HK.out _ _ h
  have HO := Lib.hid ho
  have HB1 := Lib.hid (below_two HB.out hB)
  clear h hB ho
  go_wp2_with fail
  go_ret
  exact ⟨_, rfl, HO.out, HB1.out⟩

omit hr hm hx hT h0 in
theorem leftM_ok : okI (leftM xs x) = true := by
  rw [ok_iff]
  intro y hy
  cases h : mayL xs x
  · simp [leftM, h] at hy
  · rw [leftM, if_pos h] at hy
    exact left_ok h y hy

end
end Go.Proofs.YtccgoigmchcggaaDoor.Dm
namespace Go.Proofs.YtccgoigmchcggaaDoor.Ge
open Go.RowKit St
set_option maxRecDepth 100000

theorem dom_look {w : World} {p : Option Addr} {b off len : Nat} {L : List (List Int × Nat)} (h : SliceOf rDom 2 w p b off len L) {k : Nat} (hk : k < len) :
    ∃ (p9 : Option Addr) (l9 c9 : Nat), w.cell? ⟨b, off + k * 2, none⟩ = some (.slice p9 l9 c9) ∧ w.cell? ⟨b, off + k * 2 + 1, none⟩ = some (.int .u64 (L.getD k ([], 0)).2) ∧ Dm.Reads w (.slice p9 l9 c9) (L.getD k ([], 0)).1 ∧ (L.getD k ([], 0)).2 < 18446744073709551616 := by
  obtain ⟨x, u, ex, ⟨a0, a1⟩, hx⟩ := dom_at2 h hk
  obtain ⟨p9, l9, c9, rfl⟩ := rDom_shape hx
  obtain ⟨r1, r2, _⟩ := rDom_parts hx
  have eD : L.getD k ([], 0) = x := by rw [List.getD_eq_getElem?_getD, ex]; rfl
  rw [eD]
  exact ⟨p9, l9, c9, a0, a1, Dm.reads_of_readsN r1, r2⟩
theorem rows_of {w : World} {base : Nat} {v : Value} {d : List Int × Nat} (h : Dm.OwnsI w base v (St.leftOf d)) : Rows w v (St.leftOf d) :=
  ⟨Dm.reads_of_owns h, St.left_pair d, Dm.leftM_le _ _, leftM_small⟩

theorem may_small {xs : List Int} {x : Nat} (h : Dm.mayL xs x = true) : ∀ y ∈ xs, -1048576 ≤ y ∧ y ≤ 1048576 := fun _ hy => Dm.rise_low (Dm.may_iff.1 h).2.2 hy
section
variable {w : World} {b : Nat} {t : TypeId} {v vo vt : Value} {xs : List Int} {n : Nat} {d e : List Int × Nat} (hr : Dm.Reads w v xs) (hm : Dm.mayL xs n = true) (ho : Dm.OwnsI w 0 vo (St.leftOf d)) (ht : Dm.OwnsI w 0 vt (St.leftOf e)) (hb : Own1 w b t vt)
include hr hm ho ht hb
theorem kept_makes : Calls Tryd.prog 23 #[.agg #[v, .int .u64 n], vo, .func (.func 21) #[] #[.pointer (some ⟨b, 0, none⟩)]] w fun r w' => r = .returned (.int .u64 (Dm.keepN xs n (fun y => (St.leftOf d).any (makesB (St.leftOf e) y)) : Nat)) ∧ Below w.heap.size w w' :=
  kept_any hr (Dm.reads_of_owns ho) (Dm.may_iff.1 hm).1 (Nat.le_trans (Dm.leftM_le _ _) (by decide)) n (Dm.may_lt hm) 21 (enters_of Tryd.func21 (by kernel_rfl) rfl) #[.pointer (some ⟨b, 0, none⟩)] (makesB (St.leftOf e))
    fun _ hu y hy o hoo => makes_any ((rows_of ht).below hu) (hb.below hu).cell y o (may_small hm y hy) (leftM_small o hoo)
theorem kept_made : Calls Tryd.prog 23 #[.agg #[v, .int .u64 n], vo, .func (.func 24) #[] #[.pointer (some ⟨b, 0, none⟩)]] w fun r w' => r = .returned (.int .u64 (Dm.keepN xs n (fun y => (St.leftOf d).any (madeB (St.leftOf e) y)) : Nat)) ∧ Below w.heap.size w w' :=
  kept_any hr (Dm.reads_of_owns ho) (Dm.may_iff.1 hm).1 (Nat.le_trans (Dm.leftM_le _ _) (by decide)) n (Dm.may_lt hm) 24 (enters_of Tryd.func24 (by kernel_rfl) rfl) #[.pointer (some ⟨b, 0, none⟩)] (madeB (St.leftOf e))
    fun _ hu y hy o hoo => made1_any ((rows_of ht).below hu) (hb.below hu).cell y o (may_small hm y hy) (leftM_small o hoo)
end

set_option maxHeartbeats 8000000 in
theorem step_any {w : World} {v1 v2 v3 v : Value} {c : PCon} {L : List (List Int × Nat)} (hT : B.Tab w) (h0 : 0 < w.heap.size) (hc : rCon w [.int .i64 c.kind, v1, v2, .int .i64 c.rel, .int .i64 c.const, v3] c) (hs : Short 1000 c) (h : Slc rDom 2 w v L) (hn : L.length ≤ 1000) (hm : ∀ d ∈ L, d.1.length ≤ 1000) :
    Calls Tryd.prog 9 #[.agg #[.int .i64 c.kind, v1, v2, .int .i64 c.rel, .int .i64 c.const, v3], v] w fun e w' => ∃ x, e = .returned (.tuple #[x, .int .i64 (stepG c L).2]) ∧ Slc rDom 2 w' x (stepG c L).1 ∧ Below w.heap.size w w' := by
  have hsl := h
  obtain ⟨p, b, off, cc, len, rfl, hcap, hss⟩ := h
  obtain ⟨W0, hW0⟩ : ∃ W0, W0 = w.alloc (.cells #[.int .i64 c.kind, v1, v2, .int .i64 c.rel, .int .i64 c.const, v3] 24) := ⟨_, rfl⟩
  have hb0 : Below w.heap.size w W0 := by rw [hW0]; exact new_below _ _
  have hc0 : ∀ j u, [Value.int .i64 c.kind, v1, v2, .int .i64 c.rel, .int .i64 c.const, v3][j]? = some u → W0.cell? ⟨w.heap.size, j, none⟩ = some u := fun j u e => by rw [hW0]; exact six_at _ _ _ _ _ _ _ _ j u e
  have HW := Lib.hid hW0
  have HB0 := Lib.hid hb0
  have RM := Lib.hid (right_any (rCon_stays _ _ _ _ hb0 hc) hs (hsl.below rDom_stays hb0) hn hm)
  have HC := Lib.hid (fun (z : World) (hz : Below W0.heap.size W0 z) => And.intro (cell_below hz (hc0 0 _ rfl)) (And.intro (cell_below hz (hc0 1 _ rfl)) (And.intro (cell_below hz (hc0 2 _ rfl)) (And.intro (cell_below hz (hc0 3 _ rfl)) (And.intro (cell_below hz (hc0 4 _ rfl)) (cell_below hz (hc0 5 _ rfl)))))))
  obtain ⟨_, _, _, e, ⟨f1, f2, f3⟩, ⟨p1, b1, o1, c1, l1, e1, hcap1, h1⟩, ⟨p2, b2, o2, c2, l2, e2, _, h2⟩, _⟩ := hc
  simp only [List.cons.injEq, true_and, and_true] at e
  obtain ⟨rfl, rfl, rfl⟩ := e
  subst e1 e2
  obtain ⟨q0, q1, q2, q3, q4, q5⟩ := HC.out W0 (Below.refl _ _)
  have HPon := Lib.hid (fun (q : rightK [2] c L = true) => stepK_on (Kp := prodK) q)
  have HPoff := Lib.hid (fun (q : rightK [2] c L = false) => stepK_off (Kp := prodK) q)
  obtain ⟨RR, hRR⟩ : ∃ R, R = rightK [2] c L := ⟨_, rfl⟩
  rw [← hRR] at RM HPon HPoff
  have HRR := Lib.hid hRR
  clear hW0 hc0 hRR
  go_enter Tryd.func9, Tryd.ntmps9
  go_wp2_with fail
  rw [← HW.out]
  refine RM.out.mono ?_
  rintro e w1 ⟨rfl, hB1⟩
  have HB1 := Lib.hid hB1
  clear q0 q1 q2 q3 q4 q5
  obtain ⟨q0, q1, q2, q3, q4, q5⟩ := HC.out _ hB1
  clear hB1
  cases RR
  · have HP2 := Lib.hid (show stepG c L = ([], 1) from HPoff.out rfl)
    clear hb0 hT h0 hs hn hm hsl hss h1 h2
    go_wp2_with fail
    go_ret2
    exact ⟨.slice none 0 0, by rw [HP2.out]; rfl, by rw [HP2.out]; exact ⟨none, 0, 0, 0, 0, rfl, ⟨fun _ => rfl, Nat.le_refl _⟩, rfl, fun h => by omega, fun k a h => by simp at h⟩, below_two HB0.out HB1.out⟩
  · have HP2 := Lib.hid (show stepG c L = (stepTo L c.vars (prodK c (domsOf L c.vars)) c.vars.length, 0) from HPon.out rfl)
    obtain ⟨hkd, hrc, hmy⟩ := rightK_parts HRR.out.symm
    have hvt := vars_to hrc
    have hl3 := right_three hrc (by simpa using hkd)
    obtain rfl : l1 = 3 := by have := h1.long; omega
    have hvin : ∀ k, k < c.vars.length → 0 ≤ c.vars.getD k 0 ∧ c.vars.getD k 0 < (L.length : Int) := fun k hk => (hvt k hk).1
    have hlt1 : w.heap.size < w1.heap.size := Dm.cell_lt q1
    have hmk := make_doms len (by have := hss.long; omega)
    have HLN := Lib.hid hss.long
    have hle : len ≤ 1000 := by have := hss.long; omega
    have HNV := Lib.hid (nums_of h1)
    have HVI := Lib.hid (show ∀ k, k < 3 → 0 ≤ c.vars.getD k 0 ∧ c.vars.getD k 0 < (len : Int) by rw [hss.long, ← hl3]; exact hvin)
    have HSS := Lib.hid hss
    have HMY := Lib.hid hmy
    have HMM := Lib.hid hm
    have hp := hss.at_
    have HVT := Lib.hid hvt
    have HL3 := Lib.hid hl3
    have HTB := Lib.hid (And.intro hT h0)
    clear hkd hmy hrc hvt hvin hb0 hT h0 hs hn hm hsl hss h1 h2 f1 f2 f3 hcap hcap1 HPon HPoff hl3
    obtain ⟨wz, rfl⟩ : ∃ z, z = w1 := ⟨_, rfl⟩
    go_wp2_with fail
    go_loopw [25] (fun i wr => ∃ (k : Nat) (F : Nat → Value × Value), k ≤ len ∧ i = .int .i64 k ∧ Row2 len 47 wr wz.heap.size F ∧ (∀ j, j < k → Dm.OwnsI wr 0 (F j).1 (L.getD j ([], 0)).1 ∧ (F j).2 = .int .u64 ((L.getD j ([], 0)).2 : Nat)) ∧ (∀ j, k ≤ j → F j = (.slice none 0 0, .int .u64 0)) ∧ Below wz.heap.size wz wr) (fun i _ => len - (intOf i).toNat)
    case atStart => exact ⟨0, _, by omega, rfl, row2_made len _ _ _ wz, fun j hj => by omega, fun j _ => rfl, new_below _ _⟩
    case round =>
      rename_i wr
      obtain ⟨k, F, hk, rfl, hrow, hown, hrest, hB⟩ := hrel
      have HR := Lib.hid hrow
      have HO := Lib.hid hown
      have HRS := Lib.hid hrest
      have HB := Lib.hid hB
      clear q0 q1 q2 q3 q4 q5
      by_cases hlt : k < len
      · obtain rfl := hp (by omega)
        have hBW := below_two HB0.out (below_two HB1.out hB)
        obtain ⟨p9, l9, c9, a0, a1, r1, r2⟩ := dom_look (HSS.out.below rDom_stays hBW) hlt
        obtain ⟨x, eD⟩ : ∃ x, x = L.getD k ([], 0) := ⟨_, rfl⟩
        rw [← eD] at a1 r1 r2
        have hxl : x.1.length ≤ 100000 := by rw [eD]; exact Nat.le_trans (HMM.out _ (doms_in (by rw [← HLN.out]; exact hlt))) (by decide)
        obtain ⟨y, ey⟩ : ∃ y, y = x.2 := ⟨_, rfl⟩
        rw [← ey] at a1
        obtain ⟨W9, hW9⟩ : ∃ z, z = wr.alloc (.cells #[.slice p9 l9 c9, .int .u64 y] 47) := ⟨_, rfl⟩
        have hb9 : Below wr.heap.size wr W9 := by rw [hW9]; exact new_below _ _
        have hO9 : Own2 W9 wr.heap.size 47 (.slice p9 l9 c9) (.int .u64 y) := by rw [hW9]; exact Own2.new _ _ _ _
        have CL := Lib.hid (Dm.clone_any (w := W9.drew) (Dm.reads_below (Dm.reads_below r1 hb9) (Below.refl _ _).drew) hxl)
        have HO9 := Lib.hid hO9
        have HB9 := Lib.hid hb9
        have HX := Lib.hid (And.intro eD ey)
        have HW9 := Lib.hid hW9
        have g0 := hO9.cell0
        have g1 := hO9.cell1
        have gl := hO9.lt
        have d5 : (k : Int) < (len : Int) := by omega
        clear hrow hown hrest hB r1 r2 hxl eD ey hb9 hO9 hW9 hBW
        go_upto_region 7 with fail
        rw [← HW9.out]
        go_region_law (first
          | (go_simp; go_at_call 19; refine CL.out.mono ?_; rintro e w5 ⟨v5, rfl, ho5, hB5⟩; obtain ⟨p5, _, c5, rfl, _, _⟩ := Dm.ints_shape ho5; have hB5 : Below W9.heap.size W9 w5 := below_two (Below.refl _ _).drew hB5; have o9 := HO9.out.below hB5; have g0 := o9.cell0; have g1 := o9.cell1; have hR5 := HR.out.below (below_two HB9.out hB5); have z0 := hR5.cell0 hlt; have z1 := hR5.cell1 hlt; have f0 := hR5.frozen (k * 2); have f1 := hR5.frozen (k * 2 + 1)))
        all_goals go_wp2_with fail
        all_goals
          go_roundw
          case rel =>
            have hb := below_two HB9.out hB5
            refine ⟨k + 1, fun j => if j = k then (.slice p5 x.1.length c5, .int .u64 (y : Int)) else F j, by omega, by go_num, hR5.set hlt _ _ (if_pos rfl) (fun j hj => if_neg hj), fun j hj => ?_, fun j hj => ?_, ((HB.out.trans (hb.mono HB.out.size)).setCell (Nat.le_refl _) _).setCell (Nat.le_refl _) _⟩
            · by_cases e : j = k
              · subst e
                simp only [if_true]
                rw [← HX.out.1, ← HX.out.2]
                exact ⟨own_set2 hR5 (by decide) (owns_low ho5 (Nat.zero_le _)), rfl⟩
              · simp only [if_neg e]
                have o := HO.out j (by omega)
                exact ⟨own_set2 hR5 (by decide) (owns_below o.1 hb), o.2⟩
            · simp only [if_neg (show ¬ j = k by omega)]
              exact HRS.out j (by omega)
          case measure => simp [intOf]; omega
      · obtain rfl : k = len := by omega
        have d6 : ¬ ((k : Int) < (k : Int)) := by omega
        obtain ⟨q0, q1, q2, q3, q4, q5⟩ := HC.out _ (HB1.out.trans (HB.out.mono HB1.out.size))
        have HBW := Lib.hid (show Below w.heap.size w wr from below_two HB0.out (HB1.out.trans (HB.out.mono HB1.out.size)))
        have hmyAt : ∀ i, i < k → Dm.mayL (L.getD i ([], 0)).1 (L.getD i ([], 0)).2 = true := fun i hi => HMY.out i (by rw [← HLN.out]; exact hi)
        have v0 := HVI.out 0 (by omega)
        have v1 := HVI.out 1 (by omega)
        have v2 := HVI.out 2 (by omega)
        obtain rfl := HNV.out.at_ (by omega)
        have k0 := cell_below HBW.out (HNV.out.cell 0 (by omega))
        have k1 := cell_below HBW.out (HNV.out.cell 1 (by omega))
        have k2 := cell_below HBW.out (HNV.out.cell 2 (by omega))
        rw [Nat.add_zero] at k0
        have n01 := vars_ne HVT.out (a := 0) (b := 1) (by rw [HL3.out]; omega) (by rw [HL3.out]; omega) (by omega)
        have n02 := vars_ne HVT.out (a := 0) (b := 2) (by rw [HL3.out]; omega) (by rw [HL3.out]; omega) (by omega)
        have n12 := vars_ne HVT.out (a := 1) (b := 2) (by rw [HL3.out]; omega) (by rw [HL3.out]; omega) (by omega)
        have hs3 : stepTo L c.vars (prodK c (domsOf L c.vars)) 3 = (((L.set (c.vars.getD 0 0).toNat ((L.getD (c.vars.getD 0 0).toNat ([], 0)).1, Dm.keepN (L.getD (c.vars.getD 0 0).toNat ([], 0)).1 (L.getD (c.vars.getD 0 0).toNat ([], 0)).2 (prodK c (domsOf L c.vars) 0))).set (c.vars.getD 1 0).toNat ((L.getD (c.vars.getD 1 0).toNat ([], 0)).1, Dm.keepN (L.getD (c.vars.getD 1 0).toNat ([], 0)).1 (L.getD (c.vars.getD 1 0).toNat ([], 0)).2 (prodK c (domsOf L c.vars) 1))).set (c.vars.getD 2 0).toNat ((L.getD (c.vars.getD 2 0).toNat ([], 0)).1, Dm.keepN (L.getD (c.vars.getD 2 0).toNat ([], 0)).1 (L.getD (c.vars.getD 2 0).toNat ([], 0)).2 (prodK c (domsOf L c.vars) 2))) := by
          rw [stepTo_succ, stepTo_succ, stepTo_succ]; rfl
        have kp0 : ∀ y, prodK c (domsOf L c.vars) 0 y = _ := fun y => (keep0 (c := c) (D := domsOf L c.vars) (v := y)).symm
        have kp1 : ∀ y, prodK c (domsOf L c.vars) 1 y = _ := fun y => (keep1 (c := c) (D := domsOf L c.vars) (v := y)).symm
        have kp2 : ∀ y, prodK c (domsOf L c.vars) 2 y = _ := fun y => (keep2 (c := c) (D := domsOf L c.vars) (v := y)).symm
        have G0 := doms_get (L := L) (vars := c.vars) (k := 0) (by rw [HL3.out]; omega)
        have G1 := doms_get (L := L) (vars := c.vars) (k := 1) (by rw [HL3.out]; omega)
        have G2 := doms_get (L := L) (vars := c.vars) (k := 2) (by rw [HL3.out]; omega)
        rw [G1, G2] at kp0
        rw [G0, G2] at kp1
        rw [G0, G1] at kp2
        clear G0 G1 G2
        obtain ⟨x, hx⟩ : ∃ z, z = c.vars.getD 0 0 := ⟨_, rfl⟩
        obtain ⟨y, hy⟩ : ∃ z, z = c.vars.getD 1 0 := ⟨_, rfl⟩
        obtain ⟨z, hz⟩ : ∃ z, z = c.vars.getD 2 0 := ⟨_, rfl⟩
        rw [← hx] at v0 k0 n01 n02 hs3 kp1 kp2
        rw [← hy] at v1 k1 n01 n12 hs3 kp0 kp2
        rw [← hz] at v2 k2 n02 n12 hs3 kp0 kp1
        obtain ⟨x, rfl⟩ := Int.eq_ofNat_of_zero_le v0.1
        obtain ⟨y, rfl⟩ := Int.eq_ofNat_of_zero_le v1.1
        obtain ⟨z, rfl⟩ := Int.eq_ofNat_of_zero_le v2.1
        simp only [Int.toNat_natCast] at n01 n02 n12 hs3 kp0 kp1 kp2
        have hxl : x < k := by omega
        have hyl : y < k := by omega
        have hzl : z < k := by omega
        obtain rfl := hp (by omega)
        obtain ⟨e0, f0, g0, a0, b0, r0, m0⟩ := dom_look HSS.out hxl
        obtain ⟨e1, f1, g1, a1, b1, r1, m1⟩ := dom_look HSS.out hyl
        obtain ⟨e2, f2, g2, a2, b2, r2, m2⟩ := dom_look HSS.out hzl
        have my0 := hmyAt x hxl
        have my1 := hmyAt y hyl
        have my2 := hmyAt z hzl
        obtain ⟨d0, hd0⟩ : ∃ d, d = L.getD x ([], 0) := ⟨_, rfl⟩
        obtain ⟨d1, hd1⟩ : ∃ d, d = L.getD y ([], 0) := ⟨_, rfl⟩
        obtain ⟨d2, hd2⟩ : ∃ d, d = L.getD z ([], 0) := ⟨_, rfl⟩
        rw [← hd0] at b0 r0 m0 my0 hs3 kp1 kp2
        rw [← hd1] at b1 r1 m1 my1 hs3 kp0 kp2
        rw [← hd2] at b2 r2 m2 my2 hs3 kp0 kp1
        have TB := fun u (hu : Below w.heap.size w u) => And.intro (B.Tab.below HTB.out.1 HTB.out.2 hu) (Nat.lt_of_lt_of_le HTB.out.2 hu.size)
        have LC : ∀ (d : List Int × Nat) (e : Option Addr) (f g : Nat), Dm.mayL d.1 d.2 = true → Dm.Reads w (.slice e f g) d.1 → ∀ u, Below w.heap.size w u → Calls Tryd.prog 20 #[.agg #[.slice e f g, .int .u64 d.2]] u fun e w' => ∃ r, e = .returned r ∧ Dm.OwnsI w' 0 r (St.leftOf d) ∧ Below u.heap.size u w' := fun d e f g hmd hrd u hu =>
          (Dm.dlist_any (Dm.reads_below hrd hu) (Nat.le_trans (Dm.may_iff.1 hmd).1 (by decide)) d.2 (Dm.may_lt hmd) (TB u hu).1 (TB u hu).2).mono fun e w' ⟨r, h1, h2, h3⟩ => ⟨r, h1, owns_low h2 (Nat.zero_le _), h3⟩
        have LC0 := Lib.hid (LC d0 e0 f0 g0 my0 r0)
        have LC1 := Lib.hid (LC d1 e1 f1 g1 my1 r1)
        have LC2 := Lib.hid (LC d2 e2 f2 g2 my2 r2)
        obtain ⟨n0, hn0⟩ : ∃ n, n = d0.2 := ⟨_, rfl⟩
        obtain ⟨n1, hn1⟩ : ∃ n, n = d1.2 := ⟨_, rfl⟩
        obtain ⟨n2, hn2⟩ : ∃ n, n = d2.2 := ⟨_, rfl⟩
        rw [← hn0] at b0 LC0
        rw [← hn1] at b1 LC1
        rw [← hn2] at b2 LC2
        have HE0 := Lib.hid (And.intro a0 b0)
        have HD0 := Lib.hid (And.intro (cell_below HBW.out a0) (cell_below HBW.out b0))
        have HE1 := Lib.hid (And.intro a1 b1)
        have HD1 := Lib.hid (And.intro (cell_below HBW.out a1) (cell_below HBW.out b1))
        have HE2 := Lib.hid (And.intro a2 b2)
        have HD2 := Lib.hid (And.intro (cell_below HBW.out a2) (cell_below HBW.out b2))
        have i0 : (0 : Int) < 3 := by decide
        have dx : (x : Int) < (k : Int) := by omega
        have dy : (y : Int) < (k : Int) := by omega
        have dz : (z : Int) < (k : Int) := by omega
        have HDD := Lib.hid (And.intro hd0 (And.intro hd1 hd2))
        have HNN := Lib.hid (And.intro hn0 (And.intro hn1 hn2))
        have HRD := Lib.hid (And.intro (And.intro r0 my0) (And.intro (And.intro r1 my1) (And.intro r2 my2)))
        have HS3 := Lib.hid hs3
        have HKP := Lib.hid (And.intro kp0 (And.intro kp1 kp2))
        have HNE := Lib.hid (And.intro n01 (And.intro n02 n12))
        clear TB LC hs3 kp0 kp1 kp2 n01 n02 n12 r0 r1 r2 my0 my1 my2 m0 m1 m2 hd0 hd1 hd2 hn0 hn1 hn2 a0 b0 a1 b1 a2 b2 v0 v1 v2 hrow hown hrest hB hmyAt hx hy hz
        go_upto_region 9 with fail
        go_wp2
        go_quiet (fail)
        go_upto_region 10 with fail
        have HBY := Lib.hid (show Below wr.heap.size wr (wr.drewN nq) from below_drewN (Below.refl _ _))
        have HLA := Lib.hid (show LeftAt wr wz.heap.size k L from ⟨HLN.out.symm, F, HR.out, HO.out⟩)
        have HGL := Lib.hid (show wz.heap.size < wr.heap.size from HR.out.lt)
        obtain ⟨T0, hT0⟩ : ∃ T, T = St.leftOf d0 := ⟨_, rfl⟩
        obtain ⟨T1, hT1⟩ : ∃ T, T = St.leftOf d1 := ⟨_, rfl⟩
        obtain ⟨T2, hT2⟩ : ∃ T, T = St.leftOf d2 := ⟨_, rfl⟩
        rw [← hT0] at LC0
        rw [← hT1] at LC1
        rw [← hT2] at LC2
        have HTT := Lib.hid (And.intro hT0 (And.intro hT1 hT2))
        clear hT0 hT1 hT2 q0 q1 q2 q3 q4 q5 k0 k1 k2 i0
        have HBZ := Lib.hid (show Below wr.heap.size wr (wr.drewN nq).drew from HBY.out.drew)
        go_cut [12, 13, 14] (fun f p q wx => ∃ vS vT b13 b14, p = .pointer (some ⟨b13, 0, none⟩) ∧ q = .pointer (some ⟨b14, 0, none⟩) ∧ At3 wx wz.heap.size k b13 b14 f vS vT T0 T1 T2 L ∧ Below wr.heap.size wr wx)
        case first =>
          refine wp_region_at (γ := GS10) (JS10 wr b off k cc x y z (.agg #[.slice e0 f0 g0, .int .u64 n0]) (.agg #[.slice e1 f1 g1, .int .u64 n1]) (.agg #[.slice e2 f2 g2, .int .u64 n2]) T0 T1 T2) putS10 ⟨0, 0, undef, undef, undef, undef, undef, undef, undef, undef, undef, undef, undef, undef, undef, undef, undef, undef, undef, undef⟩ ?hm ?ho ?hput ?h0 ?hs ?hd
          case hm => kernel_rfl
          case ho => kernel_rfl
          case hput => (simp only [putS10, List.setIfInBounds_toArray, List.set_cons_zero, List.set_cons_succ])
          case h0 => exact ⟨HBZ.out, nofun, nofun, nofun, nofun, nofun, nofun, nofun, nofun, nofun, nofun, nofun, nofun, nofun, nofun, nofun, nofun, nofun, nofun, nofun, nofun, nofun, nofun, nofun⟩
          case hs =>
            as_aux_lemma =>
            refine ⟨?s0, ?s1, ?s2, ?s3, ?s4, ?s5, ?s6, ?s7, ?s8, ?s9, ?s10, ?s11, ?s12, ?s13, ?s14, ?s15, ?s16, ?s17, ?s18, ?s19, trivial⟩
            case s0 =>
              rintro l ⟨b13, b14, v52, v53, v54, v55, v56, v57, v58, v59, v60, v61, v62, v63, v64, v65, v66, v13, v14, v12⟩ u hl haf S K hK
              simp only [JS10] at S
              refine ⟨?_⟩
              simp only [putS10, List.setIfInBounds_toArray, List.set_cons_zero, List.set_cons_succ]
              go_simp
              have nx := hK.out ⟨b13, b14, (.slice (some ⟨b, off, none⟩) k cc), v53, v54, v55, v56, v57, v58, v59, v60, v61, v62, v63, v64, v65, v66, v13, v14, v12⟩ u (S.s0 hl)
              clear hK
              simp only [putS10, List.setIfInBounds_toArray, List.set_cons_zero, List.set_cons_succ] at nx
              exact nx
            case s1 =>
              rintro l ⟨b13, b14, v52, v53, v54, v55, v56, v57, v58, v59, v60, v61, v62, v63, v64, v65, v66, v13, v14, v12⟩ u hl haf S K hK
              simp only [JS10] at S
              refine ⟨?_⟩
              simp only [putS10, List.setIfInBounds_toArray, List.set_cons_zero, List.set_cons_succ]
              go_simp
              have nx := hK.out ⟨b13, b14, v52, (.int .i64 (x : Nat)), v54, v55, v56, v57, v58, v59, v60, v61, v62, v63, v64, v65, v66, v13, v14, v12⟩ u (S.s1 hl)
              clear hK
              simp only [putS10, List.setIfInBounds_toArray, List.set_cons_zero, List.set_cons_succ] at nx
              exact nx
            case s2 =>
              rintro l ⟨b13, b14, v52, v53, v54, v55, v56, v57, v58, v59, v60, v61, v62, v63, v64, v65, v66, v13, v14, v12⟩ u hl haf S K hK
              simp only [JS10] at S
              obtain rfl := S.f0 (haf 0 (by kernel_rfl))
              obtain rfl := S.f1 (haf 1 (by kernel_rfl))
              refine ⟨?_⟩
              simp only [putS10, List.setIfInBounds_toArray, List.set_cons_zero, List.set_cons_succ]
              go_simp
              have nx := hK.out ⟨b13, b14, _, _, (.pointer (some ⟨b, off + x * 2, none⟩)), v55, v56, v57, v58, v59, v60, v61, v62, v63, v64, v65, v66, v13, v14, v12⟩ u (S.s2 hl)
              clear hK
              simp only [putS10, List.setIfInBounds_toArray, List.set_cons_zero, List.set_cons_succ] at nx
              exact nx
            case s3 =>
              rintro l ⟨b13, b14, v52, v53, v54, v55, v56, v57, v58, v59, v60, v61, v62, v63, v64, v65, v66, v13, v14, v12⟩ u hl haf S K hK
              simp only [JS10] at S
              have c0 := cell_below S.base HD0.out.1
              have c1 := cell_below S.base HD0.out.2
              obtain rfl := S.f2 (haf 2 (by kernel_rfl))
              refine ⟨?_⟩
              simp only [putS10, List.setIfInBounds_toArray, List.set_cons_zero, List.set_cons_succ]
              go_simp
              have nx := hK.out ⟨b13, b14, v52, v53, _, (.agg #[.slice e0 f0 g0, .int .u64 n0]), v56, v57, v58, v59, v60, v61, v62, v63, v64, v65, v66, v13, v14, v12⟩ u (S.s3 hl)
              clear hK
              simp only [putS10, List.setIfInBounds_toArray, List.set_cons_zero, List.set_cons_succ] at nx
              exact nx
            case s4 =>
              rintro l ⟨b13, b14, v52, v53, v54, v55, v56, v57, v58, v59, v60, v61, v62, v63, v64, v65, v66, v13, v14, v12⟩ u hl haf S K hK
              simp only [JS10] at S
              obtain rfl := S.f3 (haf 3 (by kernel_rfl))
              refine ⟨?_⟩
              simp only [putS10, List.setIfInBounds_toArray, List.set_cons_zero, List.set_cons_succ]
              go_simp
              refine (LC0.out _ (below_two HBW.out S.base)).mono ?_
              rintro e u2 ⟨r, rfl, hO, hB⟩
              have nx := hK.out ⟨b13, b14, v52, v53, v54, _, r, v57, v58, v59, v60, v61, v62, v63, v64, v65, v66, v13, v14, v12⟩ u2 (S.s4 hl hB hO)
              clear hK
              simp only [putS10, List.setIfInBounds_toArray, List.set_cons_zero, List.set_cons_succ] at nx
              exact nx
            case s5 =>
              rintro l ⟨b13, b14, v52, v53, v54, v55, v56, v57, v58, v59, v60, v61, v62, v63, v64, v65, v66, v13, v14, v12⟩ u hl haf S K hK
              simp only [JS10] at S
              refine ⟨?_⟩
              simp only [putS10, List.setIfInBounds_toArray, List.set_cons_zero, List.set_cons_succ]
              go_simp
              have nx := hK.out ⟨b13, b14, v52, v53, v54, v55, v56, (.slice (some ⟨b, off, none⟩) k cc), v58, v59, v60, v61, v62, v63, v64, v65, v66, v13, v14, v12⟩ u (S.s5 hl)
              clear hK
              simp only [putS10, List.setIfInBounds_toArray, List.set_cons_zero, List.set_cons_succ] at nx
              exact nx
            case s6 =>
              rintro l ⟨b13, b14, v52, v53, v54, v55, v56, v57, v58, v59, v60, v61, v62, v63, v64, v65, v66, v13, v14, v12⟩ u hl haf S K hK
              simp only [JS10] at S
              refine ⟨?_⟩
              simp only [putS10, List.setIfInBounds_toArray, List.set_cons_zero, List.set_cons_succ]
              go_simp
              have nx := hK.out ⟨b13, b14, v52, v53, v54, v55, v56, v57, (.int .i64 (y : Nat)), v59, v60, v61, v62, v63, v64, v65, v66, v13, v14, v12⟩ u (S.s6 hl)
              clear hK
              simp only [putS10, List.setIfInBounds_toArray, List.set_cons_zero, List.set_cons_succ] at nx
              exact nx
            case s7 =>
              rintro l ⟨b13, b14, v52, v53, v54, v55, v56, v57, v58, v59, v60, v61, v62, v63, v64, v65, v66, v13, v14, v12⟩ u hl haf S K hK
              simp only [JS10] at S
              obtain rfl := S.f5 (haf 5 (by kernel_rfl))
              obtain rfl := S.f6 (haf 6 (by kernel_rfl))
              refine ⟨?_⟩
              simp only [putS10, List.setIfInBounds_toArray, List.set_cons_zero, List.set_cons_succ]
              go_simp
              have nx := hK.out ⟨b13, b14, v52, v53, v54, v55, v56, _, _, (.pointer (some ⟨b, off + y * 2, none⟩)), v60, v61, v62, v63, v64, v65, v66, v13, v14, v12⟩ u (S.s7 hl)
              clear hK
              simp only [putS10, List.setIfInBounds_toArray, List.set_cons_zero, List.set_cons_succ] at nx
              exact nx
            case s8 =>
              rintro l ⟨b13, b14, v52, v53, v54, v55, v56, v57, v58, v59, v60, v61, v62, v63, v64, v65, v66, v13, v14, v12⟩ u hl haf S K hK
              simp only [JS10] at S
              have c0 := cell_below S.base HD1.out.1
              have c1 := cell_below S.base HD1.out.2
              obtain rfl := S.f7 (haf 7 (by kernel_rfl))
              refine ⟨?_⟩
              simp only [putS10, List.setIfInBounds_toArray, List.set_cons_zero, List.set_cons_succ]
              go_simp
              have nx := hK.out ⟨b13, b14, v52, v53, v54, v55, v56, v57, v58, _, (.agg #[.slice e1 f1 g1, .int .u64 n1]), v61, v62, v63, v64, v65, v66, v13, v14, v12⟩ u (S.s8 hl)
              clear hK
              simp only [putS10, List.setIfInBounds_toArray, List.set_cons_zero, List.set_cons_succ] at nx
              exact nx
            case s9 =>
              rintro l ⟨b13, b14, v52, v53, v54, v55, v56, v57, v58, v59, v60, v61, v62, v63, v64, v65, v66, v13, v14, v12⟩ u hl haf S K hK
              simp only [JS10] at S
              obtain rfl := S.f8 (haf 8 (by kernel_rfl))
              refine ⟨?_⟩
              simp only [putS10, List.setIfInBounds_toArray, List.set_cons_zero, List.set_cons_succ]
              go_simp
              refine (LC1.out _ (below_two HBW.out S.base)).mono ?_
              rintro e u2 ⟨r, rfl, hO, hB⟩
              have nx := hK.out ⟨b13, b14, v52, v53, v54, v55, v56, v57, v58, v59, _, r, v62, v63, v64, v65, v66, v13, v14, v12⟩ u2 (S.s9 hl hB hO)
              clear hK
              simp only [putS10, List.setIfInBounds_toArray, List.set_cons_zero, List.set_cons_succ] at nx
              exact nx
            case s10 =>
              rintro l ⟨b13, b14, v52, v53, v54, v55, v56, v57, v58, v59, v60, v61, v62, v63, v64, v65, v66, v13, v14, v12⟩ u hl haf S K hK
              simp only [JS10] at S
              refine ⟨?_⟩
              simp only [putS10, List.setIfInBounds_toArray, List.set_cons_zero, List.set_cons_succ]
              go_simp
              have nx := hK.out ⟨b13, b14, v52, v53, v54, v55, v56, v57, v58, v59, v60, v61, (.slice (some ⟨b, off, none⟩) k cc), v63, v64, v65, v66, v13, v14, v12⟩ u (S.s10 hl)
              clear hK
              simp only [putS10, List.setIfInBounds_toArray, List.set_cons_zero, List.set_cons_succ] at nx
              exact nx
            case s11 =>
              rintro l ⟨b13, b14, v52, v53, v54, v55, v56, v57, v58, v59, v60, v61, v62, v63, v64, v65, v66, v13, v14, v12⟩ u hl haf S K hK
              simp only [JS10] at S
              refine ⟨?_⟩
              simp only [putS10, List.setIfInBounds_toArray, List.set_cons_zero, List.set_cons_succ]
              go_simp
              have nx := hK.out ⟨b13, b14, v52, v53, v54, v55, v56, v57, v58, v59, v60, v61, v62, (.int .i64 (z : Nat)), v64, v65, v66, v13, v14, v12⟩ u (S.s11 hl)
              clear hK
              simp only [putS10, List.setIfInBounds_toArray, List.set_cons_zero, List.set_cons_succ] at nx
              exact nx
            case s12 =>
              rintro l ⟨b13, b14, v52, v53, v54, v55, v56, v57, v58, v59, v60, v61, v62, v63, v64, v65, v66, v13, v14, v12⟩ u hl haf S K hK
              simp only [JS10] at S
              obtain rfl := S.f10 (haf 10 (by kernel_rfl))
              obtain rfl := S.f11 (haf 11 (by kernel_rfl))
              refine ⟨?_⟩
              simp only [putS10, List.setIfInBounds_toArray, List.set_cons_zero, List.set_cons_succ]
              go_simp
              have nx := hK.out ⟨b13, b14, v52, v53, v54, v55, v56, v57, v58, v59, v60, v61, _, _, (.pointer (some ⟨b, off + z * 2, none⟩)), v65, v66, v13, v14, v12⟩ u (S.s12 hl)
              clear hK
              simp only [putS10, List.setIfInBounds_toArray, List.set_cons_zero, List.set_cons_succ] at nx
              exact nx
            case s13 =>
              rintro l ⟨b13, b14, v52, v53, v54, v55, v56, v57, v58, v59, v60, v61, v62, v63, v64, v65, v66, v13, v14, v12⟩ u hl haf S K hK
              simp only [JS10] at S
              have c0 := cell_below S.base HD2.out.1
              have c1 := cell_below S.base HD2.out.2
              obtain rfl := S.f12 (haf 12 (by kernel_rfl))
              refine ⟨?_⟩
              simp only [putS10, List.setIfInBounds_toArray, List.set_cons_zero, List.set_cons_succ]
              go_simp
              have nx := hK.out ⟨b13, b14, v52, v53, v54, v55, v56, v57, v58, v59, v60, v61, v62, v63, _, (.agg #[.slice e2 f2 g2, .int .u64 n2]), v66, v13, v14, v12⟩ u (S.s13 hl)
              clear hK
              simp only [putS10, List.setIfInBounds_toArray, List.set_cons_zero, List.set_cons_succ] at nx
              exact nx
            case s14 =>
              rintro l ⟨b13, b14, v52, v53, v54, v55, v56, v57, v58, v59, v60, v61, v62, v63, v64, v65, v66, v13, v14, v12⟩ u hl haf S K hK
              simp only [JS10] at S
              obtain rfl := S.f13 (haf 13 (by kernel_rfl))
              refine ⟨?_⟩
              simp only [putS10, List.setIfInBounds_toArray, List.set_cons_zero, List.set_cons_succ]
              go_simp
              refine (LC2.out _ (below_two HBW.out S.base)).mono ?_
              rintro e u2 ⟨r, rfl, hO, hB⟩
              have nx := hK.out ⟨b13, b14, v52, v53, v54, v55, v56, v57, v58, v59, v60, v61, v62, v63, v64, _, r, v13, v14, v12⟩ u2 (S.s14 hl hB hO)
              clear hK
              simp only [putS10, List.setIfInBounds_toArray, List.set_cons_zero, List.set_cons_succ] at nx
              exact nx
            case s15 =>
              rintro l ⟨b13, b14, v52, v53, v54, v55, v56, v57, v58, v59, v60, v61, v62, v63, v64, v65, v66, v13, v14, v12⟩ u hl haf S K hK
              simp only [JS10] at S
              refine ⟨?_⟩
              simp only [putS10, List.setIfInBounds_toArray, List.set_cons_zero, List.set_cons_succ]
              go_simp
              have nx := hK.out ⟨u.heap.size, b14, v52, v53, v54, v55, v56, v57, v58, v59, v60, v61, v62, v63, v64, v65, v66, (.pointer (some ⟨u.heap.size, 0, none⟩)), v14, v12⟩ _ (S.s15 hl _ rfl)
              clear hK
              simp only [putS10, List.setIfInBounds_toArray, List.set_cons_zero, List.set_cons_succ] at nx
              exact nx
            case s16 =>
              rintro l ⟨b13, b14, v52, v53, v54, v55, v56, v57, v58, v59, v60, v61, v62, v63, v64, v65, v66, v13, v14, v12⟩ u hl haf S K hK
              simp only [JS10] at S
              refine ⟨?_⟩
              simp only [putS10, List.setIfInBounds_toArray, List.set_cons_zero, List.set_cons_succ]
              go_simp
              have nx := hK.out ⟨b13, u.heap.size, v52, v53, v54, v55, v56, v57, v58, v59, v60, v61, v62, v63, v64, v65, v66, v13, (.pointer (some ⟨u.heap.size, 0, none⟩)), v12⟩ _ (S.s16 hl _ rfl)
              clear hK
              simp only [putS10, List.setIfInBounds_toArray, List.set_cons_zero, List.set_cons_succ] at nx
              exact nx
            case s17 =>
              rintro l ⟨b13, b14, v52, v53, v54, v55, v56, v57, v58, v59, v60, v61, v62, v63, v64, v65, v66, v13, v14, v12⟩ u hl haf S K hK
              simp only [JS10] at S
              have hc := haf 4 (by kernel_rfl)
              obtain ⟨q1, q2, q3, rfl, _, _⟩ := Dm.ints_shape (S.f4 hc)
              refine ⟨?_⟩
              simp only [putS10, List.setIfInBounds_toArray, List.set_cons_zero, List.set_cons_succ]
              go_simp
              have nx := hK.out ⟨b13, b14, v52, v53, v54, v55, _, v57, v58, v59, v60, v61, v62, v63, v64, v65, v66, v13, v14, _⟩ u (S.s17 hl hc)
              clear hK
              simp only [putS10, List.setIfInBounds_toArray, List.set_cons_zero, List.set_cons_succ] at nx
              exact nx
            case s18 =>
              rintro l ⟨b13, b14, v52, v53, v54, v55, v56, v57, v58, v59, v60, v61, v62, v63, v64, v65, v66, v13, v14, v12⟩ u hl haf S K hK
              simp only [JS10] at S
              have hb := haf 15 (by kernel_rfl)
              have hc := haf 9 (by kernel_rfl)
              obtain ⟨q1, q2, q3, rfl, _, _⟩ := Dm.ints_shape (S.f9 hc)
              obtain ⟨hp, hlo, z, ho, ⟨z1, z2, z3, rfl⟩, hz⟩ := S.f15 hb
              have c0 := ho.cell
              have f0 := ho.frozen 0
              refine ⟨?_⟩
              simp only [hp, putS10, List.setIfInBounds_toArray, List.set_cons_zero, List.set_cons_succ]
              go_simp
              have nx := hK.out ⟨b13, b14, v52, v53, v54, v55, v56, v57, v58, v59, v60, _, v62, v63, v64, v65, v66, v13, v14, v12⟩ _ (S.s18 hl hb hc ⟨_, _, _, rfl⟩)
              clear hK
              simp only [hp, putS10, List.setIfInBounds_toArray, List.set_cons_zero, List.set_cons_succ] at nx
              exact nx
            case s19 =>
              rintro l ⟨b13, b14, v52, v53, v54, v55, v56, v57, v58, v59, v60, v61, v62, v63, v64, v65, v66, v13, v14, v12⟩ u hl haf S K hK
              simp only [JS10] at S
              have hb := haf 16 (by kernel_rfl)
              have hc := haf 14 (by kernel_rfl)
              obtain ⟨q1, q2, q3, rfl, _, _⟩ := Dm.ints_shape (S.f14 hc)
              obtain ⟨hp, hlo, z, ho, ⟨z1, z2, z3, rfl⟩, hz⟩ := S.f16 hb
              have c0 := ho.cell
              have f0 := ho.frozen 0
              refine ⟨?_⟩
              simp only [hp, putS10, List.setIfInBounds_toArray, List.set_cons_zero, List.set_cons_succ]
              go_simp
              have nx := hK.out ⟨b13, b14, v52, v53, v54, v55, v56, v57, v58, v59, v60, v61, v62, v63, v64, v65, _, v13, v14, v12⟩ _ (S.s19 hl hb hc ⟨_, _, _, rfl⟩)
              clear hK
              simp only [hp, putS10, List.setIfInBounds_toArray, List.set_cons_zero, List.set_cons_succ] at nx
              exact nx
          case hd =>
            rintro ⟨b13, b14, v52, v53, v54, v55, v56, v57, v58, v59, v60, v61, v62, v63, v64, v65, v66, v13, v14, v12⟩ u l hall S
            simp only [JS10] at S
            obtain ⟨a56, g56, c56, rfl, _, _⟩ := Dm.ints_shape (S.f4 (hall 4 (by decide)))
            have o56 := S.f4 (hall 4 (by decide))
            obtain ⟨a61, g61, c61, rfl, _, _⟩ := Dm.ints_shape (S.f9 (hall 9 (by decide)))
            have o61 := S.f9 (hall 9 (by decide))
            obtain ⟨a66, g66, c66, rfl, _, _⟩ := Dm.ints_shape (S.f14 (hall 14 (by decide)))
            have o66 := S.f14 (hall 14 (by decide))
            obtain ⟨_, rfl⟩ := S.f17 (hall 17 (by decide))
            obtain ⟨hp13, hl13, z13, ho13, -, hz13⟩ := S.f15 (hall 15 (by decide))
            obtain rfl := hz13 (hall 18 (by decide))
            obtain ⟨hp14, hl14, z14, ho14, -, hz14⟩ := S.f16 (hall 16 (by decide))
            obtain rfl := hz14 (hall 19 (by decide))
            refine ⟨?_⟩
            simp only [hp13, hp14, putS10, List.setIfInBounds_toArray, List.set_cons_zero, List.set_cons_succ]
            have HBB := Lib.hid S.base
            have HAT := Lib.hid (show At3 u wz.heap.size k b13 b14 _ _ _ T0 T1 T2 L from ⟨HLA.out.below S.base, o56, o61, o66, ho13, ho14, by have := HGL.out; omega, by have := HGL.out; omega⟩)
            clear S o56 o61 o66 ho13 ho14 hall
            go_wp2_with fail
            go_meet
            exact ⟨_, _, _, _, rfl, rfl, HAT.out, HBB.out⟩
        case rest =>
          obtain ⟨vS, vT, b13, b14, rfl, rfl, hAT, hB⟩ := hcut
          obtain ⟨wx, rfl⟩ : ∃ z, z = wc := ⟨_, rfl⟩
          obtain ⟨pF, _, cF, rfl, _, _⟩ := Dm.ints_shape hAT.oF
          obtain ⟨pS, _, cS, rfl, _, _⟩ := Dm.ints_shape hAT.oS
          obtain ⟨pT, _, cT, rfl, _, _⟩ := Dm.ints_shape hAT.oT
          have HA := Lib.hid hAT
          have HBX := Lib.hid hB
          have KX : Hid (∀ u nn, Below w.heap.size w u → ∀ M, At3 u wz.heap.size nn b13 b14 (.slice pF T0.length cF) (.slice pS T1.length cS) (.slice pT T2.length cT) T0 T1 T2 M → Calls Tryd.prog 23 #[.agg #[.slice e0 f0 g0, .int .u64 n0], .slice pS T1.length cS, .func (.func 21) #[] #[.pointer (some ⟨b14, 0, none⟩)]] u fun r w' => r = .returned (.int .u64 (Dm.keepN d0.1 n0 (prodK c (domsOf L c.vars) 0) : Nat)) ∧ Below u.heap.size u w') := Lib.hid fun u nn hu M A => by
            have oS := A.oS
            have oT := A.oT
            have c14 := A.c14
            generalize T1.length = lS at *
            generalize T2.length = lT at *
            rw [HTT.out.2.1] at oS
            rw [HTT.out.2.2] at oT
            have h := kept_makes (Dm.reads_below HRD.out.1.1 hu) HRD.out.1.2 oS oT c14
            rw [← HNN.out.1] at h
            rw [show prodK c (domsOf L c.vars) 0 = fun y => _ from funext HKP.out.1]
            exact h
          have KY : Hid (∀ u nn, Below w.heap.size w u → ∀ M, At3 u wz.heap.size nn b13 b14 (.slice pF T0.length cF) (.slice pS T1.length cS) (.slice pT T2.length cT) T0 T1 T2 M → Calls Tryd.prog 23 #[.agg #[.slice e1 f1 g1, .int .u64 n1], .slice pF T0.length cF, .func (.func 21) #[] #[.pointer (some ⟨b14, 0, none⟩)]] u fun r w' => r = .returned (.int .u64 (Dm.keepN d1.1 n1 (prodK c (domsOf L c.vars) 1) : Nat)) ∧ Below u.heap.size u w') := Lib.hid fun u nn hu M A => by
            have oF := A.oF
            have oT := A.oT
            have c14 := A.c14
            generalize T0.length = lF at *
            generalize T2.length = lT at *
            rw [HTT.out.1] at oF
            rw [HTT.out.2.2] at oT
            have h := kept_makes (Dm.reads_below HRD.out.2.1.1 hu) HRD.out.2.1.2 oF oT c14
            rw [← HNN.out.2.1] at h
            rw [show prodK c (domsOf L c.vars) 1 = fun y => _ from funext HKP.out.2.1]
            exact h
          have KZ : Hid (∀ u nn, Below w.heap.size w u → ∀ M, At3 u wz.heap.size nn b13 b14 (.slice pF T0.length cF) (.slice pS T1.length cS) (.slice pT T2.length cT) T0 T1 T2 M → Calls Tryd.prog 23 #[.agg #[.slice e2 f2 g2, .int .u64 n2], .slice pF T0.length cF, .func (.func 24) #[] #[.pointer (some ⟨b13, 0, none⟩)]] u fun r w' => r = .returned (.int .u64 (Dm.keepN d2.1 n2 (prodK c (domsOf L c.vars) 2) : Nat)) ∧ Below u.heap.size u w') := Lib.hid fun u nn hu M A => by
            have oF := A.oF
            have oS := A.oS
            have c13 := A.c13
            generalize T0.length = lF at *
            generalize T1.length = lS at *
            rw [HTT.out.1] at oF
            rw [HTT.out.2.1] at oS
            have h := kept_made (Dm.reads_below HRD.out.2.2.1 hu) HRD.out.2.2.2 oF oS c13
            rw [← HNN.out.2.2] at h
            rw [show prodK c (domsOf L c.vars) 2 = fun y => _ from funext HKP.out.2.2]
            exact h
          obtain ⟨Z0, hZ0⟩ : ∃ Z, Z = Dm.keepN d0.1 n0 (prodK c (domsOf L c.vars) 0) := ⟨_, rfl⟩
          obtain ⟨Z1, hZ1⟩ : ∃ Z, Z = Dm.keepN d1.1 n1 (prodK c (domsOf L c.vars) 1) := ⟨_, rfl⟩
          obtain ⟨Z2, hZ2⟩ : ∃ Z, Z = Dm.keepN d2.1 n2 (prodK c (domsOf L c.vars) 2) := ⟨_, rfl⟩
          rw [← hZ0] at KX
          rw [← hZ1] at KY
          rw [← hZ2] at KZ
          have HZ := Lib.hid (show stepTo L c.vars (prodK c (domsOf L c.vars)) 3 = ((L.set x (d0.1, Z0)).set y (d1.1, Z1)).set z (d2.1, Z2) by rw [HS3.out, hZ0, hZ1, hZ2, HNN.out.1, HNN.out.2.1, HNN.out.2.2])
          have M0 := Lib.hid (show (L.getD x ([], 0)).1 = d0.1 by rw [HDD.out.1])
          have M1 := Lib.hid (show ((L.set x (d0.1, Z0)).getD y ([], 0)).1 = d1.1 by rw [getD_set, if_neg (fun q => HNE.out.1 q.1), HDD.out.2.1])
          have M2 := Lib.hid (show (((L.set x (d0.1, Z0)).set y (d1.1, Z1)).getD z ([], 0)).1 = d2.1 by rw [getD_set, if_neg (fun q => HNE.out.2.2 q.1), getD_set, if_neg (fun q => HNE.out.2.1 q.1), HDD.out.2.2])
          have HZS := Lib.hid (And.intro (show Z0 < 18446744073709551616 by rw [hZ0]; exact Dm.keep_lt _ _ _) (And.intro (show Z1 < 18446744073709551616 by rw [hZ1]; exact Dm.keep_lt _ _ _) (show Z2 < 18446744073709551616 by rw [hZ2]; exact Dm.keep_lt _ _ _)))
          generalize T0.length = lF at *
          generalize T1.length = lS at *
          generalize T2.length = lT at *
          have HGS := Lib.hid (show wr.heap.size ≥ wz.heap.size from Nat.le_of_lt HGL.out)
          clear hZ0 hZ1 hZ2 hAT hB
          have HBX := Lib.hid (below_two HBW.out HBX.out)
          have HWG := Lib.hid (show w.heap.size ≤ wz.heap.size from (below_two HB0.out HB1.out).size)
          clear HD0 HD1 HD2 LC0 LC1 LC2
          -- variable 0
          have a0 := cell_below HBX.out HE0.out.1
          have a1 := cell_below HBX.out HE0.out.2
          have c13 := HA.out.c13.cell
          have HAD := Lib.hid (HA.out.below (show Below wx.heap.size wx wx.drew from (Below.refl _ _).drew))
          have HBD := Lib.hid (show Below w.heap.size w wx.drew from HBX.out.drew)
          go_upto_region 12 with fail
          go_cut [] (fun wy => At3 wy wz.heap.size k b13 b14 (.slice pF lF cF) (.slice pS lS cS) (.slice pT lT cT) T0 T1 T2 (L.set x (d0.1, Z0)) ∧ Below w.heap.size w wy)
          case first =>
            go_region_law (first
              | (go_simp; go_at_call 23; refine (KX.out _ _ HBD.out _ HAD.out).mono ?_; rintro e w5 ⟨rfl, hB5⟩; have hA5 := HAD.out.below hB5; obtain ⟨⟨sp, sl, sc, s0⟩, s1, s2⟩ := hA5.left.cells hxl; have HN5 := Lib.hid (And.intro hA5 (below_two HBD.out hB5)); clear hA5 hB5))
            all_goals go_wp2_with fail
            all_goals go_meet
            all_goals exact ⟨by have h := HN5.out.1.set hxl Z0; rw [M0.out] at h; exact h, HN5.out.2.setCell HWG.out _⟩
          case rest =>
            obtain ⟨hAT, hB⟩ := hcut
            obtain ⟨wy, rfl⟩ : ∃ z, z = wc := ⟨_, rfl⟩
            clear HA HBX HAD HBD a0 a1 c13
            have HA := Lib.hid hAT
            have HBX := Lib.hid hB
            clear hAT hB
            obtain ⟨wx, rfl⟩ : ∃ z, z = wy := ⟨_, rfl⟩
            -- variable 1
            have a0 := cell_below HBX.out HE1.out.1
            have a1 := cell_below HBX.out HE1.out.2
            have c13 := HA.out.c13.cell
            have HAD := HA
            have HBD := HBX
            go_upto_region 13 with fail
            go_cut [] (fun wy => At3 wy wz.heap.size k b13 b14 (.slice pF lF cF) (.slice pS lS cS) (.slice pT lT cT) T0 T1 T2 ((L.set x (d0.1, Z0)).set y (d1.1, Z1)) ∧ Below w.heap.size w wy)
            case first =>
              go_wp2_with fail
              refine (KY.out _ _ HBD.out _ HAD.out).mono ?_
              rintro e w5 ⟨rfl, hB5⟩
              have hA5 := HAD.out.below hB5
              obtain ⟨⟨sp, sl, sc, s0⟩, s1, s2⟩ := hA5.left.cells hyl
              have HN5 := Lib.hid (And.intro hA5 (below_two HBD.out hB5))
              clear hA5 hB5
              go_wp2_with fail
              go_meet
              all_goals exact ⟨by have h := HN5.out.1.set hyl Z1; rw [M1.out] at h; exact h, HN5.out.2.setCell HWG.out _⟩
            case rest =>
              obtain ⟨hAT, hB⟩ := hcut
              obtain ⟨wy, rfl⟩ : ∃ z, z = wc := ⟨_, rfl⟩
              clear HA HBX HAD HBD a0 a1 c13
              have HA := Lib.hid hAT
              have HBX := Lib.hid hB
              clear hAT hB
              obtain ⟨wx, rfl⟩ : ∃ z, z = wy := ⟨_, rfl⟩
              -- variable 2
              have a0 := cell_below HBX.out HE2.out.1
              have a1 := cell_below HBX.out HE2.out.2
              have c13 := HA.out.c13.cell
              have HAD := HA
              have HBD := HBX
              go_upto_region 14 with fail
              go_cut [] (fun wy => At3 wy wz.heap.size k b13 b14 (.slice pF lF cF) (.slice pS lS cS) (.slice pT lT cT) T0 T1 T2 (((L.set x (d0.1, Z0)).set y (d1.1, Z1)).set z (d2.1, Z2)) ∧ Below w.heap.size w wy)
              case first =>
                go_wp2_with fail
                refine (KZ.out _ _ HBD.out _ HAD.out).mono ?_
                rintro e w5 ⟨rfl, hB5⟩
                have hA5 := HAD.out.below hB5
                obtain ⟨⟨sp, sl, sc, s0⟩, s1, s2⟩ := hA5.left.cells hzl
                have HN5 := Lib.hid (And.intro hA5 (below_two HBD.out hB5))
                clear hA5 hB5
                go_wp2_with fail
                go_meet
                all_goals exact ⟨by have h := HN5.out.1.set hzl Z2; rw [M2.out] at h; exact h, HN5.out.2.setCell HWG.out _⟩
              case rest =>
                obtain ⟨hAT, hB⟩ := hcut
                obtain ⟨wy, rfl⟩ : ∃ z, z = wc := ⟨_, rfl⟩
                clear HA HBX HAD HBD a0 a1 c13
                have HA := Lib.hid hAT
                have HBX := Lib.hid hB
                clear hAT hB
                obtain ⟨wx, rfl⟩ : ∃ z, z = wy := ⟨_, rfl⟩
                go_wp2_with fail
                go_ret2
                refine ⟨_, by rw [HP2.out]; rfl, ?_, HBX.out⟩
                rw [HP2.out]
                show Slc rDom 2 _ _ (stepTo L c.vars (prodK c (domsOf L c.vars)) c.vars.length)
                rw [HL3.out, HZ.out]
                have hmm : ∀ d ∈ L, d.1.length ≤ 1000 ∧ d.2 < 18446744073709551616 := fun d hd => by
                  obtain ⟨i, hi, rfl⟩ := List.getElem_of_mem hd
                  refine ⟨HMM.out _ hd, ?_⟩
                  have := doms_lt HSS.out i
                  rwa [List.getD_eq_getElem?_getD, List.getElem?_eq_getElem hi] at this
                have hin : ∀ i, i < k → (L.getD i ([], 0)).1.length ≤ 1000 := fun i hi => HMM.out _ (doms_in (by rw [← HLN.out]; exact hi))
                refine HA.out.left.slc fun d hd => ?_
                rcases List.mem_or_eq_of_mem_set hd with hd | rfl
                · rcases List.mem_or_eq_of_mem_set hd with hd | rfl
                  · rcases List.mem_or_eq_of_mem_set hd with hd | rfl
                    · exact hmm d hd
                    · exact ⟨by rw [HDD.out.1]; exact hin _ hxl, HZS.out.1⟩
                  · exact ⟨by rw [HDD.out.2.1]; exact hin _ hyl, HZS.out.2.1⟩
                · exact ⟨by rw [HDD.out.2.2]; exact hin _ hzl, HZS.out.2.2⟩
end Go.Proofs.YtccgoigmchcggaaDoor.Ge
