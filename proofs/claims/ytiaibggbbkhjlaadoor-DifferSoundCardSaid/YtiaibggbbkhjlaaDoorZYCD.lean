/-
  What List and Spans of package dom answer, at every domain.
  A row of domains that a step of the program makes: what lies there, one set of values stored, what it reads as.
-/
import Derived.Test.YtiaibggbbkhjlaaDoorZYAU
import Derived.Test.YtiaibggbbkhjlaaDoorZYCA
import Derived.Test.YtiaibggbbkhjlaaDoorZYBJ
namespace Go.Proofs.YtiaibggbbkhjlaaDoor.Dm
open Go.RowKit
set_option maxRecDepth 100000

/-- the value at a place -/
def atZ (xs : List Int) (z : Int) : Int := xs.getD z.toNat 0
/-- the first k of the places turned into values -/
def mixL (f : Int → Int) (zs : List Int) (k : Nat) : List Int := (zs.take k).map f ++ zs.drop k
theorem mix_length (f : Int → Int) (zs : List Int) (k : Nat) : (mixL f zs k).length = zs.length := by
  simp [mixL]
  omega
theorem mix_at {f : Int → Int} {zs : List Int} {k : Nat} (h : k < zs.length) : (mixL f zs k).getD k 0 = zs.getD k 0 := by
  unfold mixL
  rw [List.getD_eq_getElem?_getD, List.getElem?_append_right (by simp; omega)]
  have : k - ((zs.take k).map f).length = 0 := by simp; omega
  rw [this, drop_consI h]
  simp
theorem take_onI {zs : List Int} {k : Nat} (h : k < zs.length) : zs.take k ++ [zs.getD k 0] = zs.take (k + 1) := by
  rw [List.take_add_one, List.getD_eq_getElem?_getD, List.getElem?_eq_getElem h]
  rfl
theorem mix_on {f : Int → Int} {zs : List Int} {k : Nat} (h : k < zs.length) : (mixL f zs k).set k (f (zs.getD k 0)) = mixL f zs (k + 1) := by
  unfold mixL
  have hl : ((zs.take k).map f).length = k := by simp; omega
  rw [List.set_append, if_neg (by omega), hl, Nat.sub_self, drop_consI h, List.set_cons_zero, ← take_onI h, List.map_append]
  simp
theorem mix_end (f : Int → Int) (zs : List Int) : mixL f zs zs.length = zs.map f := by simp [mixL]
theorem all_left (xs : List Int) (x : Nat) : (B.all x).map (atZ xs) = left xs x := by
  simp [B.all, left, atZ, Function.comp_def]
theorem all_at {xs : List Int} {x : Nat} (h : mayL xs x = true) {k : Nat} (hk : k < (B.all x).length) : ∃ j : Nat, (B.all x).getD k 0 = (j : Int) ∧ j < xs.length := by
  have hk' : k < (B.mem 64 x).length := by simpa [B.all] using hk
  refine ⟨(B.mem 64 x)[k], ?_, mem_may h (List.getElem_mem hk')⟩
  simp [B.all, hk']

theorem ints_store {w : World} {base : Nat} {v : Value} {ys : List Int} (h : OwnsI w base v ys) {k : Nat} (hk : k < ys.length) :
    ∃ g cap, v = .slice (some ⟨g, 0, none⟩) ys.length cap ∧ base ≤ g ∧ w.cell? ⟨g, k, none⟩ = some (.int .i64 (ys.getD k 0)) ∧ w.frozen? ⟨g, k, none⟩ = false ∧ ∀ y, OwnsI (w.setCell ⟨g, k, none⟩ (.int .i64 y)) base v (ys.set k y) := by
  have h0 := h
  rcases h.2 with ⟨_, h1⟩ | ⟨g, cap, cur, rfl, hb, hg, hn, hc, hs, ht⟩
  · omega
  · refine ⟨g, cap, rfl, hb, ?_, h0.frozenAt _, fun y => ?_⟩
    · rw [h0.cellAt k (by omega)]
      simp [hk]
    · have := (h0.stored k (.int .i64 y)).1
      unfold OwnsI
      rw [List.map_set, List.length_set]
      exact this

set_option maxRecDepth 100000 in
set_option maxHeartbeats 2000000 in
theorem list1_any {v : Value} {xs : List Int} (x : Nat) (u : World) (hr : Reads u v xs) (hmay : mayL xs x = true) (hT : B.Tab u) (h0 : 0 < u.heap.size) :
    Calls Tryd.prog 54 #[.agg #[v, .int .u64 x]] u fun e w' => ∃ r, e = .returned r ∧ OwnsI w' u.heap.size r (left xs x) ∧ Below u.heap.size u w' := by
  obtain ⟨p, bb, off, c, rfl, hp, hcell⟩ := reads_shape hr
  have hB := (Below.refl _ u).alloc (Nat.le_refl _) (.cells #[.slice p xs.length c, .int .u64 x] 47)
  obtain ⟨W0, hW0⟩ : ∃ W0, W0 = u.alloc (.cells #[.slice p xs.length c, .int .u64 x] 47) := ⟨_, rfl⟩
  rw [← hW0] at hB
  have LI := Lib.hid (B.list_any x (may_lt hmay) W0 (B.Tab.below hT h0 hB) (Nat.lt_of_lt_of_le h0 hB.size))
  have c0 : W0.cell? ⟨u.heap.size, 0, none⟩ = some (.slice p xs.length c) := by rw [hW0]; simp
  have c1 : W0.cell? ⟨u.heap.size, 1, none⟩ = some (.int .u64 x) := by rw [hW0]; simp
  have HC := Lib.hid (And.intro c0 c1)
  have HX := Lib.hid hcell
  have HB := Lib.hid hB
  have HM := Lib.hid hmay
  have HW := Lib.hid hW0
  have hl64 := (may_iff.1 hmay).1
  have hle := B.all_le x
  have HAL := Lib.hid (fun k (hk : k < (B.all x).length) => all_at hmay hk)
  obtain ⟨zs, hz⟩ : ∃ zs, B.all x = zs := ⟨_, rfl⟩
  have HF : Hid (left xs x = zs.map (atZ xs)) := by rw [← hz, all_left]; rfl
  rw [hz] at LI hle HAL
  obtain ⟨len, hlen⟩ : ∃ len : Nat, len = xs.length := ⟨_, rfl⟩
  rw [← hlen] at HW hp HC hl64 ⊢
  have HN := Lib.hid hlen
  clear hr hmay hT h0 hB c0 c1 hcell hW0 hz hlen
  go_enter Tryd.func54, Tryd.ntmps54
  go_wp2_with fail
  rw [← HW.out]
  refine LI.out.mono ?_
  rintro e w1 ⟨l, rfl, ho0, _, hB1⟩
  have ho : OwnsI w1 W0.heap.size l (mixL (atZ xs) zs 0) := ho0
  have hlm := mix_length (atZ xs) zs 0
  obtain ⟨q, g, cap, rfl, hq, _⟩ := ints_shape ho
  rw [hlm] at hq ho ⊢
  obtain ⟨n, en⟩ : ∃ n : Nat, n = zs.length := ⟨_, rfl⟩
  rw [← en] at hq ho hle ⊢
  have HO := Lib.hid ho
  have HB1 := Lib.hid hB1
  have HE := Lib.hid en
  clear ho ho0 hB1 hlm en
  go_wp2
  go_loopw [11] (fun i wr => ∃ k : Nat, k ≤ n ∧ i = .int .i64 k ∧ OwnsI wr W0.heap.size (.slice q n cap) (mixL (atZ xs) zs k) ∧ Below W0.heap.size W0 wr) (fun i _ => n - (intOf i).toNat)
  case atStart => exact ⟨0, by omega, rfl, HO.out, HB1.out⟩
  case round =>
    obtain ⟨k, hk, rfl, hown, hB⟩ := hrel
    by_cases hlt : k < n
    · have hlz : k < zs.length := by have := HE.out; omega
      obtain ⟨g', cap', he, hbg, ck, fk, hst⟩ := ints_store hown (k := k) (by rw [mix_length]; exact hlz)
      rw [mix_length, ← HE.out] at he
      obtain ⟨rfl, rfl⟩ : q = some ⟨g', 0, none⟩ ∧ cap = cap' := by
        injection he with h1 h2 h3
        exact ⟨h1, h3⟩
      obtain ⟨j, ej, hj⟩ := HAL.out k hlz
      rw [mix_at hlz, ej] at ck
      have hn := mix_on (f := atZ xs) hlz
      rw [ej] at hn
      have hj' : j < len := by have := HN.out; omega
      obtain rfl := hp (by omega)
      have cv := cell_below hB (cell_below HB.out (HX.out j hj))
      have c0 := cell_below hB HC.out.1
      have ea : atZ xs (j : Int) = xs.getD j 0 := rfl
      rw [ea] at hn
      obtain ⟨y, ey⟩ : ∃ y, y = xs.getD j 0 := ⟨_, rfl⟩
      rw [← ey] at cv hn
      have d5 : (j : Int) < (len : Int) := by omega
      have HST := Lib.hid (hn ▸ hst y)
      have HBS := Lib.hid (hB.setCell (p := ⟨g', k, none⟩) hbg (.int .i64 y))
      clear he hst hn ea ey hown hB hlz ej hj
      go_wp2_with fail
      go_roundw
      case rel => exact ⟨k + 1, by omega, by go_num, HST.out, HBS.out⟩
      case measure => simp [intOf]; omega
    · have hkz : k = zs.length := by have := HE.out; omega
      rw [hkz, mix_end, ← HF.out] at hown
      have HOW := Lib.hid (owns_low hown HB.out.size)
      have HBB := Lib.hid (below_two HB.out hB)
      clear hown hB hkz hp
      go_wp2
      go_ret
      exact ⟨_, rfl, HOW.out, HBB.out⟩

section
variable {w : World} {v : Value} {xs : List Int} (hr : Reads w v xs) (hm : xs.length ≤ 1000000) (x : Nat) (hx : x < 18446744073709551616) (hT : B.Tab w) (h0 : 0 < w.heap.size)
include hr hm hx hT h0

set_option maxHeartbeats 1000000 in
theorem dlist_any : Calls Tryd.prog 41 #[.agg #[v, .int .u64 x]] w fun e w' => ∃ r, e = .returned r ∧ OwnsI w' w.heap.size r (leftM xs x) ∧ Below w.heap.size w w' := by
  have hr0 := hr
  obtain ⟨p, n, c, rfl⟩ := reads_slice hr
  have hb0 := (Below.refl _ w).alloc (Nat.le_refl _) (.cells #[.slice p n c, .int .u64 x] 47)
  have HB := Lib.hid hb0
  have A := Lib.hid (askL (reads_below hr hb0) hm x hx 54 (enters_of Tryd.func54 (by kernel_rfl) rfl) #[] (fun r w' => OwnsI w' w.heap.size r (left xs x)) (fun hmay u hu => by
    have hb := below_two hb0 hu
    exact (list1_any x u (reads_below hr0 hb) hmay (B.Tab.below hT h0 hb) (Nat.lt_of_lt_of_le h0 hb.size)).mono fun e w' ⟨r, h1, h2, h3⟩ => ⟨r, h1, owns_low h2 hb.size, h3⟩))
  have key : ∀ e w', Asked (mayL xs x) (.slice none 0 0) (fun r w' => OwnsI w' w.heap.size r (left xs x)) e w' → ∃ r, e = .returned r ∧ OwnsI w' w.heap.size r (leftM xs x) := by
    rintro e w' (⟨h, rfl⟩ | ⟨h, r, rfl, ho⟩)
    · rw [leftM, h, if_neg (by simp)]
      exact ⟨_, rfl, World.ownsRow_nil _ _ _ _⟩
    · rw [leftM, h, if_pos rfl]
      exact ⟨_, rfl, ho⟩
  have HK := Lib.hid key
  clear hr hr0 key hb0 hT h0
  go_enter Tryd.func41, Tryd.ntmps41
  go_wp2_with fail
  refine A.out.mono ?_
  rintro e w1 ⟨h, hB⟩
  obtain ⟨r, rfl, ho⟩ := HK.out _ _ h
  have HO := Lib.hid ho
  have HB1 := Lib.hid (below_two HB.out hB)
  clear h hB ho
  go_wp2_with fail
  go_ret
  exact ⟨_, rfl, HO.out, HB1.out⟩

omit hr hm hx hT h0 in
theorem leftM_ok : okI (leftM xs x) = true := by
  rw [ok_iff]
  intro y hy
  cases h : mayL xs x
  · simp [leftM, h] at hy
  · rw [leftM, if_pos h] at hy
    exact left_ok h y hy

end
end Go.Proofs.YtiaibggbbkhjlaaDoor.Dm
namespace Go.Proofs.YtiaibggbbkhjlaaDoor.Ge
open Go.RowKit St
set_option maxRecDepth 100000

/-- domains of one's own, in a row -/
structure LeftAt (w : World) (g n : Nat) (M : List (List Int × Nat)) : Prop where
  long : M.length = n
  row : ∃ G : Nat → Value × Value, Row2 n 47 w g G ∧ ∀ j, j < n → Dm.OwnsI w 0 (G j).1 (M.getD j ([], 0)).1 ∧ (G j).2 = .int .u64 ((M.getD j ([], 0)).2 : Nat)
theorem LeftAt.below {w w' : World} {g n : Nat} {M : List (List Int × Nat)} (h : LeftAt w g n M) (hb : Below w.heap.size w w') : LeftAt w' g n M := by
  obtain ⟨h0, G, h1, h2⟩ := h
  exact ⟨h0, G, h1.below hb, fun j hj => ⟨owns_below (h2 j hj).1 hb, (h2 j hj).2⟩⟩
/-- what a store into a domain's set wants -/
theorem LeftAt.cells {w : World} {g n : Nat} {M : List (List Int × Nat)} (h : LeftAt w g n M) {y : Nat} (hy : y < n) : (∃ p l c, w.cell? ⟨g, y * 2, none⟩ = some (.slice p l c)) ∧ w.cell? ⟨g, y * 2 + 1, none⟩ = some (.int .u64 ((M.getD y ([], 0)).2 : Nat)) ∧ w.frozen? ⟨g, y * 2 + 1, none⟩ = false := by
  obtain ⟨_, G, h1, h2⟩ := h
  obtain ⟨o, e⟩ := h2 y hy
  obtain ⟨p, _, c, es, _, _⟩ := Dm.ints_shape o
  have c0 := h1.cell0 hy
  have c1 := h1.cell1 hy
  rw [es] at c0
  rw [e] at c1
  exact ⟨⟨_, _, _, c0⟩, c1, h1.frozen _⟩
theorem LeftAt.set {w : World} {g n : Nat} {M : List (List Int × Nat)} (h : LeftAt w g n M) {y : Nat} (hy : y < n) (z : Nat) : LeftAt (w.setCell ⟨g, y * 2 + 1, none⟩ (.int .u64 (z : Nat))) g n (M.set y ((M.getD y ([], 0)).1, z)) := by
  obtain ⟨h0, G, h1, h2⟩ := h
  refine ⟨by rw [List.length_set]; exact h0, fun j => if j = y then ((G y).1, .int .u64 (z : Nat)) else G j, h1.set1 hy _ (if_pos rfl) (fun j hj => if_neg hj), fun j hj => ?_⟩
  have o := h2 j hj
  rw [getD_set]
  by_cases e : j = y
  · subst e
    rw [if_pos ⟨rfl, by omega⟩]
    simp only [if_true]
    exact ⟨own_set h1 (by decide) o.1, trivial⟩
  · rw [if_neg (fun q => e q.1.symm)]
    simp only [if_neg e]
    exact ⟨own_set h1 (by decide) o.1, o.2⟩
theorem LeftAt.slc {w : World} {g n : Nat} {M : List (List Int × Nat)} (h : LeftAt w g n M) (hm : ∀ d ∈ M, d.1.length ≤ 1000 ∧ d.2 < 18446744073709551616) : Slc rDom 2 w (.slice (some ⟨g, 0, none⟩) n n) M := by
  obtain ⟨h0, G, h1, h2⟩ := h
  refine ⟨_, g, 0, n, n, rfl, ⟨(fun e => by cases e), Nat.le_refl _⟩, ⟨h0.symm, fun _ => rfl, fun j a ha => ?_⟩⟩
  have hj : j < n := by
    have := (List.getElem?_eq_some_iff.1 ha).1
    omega
  have ea : a = M.getD j ([], 0) := by rw [List.getD_eq_getElem?_getD, ha]; rfl
  have o := h2 j hj
  have hma := hm a (List.mem_of_getElem? ha)
  refine ⟨[(G j).1, (G j).2], rfl, fun i hi => ?_, (G j).1, by rw [o.2, ea], ?_, ?_, ?_⟩
  · have c0 := h1.cell0 hj
    have c1 := h1.cell1 hj
    rw [Nat.zero_add]
    match i, hi with
    | 0, _ => exact c0
    | 1, _ => exact c1
  · rw [ea]
    exact Dm.readsN_of_owns o.1
  · exact hma.2
  · exact Nat.le_trans hma.1 (by decide)
/-- a list of one's own stays where such a row is written -/
theorem LeftAt.keeps {w : World} {g n : Nat} {M : List (List Int × Nat)} (h : LeftAt w g n M) {v z : Value} {xs : List Int} {off : Nat} (o : Dm.OwnsI w 0 v xs) : Dm.OwnsI (w.setCell ⟨g, off, none⟩ z) 0 v xs := by
  obtain ⟨_, G, h1, _⟩ := h
  exact own_set h1 (by decide) o
theorem box_keeps {w : World} {b g off : Nat} {t : TypeId} {x z : Value} (h : Own1 w b t x) (hne : b ≠ g) : Own1 (w.setCell ⟨g, off, none⟩ z) b t x :=
  (Below.heap_setCell w ⟨g, off, none⟩ z b hne).trans h
theorem dom_look {w : World} {p : Option Addr} {b off len : Nat} {L : List (List Int × Nat)} (h : SliceOf rDom 2 w p b off len L) {k : Nat} (hk : k < len) :
    ∃ (p9 : Option Addr) (l9 c9 : Nat), w.cell? ⟨b, off + k * 2, none⟩ = some (.slice p9 l9 c9) ∧ w.cell? ⟨b, off + k * 2 + 1, none⟩ = some (.int .u64 (L.getD k ([], 0)).2) ∧ Dm.Reads w (.slice p9 l9 c9) (L.getD k ([], 0)).1 ∧ (L.getD k ([], 0)).2 < 18446744073709551616 := by
  obtain ⟨x, u, ex, ⟨a0, a1⟩, hx⟩ := dom_at2 h hk
  obtain ⟨p9, l9, c9, rfl⟩ := rDom_shape hx
  obtain ⟨r1, r2, _⟩ := rDom_parts hx
  have eD : L.getD k ([], 0) = x := by rw [List.getD_eq_getElem?_getD, ex]; rfl
  rw [eD]
  exact ⟨p9, l9, c9, a0, a1, Dm.reads_of_readsN r1, r2⟩
theorem may_small {xs : List Int} {x : Nat} (h : Dm.mayL xs x = true) : ∀ y ∈ xs, -1048576 ≤ y ∧ y ≤ 1048576 := fun _ hy => Dm.rise_low (Dm.may_iff.1 h).2.2 hy
theorem num_small {xs : List Int} (h : allN xs 1048576 = true) : ∀ y ∈ xs, -1048576 ≤ y ∧ y ≤ 1048576 := fun y hy => by
  have := List.all_eq_true.1 h y hy
  rw [Bool.and_eq_true, decide_eq_true_eq, decide_eq_true_eq] at this
  exact ⟨by omega, this.2⟩
theorem reads_nums {w : World} {p : Option Addr} {b o l cc : Nat} {xs : List Int} (h : Nums w p b o l xs) : Dm.Reads w (.slice p l cc) xs := by
  have hl := h.long
  by_cases h0 : l = 0
  · exact .inl ⟨p, cc, by rw [h0], List.eq_nil_of_length_eq_zero (by omega)⟩
  · obtain rfl := h.at_ (by omega)
    subst hl
    exact .inr ⟨b, o, cc, rfl, fun k hk => h.cell k hk⟩
end Go.Proofs.YtiaibggbbkhjlaaDoor.Ge
