/-
  A row of domains that a step of the program makes: what lies there, one set of values stored, what it reads as.
  What List and Spans of package dom answer, at every domain.
  What Step of package element answers.
-/
import Derived.Test.YtomcgmeekmfdhaaDoorZYCA
import Derived.Test.YtomcgmeekmfdhaaDoorZYBJ
import Derived.Test.YtomcgmeekmfdhaaDoorZYAU
import Derived.Test.YtomcgmeekmfdhaaDoorZYCI
import Derived.Test.YtomcgmeekmfdhaaDoorZYCB
namespace Go.Proofs.YtomcgmeekmfdhaaDoor.Ge
open Go.RowKit St
set_option maxRecDepth 100000

/-- domains of one's own, in a row -/
structure LeftAt (w : World) (g n : Nat) (M : List (List Int × Nat)) : Prop where
  long : M.length = n
  row : ∃ G : Nat → Value × Value, Row2 n 47 w g G ∧ ∀ j, j < n → Dm.OwnsI w 0 (G j).1 (M.getD j ([], 0)).1 ∧ (G j).2 = .int .u64 ((M.getD j ([], 0)).2 : Nat)
theorem LeftAt.below {w w' : World} {g n : Nat} {M : List (List Int × Nat)} (h : LeftAt w g n M) (hb : Below w.heap.size w w') : LeftAt w' g n M := by
  obtain ⟨h0, G, h1, h2⟩ := h
  exact ⟨h0, G, h1.below hb, fun j hj => ⟨owns_below (h2 j hj).1 hb, (h2 j hj).2⟩⟩
/-- what a store into a domain's set wants -/
theorem LeftAt.cells {w : World} {g n : Nat} {M : List (List Int × Nat)} (h : LeftAt w g n M) {y : Nat} (hy : y < n) : (∃ p l c, w.cell? ⟨g, y * 2, none⟩ = some (.slice p l c)) ∧ w.cell? ⟨g, y * 2 + 1, none⟩ = some (.int .u64 ((M.getD y ([], 0)).2 : Nat)) ∧ w.frozen? ⟨g, y * 2 + 1, none⟩ = false := by
  obtain ⟨_, G, h1, h2⟩ := h
  obtain ⟨o, e⟩ := h2 y hy
  obtain ⟨p, _, c, es, _, _⟩ := Dm.ints_shape o
  have c0 := h1.cell0 hy
  have c1 := h1.cell1 hy
  rw [es] at c0
  rw [e] at c1
  exact ⟨⟨_, _, _, c0⟩, c1, h1.frozen _⟩
theorem LeftAt.set {w : World} {g n : Nat} {M : List (List Int × Nat)} (h : LeftAt w g n M) {y : Nat} (hy : y < n) (z : Nat) : LeftAt (w.setCell ⟨g, y * 2 + 1, none⟩ (.int .u64 (z : Nat))) g n (M.set y ((M.getD y ([], 0)).1, z)) := by
  obtain ⟨h0, G, h1, h2⟩ := h
  refine ⟨by rw [List.length_set]; exact h0, fun j => if j = y then ((G y).1, .int .u64 (z : Nat)) else G j, h1.set1 hy _ (if_pos rfl) (fun j hj => if_neg hj), fun j hj => ?_⟩
  have o := h2 j hj
  rw [getD_set]
  by_cases e : j = y
  · subst e
    rw [if_pos ⟨rfl, by omega⟩]
    simp only [if_true]
    exact ⟨own_set h1 (by decide) o.1, trivial⟩
  · rw [if_neg (fun q => e q.1.symm)]
    simp only [if_neg e]
    exact ⟨own_set h1 (by decide) o.1, o.2⟩
theorem LeftAt.slc {w : World} {g n : Nat} {M : List (List Int × Nat)} (h : LeftAt w g n M) (hm : ∀ d ∈ M, d.1.length ≤ 1000 ∧ d.2 < 18446744073709551616) : Slc rDom 2 w (.slice (some ⟨g, 0, none⟩) n n) M := by
  obtain ⟨h0, G, h1, h2⟩ := h
  refine ⟨_, g, 0, n, n, rfl, ⟨(fun e => by cases e), Nat.le_refl _⟩, ⟨h0.symm, fun _ => rfl, fun j a ha => ?_⟩⟩
  have hj : j < n := by
    have := (List.getElem?_eq_some_iff.1 ha).1
    omega
  have ea : a = M.getD j ([], 0) := by rw [List.getD_eq_getElem?_getD, ha]; rfl
  have o := h2 j hj
  have hma := hm a (List.mem_of_getElem? ha)
  refine ⟨[(G j).1, (G j).2], rfl, fun i hi => ?_, (G j).1, by rw [o.2, ea], ?_, ?_, ?_⟩
  · have c0 := h1.cell0 hj
    have c1 := h1.cell1 hj
    rw [Nat.zero_add]
    match i, hi with
    | 0, _ => exact c0
    | 1, _ => exact c1
  · rw [ea]
    exact Dm.readsN_of_owns o.1
  · exact hma.2
  · exact Nat.le_trans hma.1 (by decide)
/-- a list of one's own stays where such a row is written -/
theorem LeftAt.keeps {w : World} {g n : Nat} {M : List (List Int × Nat)} (h : LeftAt w g n M) {v z : Value} {xs : List Int} {off : Nat} (o : Dm.OwnsI w 0 v xs) : Dm.OwnsI (w.setCell ⟨g, off, none⟩ z) 0 v xs := by
  obtain ⟨_, G, h1, _⟩ := h
  exact own_set h1 (by decide) o
theorem box_keeps {w : World} {b g off : Nat} {t : TypeId} {x z : Value} (h : Own1 w b t x) (hne : b ≠ g) : Own1 (w.setCell ⟨g, off, none⟩ z) b t x :=
  (Below.heap_setCell w ⟨g, off, none⟩ z b hne).trans h
end Go.Proofs.YtomcgmeekmfdhaaDoor.Ge
namespace Go.Proofs.YtomcgmeekmfdhaaDoor.Dm
open Go.RowKit
set_option maxRecDepth 100000

/-- the value at a place -/
def atZ (xs : List Int) (z : Int) : Int := xs.getD z.toNat 0
/-- the first k of the places turned into values -/
def mixL (f : Int → Int) (zs : List Int) (k : Nat) : List Int := (zs.take k).map f ++ zs.drop k
theorem mix_length (f : Int → Int) (zs : List Int) (k : Nat) : (mixL f zs k).length = zs.length := by
  simp [mixL]
  omega
theorem mix_at {f : Int → Int} {zs : List Int} {k : Nat} (h : k < zs.length) : (mixL f zs k).getD k 0 = zs.getD k 0 := by
  unfold mixL
  rw [List.getD_eq_getElem?_getD, List.getElem?_append_right (by simp; omega)]
  have : k - ((zs.take k).map f).length = 0 := by simp; omega
  rw [this, drop_consI h]
  simp
theorem take_onI {zs : List Int} {k : Nat} (h : k < zs.length) : zs.take k ++ [zs.getD k 0] = zs.take (k + 1) := by
  rw [List.take_add_one, List.getD_eq_getElem?_getD, List.getElem?_eq_getElem h]
  rfl
theorem mix_on {f : Int → Int} {zs : List Int} {k : Nat} (h : k < zs.length) : (mixL f zs k).set k (f (zs.getD k 0)) = mixL f zs (k + 1) := by
  unfold mixL
  have hl : ((zs.take k).map f).length = k := by simp; omega
  rw [List.set_append, if_neg (by omega), hl, Nat.sub_self, drop_consI h, List.set_cons_zero, ← take_onI h, List.map_append]
  simp
theorem mix_end (f : Int → Int) (zs : List Int) : mixL f zs zs.length = zs.map f := by simp [mixL]
theorem all_left (xs : List Int) (x : Nat) : (B.all x).map (atZ xs) = left xs x := by
  simp [B.all, left, atZ, Function.comp_def]
theorem all_at {xs : List Int} {x : Nat} (h : mayL xs x = true) {k : Nat} (hk : k < (B.all x).length) : ∃ j : Nat, (B.all x).getD k 0 = (j : Int) ∧ j < xs.length := by
  have hk' : k < (B.mem 64 x).length := by simpa [B.all] using hk
  refine ⟨(B.mem 64 x)[k], ?_, mem_may h (List.getElem_mem hk')⟩
  simp [B.all, hk']

theorem ints_store {w : World} {base : Nat} {v : Value} {ys : List Int} (h : OwnsI w base v ys) {k : Nat} (hk : k < ys.length) :
    ∃ g cap, v = .slice (some ⟨g, 0, none⟩) ys.length cap ∧ base ≤ g ∧ w.cell? ⟨g, k, none⟩ = some (.int .i64 (ys.getD k 0)) ∧ w.frozen? ⟨g, k, none⟩ = false ∧ ∀ y, OwnsI (w.setCell ⟨g, k, none⟩ (.int .i64 y)) base v (ys.set k y) := by
  have h0 := h
  rcases h.2 with ⟨_, h1⟩ | ⟨g, cap, cur, rfl, hb, hg, hn, hc, hs, ht⟩
  · omega
  · refine ⟨g, cap, rfl, hb, ?_, h0.frozenAt _, fun y => ?_⟩
    · rw [h0.cellAt k (by omega)]
      simp [hk]
    · have := (h0.stored k (.int .i64 y)).1
      unfold OwnsI
      rw [List.map_set, List.length_set]
      exact this

set_option maxRecDepth 100000 in
set_option maxHeartbeats 2000000 in
theorem list1_any {v : Value} {xs : List Int} (x : Nat) (u : World) (hr : Reads u v xs) (hmay : mayL xs x = true) (hT : B.Tab u) (h0 : 0 < u.heap.size) :
    Calls Tryd.prog 40 #[.agg #[v, .int .u64 x]] u fun e w' => ∃ r, e = .returned r ∧ OwnsI w' u.heap.size r (left xs x) ∧ Below u.heap.size u w' := by
  obtain ⟨p, bb, off, c, rfl, hp, hcell⟩ := reads_shape hr
  have hB := (Below.refl _ u).alloc (Nat.le_refl _) (.cells #[.slice p xs.length c, .int .u64 x] 47)
  obtain ⟨W0, hW0⟩ : ∃ W0, W0 = u.alloc (.cells #[.slice p xs.length c, .int .u64 x] 47) := ⟨_, rfl⟩
  rw [← hW0] at hB
  have LI := Lib.hid (B.list_any x (may_lt hmay) W0 (B.Tab.below hT h0 hB) (Nat.lt_of_lt_of_le h0 hB.size))
  have c0 : W0.cell? ⟨u.heap.size, 0, none⟩ = some (.slice p xs.length c) := by rw [hW0]; simp
  have c1 : W0.cell? ⟨u.heap.size, 1, none⟩ = some (.int .u64 x) := by rw [hW0]; simp
  have HC := Lib.hid (And.intro c0 c1)
  have HX := Lib.hid hcell
  have HB := Lib.hid hB
  have HM := Lib.hid hmay
  have HW := Lib.hid hW0
  have hl64 := (may_iff.1 hmay).1
  have hle := B.all_le x
  have HAL := Lib.hid (fun k (hk : k < (B.all x).length) => all_at hmay hk)
  obtain ⟨zs, hz⟩ : ∃ zs, B.all x = zs := ⟨_, rfl⟩
  have HF : Hid (left xs x = zs.map (atZ xs)) := by rw [← hz, all_left]; rfl
  rw [hz] at LI hle HAL
  obtain ⟨len, hlen⟩ : ∃ len : Nat, len = xs.length := ⟨_, rfl⟩
  rw [← hlen] at HW hp HC hl64 ⊢
  have HN := Lib.hid hlen
  clear hr hmay hT h0 hB c0 c1 hcell hW0 hz hlen
  go_enter Tryd.func40, Tryd.ntmps40
  go_wp2_with fail
  rw [← HW.out]
  refine LI.out.mono ?_
  rintro e w1 ⟨l, rfl, ho0, _, hB1⟩
  have ho : OwnsI w1 W0.heap.size l (mixL (atZ xs) zs 0) := ho0
  have hlm := mix_length (atZ xs) zs 0
  obtain ⟨q, g, cap, rfl, hq, _⟩ := ints_shape ho
  rw [hlm] at hq ho ⊢
  obtain ⟨n, en⟩ : ∃ n : Nat, n = zs.length := ⟨_, rfl⟩
  rw [← en] at hq ho hle ⊢
  have HO := Lib.hid ho
  have HB1 := Lib.hid hB1
  have HE := Lib.hid en
  clear ho ho0 hB1 hlm en
  go_wp2
  go_loopw [11] (fun i wr => ∃ k : Nat, k ≤ n ∧ i = .int .i64 k ∧ OwnsI wr W0.heap.size (.slice q n cap) (mixL (atZ xs) zs k) ∧ Below W0.heap.size W0 wr) (fun i _ => n - (intOf i).toNat)
  case atStart => exact ⟨0, by omega, rfl, HO.out, HB1.out⟩
  case round =>
    obtain ⟨k, hk, rfl, hown, hB⟩ := hrel
    by_cases hlt : k < n
    · have hlz : k < zs.length := by have := HE.out; omega
      obtain ⟨g', cap', he, hbg, ck, fk, hst⟩ := ints_store hown (k := k) (by rw [mix_length]; exact hlz)
      rw [mix_length, ← HE.out] at he
      obtain ⟨rfl, rfl⟩ : q = some ⟨g', 0, none⟩ ∧ cap = cap' := by
        injection he with h1 h2 h3
        exact ⟨h1, h3⟩
      obtain ⟨j, ej, hj⟩ := HAL.out k hlz
      rw [mix_at hlz, ej] at ck
      have hn := mix_on (f := atZ xs) hlz
      rw [ej] at hn
      have hj' : j < len := by have := HN.out; omega
      obtain rfl := hp (by omega)
      have cv := cell_below hB (cell_below HB.out (HX.out j hj))
      have c0 := cell_below hB HC.out.1
      have ea : atZ xs (j : Int) = xs.getD j 0 := rfl
      rw [ea] at hn
      obtain ⟨y, ey⟩ : ∃ y, y = xs.getD j 0 := ⟨_, rfl⟩
      rw [← ey] at cv hn
      have d5 : (j : Int) < (len : Int) := by omega
      have HST := Lib.hid (hn ▸ hst y)
      have HBS := Lib.hid (hB.setCell (p := ⟨g', k, none⟩) hbg (.int .i64 y))
      clear he hst hn ea ey hown hB hlz ej hj
      go_wp2_with fail
      go_roundw
      case rel => exact ⟨k + 1, by omega, by go_num, HST.out, HBS.out⟩
      case measure => simp [intOf]; omega
    · have hkz : k = zs.length := by have := HE.out; omega
      rw [hkz, mix_end, ← HF.out] at hown
      have HOW := Lib.hid (owns_low hown HB.out.size)
      have HBB := Lib.hid (below_two HB.out hB)
      clear hown hB hkz hp
      go_wp2
      go_ret
      exact ⟨_, rfl, HOW.out, HBB.out⟩

section
variable {w : World} {v : Value} {xs : List Int} (hr : Reads w v xs) (hm : xs.length ≤ 1000000) (x : Nat) (hx : x < 18446744073709551616) (hT : B.Tab w) (h0 : 0 < w.heap.size)
include hr hm hx hT h0

set_option maxHeartbeats 1000000 in
theorem dlist_any : Calls Tryd.prog 21 #[.agg #[v, .int .u64 x]] w fun e w' => ∃ r, e = .returned r ∧ OwnsI w' w.heap.size r (leftM xs x) ∧ Below w.heap.size w w' := by
  have hr0 := hr
  obtain ⟨p, n, c, rfl⟩ := reads_slice hr
  have hb0 := (Below.refl _ w).alloc (Nat.le_refl _) (.cells #[.slice p n c, .int .u64 x] 47)
  have HB := Lib.hid hb0
  have A := Lib.hid (askL (reads_below hr hb0) hm x hx 40 (enters_of Tryd.func40 (by kernel_rfl) rfl) #[] (fun r w' => OwnsI w' w.heap.size r (left xs x)) (fun hmay u hu => by
    have hb := below_two hb0 hu
    exact (list1_any x u (reads_below hr0 hb) hmay (B.Tab.below hT h0 hb) (Nat.lt_of_lt_of_le h0 hb.size)).mono fun e w' ⟨r, h1, h2, h3⟩ => ⟨r, h1, owns_low h2 hb.size, h3⟩))
  have key : ∀ e w', Asked (mayL xs x) (.slice none 0 0) (fun r w' => OwnsI w' w.heap.size r (left xs x)) e w' → ∃ r, e = .returned r ∧ OwnsI w' w.heap.size r (leftM xs x) := by
    rintro e w' (⟨h, rfl⟩ | ⟨h, r, rfl, ho⟩)
    · rw [leftM, h, if_neg (by simp)]
      exact ⟨_, rfl, World.ownsRow_nil _ _ _ _⟩
    · rw [leftM, h, if_pos rfl]
      exact ⟨_, rfl, ho⟩
  have HK := Lib.hid key
  clear hr hr0 key hb0 hT h0
  go_enter Tryd.func21, Tryd.ntmps21
  go_wp2_with fail
  refine A.out.mono ?_
  rintro e w1 ⟨h, hB⟩
  obtain ⟨r, rfl, ho⟩ := HK.out _ _ h
  have HO := Lib.hid ho
  have HB1 := Lib.hid (below_two HB.out hB)
  clear h hB ho
  go_wp2_with fail
  go_ret
  exact ⟨_, rfl, HO.out, HB1.out⟩

omit hr hm hx hT h0 in
theorem leftM_ok : okI (leftM xs x) = true := by
  rw [ok_iff]
  intro y hy
  cases h : mayL xs x
  · simp [leftM, h] at hy
  · rw [leftM, if_pos h] at hy
    exact left_ok h y hy

end
end Go.Proofs.YtomcgmeekmfdhaaDoor.Dm
namespace Go.Proofs.YtomcgmeekmfdhaaDoor.Ge
open Go.RowKit St
set_option maxRecDepth 100000

theorem dom_look {w : World} {p : Option Addr} {b off len : Nat} {L : List (List Int × Nat)} (h : SliceOf rDom 2 w p b off len L) {k : Nat} (hk : k < len) :
    ∃ (p9 : Option Addr) (l9 c9 : Nat), w.cell? ⟨b, off + k * 2, none⟩ = some (.slice p9 l9 c9) ∧ w.cell? ⟨b, off + k * 2 + 1, none⟩ = some (.int .u64 (L.getD k ([], 0)).2) ∧ Dm.Reads w (.slice p9 l9 c9) (L.getD k ([], 0)).1 ∧ (L.getD k ([], 0)).2 < 18446744073709551616 := by
  obtain ⟨x, u, ex, ⟨a0, a1⟩, hx⟩ := dom_at2 h hk
  obtain ⟨p9, l9, c9, rfl⟩ := rDom_shape hx
  obtain ⟨r1, r2, _⟩ := rDom_parts hx
  have eD : L.getD k ([], 0) = x := by rw [List.getD_eq_getElem?_getD, ex]; rfl
  rw [eD]
  exact ⟨p9, l9, c9, a0, a1, Dm.reads_of_readsN r1, r2⟩
theorem may_small {xs : List Int} {x : Nat} (h : Dm.mayL xs x = true) : ∀ y ∈ xs, -1048576 ≤ y ∧ y ≤ 1048576 := fun _ hy => Dm.rise_low (Dm.may_iff.1 h).2.2 hy
theorem num_small {xs : List Int} (h : allN xs 1048576 = true) : ∀ y ∈ xs, -1048576 ≤ y ∧ y ≤ 1048576 := fun y hy => by
  have := List.all_eq_true.1 h y hy
  rw [Bool.and_eq_true, decide_eq_true_eq, decide_eq_true_eq] at this
  exact ⟨by omega, this.2⟩
theorem reads_nums {w : World} {p : Option Addr} {b o l cc : Nat} {xs : List Int} (h : Nums w p b o l xs) : Dm.Reads w (.slice p l cc) xs := by
  have hl := h.long
  by_cases h0 : l = 0
  · exact .inl ⟨p, cc, by rw [h0], List.eq_nil_of_length_eq_zero (by omega)⟩
  · obtain rfl := h.at_ (by omega)
    subst hl
    exact .inr ⟨b, o, cc, rfl, fun k hk => h.cell k hk⟩
theorem stand_small {nums P : List Int} (h : ∀ y ∈ nums, -1048576 ≤ y ∧ y ≤ 1048576) : ∀ t ∈ standN nums P, -1048576 ≤ t ∧ t ≤ 1048576 := fun t ht => by
  obtain ⟨u, _, hu⟩ := stand_mem.1 ht
  obtain ⟨_, h2, rfl⟩ := atB_iff.1 hu
  exact h _ (St.getD_mem h2)
open Classical in
theorem elem0 {c : PCon} {D : List (List Int × Nat)} {y : Int} : elemK c D 0 y = (St.leftOf (D.getD 1 ([], 0))).any fun z => atB c.nums y z := by
  unfold elemK
  rw [Bool.eq_iff_iff, decide_eq_true_eq, if_pos rfl, List.any_eq_true]
  exact ⟨fun ⟨z, h1, h2⟩ => ⟨z, h1, atB_iff.2 h2⟩, fun ⟨z, h1, h2⟩ => ⟨z, h1, atB_iff.1 h2⟩⟩
open Classical in
theorem elem1 {c : PCon} {D : List (List Int × Nat)} {y : Int} : elemK c D 1 y = (standN c.nums (St.leftOf (D.getD 0 ([], 0)))).contains y := by
  unfold elemK
  rw [Bool.eq_iff_iff, decide_eq_true_eq, if_neg (by decide), List.contains_iff_mem, stand_mem]
  exact ⟨fun ⟨z, h1, h2⟩ => ⟨z, h1, atB_iff.2 h2⟩, fun ⟨z, h1, h2⟩ => ⟨z, h1, atB_iff.1 h2⟩⟩
/-- five cells that a region reads -/
theorem heldE {w u u' : World} {p0 p1 p2 p3 p4 : Addr} {a0 a1 a2 a3 a4 : Value} (h : u.cell? p0 = some a0 ∧ u.cell? p1 = some a1 ∧ u.cell? p2 = some a2 ∧ u.cell? p3 = some a3 ∧ u.cell? p4 = some a4 ∧ Below w.heap.size w u) (hb : Below u.heap.size u u') :
    u'.cell? p0 = some a0 ∧ u'.cell? p1 = some a1 ∧ u'.cell? p2 = some a2 ∧ u'.cell? p3 = some a3 ∧ u'.cell? p4 = some a4 ∧ Below w.heap.size w u' :=
  ⟨cell_below hb h.1, cell_below hb h.2.1, cell_below hb h.2.2.1, cell_below hb h.2.2.2.1, cell_below hb h.2.2.2.2.1, below_two h.2.2.2.2.2 hb⟩
theorem heldEb {w u : World} {p0 p1 p2 p3 p4 : Addr} {a0 a1 a2 a3 a4 : Value} (h : u.cell? p0 = some a0 ∧ u.cell? p1 = some a1 ∧ u.cell? p2 = some a2 ∧ u.cell? p3 = some a3 ∧ u.cell? p4 = some a4 ∧ Below w.heap.size w u) : Below w.heap.size w u := h.2.2.2.2.2
theorem heldEs {w u : World} {g off : Nat} {v : Value} {p0 p1 p2 p3 p4 : Addr} {a0 a1 a2 a3 a4 : Value} (h : u.cell? p0 = some a0 ∧ u.cell? p1 = some a1 ∧ u.cell? p2 = some a2 ∧ u.cell? p3 = some a3 ∧ u.cell? p4 = some a4 ∧ Below w.heap.size w u)
    (n : (p0.block ≠ g ∧ p1.block ≠ g ∧ p2.block ≠ g ∧ p3.block ≠ g ∧ p4.block ≠ g) ∧ w.heap.size ≤ g) :
    (u.setCell ⟨g, off, none⟩ v).cell? p0 = some a0 ∧ (u.setCell ⟨g, off, none⟩ v).cell? p1 = some a1 ∧ (u.setCell ⟨g, off, none⟩ v).cell? p2 = some a2 ∧ (u.setCell ⟨g, off, none⟩ v).cell? p3 = some a3 ∧ (u.setCell ⟨g, off, none⟩ v).cell? p4 = some a4 ∧ Below w.heap.size w (u.setCell ⟨g, off, none⟩ v) := by
  have k : ∀ (p : Addr) (a : Value), p.block ≠ g → u.cell? p = some a → (u.setCell ⟨g, off, none⟩ v).cell? p = some a := fun p a hp h =>
    (World.cell?_of_block (Below.heap_setCell u ⟨g, off, none⟩ v p.block hp)).trans h
  exact ⟨k _ _ n.1.1 h.1, k _ _ n.1.2.1 h.2.1, k _ _ n.1.2.2.1 h.2.2.1, k _ _ n.1.2.2.2.1 h.2.2.2.1, k _ _ n.1.2.2.2.2 h.2.2.2.2.1, h.2.2.2.2.2.setCell n.2 _⟩

set_option maxHeartbeats 8000000 in
theorem step_any {w : World} {v1 v2 v3 v : Value} {c : PCon} {L : List (List Int × Nat)} (hT : B.Tab w) (h0 : 0 < w.heap.size) (hc : rCon w [.int .i64 c.kind, v1, v2, .int .i64 c.rel, .int .i64 c.const, v3] c) (hs : Short 1000 c) (h : Slc rDom 2 w v L) (hn : L.length ≤ 1000) (hm : ∀ d ∈ L, d.1.length ≤ 1000) :
    Calls Tryd.prog 9 #[.agg #[.int .i64 c.kind, v1, v2, .int .i64 c.rel, .int .i64 c.const, v3], v] w fun e w' => ∃ x, e = .returned (.tuple #[x, .int .i64 (stepG c L).2]) ∧ Slc rDom 2 w' x (stepG c L).1 ∧ Below w.heap.size w w' := by
  have hsl := h
  obtain ⟨p, b, off, cc, len, rfl, hcap, hss⟩ := h
  obtain ⟨W0, hW0⟩ : ∃ W0, W0 = w.alloc (.cells #[.int .i64 c.kind, v1, v2, .int .i64 c.rel, .int .i64 c.const, v3] 24) := ⟨_, rfl⟩
  have hb0 : Below w.heap.size w W0 := by rw [hW0]; exact new_below _ _
  have hc0 : ∀ j u, [Value.int .i64 c.kind, v1, v2, .int .i64 c.rel, .int .i64 c.const, v3][j]? = some u → W0.cell? ⟨w.heap.size, j, none⟩ = some u := fun j u e => by rw [hW0]; exact six_at _ _ _ _ _ _ _ _ j u e
  have HW := Lib.hid hW0
  have HB0 := Lib.hid hb0
  have RM := Lib.hid (right_any (rCon_stays _ _ _ _ hb0 hc) hs (hsl.below rDom_stays hb0) hn hm)
  have HC := Lib.hid (fun (z : World) (hz : Below W0.heap.size W0 z) => And.intro (cell_below hz (hc0 0 _ rfl)) (And.intro (cell_below hz (hc0 1 _ rfl)) (And.intro (cell_below hz (hc0 2 _ rfl)) (And.intro (cell_below hz (hc0 3 _ rfl)) (And.intro (cell_below hz (hc0 4 _ rfl)) (cell_below hz (hc0 5 _ rfl)))))))
  obtain ⟨_, _, _, e, ⟨f1, f2, f3⟩, ⟨p1, b1, o1, c1, l1, e1, hcap1, h1⟩, ⟨p2, b2, o2, c2, l2, e2, _, h2⟩, ⟨p3, b3, o3, c3, l3, e3, hcap3, h3⟩⟩ := hc
  simp only [List.cons.injEq, true_and, and_true] at e
  obtain ⟨rfl, rfl, rfl⟩ := e
  subst e1 e2 e3
  obtain ⟨q0, q1, q2, q3, q4, q5⟩ := HC.out W0 (Below.refl _ _)
  have HPon := Lib.hid (fun (q : rightK [4] c L = true) => stepK_on (Kp := elemK) q)
  have HPoff := Lib.hid (fun (q : rightK [4] c L = false) => stepK_off (Kp := elemK) q)
  obtain ⟨RR, hRR⟩ : ∃ R, R = rightK [4] c L := ⟨_, rfl⟩
  rw [← hRR] at RM HPon HPoff
  have HRR := Lib.hid hRR
  clear hW0 hc0 hRR
  go_enter Tryd.func9, Tryd.ntmps9
  go_wp2_with fail
  rw [← HW.out]
  refine RM.out.mono ?_
  rintro e w1 ⟨rfl, hB1⟩
  have HB1 := Lib.hid hB1
  clear q0 q1 q2 q3 q4 q5
  obtain ⟨q0, q1, q2, q3, q4, q5⟩ := HC.out _ hB1
  clear hB1
  cases RR
  · have HP2 := Lib.hid (show stepG c L = ([], 1) from HPoff.out rfl)
    clear hb0 hT h0 hs hn hm hsl hss h1 h2
    go_wp2_with fail
    go_ret2
    exact ⟨.slice none 0 0, by rw [HP2.out]; rfl, by rw [HP2.out]; exact ⟨none, 0, 0, 0, 0, rfl, ⟨fun _ => rfl, Nat.le_refl _⟩, rfl, fun h => by omega, fun k a h => by simp at h⟩, below_two HB0.out HB1.out⟩
  · have HP2 := Lib.hid (show stepG c L = (stepTo L c.vars (elemK c (domsOf L c.vars)) c.vars.length, 0) from HPon.out rfl)
    obtain ⟨hkd, hrc, hmy⟩ := rightK_parts HRR.out.symm
    have hvt := vars_to hrc
    obtain ⟨hl2, _, _, hnn⟩ := right_elem hrc (by simpa using hkd)
    obtain rfl : l1 = 2 := by have := h1.long; omega
    have hvin : ∀ k, k < c.vars.length → 0 ≤ c.vars.getD k 0 ∧ c.vars.getD k 0 < (L.length : Int) := fun k hk => (hvt k hk).1
    have hlt1 : w.heap.size < w1.heap.size := Dm.cell_lt q1
    have hmk := make_doms len (by have := hss.long; omega)
    have HLN := Lib.hid hss.long
    have hle : len ≤ 1000 := by have := hss.long; omega
    have HNV := Lib.hid (nums_of h1)
    have HVI := Lib.hid (show ∀ k, k < 2 → 0 ≤ c.vars.getD k 0 ∧ c.vars.getD k 0 < (len : Int) by rw [hss.long, ← hl2]; exact hvin)
    have HSS := Lib.hid hss
    have HMY := Lib.hid hmy
    have HMM := Lib.hid hm
    have hp := hss.at_
    have HVT := Lib.hid hvt
    have HL2 := Lib.hid hl2
    have HNS := Lib.hid (show ∀ y ∈ c.nums, -1048576 ≤ y ∧ y ≤ 1048576 from num_small hnn)
    have HNU := Lib.hid (nums_of h3)
    have HTB := Lib.hid (And.intro hT h0)
    clear hkd hmy hrc hvt hvin hb0 hT h0 hs hn hm hsl hss h1 h2 f1 f2 f3 hcap hcap1 HPon HPoff hl2 hnn h3 hcap3
    obtain ⟨wz, rfl⟩ : ∃ z, z = w1 := ⟨_, rfl⟩
    go_wp2_with fail
    go_loopw [21] (fun i wr => ∃ (k : Nat) (F : Nat → Value × Value), k ≤ len ∧ i = .int .i64 k ∧ Row2 len 47 wr wz.heap.size F ∧ (∀ j, j < k → Dm.OwnsI wr 0 (F j).1 (L.getD j ([], 0)).1 ∧ (F j).2 = .int .u64 ((L.getD j ([], 0)).2 : Nat)) ∧ (∀ j, k ≤ j → F j = (.slice none 0 0, .int .u64 0)) ∧ Below wz.heap.size wz wr) (fun i _ => len - (intOf i).toNat)
    case atStart => exact ⟨0, _, by omega, rfl, row2_made len _ _ _ wz, fun j hj => by omega, fun j _ => rfl, new_below _ _⟩
    case round =>
      rename_i wr
      obtain ⟨k, F, hk, rfl, hrow, hown, hrest, hB⟩ := hrel
      have HR := Lib.hid hrow
      have HO := Lib.hid hown
      have HRS := Lib.hid hrest
      have HB := Lib.hid hB
      clear q0 q1 q2 q3 q4 q5
      by_cases hlt : k < len
      · obtain rfl := hp (by omega)
        have hBW := below_two HB0.out (below_two HB1.out hB)
        obtain ⟨p9, l9, c9, a0, a1, r1, r2⟩ := dom_look (HSS.out.below rDom_stays hBW) hlt
        obtain ⟨x, eD⟩ : ∃ x, x = L.getD k ([], 0) := ⟨_, rfl⟩
        rw [← eD] at a1 r1 r2
        have hxl : x.1.length ≤ 100000 := by rw [eD]; exact Nat.le_trans (HMM.out _ (doms_in (by rw [← HLN.out]; exact hlt))) (by decide)
        obtain ⟨y, ey⟩ : ∃ y, y = x.2 := ⟨_, rfl⟩
        rw [← ey] at a1
        obtain ⟨W9, hW9⟩ : ∃ z, z = wr.alloc (.cells #[.slice p9 l9 c9, .int .u64 y] 47) := ⟨_, rfl⟩
        have hb9 : Below wr.heap.size wr W9 := by rw [hW9]; exact new_below _ _
        have hO9 : Own2 W9 wr.heap.size 47 (.slice p9 l9 c9) (.int .u64 y) := by rw [hW9]; exact Own2.new _ _ _ _
        have CL := Lib.hid (Dm.clone_any (w := W9.drew) (Dm.reads_below (Dm.reads_below r1 hb9) (Below.refl _ _).drew) hxl)
        have HO9 := Lib.hid hO9
        have HB9 := Lib.hid hb9
        have HX := Lib.hid (And.intro eD ey)
        have HW9 := Lib.hid hW9
        have g0 := hO9.cell0
        have g1 := hO9.cell1
        have gl := hO9.lt
        have d5 : (k : Int) < (len : Int) := by omega
        clear hrow hown hrest hB r1 r2 hxl eD ey hb9 hO9 hW9 hBW
        go_upto_region 7 with fail
        rw [← HW9.out]
        go_region_law (first
          | (go_simp; go_at_call 19; refine CL.out.mono ?_; rintro e w5 ⟨v5, rfl, ho5, hB5⟩; obtain ⟨p5, _, c5, rfl, _, _⟩ := Dm.ints_shape ho5; have hB5 : Below W9.heap.size W9 w5 := below_two (Below.refl _ _).drew hB5; have o9 := HO9.out.below hB5; have g0 := o9.cell0; have g1 := o9.cell1; have hR5 := HR.out.below (below_two HB9.out hB5); have z0 := hR5.cell0 hlt; have z1 := hR5.cell1 hlt; have f0 := hR5.frozen (k * 2); have f1 := hR5.frozen (k * 2 + 1)))
        all_goals go_wp2_with fail
        all_goals
          go_roundw
          case rel =>
            have hb := below_two HB9.out hB5
            refine ⟨k + 1, fun j => if j = k then (.slice p5 x.1.length c5, .int .u64 (y : Int)) else F j, by omega, by go_num, hR5.set hlt _ _ (if_pos rfl) (fun j hj => if_neg hj), fun j hj => ?_, fun j hj => ?_, ((HB.out.trans (hb.mono HB.out.size)).setCell (Nat.le_refl _) _).setCell (Nat.le_refl _) _⟩
            · by_cases e : j = k
              · subst e
                simp only [if_true]
                rw [← HX.out.1, ← HX.out.2]
                exact ⟨own_set2 hR5 (by decide) (owns_low ho5 (Nat.zero_le _)), rfl⟩
              · simp only [if_neg e]
                have o := HO.out j (by omega)
                exact ⟨own_set2 hR5 (by decide) (owns_below o.1 hb), o.2⟩
            · simp only [if_neg (show ¬ j = k by omega)]
              exact HRS.out j (by omega)
          case measure => simp [intOf]; omega
      · obtain rfl : k = len := by omega
        have d6 : ¬ ((k : Int) < (k : Int)) := by omega
        obtain ⟨q0, q1, q2, q3, q4, q5⟩ := HC.out _ (HB1.out.trans (HB.out.mono HB1.out.size))
        have HBW := Lib.hid (show Below w.heap.size w wr from below_two HB0.out (HB1.out.trans (HB.out.mono HB1.out.size)))
        have hmyAt : ∀ i, i < k → Dm.mayL (L.getD i ([], 0)).1 (L.getD i ([], 0)).2 = true := fun i hi => HMY.out i (by rw [← HLN.out]; exact hi)
        have v0 := HVI.out 0 (by omega)
        have v1 := HVI.out 1 (by omega)
        obtain rfl := HNV.out.at_ (by omega)
        have k0 := cell_below HBW.out (HNV.out.cell 0 (by omega))
        have k1 := cell_below HBW.out (HNV.out.cell 1 (by omega))
        rw [Nat.add_zero] at k0
        have n01 := vars_ne HVT.out (a := 0) (b := 1) (by rw [HL2.out]; omega) (by rw [HL2.out]; omega) (by omega)
        have hs2 : stepTo L c.vars (elemK c (domsOf L c.vars)) 2 = ((L.set (c.vars.getD 0 0).toNat ((L.getD (c.vars.getD 0 0).toNat ([], 0)).1, Dm.keepN (L.getD (c.vars.getD 0 0).toNat ([], 0)).1 (L.getD (c.vars.getD 0 0).toNat ([], 0)).2 (elemK c (domsOf L c.vars) 0))).set (c.vars.getD 1 0).toNat ((L.getD (c.vars.getD 1 0).toNat ([], 0)).1, Dm.keepN (L.getD (c.vars.getD 1 0).toNat ([], 0)).1 (L.getD (c.vars.getD 1 0).toNat ([], 0)).2 (elemK c (domsOf L c.vars) 1))) := by
          rw [stepTo_succ, stepTo_succ]; rfl
        have kp0 : ∀ y, elemK c (domsOf L c.vars) 0 y = _ := fun y => elem0 (c := c) (D := domsOf L c.vars) (y := y)
        have kp1 : ∀ y, elemK c (domsOf L c.vars) 1 y = _ := fun y => elem1 (c := c) (D := domsOf L c.vars) (y := y)
        have G0 := doms_get (L := L) (vars := c.vars) (k := 0) (by rw [HL2.out]; omega)
        have G1 := doms_get (L := L) (vars := c.vars) (k := 1) (by rw [HL2.out]; omega)
        rw [G1] at kp0
        rw [G0] at kp1
        clear G0 G1
        obtain ⟨x, hx⟩ : ∃ z, z = c.vars.getD 0 0 := ⟨_, rfl⟩
        obtain ⟨y, hy⟩ : ∃ z, z = c.vars.getD 1 0 := ⟨_, rfl⟩
        rw [← hx] at v0 k0 n01 hs2 kp1
        rw [← hy] at v1 k1 n01 hs2 kp0
        obtain ⟨x, rfl⟩ := Int.eq_ofNat_of_zero_le v0.1
        obtain ⟨y, rfl⟩ := Int.eq_ofNat_of_zero_le v1.1
        simp only [Int.toNat_natCast] at n01 hs2 kp0 kp1
        have hxl : x < k := by omega
        have hyl : y < k := by omega
        obtain rfl := hp (by omega)
        obtain ⟨e0, f0, g0, a0, b0, r0, m0⟩ := dom_look HSS.out hxl
        obtain ⟨e1, f1, g1, a1, b1, r1, m1⟩ := dom_look HSS.out hyl
        have my0 := hmyAt x hxl
        have my1 := hmyAt y hyl
        obtain ⟨d0, hd0⟩ : ∃ d, d = L.getD x ([], 0) := ⟨_, rfl⟩
        obtain ⟨d1, hd1⟩ : ∃ d, d = L.getD y ([], 0) := ⟨_, rfl⟩
        rw [← hd0] at b0 r0 m0 my0 hs2 kp1
        rw [← hd1] at b1 r1 m1 my1 hs2 kp0
        have TB := fun u (hu : Below w.heap.size w u) => And.intro (B.Tab.below HTB.out.1 HTB.out.2 hu) (Nat.lt_of_lt_of_le HTB.out.2 hu.size)
        have LC : ∀ (d : List Int × Nat) (e : Option Addr) (f g : Nat), Dm.mayL d.1 d.2 = true → Dm.Reads w (.slice e f g) d.1 → ∀ u, Below w.heap.size w u → Calls Tryd.prog 21 #[.agg #[.slice e f g, .int .u64 d.2]] u fun e w' => ∃ r, e = .returned r ∧ Dm.OwnsI w' 0 r (St.leftOf d) ∧ Below u.heap.size u w' := fun d e f g hmd hrd u hu =>
          (Dm.dlist_any (Dm.reads_below hrd hu) (Nat.le_trans (Dm.may_iff.1 hmd).1 (by decide)) d.2 (Dm.may_lt hmd) (TB u hu).1 (TB u hu).2).mono fun e w' ⟨r, h1, h2, h3⟩ => ⟨r, h1, owns_low h2 (Nat.zero_le _), h3⟩
        have LC0 := Lib.hid (LC d0 e0 f0 g0 my0 r0)
        have LC1 := Lib.hid (LC d1 e1 f1 g1 my1 r1)
        obtain ⟨T0, hT0⟩ : ∃ T, T = St.leftOf d0 := ⟨_, rfl⟩
        obtain ⟨T1, hT1⟩ : ∃ T, T = St.leftOf d1 := ⟨_, rfl⟩
        have hT0l : T0.length ≤ 64 := by rw [hT0]; exact Dm.leftM_le _ _
        have hT1l : T1.length ≤ 64 := by rw [hT1]; exact Dm.leftM_le _ _
        have hT1s : ∀ t ∈ T1, -1048576 ≤ t ∧ t ≤ 1048576 := by rw [hT1]; exact leftM_small
        rw [← hT0] at LC0 kp1
        rw [← hT1] at LC1 kp0
        have AM1 := Lib.hid (fun (u : World) (v : Value) (h : Dm.OwnsI u 0 v T1) => among_any (Dm.reads_of_owns h) hT1s (by omega))
        have hNR := reads_nums (cc := c3) HNU.out
        have SD := Lib.hid (fun (u : World) (hu : Below w.heap.size w u) (v : Value) (h : Dm.OwnsI u 0 v T0) => standing_any (Dm.reads_below hNR hu) (Dm.reads_of_owns h) (by omega))
        have hSl : (standN c.nums T0).length ≤ 64 := Nat.le_trans (stand_length _ _) hT0l
        have hSs := stand_small (P := T0) HNS.out
        obtain ⟨S, hS⟩ : ∃ S, S = standN c.nums T0 := ⟨_, rfl⟩
        rw [← hS] at SD hSl hSs kp1
        have AMS := Lib.hid (fun (u : World) (base : Nat) (v : Value) (h : Dm.OwnsI u base v S) => among_any (Dm.reads_of_owns h) hSs (by omega))
        obtain ⟨Z0, hZ0⟩ : ∃ Z, Z = Dm.keepN d0.1 d0.2 (elemK c (domsOf L c.vars) 0) := ⟨_, rfl⟩
        obtain ⟨Z1, hZ1⟩ : ∃ Z, Z = Dm.keepN d1.1 d1.2 (elemK c (domsOf L c.vars) 1) := ⟨_, rfl⟩
        rw [← hZ0, ← hZ1] at hs2
        have KX := Lib.hid (fun (u : World) (hu : Below w.heap.size w u) (ab m : Nat) (q5 : u.cell? ⟨w.heap.size, 5, none⟩ = some (.slice p3 l3 c3)) (ha : u.cell? ⟨ab, 0, none⟩ = some (.func (.func 38) #[] #[.pointer (some ⟨m, 0, none⟩)])) (hA : Asked u m T1) =>
          (kept_any (Dm.reads_below r0 hu) (Dm.may_iff.1 my0).1 d0.2 (Dm.may_lt my0) 23 (enters_of Tryd.func23 (by kernel_rfl) rfl) #[.pointer (some ⟨w.heap.size, 0, none⟩), .pointer (some ⟨ab, 0, none⟩)] (elemK c (domsOf L c.vars) 0)
            fun z hz y _ => by rw [kp0 y]; exact asks_any (nums_below HNU.out (below_two hu hz)) (cell_below hz q5) (cell_below hz ha) (hA.below hz) HNS.out y))
        have KY := Lib.hid (fun (u : World) (hu : Below w.heap.size w u) (m : Nat) (hA : Asked u m S) =>
          (kept_any (Dm.reads_below r1 hu) (Dm.may_iff.1 my1).1 d1.2 (Dm.may_lt my1) 38 (enters_of Tryd.func38 (by kernel_rfl) rfl) #[.pointer (some ⟨m, 0, none⟩)] (elemK c (domsOf L c.vars) 1)
            fun z hz y hy => by rw [kp1 y, show S.contains y = decide (y ∈ S) by rw [Bool.eq_iff_iff]; simp]; exact asked_any (hA.below hz) (Dm.rise_low (Dm.may_iff.1 my1).2.2 hy)))
        rw [← hZ0] at KX
        rw [← hZ1] at KY
        obtain ⟨n0, hn0⟩ : ∃ n, n = d0.2 := ⟨_, rfl⟩
        obtain ⟨n1, hn1⟩ : ∃ n, n = d1.2 := ⟨_, rfl⟩
        rw [← hn0] at b0 LC0 KX
        rw [← hn1] at b1 LC1 KY
        have HE0 := Lib.hid (And.intro a0 b0)
        have HE1 := Lib.hid (And.intro a1 b1)
        have HBB := Lib.hid (show b < w.heap.size from Dm.cell_lt a0)
        have i0 : (0 : Int) < 2 := by decide
        have dx : (x : Int) < (k : Int) := by omega
        have dy : (y : Int) < (k : Int) := by omega
        have HDD := Lib.hid (And.intro hd0 hd1)
        have HS2 := Lib.hid hs2
        have HNE := Lib.hid n01
        have HZS := Lib.hid (And.intro (show Z0 < 18446744073709551616 by rw [hZ0]; exact Dm.keep_lt _ _ _) (show Z1 < 18446744073709551616 by rw [hZ1]; exact Dm.keep_lt _ _ _))
        have HLA := Lib.hid (show LeftAt wr wz.heap.size k L from ⟨HLN.out.symm, F, HR.out, HO.out⟩)
        have HGL := Lib.hid (show wz.heap.size < wr.heap.size from HR.out.lt)
        have HWG := Lib.hid (show w.heap.size < wz.heap.size from Nat.lt_of_lt_of_le (by have := HW.out; rw [this]; simp) (HB1.out.size))
        clear TB LC hs2 kp0 kp1 n01 r0 r1 my0 my1 m0 m1 hd0 hd1 hn0 hn1 v0 v1 hrow hown hrest hB hmyAt hx hy hT0 hT1 hT0l hT1l hT1s hNR hSl hSs hS hZ0 hZ1
        have HBV := Lib.hid (show Below W0.heap.size W0 wr from HB1.out.trans (HB.out.mono HB1.out.size))
        have M0 := Lib.hid (show (L.getD x ([], 0)).1 = d0.1 by rw [HDD.out.1])
        have M1 := Lib.hid (show ((L.set x (d0.1, Z0)).getD y ([], 0)).1 = d1.1 by rw [getD_set, if_neg (fun q => HNE.out q.1), HDD.out.2])
        have HGW := Lib.hid (show W0.heap.size ≤ wz.heap.size from HB1.out.size)
        clear a0 b0 a1 b1
        go_upto_region 9 with fail
        go_wp2
        go_quiet (fail)
        go_upto_region 10 with fail
        have HBQ := Lib.hid (show Below W0.heap.size W0 (wr.drewN nq) from below_drewN HBV.out)
        have HLQ := Lib.hid (HLA.out.below (show Below wr.heap.size wr (wr.drewN nq) from below_drewN (Below.refl _ _)))
        clear q0 q1 q2 q3 q4 q5 k0 k1 i0 HLA HBV HBW HR HO HB HRS
        obtain ⟨wq, hwq⟩ : ∃ z, z = wr.drewN nq := ⟨_, rfl⟩
        rw [← hwq] at HBQ HLQ ⊢
        clear hwq HGL
        -- what is asked
        go_cut [11] (fun p wx => ∃ ab m, p = .pointer (some ⟨ab, 0, none⟩) ∧ Own1 wx ab 49 (.func (.func 38) #[] #[.pointer (some ⟨m, 0, none⟩)]) ∧ Asked wx m T1 ∧ LeftAt wx wz.heap.size k L ∧ Below W0.heap.size W0 wx)
        case first =>
          have a1 := cell_below (below_two HB0.out HBQ.out) HE1.out.1
          have b1 := cell_below (below_two HB0.out HBQ.out) HE1.out.2
          go_wp2_with fail
          refine (LC1.out _ (below_two HB0.out HBQ.out)).mono ?_
          rintro e w5 ⟨v5, rfl, ho5, hB5⟩
          have HO5 := Lib.hid ho5
          have HN5 := Lib.hid (And.intro (HLQ.out.below hB5) (below_two HBQ.out hB5))
          clear hB5 a1 b1 ho5
          go_wp2_with fail
          refine (AM1.out _ _ HO5.out).mono ?_
          rintro e w6 ⟨m, rfl, hA6, _, hB6⟩
          have HA6 := Lib.hid hA6
          have HN6 := Lib.hid (And.intro (HN5.out.1.below hB6) (below_two HN5.out.2 hB6))
          have hsf := run_store_func 38 #[.pointer (some ⟨m, 0, none⟩)]
          clear hB6 hA6
          go_wp2_with fail
          go_meet
          exact ⟨_, m, rfl, Own1.new _ _ _, HA6.out.below (new_below _ _), HN6.out.1.below (new_below _ _), below_two HN6.out.2 (new_below _ _)⟩
        case rest =>
          obtain ⟨ab, m, rfl, hO, hA, hL, hB⟩ := hcut
          obtain ⟨wx, rfl⟩ : ∃ z, z = wc := ⟨_, rfl⟩
          have HO := Lib.hid hO
          have HA := Lib.hid hA
          have HL := Lib.hid hL
          have HB := Lib.hid hB
          have HBX := Lib.hid (below_two HB0.out hB)
          clear hO hA hL hB HLQ HBQ
          -- places
          go_upto_region 11 with fail
          go_cut [] (fun wy => LeftAt wy wz.heap.size k (L.set x (d0.1, Z0)) ∧ Below W0.heap.size W0 wy)
          case first =>
            have a0 := cell_below HBX.out HE0.out.1
            have b0 := cell_below HBX.out HE0.out.2
            have q5 := (HC.out _ HB.out).2.2.2.2.2
            have c11 := HO.out.cell
            go_wp2_with fail
            refine (KX.out _ HBX.out ab m q5 c11 HA.out).mono ?_
            rintro e w5 ⟨rfl, hB5⟩
            have hA5 := HL.out.below hB5
            obtain ⟨⟨sp, sl, sc, s0⟩, s1, s2⟩ := hA5.cells hxl
            have HN5 := Lib.hid (And.intro hA5 (below_two HB.out hB5))
            clear hA5 hB5 a0 b0 q5 c11
            go_wp2_with fail
            go_meet
            exact ⟨by have h := HN5.out.1.set hxl Z0; rw [M0.out] at h; exact h, HN5.out.2.setCell HGW.out _⟩
          case rest =>
            obtain ⟨hL, hB⟩ := hcut
            obtain ⟨wy, rfl⟩ : ∃ z, z = wc := ⟨_, rfl⟩
            clear HL HB HBX HA HO
            have HL := Lib.hid (hL.below (show Below wy.heap.size wy wy.drew from (Below.refl _ _).drew))
            have HB := Lib.hid hB
            have HBX := Lib.hid (below_two HB0.out hB)
            have H0 := Lib.hid (And.intro (cell_below HBX.out HE1.out.1) (And.intro (cell_below HBX.out HE1.out.2) (And.intro (cell_below HBX.out HE0.out.1) (And.intro (cell_below HBX.out HE0.out.2) (And.intro (HC.out _ hB).2.2.2.2.2 hB)))))
            have HNG := Lib.hid (show (b ≠ wz.heap.size ∧ b ≠ wz.heap.size ∧ b ≠ wz.heap.size ∧ b ≠ wz.heap.size ∧ w.heap.size ≠ wz.heap.size) ∧ W0.heap.size ≤ wz.heap.size by have := HBB.out; have := HWG.out; have := HGW.out; omega)
            clear hL hB
            -- numbers
            go_upto_region 12 with fail
            go_cut [] (fun wt => LeftAt wt wz.heap.size k ((L.set x (d0.1, Z0)).set y (d1.1, Z1)) ∧ Below W0.heap.size W0 wt)
            case first =>
              go_region_held3 (fun u => u.cell? ⟨b, off + y * 2, none⟩ = some (.slice e1 f1 g1) ∧ u.cell? ⟨b, off + y * 2 + 1, none⟩ = some (.int .u64 n1) ∧ u.cell? ⟨b, off + x * 2, none⟩ = some (.slice e0 f0 g0) ∧ u.cell? ⟨b, off + x * 2 + 1, none⟩ = some (.int .u64 n0) ∧ u.cell? ⟨w.heap.size, 5, none⟩ = some (.slice p3 l3 c3) ∧ Below W0.heap.size W0 u)
                (first | exact heldE (by assumption) (by assumption) | exact heldEs (by assumption) HNG.out | exact heldE H0.out (below_drewN (n := 1) (Below.refl _ _)))
                (first
                  | (go_at_call 21; refine (LC0.out _ (below_two HB0.out (heldEb (by assumption)))).mono ?_; rintro e w5 ⟨v5, rfl, ho5, hB5⟩; obtain ⟨p5, _, c5, rfl, _, _⟩ := Dm.ints_shape ho5; have HO5 := Lib.hid ho5; have HL5 := Lib.hid (HL.out.below hB5); clear ho5)
                  | (go_at_call 25; refine (SD.out _ (below_two HB0.out (heldEb (by assumption))) _ HO5.out).mono ?_; rintro e w6 ⟨v6, rfl, ho6, hB6⟩; obtain ⟨p6, _, c6, rfl, _, _⟩ := Dm.ints_shape ho6; have HO6 := Lib.hid ho6; have HL6 := Lib.hid (HL5.out.below hB6); clear ho6)
                  | (go_at_call 20; refine (AMS.out _ _ _ HO6.out).mono ?_; rintro e w7 ⟨m7, rfl, hA7, _, hB7⟩; have HA7 := Lib.hid hA7; have HL7 := Lib.hid (HL6.out.below hB7); clear hA7)
                  | (go_at_call 22; refine (KY.out _ (below_two HB0.out (heldEb (by assumption))) _ HA7.out).mono ?_; rintro e w8 ⟨rfl, hB8⟩; have hL8 := HL7.out.below hB8; obtain ⟨⟨sp, sl, sc, s0⟩, s1, s2⟩ := hL8.cells hyl; have HL8 := Lib.hid hL8; clear hL8))
              have hE := heldEb (w := W0) (by assumption)
              have HE := Lib.hid hE
              clear hE
              go_wp2_with fail
              go_meet
              exact ⟨by have h := HL8.out.set hyl Z1; rw [M1.out] at h; exact h, HE.out⟩
            case rest =>
              obtain ⟨hL, hB⟩ := hcut
              obtain ⟨wt, rfl⟩ : ∃ z, z = wc := ⟨_, rfl⟩
              clear HL HB HBX H0
              have HL := Lib.hid hL
              have HBX := Lib.hid (below_two HB0.out hB)
              clear hL hB
              go_wp2_with fail
              go_ret2
              refine ⟨_, by rw [HP2.out]; rfl, ?_, HBX.out⟩
              rw [HP2.out]
              show Slc rDom 2 _ _ (stepTo L c.vars (elemK c (domsOf L c.vars)) c.vars.length)
              rw [HL2.out, HS2.out]
              have hmm : ∀ d ∈ L, d.1.length ≤ 1000 ∧ d.2 < 18446744073709551616 := fun d hd => by
                obtain ⟨i, hi, rfl⟩ := List.getElem_of_mem hd
                refine ⟨HMM.out _ hd, ?_⟩
                have := doms_lt HSS.out i
                rwa [List.getD_eq_getElem?_getD, List.getElem?_eq_getElem hi] at this
              have hin : ∀ i, i < k → (L.getD i ([], 0)).1.length ≤ 1000 := fun i hi => HMM.out _ (doms_in (by rw [← HLN.out]; exact hi))
              refine HL.out.slc fun d hd => ?_
              rcases List.mem_or_eq_of_mem_set hd with hd | rfl
              · rcases List.mem_or_eq_of_mem_set hd with hd | rfl
                · exact hmm d hd
                · exact ⟨by rw [HDD.out.1]; exact hin _ hxl, HZS.out.1⟩
              · exact ⟨by rw [HDD.out.2]; exact hin _ hyl, HZS.out.2⟩
end Go.Proofs.YtomcgmeekmfdhaaDoor.Ge
