/-
  What Changed answers of a trail, cells of type Int.
-/
import Derived.Test.YtkajkfapleecaaaTUndoI
import Derived.Test.YtkajkfapleecaaaTList
namespace Go.Proofs.Ytkajkfapleecaaa
open Go.RowKit

/-- what was collected so far: the cells that have another thing, and whose entries aren't to come -/
def Gotint (σ : Tr Int) (left : Lit → Bool) (xs : List Int) : Prop :=
  xs.Nodup ∧ ∀ y, y ∈ xs ↔ ∃ i : Nat, y = (i : Int) ∧ i < σ.n ∧ σ.diff i = true ∧ left (.int .i64 (i : Int)) = false

def ChgRelint (σ : Tr Int) (b r c : Nat) (w : World) (D : DataW Int) (left : Lit → Bool) (cn : Nat) (v : Value) (wr : World) : Prop :=
  wr.ranges Try.prog 3 ints.rd b r c D left cn ∧ ∃ xs, OwnsI wr (w.heap.size + 1) v xs ∧ Gotint σ left xs ∧ xs.length + cn ≤ 1000 ∧ Below w.heap.size w wr ∧ w.heap.size + 1 ≤ wr.heap.size ∧ ∀ kl, left kl = true → Maps.has D kl = true

def Listsint (σ : Tr Int) (w : World) (e : Ending) (w' : World) : Prop := ∃ v, e = .returned v ∧ OwnsI w' w.heap.size v σ.changed ∧ Below w.heap.size w w'

theorem got_skip_int {σ : Tr Int} {left : Lit → Bool} {xs : List Int} {i : Nat} (h : Gotint σ left xs) (hd : σ.diff i = false) : Gotint σ (fun kl => left kl && !kl.sameKey (.int .i64 (i : Int))) xs := by
  refine ⟨h.1, fun y => ?_⟩
  rw [h.2 y]
  constructor
  · rintro ⟨j, h1, h2, h3, h4⟩
    exact ⟨j, h1, h2, h3, by simp [h4]⟩
  · rintro ⟨j, h1, h2, h3, h4⟩
    have e : j ≠ i := by rintro rfl; rw [hd] at h3; cases h3
    have h4 : (left (.int .i64 (j : Int)) && !(Lit.int .i64 (j : Int)).sameKey (.int .i64 (i : Int))) = false := h4
    rw [Maps.sameKey_ne (fun e1 => e (by injection e1 with _ e2; omega))] at h4
    exact ⟨j, h1, h2, h3, by simpa using h4⟩
theorem got_add_int {σ : Tr Int} {left : Lit → Bool} {xs : List Int} {i : Nat} (h : Gotint σ left xs) (hi : i < σ.n) (hd : σ.diff i = true) (hl : left (.int .i64 (i : Int)) = true) : Gotint σ (fun kl => left kl && !kl.sameKey (.int .i64 (i : Int))) (xs ++ [(i : Int)]) := by
  have hni : (i : Int) ∉ xs := fun hm => by
    obtain ⟨j, h1, h2, h3, h4⟩ := (h.2 _).1 hm
    obtain rfl : i = j := by omega
    rw [hl] at h4
    cases h4
  refine ⟨List.nodup_append.2 ⟨h.1, by simp, fun x hx y hy e => hni (by rw [List.mem_singleton.1 hy] at e; rw [← e]; exact hx)⟩, fun y => ?_⟩
  rw [List.mem_append, h.2 y, List.mem_singleton]
  constructor
  · rintro (⟨j, h1, h2, h3, h4⟩ | rfl)
    · exact ⟨j, h1, h2, h3, by simp [h4]⟩
    · exact ⟨i, rfl, hi, hd, by show (left (.int .i64 (i : Int)) && !(Lit.int .i64 (i : Int)).sameKey (.int .i64 (i : Int))) = false; rw [WideAt.sameKey_self (by simp [WideAt.IsKeyLit])]; simp⟩
  · rintro ⟨j, h1, h2, h3, h4⟩
    by_cases e : j = i
    · exact .inr (by rw [h1, e])
    · have h4 : (left (.int .i64 (j : Int)) && !(Lit.int .i64 (j : Int)).sameKey (.int .i64 (i : Int))) = false := h4
      rw [Maps.sameKey_ne (fun e1 => e (by injection e1 with _ e2; omega))] at h4
      exact .inl ⟨j, h1, h2, h3, by simpa using h4⟩
theorem changed_sorted_int {σ : Tr Int} {left : Lit → Bool} {xs : List Int} (h : Gotint σ left xs) (hl : ∀ kl, left kl = false) : sorted xs = σ.changed := by
  refine asc_ext ?_ ?_ (fun y => ?_)
  · have hn : (sorted xs).Nodup := (List.mergeSort_perm xs _).nodup_iff.2 h.1
    exact asc_of (sorted_up xs) hn
  · unfold Tr.changed
    rw [List.pairwise_map]
    exact (List.pairwise_lt_range.filter _).imp (fun h => by simpa using h)
  · rw [sorted_mem, h.2 y]
    unfold Tr.changed
    simp only [List.mem_map, List.mem_filter, List.mem_range]
    constructor
    · rintro ⟨i, h1, h2, h3, _⟩
      exact ⟨i, ⟨h2, h3⟩, h1.symm⟩
    · rintro ⟨i, ⟨h2, h3⟩, h1⟩
      exact ⟨i, h1.symm, h2, h3, hl _⟩

set_option maxRecDepth 100000 in
set_option maxHeartbeats 1600000 in
theorem changed_some_int {M : Nat} {w : World} {a bc bh cap b : Nat} {ms : List (Option Nat)} {gs : Nat → Nat → Option Int} {σ : Tr Int} (hP : Partsint M w a bc bh cap ms gs σ) (hk : ms[σ.top]? = some (some b)) :
    Calls Try.prog 16 #[.pointer (some ⟨a, 0, none⟩)] w (Listsint σ w) := by
  have htm := hP.tops
  have hh := hP.hc htm
  rw [hk] at hh
  have c1 := hP.c1
  have c2 := hP.c2
  obtain ⟨m, hm⟩ : ∃ m, m = ms.length := ⟨_, rfl⟩
  obtain ⟨t, ht⟩ : ∃ t, t = σ.top := ⟨_, rfl⟩
  rw [← hm] at c1 htm
  rw [← ht] at c2 hh htm
  have h1 : (0 : Int) ≤ (t : Int) := by omega
  have h3 : (t : Int) < (m : Int) := by omega
  have HP := Lib.hid hP
  have HM := Lib.hid hm
  have HT := Lib.hid ht
  have HK := Lib.hid hk
  obtain ⟨D, hown, hsays, hdom⟩ := hP.maps σ.top b hk
  have hownd := hown.drew
  have hsize : Maps.size D ≤ 1000 := Nat.le_trans hown.size_le (Nat.le_trans (cnt_le _ _) hP.small)
  have HSI := Lib.hid hsize
  clear hsize
  obtain ⟨w0, hrun, hrg0, hg0, hs0⟩ := hownd.range (Maps.int_keyed undk_int) und_int
  have HD := Lib.hid hsays
  have Hdom := Lib.hid hdom
  have HR0 := Lib.hid hrg0
  have HG0 := Lib.hid hg0
  have HS0 := Lib.hid hs0
  clear hP hm ht hk hsays hdom hown hownd hrg0 hg0 hs0
  go_enter Try.func16, Try.ntmps16
  go_wp2
  go_region
  have hsz : w.drew.heap.size = w.heap.size := rfl
  simp only [hsz] at hrun ⊢
  rw [hsz] at HR0 HS0
  have hB0 : Below w.heap.size w w0 := ⟨HG0.out.os, HG0.out.tape, HG0.out.output, by rw [HS0.out]; exact Nat.le_succ _, fun k hk => HG0.out.block k hk (by simp)⟩
  have hGot : Gotint σ (Maps.has D) [] := by
    refine ⟨List.nodup_nil, fun y => ⟨fun h => (by cases h), ?_⟩⟩
    rintro ⟨i, rfl, hi, hd, hl⟩
    rw [HD.out.has i] at hl
    have h5 := HP.out.olds σ.top (Nat.le_refl _) i hi
    rw [if_pos rfl] at h5
    unfold Tr.diff at hd
    cases hg : gs σ.top i with
    | none => rw [hg] at h5; simp [h5] at hd
    | some x => rw [hg] at hl; cases hl
  have HA := Lib.hid (show ChgRelint σ b w.heap.size (cnt (gs σ.top) σ.n) w D (Maps.has D) (Maps.size D) (.slice none 0 0) w0 from ⟨HR0.out, [], World.ownsRow_nil _ _ _ _, hGot, by simpa using HSI.out, hB0, by rw [HS0.out]; exact Nat.le_refl _, fun _ h => h⟩)
  have HB2 := Lib.hid (HP.out.ne2 HK.out)
  have HL := Lib.hid HP.out.lts
  have HN := Lib.hid HP.out.ne1
  obtain ⟨i0, hi0, hz0, hz1, hz2⟩ := info_parts info3
  have HI0 := Lib.hid hi0
  have HZ0 := Lib.hid hz0
  have HZ1 := Lib.hid hz1
  have HZ2 := Lib.hid hz2
  clear hB0 hGot HR0 HG0 HS0 hsz hrun hh c1 c2 hi0 hz0 hz1 hz2
  go_wp2
  go_loopw [3, 4] (fun v _ wr => ∃ (left : Lit → Bool) (cn : Nat), ChgRelint σ b w.heap.size (cnt (gs σ.top) σ.n) w D left cn v wr) (fun _ _ wr => wr.rangeLeft b w.heap.size)
  case atStart => exact ⟨_, _, HA.out⟩
  case round =>
    obtain ⟨left, cn, hrg, xs, hown, hgot, hlen, hB, hsz, hleft⟩ := hrel
    have HLN := Lib.hid hlen
    have HG := Lib.hid hgot
    have HO := Lib.hid hown
    have HB := Lib.hid hB
    have HS := Lib.hid hsz
    have HLe := Lib.hid hleft
    clear hgot hown hlen hB hsz hleft HA
    go_wp2_with (first
      | (at_next; refine wpList_next_ranges _ rfl _ rfl 3 (Maps.int_keyed undk_int) ints.rd (Value.int .i64) (Value.int .i64) (fun key kl hkey => by obtain ⟨x, rfl, _⟩ := Maps.keyOf_int_inv undk_int hkey; exact ⟨x, rfl⟩) (fun v y hv => by obtain ⟨c, rfl, _⟩ := ints.rd_inv hv; exact ⟨c, rfl⟩) b w.heap.size _ D left cn rfl hrg ?_ ?_)
      | go_in)
    · intro _ hl0
      have HL0 := Lib.hid hl0
      clear hl0 hrg
      go_wp2_with fail
      refine (sort_any HO.out (Below.refl _ wr) HS.out (by have := HLN.out; omega)).mono ?_
      rintro e w1 ⟨rfl, hown1, hB1⟩
      have HF := Lib.hid (show Listsint σ w (.returned u3) w1 from by
        refine ⟨u3, rfl, ?_, HB.out.trans (hB1.mono (Nat.le_succ _))⟩
        rw [← changed_sorted_int HG.out HL0.out]
        exact owns_low hown1 (Nat.le_succ _))
      clear hown1 hB1
      go_wp2
      go_ret
      exact HF.out
    · intro x c kl yd yp w1 cnt1 hkey hlx hy hat hrg1 hlt1 hg1 hs1
      obtain ⟨x', e1, rfl, _⟩ := Maps.keyOf_int_inv undk_int hkey
      obtain rfl : x = x' := by injection e1
      obtain ⟨i, z, e2, hgi⟩ := HD.out.2 _ (HLe.out _ hlx)
      obtain rfl : x = (i : Int) := by injection e2
      have hi := Hdom.out i z hgi
      obtain rfl : c = z := by
        obtain ⟨c', e3, e4⟩ := ints.rd_inv hy
        have e5 := ints.inj (show ints.enc c = ints.enc c' from e3)
        have e6 := (HD.out.1 i z hgi).2 .nil
        rw [hat .nil, (Prod.mk.inj e4).1] at e6
        injection e6 with e6
        rw [e5, e6]
      have hold : σ.old σ.top i = c := by
        have h5 := HP.out.olds σ.top (Nat.le_refl _) i hi
        rw [hgi] at h5
        exact h5
      have hB1 : Below w.heap.size w w1 := HB.out.grown hg1 HB.out.size (fun k e => by cases e; exact Nat.le_refl _)
      have c0 : w1.cell? ⟨a, 0, none⟩ = some (.slice (some ⟨bc, 0, none⟩) σ.n σ.n) := cell_below hB1 HP.out.c0
      have ci : w1.cell? ⟨bc, i * 2, none⟩ = some (.int .i64 (σ.cur i)) := cell_below hB1 (HP.out.cells.thing hi)
      obtain ⟨y, hye⟩ : ∃ y, y = σ.cur i := ⟨_, rfl⟩
      obtain ⟨n, hn⟩ : ∃ n, n = σ.n := ⟨_, rfl⟩
      rw [← hn] at c0
      rw [← hye] at ci
      have hno : ∀ k, u3.ownBlock = some k → w.heap.size + 1 ≤ k := fun k hk => (World.ownsRow.lt HO.out k hk).1
      have hown1 : OwnsI w1 (w.heap.size + 1) u3 xs := World.ownsRow.kept HO.out hg1 (.inr (fun e => by have := hno _ e; omega))
      have hdiff : σ.diff i = !decide (y = c) := by
        unfold Tr.diff
        rw [hold, hye]
        simp
      have HY := Lib.hid hlx
      have hi0 : (0 : Int) ≤ (i : Int) := by omega
      have hi1 : (i : Int) < (n : Int) := by omega
      have hsz1 : w.heap.size + 1 ≤ w1.heap.size := by rw [hs1]; exact HS.out
      have hcn : xs.length + cnt1 + 1 ≤ 1000 := by have := HLN.out; omega
      have Hcn := Lib.hid hcn
      have Hlt := Lib.hid hlt1
      have HNO := Lib.hid hno
      have HO1 := Lib.hid hown1
      have HDI := Lib.hid hdiff
      have HSZ1 := Lib.hid hsz1
      have HB1 := Lib.hid hB1
      have HI := Lib.hid hi
      have HYE := Lib.hid hye
      have HNN := Lib.hid hn
      have HR1 := Lib.hid hrg1
      have HR := Lib.hid hrg
      have hkeep : ∀ kl : Lit, (left kl && !kl.sameKey (.int .i64 (i : Int))) = true → Maps.has D kl = true := fun kl h => HLe.out kl (by simp at h; exact h.1)
      have HKP := Lib.hid hkeep
      clear hye hn hno hown1 hdiff hsz1 hB1 hi hrg1 hrg hold hgi hlx hat hy hg1 hs1 hlt1 hcn hkeep e1 e2 hkey
      intro hen
      by_cases hyc : y = c
      · have d1 : decide (y = c) = true := decide_eq_true hyc
        have HYC := Lib.hid hyc
        clear hyc
        go_wp2_with (go_at_call 31; refine (same_int _ _ _).mono ?_; rintro e w' ⟨rfl, rfl⟩)
        have HF := Lib.hid (show ChgRelint σ b w.heap.size (cnt (gs σ.top) σ.n) w D (fun kl => left kl && !kl.sameKey (.int .i64 (i : Int))) cnt1 u3 w1 from
          ⟨HR1.out, xs, HO1.out, got_skip_int HG.out (by rw [HDI.out, d1]; rfl), by have := Hcn.out; omega, HB1.out, HSZ1.out, HKP.out⟩)
        go_roundw
        case rel => exact ⟨_, _, HF.out⟩
        case measure =>
          rw [HF.out.1.left_eq, HR.out.left_eq]
          exact Hlt.out
      · have d1 : decide (y = c) = false := decide_eq_false hyc
        have HYC := Lib.hid hyc
        clear hyc
        go_wp2_with (first
          | (go_at_call 31; refine (same_int _ _ _).mono ?_; rintro e w' ⟨rfl, rfl⟩)
          | (at_builtin; refine wpList_append_own_at _ rfl _ _ 38 rfl (w.heap.size + 1) 3 i0 (.int .i64 0) 1 8 Try.underlying38 HI0.out HZ0.out HZ1.out HZ2.out rfl (by decide) u3 xs.length (xs.map (Value.int .i64)) rfl (World.ownsRow.alloc HO1.out _) ⟨w1.heap.size, 0, none⟩ 1 1 [.int .i64 (i : Int)] rfl rfl (cell_one_new _ _ _) (by simp [Value.oneCell']) (by have := Hcn.out; unfold maxLen; omega) (by have := Hcn.out; omega) (by have := HSZ1.out; simp; omega) ?_; intro v' w2 hown2 hgrow2 hnil2 hloc2))
        have HF := Lib.hid (show ChgRelint σ b w.heap.size (cnt (gs σ.top) σ.n) w D (fun kl => left kl && !kl.sameKey (.int .i64 (i : Int))) cnt1 v' w2 from by
          have hbl := HL.out b (by simp [mem_blocks HK.out])
          refine ⟨(HR1.out.alloc _).kept hgrow2 ?_ ?_, xs ++ [(i : Int)], by simpa [OwnsI] using hown2, got_add_int HG.out HI.out (by rw [HDI.out, d1]; rfl) HY.out, by have := Hcn.out; simp; omega, (HB1.out.alloc (Nat.le_of_succ_le HSZ1.out) _).grown hgrow2 (by have := HSZ1.out; simp; omega) (fun k e => by have := HNO.out k e; omega), Nat.le_trans (by have := HSZ1.out; simp; omega) hgrow2.size, HKP.out⟩
          · intro e
            have := HNO.out b e.symm
            omega
          · intro e
            have := HNO.out _ e.symm
            omega)
        clear hown2 hgrow2 hnil2 hloc2
        go_roundw
        case rel => exact ⟨_, _, HF.out⟩
        case measure =>
          rw [HF.out.1.left_eq, HR.out.left_eq]
          exact Hlt.out

set_option maxRecDepth 100000 in
set_option maxHeartbeats 1600000 in
theorem changed_nil_int {M : Nat} {w : World} {a bc bh cap : Nat} {ms : List (Option Nat)} {gs : Nat → Nat → Option Int} {σ : Tr Int} (hP : Partsint M w a bc bh cap ms gs σ) (hk : ms[σ.top]? = some none) :
    Calls Try.prog 16 #[.pointer (some ⟨a, 0, none⟩)] w (Listsint σ w) := by
  have htm := hP.tops
  have hh := hP.hc htm
  rw [hk] at hh
  have c1 := hP.c1
  have c2 := hP.c2
  obtain ⟨m, hm⟩ : ∃ m, m = ms.length := ⟨_, rfl⟩
  obtain ⟨t, ht⟩ : ∃ t, t = σ.top := ⟨_, rfl⟩
  rw [← hm] at c1 htm
  rw [← ht] at c2 hh htm
  have h1 : (0 : Int) ≤ (t : Int) := by omega
  have h3 : (t : Int) < (m : Int) := by omega
  have hg0 : gs σ.top = fun _ => none := hP.nils σ.top (fun b e => by rw [hk] at e; cases e)
  have hch : σ.changed = [] := by
    unfold Tr.changed
    rw [List.map_eq_nil_iff, List.filter_eq_nil_iff]
    intro i hi
    have h5 := hP.olds σ.top (Nat.le_refl _) i (by simpa using hi)
    rw [if_pos rfl, hg0] at h5
    have h6 : σ.old σ.top i = σ.cur i := h5
    unfold Tr.diff
    simp [h6]
  have HCH := Lib.hid hch
  have HP := Lib.hid hP
  have HM := Lib.hid hm
  have HT := Lib.hid ht
  have hrg := run_range_nilMap (P := Try.prog) w.drew 62 3 3 und_int
  have hnx : ∀ ty, (Instr.next (.pointer (some ⟨w.drew.heap.size, 0, none⟩)) false ty).run Try.prog (w.drew.alloc (.mapIter none 0 #[] 0)) = _ := fun ty => run_next_nilMap w.drew ty 0 0 #[]
  have hsz : w.drew.heap.size = w.heap.size := rfl
  rw [hsz] at hrg hnx
  have hB : Below w.heap.size w (w.drew.alloc (.mapIter none 0 #[] 0)) := (Below.refl _ w).drew.alloc (Nat.le_refl _) _
  have hB1 : w.heap.size ≤ (w.drew.alloc (.mapIter none 0 #[] 0)).heap.size := hB.size
  generalize w.drew.alloc (.mapIter none 0 #[] 0) = w1 at *
  have HB := Lib.hid hB
  have HB1 := Lib.hid hB1
  clear hP hm ht hk hg0 hch hsz hB hB1
  go_enter Try.func16, Try.ntmps16
  go_wp2
  go_region
  go_wp2
  refine wp_loop_rounds 1 ?_
  rw [rounds_succ]
  go_wp2_with (go_at_call 32; refine (sort_any (xs := []) (World.ownsRow_nil _ _ _ _) (Below.refl _ _) HB1.out (by simp)).mono ?_; rintro e w2 ⟨rfl, hown2, hB2⟩)
  have HF := Lib.hid (show Listsint σ w (.returned (.slice none 0 0)) w2 from by
    refine ⟨_, rfl, ?_, HB.out.trans hB2⟩
    have e1 : sorted [] = [] := List.eq_nil_of_length_eq_zero (sorted_length [])
    rw [e1] at hown2
    rw [HCH.out]
    exact hown2)
  clear hown2 hB2
  go_ret
  exact HF.out

theorem changed_int {M : Nat} {w : World} {F : List Nat} {a : Nat} {σ : Tr Int} (h : Atint M w F a σ) : Calls Try.prog 16 #[.pointer (some ⟨a, 0, none⟩)] w (Listsint σ w) := by
  obtain ⟨bc, bh, cap, ms, gs, hP, rfl⟩ := h
  have htm := hP.tops
  obtain ⟨o, ho⟩ : ∃ o, ms[σ.top]? = some o := ⟨_, List.getElem?_eq_getElem htm⟩
  cases o with
  | none => exact changed_nil_int hP ho
  | some b => exact changed_some_int hP ho
end Go.Proofs.Ytkajkfapleecaaa
