/-
  A variable that the program's parser takes.
  How far the program's parser has come with a block. Nothing of the program's text.
-/
import Derived.Test.YtkgieaoahijheaaGreatDoorZYBB
namespace Go.Proofs.YtkgieaoahijheaaGreatDoor.Pp
open Go.RowKit
open Sc (Tok Cells str noTok)
open Pa
set_option maxRecDepth 100000

section
variable {w0 w w' : World} {g n bl ol cl nb base : Nat} {pv : Option Addr} {m cv : Nat} {T : List Tok} {len : Nat} {r : Rd} {v : Value}
theorem take_name (r : Rd) (o : Option Tok) : (takeF (namedO o) r).2 = (nameF r o).2 := by
  unfold takeF nameF
  split <;> rfl
theorem name_right {r : Rd} {o : Option Tok} (h : (nameF r o).2.wrong = false) : (nameF r o).1 = textO o := by
  unfold nameF at h ⊢
  split
  · rfl
  · rename_i hk
    rw [if_neg hk] at h
    cases h
theorem DAt.keeps {B : Nat} {v0 v1 : Value} {s : ByteArray} {L : List (Int × Int)} (h : DAt w0 w g n bl ol cl nb v0 T len B s v1 L r pv m cv) (hg : w.grownBy w' (Value.slice pv m cv).ownBlock) : w'.cell? ⟨g, 2, none⟩ = some (.slice pv m cv) ∧ w'.frozen? ⟨g, 2, none⟩ = false := by
  have eg := named_ty hg (fun k e => h.rd.nm.kind e) h.rd.ty (by decide)
  exact ⟨(World.cell?_of_block (w := w) (a := ⟨g, 2, none⟩) eg).trans h.rd.c2, (World.frozen?_of_block (w := w) (a := ⟨g, 2, none⟩) eg).trans h.rd.f2⟩
theorem span_cells (w : World) (lo hi : Int) : ∀ (j : Nat) (u : Value), [Value.int .i64 lo, .int .i64 hi][j]? = some u → (w.alloc (.cells #[.int .i64 lo, .int .i64 hi] 71)).cell? ⟨w.heap.size, j, none⟩ = some u := fun j u hj =>
  (cell_of_row _ w.heap.size j _ 71 (0, 0) (heap_alloc_new w _)).trans (by simpa using hj)
/-- what is handed back -/
theorem DAt.ends {B : Nat} {v0 : Value} {s : ByteArray} {L : List (Int × Int)} {p : Option Addr} {c : Nat} {X : PDecl × Rd} {sT : Txt} (h : DAt w0 w g n bl ol cl nb v0 T len B s (.slice p L.length c) L r pv m cv) (hX : X = (⟨sT, L⟩, r)) (hs : txt s = sT) (hm : m ≤ r.at_) {x y : Value} :
    NEnds w0 g n bl ol cl nb v0 T len X (DeclE w0 X.1) (.returned (.agg #[.string s, .slice p L.length c])) ((w.setCell ⟨w0.heap.size, 0, none⟩ x).setCell ⟨w0.heap.size, 1, none⟩ y) := by
  rw [hX]
  have k2 : ∃ cs, (w.setCell ⟨w0.heap.size, 0, none⟩ x).heap[w0.heap.size]? = some (.cells cs 45) := span_kind h.res.kind
  exact ⟨(h.but.trans (G := fun i => i = w0.heap.size) (But.set ⟨w0.heap.size, 0, none⟩ x fun _ => rfl) (fun i hi e => by omega)).trans (G := fun i => i = w0.heap.size) (But.set ⟨w0.heap.size, 1, none⟩ y fun _ => rfl) (fun i hi e => by omega), .inl ⟨h.rd.ok, ⟨pv, m, cv, (h.rd.put h.res.kind (by decide) (by decide) (by decide)).put k2 (by decide) (by decide) (by decide), h.fn, hm⟩, s, p, c, rfl, hs, OwnsP.set (OwnsP.set (h.dom.low (by omega)) h.res.kind (by decide)) k2 (by decide)⟩⟩
set_option maxHeartbeats 8000000 in
theorem declP_any (K : Nat) (h : PAt w g n bl ol cl nb pv m cv T len r) (hv : ∀ t ∈ T, t.value ≤ 2000000000000) (hm : m ≤ r.at_) (hnb : nb ≤ w.heap.size) (hK : n < K) (hn : n ≤ 9000) :
    Calls Tryz.prog 80 #[.pointer (some ⟨g, 0, none⟩)] w (NEnds w g n bl ol cl nb (.slice pv m cv) T len (declQ K T r) (DeclE w (declQ K T r).1)) := by
  obtain ⟨X, hX⟩ : ∃ X, X = declQ K T r := ⟨_, rfl⟩
  rw [← hX]
  rw [decl_formQ] at hX
  have HB0 := Lib.hid (fun o => (Below.refl _ w).alloc (Nat.le_refl _) o)
  have H := Lib.hid (h.below (HB0.out (.cells #[.string ⟨#[]⟩, .slice none 0 0] 45)))
  have IN := Lib.hid (isname_any H.out)
  obtain ⟨o, ho⟩ : ∃ o, o = next T r := ⟨_, rfl⟩
  rw [← ho] at IN hX
  obtain ⟨bk, hbk⟩ : ∃ bk, bk = namedO o := ⟨_, rfl⟩
  rw [← hbk] at IN
  have TK := Lib.hid (fun (W : World) (hB : Below _ _ W) => takes_any bk (H.out.below hB) (fun e => by rw [h.long]; exact next_some (by rw [← ho]; exact named_some (hbk.symm.trans e))))
  rw [← ho] at TK
  have hst : (takeF bk r).2 = (nameF r o).2 := by rw [hbk]; exact take_name r o
  have hnr := name_right (r := r) (o := o)
  have hup : (nameF r o).2.wrong = false → (nameF r o).2.at_ = r.at_ + 1 ∧ (nameF r o).2.vars = r.vars := fun e => by
    unfold nameF at e ⊢
    split
    · exact ⟨rfl, rfl⟩
    · rename_i hk
      rw [if_neg hk] at e
      cases e
  obtain ⟨x1, hx1⟩ : ∃ x1, x1 = nameF r o := ⟨_, rfl⟩
  rw [← hx1] at hX hst hnr hup
  obtain ⟨sT, r1⟩ := x1
  simp only at hX hst hnr hup
  have HX := Lib.hid hX
  have HST := Lib.hid hst
  have HNR := Lib.hid hnr
  have HUP := Lib.hid hup
  have HML := Lib.hid (show m = r.vars.length from (nm_of_owns h.nm).1)
  clear h hX ho hbk hst hnr hup hx1
  go_enter Tryz.func80, Tryz.ntmps80
  go_wp2_with fail
  refine IN.out.mono ?_
  rintro e w1 ⟨rfl, hB1⟩
  have TK1 := Lib.hid (TK.out w1 hB1)
  have B1 := Lib.hid hB1
  clear hB1
  go_wp2_with fail
  refine TK1.out.mono ?_
  rintro e w2 ⟨hB, ⟨hw, hP, kd, vv, a, q0, rfl, hkd, hvv, ha, hq⟩ | ⟨hw, rfl⟩⟩
  rotate_left
  · rw [HST.out] at hw
    have HG := Lib.hid (nends_no (g := g) (n := n) (bl := bl) (ol := ol) (cl := cl) (nb := nb) (v0 := .slice pv m cv) (T := T) (len := len) (V := DeclE w X.1) (((But.below (HB0.out _)).trans (G := fun _ => False) (F := NF g (.slice pv m cv)) (But.below B1.out) (fun _ _ e => e.elim)).trans hB (fun i _ e => .inl e)) ((tame_restD K sT).after HX.out hw))
    rw [HST.out]
    unfold gone at HG ⊢
    clear hw hB
    go_wp2_with fail
    exact ⟨rfl, HG.out⟩
  rw [HST.out] at hw hP
  obtain ⟨hat, hvars⟩ := HUP.out hw
  have HQ := Lib.hid (hq.trans (HNR.out hw).symm)
  have hf := fun W => fld1 (kd : Int) (vv : Int) (a : Int) q0 W
  have HBT := Lib.hid (((But.below (HB0.out (.cells #[.string ⟨#[]⟩, .slice none 0 0] 45))).trans (G := fun _ => False) (F := NF g (.slice pv m cv)) (But.below B1.out) (fun _ _ e => e.elim)).trans hB (fun i _ e => .inl e))
  have HH := Lib.hid hP
  have HRS := Lib.hid (show Box2 w2 w.heap.size (.string ⟨#[]⟩) (.slice none 0 0) from (stays_but (g := g) (w := w1) hB (by
      obtain ⟨cs, e⟩ := H.out.ty
      exact ⟨cs, (B1.out.block g (Array.getElem?_eq_some_iff.1 e).1).trans e⟩) (by decide) ⟨_, (B1.out.block w.heap.size (by simp)).trans (heap_alloc_new w _)⟩).trans ((B1.out.block w.heap.size (by simp)).trans (heap_alloc_new w _)))
  have HAT := Lib.hid hat
  have HVA := Lib.hid hvars
  have HWR := Lib.hid hw
  clear hkd hvv ha hq hB hP hat hvars hw
  go_wp2_with fail
  obtain ⟨D, hD⟩ : ∃ D, D = w2.heap.size := ⟨_, rfl⟩
  obtain ⟨wd, hwd⟩ : ∃ wd, wd = w2.alloc (.cells #[.string q0, .slice none 0 0] 45) := ⟨_, rfl⟩
  have hBd : Below w2.heap.size w2 wd := by rw [hwd]; exact (Below.refl _ w2).alloc (Nat.le_refl _) _
  have HD := Lib.hid (show DAt w wd g n bl ol cl nb (.slice pv m cv) T len D q0 (.slice none 0 0) [] r1 pv m cv from
    ⟨HH.out.below hBd, by rw [hwd, hD]; exact heap_alloc_new w2 _, HRS.out.below hBd, ownsP_nil _ _ _ _ _, HBT.out.trans (G := fun _ => False) (But.below hBd) (fun _ _ e => e.elim), fun k e => .inl (.inr e), by have := HRS.out.lt; omega⟩)
  have HNB := Lib.hid (show nb ≤ wd.heap.size from Nat.le_trans hnb HD.out.but.size)
  rw [← hwd, ← hD]
  clear hBd hwd hD hf
  go_cut [] from 10 to 20 (fun wx => ∃ (p : Option Addr) (cap : Nat), DAt w wx g n bl ol cl nb (.slice pv m cv) T len D q0 (.slice none 0 0) [] { r1 with vars := r1.vars ++ [sT] } p (r1.vars.length + 1) cap)
  case first =>
    have c2 := HD.out.rd.c2
    have f2 := HD.out.rd.f2
    have b0 := HD.out.box.cell 0 rfl
    have hgl := HD.out.rd.glt
    have hbl := HD.out.box.lt
    have HAV := Lib.hid ((HD.out.below (below_drewN (n := 1) (Below.refl _ wd))).below ((Below.refl _ (wd.drewN 1)).alloc (Nat.le_refl _) (.cells #[.string q0] 9)))
    have HCV := Lib.hid (show ∀ (j : Nat) (u : Value), [Value.string q0][j]? = some u → ((wd.drewN 1).alloc (.cells #[.string q0] 9)).cell? ⟨wd.heap.size, j, none⟩ = some u from fun j u hj => by
      have hj0 : j = 0 := by
        have := (List.getElem?_eq_some_iff.1 hj).1
        simp at this
        omega
      subst hj0
      simp at hj
      subst hj
      exact cell_of_row _ wd.heap.size 0 _ 9 (0, 0) (heap_alloc_new (wd.drewN 1) _))
    have HSN := Lib.hid (show nameP [Value.string q0] sT by rw [Sc.str_txt q0, show Sc.txt q0 = txt q0 from rfl, HQ.out]; rfl)
    have hl6 : r1.vars.length ≤ 100000 := by rw [HVA.out, ← HML.out]; have := HD.out.rd.top; have := HAT.out; omega
    have HLV := Lib.hid (show nb ≤ ((wd.drewN 1).alloc (.cells #[.string q0] 9)).heap.size from Nat.le_trans HNB.out ((HD.out.below (below_drewN (n := 1) (Below.refl _ wd))).rd.below ((Below.refl _ (wd.drewN 1)).alloc (Nat.le_refl _) (.cells #[.string q0] 9)) |> fun _ => ((Below.refl _ (wd.drewN 1)).alloc (Nat.le_refl _) (.cells #[.string q0] 9)).size))
    go_region_law (refine put_row_step info9 rfl (by decide) (by decide) Tryz.underlying64 rfl _ _ rfl rfl rfl HAV.out.rd.nm rfl HCV.out (by simp [Value.oneCell']) HSN.out hl6 HLV.out ?_; intro p7 cap7 w7 hp1 hp2 hp3; have HN := Lib.hid (HAV.out.name (q := sT) hp1 hp2 hp3); have kk := HAV.out.keeps hp2; have c2 := kk.1; have f2 := kk.2; clear hp1 hp2 hp3 kk)
    all_goals go_wp2_with fail
    all_goals go_meet
    all_goals exact ⟨_, _, HN.out⟩
  case rest =>
    obtain ⟨pn, capn, hdn⟩ := hcut
    obtain ⟨we, hwe⟩ : ∃ we, we = wc := ⟨_, rfl⟩
    rw [← hwe] at hdn ⊢
    have HE := Lib.hid hdn
    clear hdn hwe HD
    obtain ⟨m1, hm1⟩ : ∃ m1, m1 = r1.vars.length + 1 := ⟨_, rfl⟩
    obtain ⟨r2, hr2⟩ : ∃ r2, r2 = { r1 with vars := r1.vars ++ [sT] } := ⟨_, rfl⟩
    rw [← hm1, ← hr2] at HE
    have HM1 := Lib.hid (show m1 ≤ r2.at_ by rw [hm1, hr2, HVA.out, ← HML.out]; have := HAT.out; show m + 1 ≤ r1.at_; omega)
    have HX1 := Lib.hid (show X = (seq (Pa.look (mustF tIn)) fun _ => seq rangeOne fun d => spansD K sT [d]) T r2 by rw [HX.out, hr2]; rfl)
    have WX := Lib.hid (want_any ⟨#[105, 110]⟩ (by decide) HE.out.rd)
    rw [show txt ⟨#[105, 110]⟩ = tIn from rfl] at WX
    obtain ⟨y, hy⟩ : ∃ y, y = mustF tIn r2 (next T r2) := ⟨_, rfl⟩
    have HX2 := Lib.hid (show X = (seq rangeOne fun d => spansD K sT [d]) T y.2 by rw [HX1.out, hy]; rfl)
    have hup3 : r2.at_ ≤ y.2.at_ := by rw [hy]; exact (tame_must (s := tIn) (by decide)).up T r2
    rw [← hy] at WX
    clear hm1 hr2 hy
    obtain ⟨u0, r3⟩ := y
    simp only at HX2 hup3
    go_wp2_with fail
    refine WX.out.mono ?_
    rintro e w3 ⟨hB, ⟨hw, hP, rfl⟩ | ⟨hw, rfl⟩⟩
    rotate_left
    · have HG := Lib.hid (nends_no (g := g) (n := n) (bl := bl) (ol := ol) (cl := cl) (nb := nb) (v0 := .slice pv m cv) (T := T) (len := len) (V := DeclE w X.1) (but_nf HE.out.but hB) ((tame_seq tame_one fun d => tame_spansD K sT [d]).after HX2.out hw))
      unfold gone at HG ⊢
      clear hw hB
      go_wp2_with fail
      exact ⟨rfl, HG.out⟩
    have H3 := Lib.hid (show DAt w w3 g n bl ol cl nb (.slice pv m cv) T len D q0 (.slice none 0 0) [] r3 pn m1 capn from HE.out.moved hP hB)
    have SX := Lib.hid (span_any hP hv)
    have hrf := range_few (r := r3) hv
    have hwt := range_went T r3
    obtain ⟨y, hy⟩ : ∃ y, y = rangeOne T r3 := ⟨_, rfl⟩
    rw [← hy] at SX hrf hwt
    have HX4 := Lib.hid (show X = spansD K sT [y.1] T y.2 by rw [HX2.out, hy]; rfl)
    clear hB hw hP hy
    obtain ⟨⟨lo, hi⟩, r4⟩ := y
    simp only at HX4 hrf
    have HRF := Lib.hid hrf
    have hu4 := hwt.up
    have HON4 := Lib.hid hwt.on
    simp only at hu4
    clear hrf hwt
    go_wp2_with fail
    refine SX.out.mono ?_
    rintro e w4 ⟨hB, ⟨hw, hP, rfl⟩ | ⟨hw, rfl⟩⟩
    rotate_left
    · have HG := Lib.hid (nends_no (g := g) (n := n) (bl := bl) (ol := ol) (cl := cl) (nb := nb) (v0 := .slice pv m cv) (T := T) (len := len) (V := DeclE w X.1) (but_nf H3.out.but hB) ((tame_spansD K sT [(lo, hi)]).after HX4.out hw))
      unfold gone at HG ⊢
      clear hw hB
      go_wp2_with fail
      exact ⟨rfl, HG.out⟩
    have H4 := Lib.hid (show DAt w w4 g n bl ol cl nb (.slice pv m cv) T len D q0 (.slice none 0 0) [] r4 pn m1 capn from H3.out.moved hP hB)
    have hlt4 : r3.at_ < r4.at_ := HON4.out.resolve_left (by simp only at hw ⊢; rw [hw]; simp)
    have H5 := Lib.hid (H4.out.below ((Below.refl _ w4).alloc (Nat.le_refl _) (.cells #[.int .i64 lo, .int .i64 hi] 71)))
    have HS1 := Lib.hid (show w.heap.size + 1 ≤ w4.heap.size from by have := H4.out.res.lt; omega)
    have H6 := Lib.hid (H5.out.setDom (span_one HRF.out.1 HRF.out.2 HS1.out))
    have b1 := H5.out.box.cell 1 rfl
    have f1 := H5.out.box.frozen 1
    clear hw hP hB
    go_wp2_with fail
    go_loopw [] (fun wr => ∃ (j : Nat) (L : List (Int × Int)) (rr : Rd) (p : Option Addr) (c : Nat), X = spansD j sT L T rr ∧ n < j + rr.at_ ∧ L.length ≤ rr.at_ ∧ m1 ≤ rr.at_ ∧ DAt w wr g n bl ol cl nb (.slice pv m cv) T len D q0 (.slice p L.length c) L rr pn m1 capn) (fun wr => n - tookOf wr g)
    case atStart => exact ⟨K, [(lo, hi)], r4, some ⟨w4.heap.size, 0, none⟩, 1, HX4.out, by omega, by simp; omega, by have := HM1.out; omega, H6.out⟩
    case round =>
      obtain ⟨ws, rfl⟩ : ∃ ws, ws = wr := ⟨_, rfl⟩
      obtain ⟨j, L, rr, p, c, hXr, hnj, hll, hmr, hda⟩ := hrel
      have htp := hda.rd.top
      have HTK := Lib.hid (took_at hda.rd)
      obtain ⟨j', rfl⟩ : ∃ j', j = j' + 1 := ⟨j - 1, by omega⟩
      rw [spansD_eq] at hXr
      have IS := Lib.hid (is_any ⟨#[45]⟩ hda.rd)
      rw [show txt ⟨#[45]⟩ = tMinus from rfl] at IS
      have IM := Lib.hid (fun q => isnum_any (hda.rd.drewN q))
      obtain ⟨bm, hbm⟩ : ∃ bm, bm = decide (textO (next T rr) = tMinus) := ⟨_, rfl⟩
      obtain ⟨bn, hbn⟩ : ∃ bn, bn = decide (kindO (next T rr) = 2) := ⟨_, rfl⟩
      rw [← hbm] at IS
      rw [← hbn] at IM
      rw [← hbm, ← hbn] at hXr
      have HX0 := Lib.hid hXr
      have HDA := Lib.hid hda
      clear hXr hda hbm hbn
      cases bm
      · cases bn
        · have HXE := Lib.hid (show X = (⟨sT, L⟩, rr) from HX0.out)
          go_wp2_with fail
          refine IS.out.mono ?_
          rintro e w7 ⟨rfl, q, hq⟩
          subst hq
          go_wp2_with fail
          refine (IM.out q).mono ?_
          rintro e w8 ⟨rfl, q', hq⟩
          have HR := Lib.hid (show DAt w w8 g n bl ol cl nb (.slice pv m cv) T len D q0 (.slice p L.length c) L rr pn m1 capn by rw [hq]; exact HDA.out.moved ((HDA.out.rd.drewN q).drewN q') (but_drewN (but_drewN (But.refl _ _) q) q'))
          have b0 := HR.out.box.cell 0 rfl
          have b1 := HR.out.box.cell 1 rfl
          have q0' := HR.out.res.cell 0 rfl
          have g0 := HR.out.res.frozen 0
          have q1 := HR.out.res.cell 1 rfl
          have g1 := HR.out.res.frozen 1
          clear hq
          go_wp2_with fail
          (try simp only [Exit.inBlock, Exit.then])
          refine bodyPost_ret (results_decl rfl _ _ w.heap.size (.string q0) (.slice p L.length c) rfl ?_ ?_) rfl ?_
          · go_simp
          · go_simp
          · exact HR.out.ends HXE.out HQ.out hmr
        · have HXR := Lib.hid (show X = spansD j' sT (L ++ [(rangeOne T rr).1]) T (rangeOne T rr).2 from HX0.out)
          go_wp2_with fail
          refine IS.out.mono ?_
          rintro e w7 ⟨rfl, q, hq⟩
          subst hq
          go_wp2_with fail
          refine (IM.out q).mono ?_
          rintro e wz ⟨rfl, q', hq⟩
          have HR := Lib.hid (show DAt w wz g n bl ol cl nb (.slice pv m cv) T len D q0 (.slice p L.length c) L rr pn m1 capn by rw [hq]; exact HDA.out.moved ((HDA.out.rd.drewN q).drewN q') (but_drewN (but_drewN (But.refl _ _) q) q'))
          have HSZ1 := Lib.hid (show w.heap.size + 1 ≤ wz.heap.size from by have := HR.out.res.lt; omega)
          clear hq
          have SX := Lib.hid (fun q => span_any (HR.out.rd.drewN q) hv)
          have hrf := range_few (r := rr) hv
          have hwt := range_went T rr
          obtain ⟨y, hy⟩ : ∃ y, y = rangeOne T rr := ⟨_, rfl⟩
          rw [← hy] at SX hrf hwt
          have HXS := Lib.hid (show X = spansD j' sT (L ++ [y.1]) T y.2 by rw [HXR.out, hy])
          clear hy
          obtain ⟨⟨lo, hi⟩, r5⟩ := y
          simp only at hrf HXS
          have HF1 := Lib.hid hrf
          have HWT := Lib.hid hwt
          have b1 := HR.out.box.cell 1 rfl
          have hdl := HR.out.box.lt
          clear hrf hwt
          go_upto_region 6 with fail
          cases hwv : r5.wrong with
          | true =>
            have SN := Lib.hid (fun q => ends_gone hwv (SX.out q))
            have HG := Lib.hid (fun (q : Nat) (w' : World) (hB : But (fun i => i = g) (wz.drewN q) w') => (nends_no (g := g) (n := n) (bl := bl) (ol := ol) (cl := cl) (nb := nb) (v0 := .slice pv m cv) (T := T) (len := len) (V := DeclE w X.1) (rx := r5) (but_nf (but_drewN HR.out.but q) hB) ((tame_spansD j' sT (L ++ [(lo, hi)])).after HXS.out hwv)))
            unfold gone at SN HG
            clear hwv
            go_region_dies
            all_goals (refine (SN.out _).mono ?_; rintro e w7 ⟨hB7, rfl⟩; (try go_simp); exact ⟨rfl, HG.out _ _ hB7⟩)
          | false =>
            have SO := Lib.hid (fun q => ends_right hwv (SX.out q))
            have HON := Lib.hid (show rr.at_ < r5.at_ from HWT.out.on.resolve_left (by show ¬ r5.wrong = true; rw [hwv]; simp))
            clear hwv
            have hl6 : L.length ≤ 100000 := by omega
            go_region_law (first
              | (refine put_row_step info41 rfl (by decide) (by decide) Tryz.underlying43 rfl _ _ rfl rfl rfl HAV.out.dom rfl HCV.out (by simp [Value.oneCell']) HSN.out hl6 HLV.out ?_; intro p7 cap7 w8 hp1 hp2 hp3; have HN := Lib.hid (HAV.out.grown hp1 hp2); have b7 := (HAV.out.box.grown (fun k e => HAV.out.dom.kind e) hp2 (by decide)).cell 1 rfl; have f7 := (HAV.out.box.grown (fun k e => HAV.out.dom.kind e) hp2 (by decide)).frozen 1; clear hp1 hp2 hp3)
              | (go_simp; go_at_call 96; refine (SO.out _).mono ?_; rintro e w7 ⟨hB7, h7, rfl⟩; have HA7 := Lib.hid ((HR.out.moved (HR.out.rd.drewN 1) (but_drewN (But.refl _ wz) 1)).moved h7 hB7); have b1 := HA7.out.box.cell 1 rfl; have HAV := Lib.hid (HA7.out.below ((Below.refl _ w7).alloc (Nat.le_refl _) (.cells #[.int .i64 lo, .int .i64 hi] 71))); have HCV := Lib.hid (span_cells w7 lo hi); have HSN := Lib.hid (show spanP [Value.int .i64 lo, .int .i64 hi] (lo, hi) from ⟨rfl, HF1.out.1, HF1.out.2⟩); have HLV := Lib.hid (show w.heap.size + 1 ≤ (w7.alloc (.cells #[.int .i64 lo, .int .i64 hi] 71)).heap.size from Nat.le_trans HSZ1.out (Nat.le_trans (show wz.heap.size ≤ w7.heap.size from hB7.size) ((Below.refl _ w7).alloc (Nat.le_refl _) (.cells #[.int .i64 lo, .int .i64 hi] 71)).size)); have bb := HA7.out.box.lt; clear h7 hB7))
            all_goals go_wp2_with fail
            all_goals
              go_roundw
              case rel => exact ⟨j', L ++ [(lo, hi)], r5, p7, cap7, HXS.out, by have := HON.out; omega, by have := HON.out; simp only [List.length_append, List.length_cons, List.length_nil]; omega, by have := HON.out; omega, by rw [List.length_append]; exact HN.out⟩
              case measure =>
                have h1 := HON.out
                have h2 := HN.out.rd.top
                simp only at h2
                rw [took_at HN.out.rd, HTK.out]
                simp only
                omega
      · have HXR := Lib.hid (show X = spansD j' sT (L ++ [(rangeOne T rr).1]) T (rangeOne T rr).2 by
          have e := HX0.out
          rw [Bool.or_true, if_pos rfl] at e
          exact e)
        go_wp2_with fail
        refine IS.out.mono ?_
        rintro e wz ⟨rfl, q, hq⟩
        have HR := Lib.hid (show DAt w wz g n bl ol cl nb (.slice pv m cv) T len D q0 (.slice p L.length c) L rr pn m1 capn by rw [hq]; exact HDA.out.moved (HDA.out.rd.drewN q) (but_drewN (But.refl _ _) q))
        have HSZ1 := Lib.hid (show w.heap.size + 1 ≤ wz.heap.size from by have := HR.out.res.lt; omega)
        clear hq
        have SX := Lib.hid (fun q => span_any (HR.out.rd.drewN q) hv)
        have hrf := range_few (r := rr) hv
        have hwt := range_went T rr
        obtain ⟨y, hy⟩ : ∃ y, y = rangeOne T rr := ⟨_, rfl⟩
        rw [← hy] at SX hrf hwt
        have HXS := Lib.hid (show X = spansD j' sT (L ++ [y.1]) T y.2 by rw [HXR.out, hy])
        clear hy
        obtain ⟨⟨lo, hi⟩, r5⟩ := y
        simp only at hrf HXS
        have HF1 := Lib.hid hrf
        have HWT := Lib.hid hwt
        have b1 := HR.out.box.cell 1 rfl
        have hdl := HR.out.box.lt
        clear hrf hwt
        go_upto_region 6 with fail
        cases hwv : r5.wrong with
        | true =>
          have SN := Lib.hid (fun q => ends_gone hwv (SX.out q))
          have HG := Lib.hid (fun (q : Nat) (w' : World) (hB : But (fun i => i = g) (wz.drewN q) w') => (nends_no (g := g) (n := n) (bl := bl) (ol := ol) (cl := cl) (nb := nb) (v0 := .slice pv m cv) (T := T) (len := len) (V := DeclE w X.1) (rx := r5) (but_nf (but_drewN HR.out.but q) hB) ((tame_spansD j' sT (L ++ [(lo, hi)])).after HXS.out hwv)))
          unfold gone at SN HG
          clear hwv
          go_region_dies
          all_goals (refine (SN.out _).mono ?_; rintro e w7 ⟨hB7, rfl⟩; (try go_simp); exact ⟨rfl, HG.out _ _ hB7⟩)
        | false =>
          have SO := Lib.hid (fun q => ends_right hwv (SX.out q))
          have HON := Lib.hid (show rr.at_ < r5.at_ from HWT.out.on.resolve_left (by show ¬ r5.wrong = true; rw [hwv]; simp))
          clear hwv
          have hl6 : L.length ≤ 100000 := by omega
          go_region_law (first
            | (refine put_row_step info41 rfl (by decide) (by decide) Tryz.underlying43 rfl _ _ rfl rfl rfl HAV.out.dom rfl HCV.out (by simp [Value.oneCell']) HSN.out hl6 HLV.out ?_; intro p7 cap7 w8 hp1 hp2 hp3; have HN := Lib.hid (HAV.out.grown hp1 hp2); have b7 := (HAV.out.box.grown (fun k e => HAV.out.dom.kind e) hp2 (by decide)).cell 1 rfl; have f7 := (HAV.out.box.grown (fun k e => HAV.out.dom.kind e) hp2 (by decide)).frozen 1; clear hp1 hp2 hp3)
            | (go_simp; go_at_call 96; refine (SO.out _).mono ?_; rintro e w7 ⟨hB7, h7, rfl⟩; have HA7 := Lib.hid ((HR.out.moved (HR.out.rd.drewN 1) (but_drewN (But.refl _ wz) 1)).moved h7 hB7); have b1 := HA7.out.box.cell 1 rfl; have HAV := Lib.hid (HA7.out.below ((Below.refl _ w7).alloc (Nat.le_refl _) (.cells #[.int .i64 lo, .int .i64 hi] 71))); have HCV := Lib.hid (span_cells w7 lo hi); have HSN := Lib.hid (show spanP [Value.int .i64 lo, .int .i64 hi] (lo, hi) from ⟨rfl, HF1.out.1, HF1.out.2⟩); have HLV := Lib.hid (show w.heap.size + 1 ≤ (w7.alloc (.cells #[.int .i64 lo, .int .i64 hi] 71)).heap.size from Nat.le_trans HSZ1.out (Nat.le_trans (show wz.heap.size ≤ w7.heap.size from hB7.size) ((Below.refl _ w7).alloc (Nat.le_refl _) (.cells #[.int .i64 lo, .int .i64 hi] 71)).size)); have bb := HA7.out.box.lt; clear h7 hB7))
          all_goals go_wp2_with fail
          all_goals
            go_roundw
            case rel => exact ⟨j', L ++ [(lo, hi)], r5, p7, cap7, HXS.out, by have := HON.out; omega, by have := HON.out; simp only [List.length_append, List.length_cons, List.length_nil]; omega, by have := HON.out; omega, by rw [List.length_append]; exact HN.out⟩
            case measure =>
              have h1 := HON.out
              have h2 := HN.out.rd.top
              simp only at h2
              rw [took_at HN.out.rd, HTK.out]
              simp only
              omega
end
end Go.Proofs.YtkgieaoahijheaaGreatDoor.Pp
namespace Go.Proofs.YtkgieaoahijheaaGreatDoor.Pp
open Go.RowKit
open Sc (Tok Cells str noTok)
open Pa
set_option maxRecDepth 100000

section
variable {w0 w w' : World} {g n bl ol cl nb base B : Nat} {v0 : Value} {pv : Option Addr} {m cv : Nat} {T : List Tok} {len : Nat} {r r' : Rd} {v v1 v2 : Value} {all : Bool} {l : List PDecl} {cs : List PCon}
/-- only the parser and its names turn -/
theorem stays_nf {e : Nat} (h : PAt w g n bl ol cl nb pv m cv T len r) (hM : But (NF g (.slice pv m cv)) w w') (he : e ≠ 66) (he2 : e ≠ 9) {k : Nat} (hk : ∃ c, w.heap[k]? = some (.cells c e)) : w'.heap[k]? = w.heap[k]? :=
  hM.block k (Array.getElem?_eq_some_iff.1 hk.choose_spec).1 fun hn => by
    rcases hn with hn | hn
    · exact kinds_apart hk h.ty he hn
    · exact kinds_apart hk (h.nm.kind hn) he2 rfl
theorem owns_nf {α : Type} {R : List Value → α → Prop} {k e : Nat} {M : List α} (h : OwnsP R k e base w v M) (hp : PAt w g n bl ol cl nb pv m cv T len r) (hM : But (NF g (.slice pv m cv)) w w') (he : e ≠ 66) (he2 : e ≠ 9) : OwnsP R k e base w' v M := h.same fun _ hi => stays_nf hp hM he he2 (h.kind hi)
theorem decls_nf (h : DeclsAt w base v l) (hp : PAt w g n bl ol cl nb pv m cv T len r) (hM : But (NF g (.slice pv m cv)) w w') : DeclsAt w' base v l :=
  owns_nf (OwnsP.imp h (fun _ _ _ ⟨s, u, e, t, o⟩ => ⟨s, u, e, t, owns_nf o hp hM (by decide) (by decide)⟩)) hp hM (by decide) (by decide)
theorem own3_nf {c : PCon} {u1 u2 u3 : Value} (h : Own3 w base c u1 u2 u3) (hp : PAt w g n bl ol cl nb pv m cv T len r) (hM : But (NF g (.slice pv m cv)) w w') : Own3 w' base c u1 u2 u3 := h.same fun _ hk => stays_nf hp hM (by decide) (by decide) hk
theorem cons_nf (h : ConsAt w base v cs) (hp : PAt w g n bl ol cl nb pv m cv T len r) (hM : But (NF g (.slice pv m cv)) w w') : ConsAt w' base v cs :=
  owns_nf (OwnsP.imp h (fun _ _ _ ⟨u1, u2, u3, e, o⟩ => ⟨u1, u2, u3, e, own3_nf o hp hM⟩)) hp hM (by decide) (by decide)
theorem decls_low {low : Nat} (h : DeclsAt w base v l) (hl : low ≤ base) : DeclsAt w low v l := OwnsP.low (OwnsP.imp h (fun _ _ _ ⟨s, u, e, t, o⟩ => ⟨s, u, e, t, o.low hl⟩)) hl
theorem cons_low {low : Nat} (h : ConsAt w base v cs) (hl : low ≤ base) : ConsAt w low v cs := OwnsP.low (OwnsP.imp h (fun _ _ _ ⟨u1, u2, u3, e, o⟩ => ⟨u1, u2, u3, e, o.low hl⟩)) hl
theorem cons_row {f : Nat} {u : Value} (h : ConsAt w base v cs) (hu : ∀ i, u.ownBlock = some i → ∃ c, w.heap[i]? = some (.cells c f)) (hg : w.grownBy w' u.ownBlock) (h1 : 38 ≠ f) (h2 : 3 ≠ f) : ConsAt w' base v cs :=
  OwnsP.grown (OwnsP.imp h (fun _ _ _ ⟨u1, u2, u3, e, o⟩ => ⟨u1, u2, u3, e, ⟨OwnsP.grown o.o1 hu hg h2, OwnsP.grown o.o2 hu hg h2, OwnsP.grown o.o3 hu hg h2, o.p12, o.p13, o.p23⟩⟩)) hu hg h1
/-- the first variable -/
theorem decls_one {s : ByteArray} {u : Value} {d : PDecl} (hs : txt s = d.name) (o : OwnsP spanP 2 71 base w u d.dom) (hb : base ≤ w.heap.size) : DeclsAt (w.alloc (.cells #[.string s, u] 45)) base (.slice (some ⟨w.heap.size, 0, none⟩) 1 1) [d] := by
  refine ⟨[.string s, u], ⟨rfl, .inr ⟨w.heap.size, 1, _, rfl, hb, heap_alloc_new w _, Nat.le_refl _, by unfold maxLen; omega, rfl, rfl⟩⟩, rfl, fun k a hk => ?_⟩
  have hk1 := (List.getElem?_eq_some_iff.1 hk).1
  obtain rfl : k = 0 := by simp at hk1; omega
  obtain rfl : d = a := by simpa using hk
  exact ⟨_, rfl, fun j _ => by simp, s, u, rfl, hs, o.below ((Below.refl _ w).alloc (Nat.le_refl _) _)⟩
theorem decl_cells (w : World) (s : ByteArray) (u : Value) : ∀ (j : Nat) (x : Value), [Value.string s, u][j]? = some x → (w.alloc (.cells #[.string s, u] 45)).cell? ⟨w.heap.size, j, none⟩ = some x := fun j x hj =>
  (cell_of_row _ w.heap.size j _ 45 (0, 0) (heap_alloc_new w _)).trans (by simpa using hj)
structure BAt (w0 w : World) (g n bl ol cl nb : Nat) (v0 : Value) (T : List Tok) (len B : Nat) (all : Bool) (v1 : Value) (l : List PDecl) (v2 : Value) (cs : List PCon) (r : Rd) (pv : Option Addr) (m cv : Nat) : Prop where
  rd : PAt w g n bl ol cl nb pv m cv T len r
  box : Box3 w B (.bool all) v1 v2
  res : Box3 w w0.heap.size (.bool false) (.slice none 0 0) (.slice none 0 0)
  ds : DeclsAt w (w0.heap.size + 1) v1 l
  cn : ConsAt w (w0.heap.size + 1) v2 cs
  but : But (NF g v0) w0 w
  fn : ∀ k, (Value.slice pv m cv).ownBlock = some k → NF g v0 k ∨ w0.heap.size ≤ k
  new : w0.heap.size + 1 ≤ B
  mle : m ≤ r.at_
theorem BAt.moved (h : BAt w0 w g n bl ol cl nb v0 T len B all v1 l v2 cs r pv m cv) (hR : PAt w' g n bl ol cl nb pv m cv T len r') (hM : But (fun i => i = g) w w') (hu : r.at_ ≤ r'.at_) : BAt w0 w' g n bl ol cl nb v0 T len B all v1 l v2 cs r' pv m cv :=
  ⟨hR, (stays_but hM h.rd.ty (by decide) h.box.kind).trans h.box, (stays_but hM h.rd.ty (by decide) h.res.kind).trans h.res, decls_nf h.ds h.rd (nf_but hM), cons_but h.cn hM h.rd.ty, but_nf h.but hM, h.fn, h.new, Nat.le_trans h.mle hu⟩
theorem BAt.below (h : BAt w0 w g n bl ol cl nb v0 T len B all v1 l v2 cs r pv m cv) (hB : Below w.heap.size w w') : BAt w0 w' g n bl ol cl nb v0 T len B all v1 l v2 cs r pv m cv :=
  ⟨h.rd.below hB, h.box.below hB, h.res.below hB, h.ds.below hB, h.cn.below hB, h.but.trans (G := fun _ => False) (But.below hB) (fun _ _ e => e.elim), h.fn, h.new, h.mle⟩
/-- a call that may take names in -/
theorem nf_through (hb : But (NF g v0) w0 w) (hf : ∀ k, (Value.slice pv m cv).ownBlock = some k → NF g v0 k ∨ w0.heap.size ≤ k) (hM : But (NF g (.slice pv m cv)) w w') : But (NF g v0) w0 w' :=
  hb.trans hM fun i hi e => by
    rcases e with e | e
    · exact .inl e
    · exact (hf i e).resolve_right (by omega)
theorem nf_fn {pv' : Option Addr} {m' cv' : Nat} (hb : But (NF g v0) w0 w) (hf : ∀ k, (Value.slice pv m cv).ownBlock = some k → NF g v0 k ∨ w0.heap.size ≤ k) (hf2 : ∀ k, (Value.slice pv' m' cv').ownBlock = some k → NF g (.slice pv m cv) k ∨ w.heap.size ≤ k) : ∀ k, (Value.slice pv' m' cv').ownBlock = some k → NF g v0 k ∨ w0.heap.size ≤ k := fun k e => by
  rcases hf2 k e with q | q
  · rcases q with q | q
    · exact .inl (.inl q)
    · exact hf k q
  · have := hb.size
    exact .inr (by omega)
theorem BAt.named {pv' : Option Addr} {m' cv' : Nat} (h : BAt w0 w g n bl ol cl nb v0 T len B all v1 l v2 cs r pv m cv) (hR : PAt w' g n bl ol cl nb pv' m' cv' T len r') (hM : But (NF g (.slice pv m cv)) w w') (hf : ∀ k, (Value.slice pv' m' cv').ownBlock = some k → NF g (.slice pv m cv) k ∨ w.heap.size ≤ k) (hm : m' ≤ r'.at_) : BAt w0 w' g n bl ol cl nb v0 T len B all v1 l v2 cs r' pv' m' cv' :=
  ⟨hR, (stays_nf h.rd hM (by decide) (by decide) h.box.kind).trans h.box, (stays_nf h.rd hM (by decide) (by decide) h.res.kind).trans h.res, decls_nf h.ds h.rd hM, cons_nf h.cn h.rd hM, nf_through h.but h.fn hM, nf_fn h.but h.fn hf, h.new, hm⟩
theorem BAt.store {j : Nat} {x : Value} (h : BAt w0 w g n bl ol cl nb v0 T len B all v1 l v2 cs r pv m cv) : PAt (w.setCell ⟨B, j, none⟩ x) g n bl ol cl nb pv m cv T len r ∧ Box3 (w.setCell ⟨B, j, none⟩ x) w0.heap.size (.bool false) (.slice none 0 0) (.slice none 0 0) ∧ But (NF g v0) w0 (w.setCell ⟨B, j, none⟩ x) :=
  ⟨h.rd.put h.box.kind (by decide) (by decide) (by decide), (Below.heap_setCell w ⟨B, j, none⟩ x _ (show w0.heap.size ≠ B by have := h.new; omega)).trans h.res, h.but.trans (G := fun i => i = B) (But.set ⟨B, j, none⟩ x fun _ => rfl) (fun i hi (e : i = B) => by have := h.new; omega)⟩
theorem BAt.setVars {v3 : Value} {l' : List PDecl} (h : BAt w0 w g n bl ol cl nb v0 T len B all v1 l v2 cs r pv m cv) (ho : DeclsAt w (w0.heap.size + 1) v3 l') : BAt w0 (w.setCell ⟨B, 1, none⟩ v3) g n bl ol cl nb v0 T len B all v3 l' v2 cs r pv m cv :=
  ⟨h.store.1, (h.box.set v3).2.1, h.store.2.1, ho.set h.box.kind (by decide) (by decide), h.cn.set h.box.kind (by decide) (by decide), h.store.2.2, h.fn, h.new, h.mle⟩
theorem BAt.setCons {v3 : Value} {cs' : List PCon} (h : BAt w0 w g n bl ol cl nb v0 T len B all v1 l v2 cs r pv m cv) (ho : ConsAt w (w0.heap.size + 1) v3 cs') : BAt w0 (w.setCell ⟨B, 2, none⟩ v3) g n bl ol cl nb v0 T len B all v1 l v3 cs' r pv m cv :=
  ⟨h.store.1, (h.box.set v3).2.2, h.store.2.1, h.ds.set h.box.kind (by decide) (by decide), ho.set h.box.kind (by decide) (by decide), h.store.2.2, h.fn, h.new, h.mle⟩
/-- one variable more -/
theorem BAt.grown {v3 : Value} {l' : List PDecl} (h : BAt w0 w g n bl ol cl nb v0 T len B all v1 l v2 cs r pv m cv) (ho : OwnsP (declP w (w0.heap.size + 1)) 2 45 (w0.heap.size + 1) w' v3 l') (hg : w.grownBy w' v1.ownBlock) : BAt w0 (w'.setCell ⟨B, 1, none⟩ v3) g n bl ol cl nb v0 T len B all v3 l' v2 cs r pv m cv := by
  have hk : ∀ k, v1.ownBlock = some k → ∃ c, w.heap[k]? = some (.cells c 45) := fun k e => OwnsP.kind h.ds e
  have hs := h.but.size
  have h2 : BAt w0 w' g n bl ol cl nb v0 T len B all v1 l' v2 cs r pv m cv → BAt w0 (w'.setCell ⟨B, 1, none⟩ v3) g n bl ol cl nb v0 T len B all v3 l' v2 cs r pv m cv := fun h' => h'.setVars (OwnsP.imp ho (fun _ _ _ ⟨s, u, e, t, o⟩ => ⟨s, u, e, t, OwnsP.grown o hk hg (by decide)⟩))
  have hb : Box3 w' B (.bool all) v1 v2 := h.box.grown hk hg (by decide)
  have ho2 : DeclsAt w' (w0.heap.size + 1) v3 l' := OwnsP.imp ho (fun _ _ _ ⟨s, u, e, t, o⟩ => ⟨s, u, e, t, OwnsP.grown o hk hg (by decide)⟩)
  have hr2 : Box3 w' w0.heap.size (.bool false) (.slice none 0 0) (.slice none 0 0) := h.res.grown hk hg (by decide)
  have hp2 : PAt w' g n bl ol cl nb pv m cv T len r := h.rd.row hk hg (by decide) (by decide) (by decide)
  exact ⟨hp2.put hb.kind (by decide) (by decide) (by decide), (hb.set v3).2.1, (Below.heap_setCell w' ⟨B, 1, none⟩ v3 _ (show w0.heap.size ≠ B by have := h.new; omega)).trans hr2, ho2.set hb.kind (by decide) (by decide), (cons_row h.cn hk hg (by decide) (by decide)).set hb.kind (by decide) (by decide),
    (h.but.trans (G := fun i => v1.ownBlock = some i) (But.grown hg fun k e _ => e) (fun i hi e => absurd (OwnsP.lt h.ds i e).1 (by omega))).trans (G := fun i => i = B) (But.set ⟨B, 1, none⟩ v3 fun _ => rfl) (fun i hi (e : i = B) => by have := h.new; omega), h.fn, h.new, h.mle⟩
theorem nends_right {α : Type} {x : α × Rd} {V : World → Ending → Prop} {fn : Nat} {args : Array Value} (hw : x.2.wrong = false) (h : Calls Tryz.prog fn args w (NEnds w g n bl ol cl nb v0 T len x V)) : Calls Tryz.prog fn args w fun e w' => But (NF g v0) w w' ∧ (∃ (pv : Option Addr) (m cv : Nat), PAt w' g n bl ol cl nb pv m cv T len x.2 ∧ (∀ k, (Value.slice pv m cv).ownBlock = some k → NF g v0 k ∨ w.heap.size ≤ k) ∧ m ≤ x.2.at_) ∧ V w' e :=
  h.mono fun _ _ hE => ⟨hE.1, by
    rcases hE.2 with ⟨_, hp, e⟩ | ⟨hn, _⟩
    · exact ⟨hp, e⟩
    · rw [hw] at hn
      cases hn⟩
theorem nends_gone {α : Type} {x : α × Rd} {V : World → Ending → Prop} {fn : Nat} {args : Array Value} (hw : x.2.wrong = true) (h : Calls Tryz.prog fn args w (NEnds w g n bl ol cl nb v0 T len x V)) : Calls Tryz.prog fn args w fun e w' => But (NF g v0) w w' ∧ e = gone (tokP T len x.2.at_).at_ :=
  h.mono fun _ _ hE => ⟨hE.1, by
    rcases hE.2 with ⟨hn, _⟩ | ⟨_, e⟩
    · rw [hw] at hn
      cases hn
    · exact e⟩
/-- a block is handed back -/
def BlockE (w : World) (b : PBlock) (w' : World) (e : Ending) : Prop := ∃ (p1 : Option Addr) (c1 : Nat) (p2 : Option Addr) (c2 : Nat), e = .returned (.agg #[.bool b.all, .slice p1 b.vars.length c1, .slice p2 b.cons.length c2]) ∧ DeclsAt w' w.heap.size (.slice p1 b.vars.length c1) b.vars ∧ ConsAt w' w.heap.size (.slice p2 b.cons.length c2) b.cons
theorem BAt.ends {X : PBlock × Rd} {p1 p2 : Option Addr} {c1 c2 : Nat} (h : BAt w0 w g n bl ol cl nb v0 T len B all (.slice p1 l.length c1) l (.slice p2 cs.length c2) cs r pv m cv) (hX : X = (⟨all, l, cs⟩, r)) {x y z : Value} :
    NEnds w0 g n bl ol cl nb v0 T len X (BlockE w0 X.1) (.returned (.agg #[.bool all, .slice p1 l.length c1, .slice p2 cs.length c2])) (((w.setCell ⟨w0.heap.size, 0, none⟩ x).setCell ⟨w0.heap.size, 1, none⟩ y).setCell ⟨w0.heap.size, 2, none⟩ z) := by
  rw [hX]
  have one : ∀ (W : World) (j : Nat) (x : Value), ((∃ c, W.heap[w0.heap.size]? = some (.cells c 42)) ∧ PAt W g n bl ol cl nb pv m cv T len r ∧ DeclsAt W w0.heap.size (.slice p1 l.length c1) l ∧ ConsAt W w0.heap.size (.slice p2 cs.length c2) cs ∧ But (NF g v0) w0 W) →
      ((∃ c, (W.setCell ⟨w0.heap.size, j, none⟩ x).heap[w0.heap.size]? = some (.cells c 42)) ∧ PAt (W.setCell ⟨w0.heap.size, j, none⟩ x) g n bl ol cl nb pv m cv T len r ∧ DeclsAt (W.setCell ⟨w0.heap.size, j, none⟩ x) w0.heap.size (.slice p1 l.length c1) l ∧ ConsAt (W.setCell ⟨w0.heap.size, j, none⟩ x) w0.heap.size (.slice p2 cs.length c2) cs ∧ But (NF g v0) w0 (W.setCell ⟨w0.heap.size, j, none⟩ x)) := fun W j x ⟨a, b, c, d, e⟩ =>
    ⟨span_kind a, b.put a (by decide) (by decide) (by decide), c.set a (by decide) (by decide), d.set a (by decide) (by decide), e.trans (G := fun i => i = w0.heap.size) (But.set ⟨w0.heap.size, j, none⟩ x fun _ => rfl) (fun i hi (q : i = w0.heap.size) => by omega)⟩
  obtain ⟨_, a, b, c, d⟩ := one _ 2 z (one _ 1 y (one _ 0 x ⟨h.res.kind, h.rd, decls_low h.ds (by omega), cons_low h.cn (by omega), h.but⟩))
  exact ⟨d, .inl ⟨h.rd.ok, ⟨pv, m, cv, a, h.fn, h.mle⟩, p1, c1, p2, c2, rfl, b, c⟩⟩
def afterD (K : Nat) (all : Bool) (l : List PDecl) : Rx PBlock := seq (Pa.look (hasF tWhere)) fun b => seq (whereQ K b) fun cs => seq (Pa.look (mustF tSemi)) fun _ => ret ⟨all, l, cs⟩
def declsD (K j : Nat) (all : Bool) (l : List PDecl) : Rx PBlock := seq (declsQ K j l) (afterD K all)
theorem tame_after (K : Nat) (all : Bool) (l : List PDecl) : Tame (afterD K all l) := tame_seq (tame_has (by decide)) fun _ => tame_seq (tame_where K _) fun _ => tame_seq (tame_must (by decide)) fun _ => tame_ret _
theorem tame_declsD (K j : Nat) (all : Bool) (l : List PDecl) : Tame (declsD K j all l) := tame_seq (tame_decls K j l) fun _ => tame_after K all _
theorem declsD_eq (K j : Nat) (all : Bool) (l : List PDecl) (T : List Tok) (r : Rd) : declsD K (j + 1) all l T r = if (hasF tComma r (next T r)).1 = true then declsD K j all (l ++ [(declQ K T (hasF tComma r (next T r)).2).1]) T (declQ K T (hasF tComma r (next T r)).2).2 else afterD K all l T (hasF tComma r (next T r)).2 := by
  show afterD K all ((if (hasF tComma r (next T r)).1 = true then seq (declQ K) fun d => declsQ K j (l ++ [d]) else ret l) T (hasF tComma r (next T r)).2).1 T ((if (hasF tComma r (next T r)).1 = true then seq (declQ K) fun d => declsQ K j (l ++ [d]) else ret l) T (hasF tComma r (next T r)).2).2 = _
  rw [if_app]
  split <;> rfl
theorem block_formQ (K : Nat) (T : List Tok) (r : Rd) : blockQ K T r = (seq (headR (hasF tForall r (next T r)).1) fun _ => seq (declQ K) fun d => declsD K K (hasF tForall r (next T r)).1 [d]) T (hasF tForall r (next T r)).2 := rfl
end
end Go.Proofs.YtkgieaoahijheaaGreatDoor.Pp
