/-
  What sum of the document's answers for linear steps answers: what is left by a sum.
  What domains of package linear answers: the domains of some variables.
-/
import Derived.Test.YtakooocmnapjmaaDoorZIEnds
import Derived.Test.YtakooocmnapjmaaDoorZYAP
import Derived.Test.YtakooocmnapjmaaDoorZYAW
namespace Go.Proofs.YtakooocmnapjmaaDoor.St
open Go.RowKit
set_option maxRecDepth 100000

/-- of one variable: the values at which the rel may hold -/
def sumRow (vars ks : List Int) (M : List (List Int)) (rel ag : Int) (i : Nat) : List Int :=
  (M.getD (vars.getD i 0).toNat []).filter fun x => mayG ((endsTo vars ks M i vars.length).1 + ks.getD i 0 * x) ((endsTo vars ks M i vars.length).2 + ks.getD i 0 * x) rel ag
def sumL (vars ks : List Int) (M : List (List Int)) (rel ag : Int) : List (List Int) := setTo M vars (sumRow vars ks M rel ag) vars.length

theorem nums_below {w wr : World} {p : Option Addr} {b off len : Nat} {xs : List Int} (h : Nums w p b off len xs) (hB : Below w.heap.size w wr) : Nums wr p b off len xs :=
  ⟨h.long, h.at_, fun k hk => cell_below hB (h.cell k hk), h.fit⟩
theorem made_ints (w : World) (base : Nat) (h : base ≤ w.heap.size) : Dm.OwnsI (w.alloc (.cells #[] 3)) base (.slice (some ⟨w.heap.size, 0, none⟩) 0 0) [] := by
  have := World.ownsRow_made (base := base) (e := 3) (size := 1) w #[] 0 h (by decide) rfl
  exact this

theorem one_reads (w : World) (x : Int) : Dm.ReadsN (w.alloc (.cells #[.int .i64 x] 3)) (.slice (some ⟨w.heap.size, 0, none⟩) 1 1) [x] := by
  refine .inr (.inr ⟨w.heap.size, 0, 1, rfl, fun k hk => ?_⟩)
  obtain rfl : k = 0 := by simpa using hk
  simp
theorem ints_grown {w wA w8 : World} {base : Nat} {u : Value} {l : List Int} (hA : Dm.OwnsI wA base u l) (hg : wA.grownBy w8 u.ownBlock) (hB : Below base w wA) (hb : base ≤ wA.heap.size) : Below base w w8 :=
  hB.grown hg hb fun _ e => (ints_kind hA e).1

set_option maxHeartbeats 8000000 in
theorem rssum_any {w : World} {k r t rel : Int} {v1 v3 vl : Value} {p2 pv : Option Addr} {b2 o2 l2 c2 bv ov lv cv : Nat} {vars ks : List Int} {M : List (List Int)} (hO : Ok vars ks M) (hv : Nums w pv bv ov lv vars) (hk : Nums w p2 b2 o2 l2 ks) (hM : ListsAt w 0 vl M) (hn : M.length ≤ 1000) (_ : Fit r) (_ : Fit t) :
    Calls Tryd.prog 30 #[.agg #[.int .i64 k, v1, .slice p2 l2 c2, .int .i64 r, .int .i64 t, v3], .slice pv lv cv, .int .i64 rel, vl] w fun e w' => ∃ x, e = .returned x ∧ ListsAt w' w.heap.size x (sumL vars ks M rel t) ∧ Below w.heap.size w w' := by
  have hp := hv.at_
  have HL := Lib.hid hv.long
  have HS := Lib.hid hv
  have HK := Lib.hid hk
  have HO := Lib.hid hO
  have HX := Lib.hid hM
  obtain ⟨R, hR⟩ : ∃ R, R = sumL vars ks M rel t := ⟨_, rfl⟩
  rw [← hR]
  have HR := Lib.hid hR
  have hl1 : lv ≤ 1000 := by rw [hv.long]; exact hO.few
  obtain ⟨W0, hW0⟩ : ∃ W0, W0 = w.alloc (.cells #[.int .i64 k, v1, .slice p2 l2 c2, .int .i64 r, .int .i64 t, v3] 24) := ⟨_, rfl⟩
  have HB0 := Lib.hid (show Below w.heap.size w W0 by rw [hW0]; exact new_below _ _)
  have HQ0 := Lib.hid (show ∀ j u, [Value.int .i64 k, v1, .slice p2 l2 c2, .int .i64 r, .int .i64 t, v3][j]? = some u → W0.cell? ⟨w.heap.size, j, none⟩ = some u by rw [hW0]; exact six_at _ _ _ _ _ _ _ _)
  have HSZ := Lib.hid (show W0.heap.size = w.heap.size + 1 by rw [hW0, World.size_alloc])
  obtain ⟨W1, hW1⟩ : ∃ W1, W1 = W0.alloc (.cells #[] 22) := ⟨_, rfl⟩
  have HW := Lib.hid (show W1 = (w.alloc (.cells #[.int .i64 k, v1, .slice p2 l2 c2, .int .i64 r, .int .i64 t, v3] 24)).alloc (.cells #[] 22) by rw [hW1, hW0])
  have B1 := Lib.hid (show Below W0.heap.size W0 W1 by rw [hW1]; exact new_below _ _)
  have HOWN := Lib.hid (show ListsAt W1 (w.heap.size + 1) (.slice (some ⟨w.heap.size + 1, 0, none⟩) 0 0) [] by rw [hW1, ← HSZ.out]; exact ownsP_made _ _ _ _ (Nat.le_refl _))
  have HM1 := Lib.hid (hM.below (below_two HB0.out B1.out))
  have HLV := Lib.hid (show w.heap.size + 1 ≤ W1.heap.size by rw [← HSZ.out]; exact B1.out.size)
  have HBB := Lib.hid (show Below (w.heap.size + 1) W0 W1 by rw [← HSZ.out]; exact B1.out)
  have hsm : ([] : List (List Int)).length + M.length ≤ 100000 := by simp; omega
  obtain ⟨pm, capm, rfl⟩ := hM.shape
  clear hO hv hk hM hR hW0 hW1
  go_enter Tryd.func30, Tryd.ntmps30
  go_wp2_with (at_builtin; rw [← HW.out]; refine put_all rfl _ _ rfl rfl rfl HOWN.out HM1.out hsm HLV.out ?_; intro p8 cap8 w8 hp1 hp2; rw [List.nil_append] at hp1; have HN := Lib.hid (lists_all HOWN.out hp1 hp2 HBB.out HLV.out); clear hp1 hp2; rw [List.length_nil, Nat.zero_add] at *)
  go_loopw [10] (fun i wr => ∃ j : Nat, j ≤ lv ∧ i = .int .i64 j ∧ ListsAt wr (w.heap.size + 1) (.slice p8 M.length cap8) (setTo M vars (sumRow vars ks M rel t) j) ∧ Below (w.heap.size + 1) W0 wr) (fun i _ => lv - (intOf i).toNat)
  case atStart => exact ⟨0, by omega, rfl, HN.out.1, HN.out.2⟩
  case round =>
    rename_i wr
    obtain ⟨j, hj, rfl, hown, hB⟩ := hrel
    have HOw := Lib.hid hown
    have HB := Lib.hid hB
    clear hown hB
    by_cases hlt : j < lv
    · obtain rfl := hp (by omega)
      have hjv : j < vars.length := by have := HL.out; omega
      have hjk : j < l2 := by have := HO.out.long; have := HK.out.long; omega
      obtain rfl := HK.out.at_ (by omega)
      have BW := Lib.hid (show Below w.heap.size w wr from below_two HB0.out (by have h := HB.out; rw [← HSZ.out] at h; exact h))
      have EX := Lib.hid (rends_any (cv := cv) (ck := c2) HO.out (nums_below HS.out BW.out) (nums_below HK.out BW.out) (HX.out.below BW.out) (j : Int))
      obtain ⟨lo, hlo⟩ : ∃ x, x = (endsTo vars ks M j vars.length).1 := ⟨_, rfl⟩
      obtain ⟨hi, hhi⟩ : ∃ x, x = (endsTo vars ks M j vars.length).2 := ⟨_, rfl⟩
      have hbd := HO.out.ends_le j vars.length (Nat.le_refl _)
      have hfew := HO.out.few
      rw [← hlo, ← hhi] at EX hbd
      have hbd2 : -1099511627776000 ≤ lo ∧ lo ≤ hi ∧ hi ≤ 1099511627776000 := by omega
      have hvj := HO.out.vin j hjv
      have hsc := setTo_succ M vars (sumRow vars ks M rel t) j
      have hsl := setTo_length M vars (sumRow vars ks M rel t) j
      have cvw := (nums_below HS.out BW.out).cell j hlt
      have ckw := (nums_below HK.out BW.out).cell j hjk
      have q2 := (HB.out.cell (p := ⟨w.heap.size, 2, none⟩) (Nat.lt_succ_self _)).trans (HQ0.out 2 _ rfl)
      have q4 := (HB.out.cell (p := ⟨w.heap.size, 4, none⟩) (Nat.lt_succ_self _)).trans (HQ0.out 4 _ rfl)
      have hrow : sumRow vars ks M rel t j = (M.getD (vars.getD j 0).toNat []).filter fun x => mayG (lo + ks.getD j 0 * x) (hi + ks.getD j 0 * x) rel t := by rw [hlo, hhi]; rfl
      have hmul : ∀ i, i < (M.getD (vars.getD j 0).toNat []).length → _ := fun i hi => HO.out.mul hjv hi
      obtain ⟨y, hy⟩ : ∃ y, y = vars.getD j 0 := ⟨_, rfl⟩
      rw [← hy] at hvj cvw hsc hrow hmul
      obtain ⟨y, rfl⟩ := Int.eq_ofNat_of_zero_le hvj.1
      simp only [Int.toNat_natCast] at hvj hsc hrow hmul
      have hyM : y < M.length := by omega
      have hshort := (HO.out.small (M.getD y []) (by rw [List.getD_eq_getElem?_getD, List.getElem?_eq_getElem hyM]; exact List.getElem_mem hyM)).1
      obtain ⟨g, cap, u, em, _, _, _, cg, _, hu⟩ := (HX.out.below BW.out).row hyM
      simp only [Value.slice.injEq] at em
      obtain ⟨rfl, _, rfl⟩ := em
      obtain ⟨pu, gu, cu, rfl, hpu, hcu⟩ := Dm.ints_shape hu
      obtain ⟨l, hl⟩ : ∃ l, l = M.getD y [] := ⟨_, rfl⟩
      rw [← hl] at hvj hrow hmul cg hpu hcu hshort
      obtain rfl := hpu hvj.2.2
      obtain ⟨kk, hkk⟩ : ∃ x, x = ks.getD j 0 := ⟨_, rfl⟩
      rw [← hkk] at ckw hrow hmul
      obtain ⟨n, hn4⟩ : ∃ n, n = l.length := ⟨_, rfl⟩
      rw [← hn4] at cg hcu hmul hshort
      have HROW := Lib.hid hrow
      have HMUL := Lib.hid hmul
      have HN4 := Lib.hid hn4
      have HCU := Lib.hid hcu
      have HSC := Lib.hid hsc
      have HSL := Lib.hid hsl
      have HD := Lib.hid hbd2
      have d5 : (j : Int) < (lv : Int) := by omega
      have d6 : (j : Int) < (l2 : Int) := by omega
      have d7 : (y : Int) < (M.length : Int) := hvj.2.1
      have D := Lib.hid (And.intro cvw (And.intro ckw (And.intro q2 (And.intro q4 cg))))
      clear hlo hhi hbd hbd2 hfew hsc hsl hrow hmul hy hl hkk hn4 hu hcu hvj hpu q4 cg ckw hjv hjk
      go_wp2_with fail
      refine EX.out.mono ?_
      rintro e w7 ⟨rfl, hB7⟩
      have HB7 := Lib.hid hB7
      have D7 := Lib.hid (And.intro (cell_below hB7 D.out.1) (And.intro (cell_below hB7 D.out.2.1) (And.intro (cell_below hB7 D.out.2.2.1) (And.intro (cell_below hB7 D.out.2.2.2.1) (cell_below hB7 D.out.2.2.2.2)))))
      have HCU7 := Lib.hid (fun k hk => cell_below hB7 (HCU.out k hk))
      clear hB7
      go_wp2_with fail
      go_loopw [13, 14] (fun ll i wx => ∃ m : Nat, m ≤ n ∧ i = .int .i64 m ∧ Dm.OwnsI wx w7.heap.size ll ((l.take m).filter fun x => mayG (lo + kk * x) (hi + kk * x) rel t) ∧ Below w7.heap.size w7 wx) (fun _ i _ => n - (intOf i).toNat)
      case atStart => exact ⟨0, by omega, rfl, made_ints _ _ (Nat.le_refl _), new_below _ _⟩
      case round =>
        obtain ⟨m, hm, rfl, hli, hBx⟩ := hrel
        have HLI := Lib.hid hli
        have HBX := Lib.hid hBx
        clear hli hBx
        have e1 := cell_below HBX.out D7.out.1
        have e2 := cell_below HBX.out D7.out.2.1
        have e3 := cell_below HBX.out D7.out.2.2.1
        have e4 := cell_below HBX.out D7.out.2.2.2.1
        have e5 := cell_below HBX.out D7.out.2.2.2.2
        by_cases hmn : m < n
        · have hml : m < l.length := by have := HN4.out; omega
          have e6 := cell_below HBX.out (HCU7.out m hmn)
          have hmm := HMUL.out m hmn
          have hd := HD.out
          have d8 : (m : Int) < (n : Int) := by omega
          obtain ⟨x, hx⟩ : ∃ x, x = l.getD m 0 := ⟨_, rfl⟩
          rw [← hx] at e6 hmm
          have hfs : (l.take (m + 1)).filter (fun x => mayG (lo + kk * x) (hi + kk * x) rel t) = (l.take m).filter (fun x => mayG (lo + kk * x) (hi + kk * x) rel t) ++ (if mayG (lo + kk * x) (hi + kk * x) rel t = true then [x] else []) := by
            rw [List.take_succ_eq_append_getElem hml, List.filter_append]
            have : l[m] = x := by rw [hx]; simp [List.getD, List.getElem?_eq_getElem hml]
            rw [this, List.filter_cons, List.filter_nil]
          have hfl : ((l.take m).filter (fun x => mayG (lo + kk * x) (hi + kk * x) rel t)).length ≤ 1000 := Nat.le_trans (List.length_filter_le _ _) (by rw [List.length_take]; omega)
          obtain ⟨F, hF⟩ : ∃ F, F = (l.take m).filter (fun x => mayG (lo + kk * x) (hi + kk * x) rel t) := ⟨_, rfl⟩
          obtain ⟨F2, hF2⟩ : ∃ F, F = (l.take (m + 1)).filter (fun x => mayG (lo + kk * x) (hi + kk * x) rel t) := ⟨_, rfl⟩
          rw [← hF, ← hF2] at hfs
          rw [← hF] at hfl HLI
          have HF2 := Lib.hid hF2
          have MX := Lib.hid (fun u => rmayG_any (lo + kk * x) (hi + kk * x) rel t u)
          obtain ⟨bb, hbb⟩ : ∃ bb, bb = mayG (lo + kk * x) (hi + kk * x) rel t := ⟨_, rfl⟩
          rw [← hbb] at MX hfs
          have HFS := Lib.hid hfs
          clear hfs hF hF2 hx hbb hml
          go_wp2
          go_quiet (fail)
          go_wp2_with fail
          refine (MX.out _).mono ?_
          rintro e w9 ⟨rfl, hB9⟩
          have HB9 := Lib.hid (show Below wr.heap.size wr w9 from below_two (below_drewN (Below.refl _ wr)) hB9)
          have f1 := cell_below HB9.out e1
          have f5 := cell_below HB9.out e5
          have f6 := cell_below HB9.out e6
          have HB79 := Lib.hid (below_two HBX.out HB9.out)
          have HL9 := Lib.hid (owns_below HLI.out HB9.out)
          clear hB9 e1 e2 e3 e4 e5 e6
          cases bb
          · have HFS2 := Lib.hid (show F2 = F by rw [HFS.out]; simp)
            go_wp2_with fail
            go_roundw
            case rel => exact ⟨m + 1, by omega, by go_num, by rw [← HF2.out, HFS2.out]; exact HL9.out, HB79.out⟩
            case measure => simp [intOf]; omega
          · have HFS2 := Lib.hid (show F2 = F ++ [x] by rw [HFS.out]; simp)
            have HA9 := Lib.hid (owns_below HL9.out (new_below w9 (.cells #[.int .i64 x] 3)))
            have HR9 := Lib.hid (one_reads w9 x)
            have hlen9 : F.length + [x].length ≤ 100000 := by simp; omega
            have HLA := Lib.hid (show w7.heap.size ≤ (w9.alloc (.cells #[.int .i64 x] 3)).heap.size from Nat.le_trans HB79.out.size (new_below w9 _).size)
            go_wp2_with (at_builtin; refine Dm.wpList_append_ints rfl _ _ rfl w7.heap.size _ _ F [x] rfl rfl HA9.out HR9.out hlen9 HLA.out ?_; intro v' w10 hp1 hp2; have HN10 := Lib.hid (And.intro hp1 (ints_grown HA9.out hp2 (below_two HB79.out (new_below w9 _)) HLA.out)); clear hp1 hp2)
            go_roundw
            case rel => exact ⟨m + 1, by omega, by go_num, by rw [← HF2.out, HFS2.out]; exact HN10.out.1, HN10.out.2⟩
            case measure => simp [intOf]; omega
        · have d8 : ¬ ((m : Int) < (n : Int)) := by omega
          obtain rfl : m = n := by omega
          have hBr := below_two HB7.out HBX.out
          have HOX := Lib.hid (HOw.out.below hBr)
          have hfin : (l.take m).filter (fun x => mayG (lo + kk * x) (hi + kk * x) rel t) = sumRow vars ks M rel t j := by rw [HROW.out, List.take_of_length_le (by have := HN4.out; omega)]
          rw [hfin] at HLI
          have hyS : y < (setTo M vars (sumRow vars ks M rel t) j).length := by rw [HSL.out]; exact hyM
          obtain ⟨g8, cap9, u9, ev, hg1, _, _, c8, fr8, _⟩ := HOX.out.row hyS
          simp only [Value.slice.injEq] at ev
          obtain ⟨rfl, hev, rfl⟩ := ev
          clear hev
          obtain ⟨p13, _, c13, rfl, _, _⟩ := Dm.ints_shape HLI.out
          have HST := Lib.hid (HOX.out.stored hyS (owns_low HLI.out (Nat.zero_le _)))
          rw [← HSC.out] at HST
          have HBN := Lib.hid (show Below (w.heap.size + 1) W0 (wr.setCell ⟨g8, y, none⟩ (.slice p13 (sumRow vars ks M rel t j).length c13)) from (HB.out.trans (hBr.mono (Nat.le_trans (by have := HSZ.out; omega) HB.out.size))).setCell hg1 _)
          clear hfin hBr hyS
          go_wp2_with fail
          go_roundw
          case rel => exact ⟨j + 1, by omega, by go_num, HST.out, HBN.out⟩
          case measure => simp [intOf]; omega
    · have d6 : ¬ ((j : Int) < (lv : Int)) := by omega
      have hall : R = setTo M vars (sumRow vars ks M rel t) j := by rw [HR.out, sumL]; congr 1; have := HL.out; omega
      rw [← hall] at HOw
      clear hall
      go_wp2_with fail
      go_ret
      exact ⟨_, rfl, HOw.out.low (Nat.le_succ _), below_two HB0.out (HB.out.mono (by have := HSZ.out; omega))⟩
end Go.Proofs.YtakooocmnapjmaaDoor.St
namespace Go.Proofs.YtakooocmnapjmaaDoor.St
open Go.RowKit
set_option maxRecDepth 100000

theorem dom_fun {w : World} {p : Option Addr} {b off len : Nat} {L : List (List Int × Nat)} (h : SliceOf rDom 2 w p b off len L) : ∃ F : Nat → Value × Value, ∀ i, i < len → w.cell? ⟨b, off + i * 2, none⟩ = some (F i).1 ∧ w.cell? ⟨b, off + i * 2 + 1, none⟩ = some (F i).2 ∧ rDom w [(F i).1, (F i).2] (L.getD i ([], 0)) :=
  Go.Deep.choose_lt (p := fun i (q : Value × Value) => w.cell? ⟨b, off + i * 2, none⟩ = some q.1 ∧ w.cell? ⟨b, off + i * 2 + 1, none⟩ = some q.2 ∧ rDom w [q.1, q.2] (L.getD i ([], 0))) fun i hi => by
    obtain ⟨x, u, ex, ⟨a0, a1⟩, hx⟩ := dom_at2 h hi
    have e : L.getD i ([], 0) = x := by rw [List.getD_eq_getElem?_getD, ex]; rfl
    exact ⟨(u, .int .u64 x.2), a0, a1, by rw [e]; exact hx⟩
theorem rDom_pair {w : World} {q : Value × Value} {x : List Int × Nat} (h : rDom w [q.1, q.2] x) : ∃ (p : Option Addr) (l c n : Nat), q = (.slice p l c, .int .u64 (n : Int)) := by
  obtain ⟨u, e, h1, _⟩ := h
  obtain ⟨q1, q2⟩ := q
  simp only [List.cons.injEq, and_true] at e
  obtain ⟨rfl, rfl⟩ := e
  obtain ⟨p, n, c, rfl⟩ := Dm.reads_slice (Dm.reads_of_readsN h1)
  exact ⟨p, _, c, x.2, rfl⟩
/-- the domains of some variables -/
def domsOf (L : List (List Int × Nat)) (vars : List Int) : List (List Int × Nat) := vars.map fun v => L.getD v.toNat ([], 0)
theorem doms_get {L : List (List Int × Nat)} {vars : List Int} {k : Nat} (h : k < vars.length) : (domsOf L vars).getD k ([], 0) = L.getD (vars.getD k 0).toNat ([], 0) := by
  unfold domsOf
  rw [List.getD_eq_getElem?_getD, List.getElem?_map, List.getElem?_eq_getElem h]
  simp [List.getD, List.getElem?_eq_getElem h]

set_option maxHeartbeats 1000000 in
theorem domains_any {w : World} {pv p : Option Addr} {bv ov lv cv b off c len : Nat} {vars : List Int} {L : List (List Int × Nat)} (hv : Nums w pv bv ov lv vars) (h : SliceOf rDom 2 w p b off len L) (hl : lv ≤ 1000) (hin : ∀ k, k < vars.length → 0 ≤ vars.getD k 0 ∧ vars.getD k 0 < (L.length : Int)) :
    Calls Tryd.prog 22 #[.slice pv lv cv, .slice p len c] w fun e w' => e = .returned (.slice (some ⟨w.heap.size, 0, none⟩) lv lv) ∧ SliceOf rDom 2 w' (some ⟨w.heap.size, 0, none⟩) w.heap.size 0 lv (domsOf L vars) ∧ Below w.heap.size w w' := by
  have hm := make_doms lv hl
  have NV := Lib.hid hv
  have HS := Lib.hid h
  have hp := h.at_
  obtain ⟨F, hF⟩ := dom_fun h
  have HF := Lib.hid hF
  have HIN := Lib.hid (show ∀ k, k < lv → 0 ≤ vars.getD k 0 ∧ vars.getD k 0 < (len : Int) by rw [h.long, hv.long]; exact hin)
  clear hv h hin hF
  go_enter Tryd.func22, Tryd.ntmps22
  go_wp2
  go_loopw [13] (fun i wr => ∃ k : Nat, k ≤ lv ∧ i = .int .i64 k ∧ Row2 lv 47 wr w.heap.size (fun j => if j < k then F (vars.getD j 0).toNat else (.slice none 0 0, .int .u64 0)) ∧ Below w.heap.size w wr) (fun i _ => lv - (intOf i).toNat)
  case atStart => exact ⟨0, by omega, rfl, (row2_made lv _ _ _ w).congr fun i _ => by simp, new_below _ _⟩
  case round =>
    rename_i wr
    obtain ⟨k, hk, rfl, hrow, hB⟩ := hrel
    have hsz := hB.size
    by_cases hlt : k < lv
    · obtain rfl := NV.out.at_ (by omega)
      have hx := HIN.out k hlt
      have a0 := cell_below hB (NV.out.cell k hlt)
      have f0 := hrow.frozen (k * 2)
      have f1 := hrow.frozen (k * 2 + 1)
      have c0 := hrow.cell0 hlt
      have c1 := hrow.cell1 hlt
      rw [if_neg (Nat.lt_irrefl k)] at c0 c1
      obtain ⟨x, ex⟩ : ∃ x, x = vars.getD k 0 := ⟨_, rfl⟩
      rw [← ex] at a0 hx
      obtain ⟨x, rfl⟩ := Int.eq_ofNat_of_zero_le hx.1
      have hxl : x < len := by omega
      obtain rfl := hp (by omega)
      obtain ⟨r0, r1, hr⟩ := HF.out x hxl
      obtain ⟨p9, l9, c9, n9, e9⟩ := rDom_pair hr
      rw [e9] at r0 r1
      replace r0 := cell_below hB r0
      replace r1 := cell_below hB r1
      have HZ := Lib.hid (show F (vars.getD k 0).toNat = (.slice p9 l9 c9, .int .u64 (n9 : Int)) by rw [← ex, ← e9]; simp)
      have HR := Lib.hid hrow
      have HB := Lib.hid hB
      have hx2 : (x : Int) < (len : Int) := hx.2
      have hx1 : (0 : Int) ≤ (x : Int) := hx.1
      clear hrow hB ex hr e9 hx
      go_wp2_with fail
      go_roundw
      case rel =>
        refine ⟨k + 1, by omega, by go_num, HR.out.set hlt _ _ ?_ (fun j hj => ?_), (HB.out.setCell (Nat.le_refl _) _).setCell (Nat.le_refl _) _⟩
        · rw [if_pos (by omega)]; exact HZ.out
        · by_cases h : j < k
          · rw [if_pos h, if_pos (by omega)]
          · rw [if_neg h, if_neg (by omega)]
      case measure => simp [intOf]; omega
    · have e : k = lv := by omega
      subst e
      have HR := Lib.hid hrow
      have HB := Lib.hid hB
      clear hrow hB
      go_wp2
      go_ret
      have hl := NV.out.long
      refine ⟨rfl, ⟨by unfold domsOf; rw [List.length_map]; exact hl, fun _ => rfl, fun j a ha => ?_⟩, HB.out⟩
      have hj : j < k := by
        have := (List.getElem?_eq_some_iff.1 ha).1
        unfold domsOf at this
        rw [List.length_map] at this
        omega
      have ea : a = L.getD (vars.getD j 0).toNat ([], 0) := by
        rw [← doms_get (by omega), List.getD_eq_getElem?_getD, ha]; rfl
      have hx := HIN.out j hj
      obtain ⟨_, _, hr⟩ := HF.out (vars.getD j 0).toNat (by omega)
      refine ⟨[(F (vars.getD j 0).toNat).1, (F (vars.getD j 0).toNat).2], rfl, fun i hi => ?_, by rw [ea]; exact rDom_stays _ _ _ _ HB.out hr⟩
      have c0 := HR.out.cell0 hj
      have c1 := HR.out.cell1 hj
      rw [if_pos hj] at c0 c1
      rw [Nat.zero_add]
      match i, hi with
      | 0, _ => exact c0
      | 1, _ => exact c1
end Go.Proofs.YtakooocmnapjmaaDoor.St
