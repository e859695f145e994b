/-
  A model that the program's parser takes.
  What the program's parser does once it has given up: the deferred call that takes the place over.
  The program's parser reads all tokens, or tells where it gave up.
-/
import Derived.Test.YtkgieaoahijheaaGreatDoorZYBD
import Derived.Defers
import Derived.Recover
import Derived.Laws.Pointers
namespace Go.Proofs.YtkgieaoahijheaaGreatDoor.Pp
open Go.RowKit
open Sc (Tok Cells str noTok)
open Pa
set_option maxRecDepth 100000

section
variable {w0 w w' : World} {g n bl ol cl nb base : Nat} {pv : Option Addr} {m cv : Nat} {T : List Tok} {len : Nat} {r : Rd} {v : Value}
set_option maxHeartbeats 8000000 in
theorem modelP_any (K : Nat) (h : PAt w g n bl ol cl nb pv m cv T len r) (hv : ∀ t ∈ T, t.value ≤ 2000000000000) (hm : m ≤ r.at_) (hnb : nb ≤ w.heap.size) (hK : n < K) (hn : n ≤ 9000) :
    Calls Tryz.prog 35 #[.pointer (some ⟨g, 0, none⟩)] w (NEnds w g n bl ol cl nb (.slice pv m cv) T len (modelQ K T r) (ModelE w (modelQ K T r).1)) := by
  obtain ⟨X, hX⟩ : ∃ X, X = modelQ K T r := ⟨_, rfl⟩
  rw [← hX]
  rw [model_formQ] at hX
  have HB0 := Lib.hid (fun o => (Below.refl _ w).alloc (Nat.le_refl _) o)
  have H := Lib.hid (h.below (HB0.out (.cells #[.slice none 0 0, .slice none 0 0] 25)))
  have DX := Lib.hid (blockP_any K H.out hv hm (Nat.le_trans hnb (HB0.out (.cells #[.slice none 0 0, .slice none 0 0] 25)).size) hK hn)
  obtain ⟨y, hy⟩ : ∃ y, y = blockQ K T r := ⟨_, rfl⟩
  have HX3 := Lib.hid (show X = blocksD K K [y.1] T y.2 by rw [hX, hy]; rfl)
  have hup2 := (block_went K T r)
  rw [← hy] at DX hup2
  have HWT := Lib.hid hup2
  have HNB := Lib.hid hnb
  clear h hX hy hup2
  obtain ⟨d, r4⟩ := y
  simp only at HX3
  go_enter Tryz.func35, Tryz.ntmps35
  go_wp2_with fail
  refine DX.out.mono ?_
  rintro e w4 ⟨hB, ⟨hw, ⟨pv4, m4, cv4, hP, hf, hm4⟩, pd, cd, pc, cc, rfl, ho1, ho2⟩ | ⟨hw, rfl⟩⟩
  rotate_left
  · have HG := Lib.hid (nends_no (g := g) (n := n) (bl := bl) (ol := ol) (cl := cl) (nb := nb) (v0 := .slice pv m cv) (T := T) (len := len) (V := ModelE w X.1) ((But.below (HB0.out _)).trans (G := NF g (.slice pv m cv)) hB (fun _ _ e => e)) ((tame_blocksD K K [d]).after HX3.out hw))
    unfold gone at HG ⊢
    clear hw hB
    go_wp2_with fail
    exact ⟨rfl, HG.out⟩
  have e1 : (w.alloc (.cells #[.slice none 0 0, .slice none 0 0] 25)).heap.size = w.heap.size + 1 := by simp
  rw [e1] at ho1 ho2
  have hf2 : ∀ k, (Value.slice pv4 m4 cv4).ownBlock = some k → NF g (.slice pv m cv) k ∨ w.heap.size ≤ k := fun k e => (hf k e).imp id fun q => by rw [e1] at q; omega
  have hb1 : But (NF g (.slice pv m cv)) w w4 := (But.below (HB0.out (.cells #[.slice none 0 0, .slice none 0 0] 25))).trans (G := NF g (.slice pv m cv)) hB (fun _ _ e => e)
  have hrs : BoxM w4 w.heap.size (.slice none 0 0) (.slice none 0 0) := (stays_nf H.out hB (by decide) (by decide) ⟨_, heap_alloc_new w _⟩).trans (heap_alloc_new w _)
  have hs4 : w.heap.size + 1 ≤ w4.heap.size := by have := hrs.lt; omega
  have k1 := (Below.refl _ w4).alloc (Nat.le_refl _) (.cells #[.bool d.all, .slice pd d.vars.length cd, .slice pc d.cons.length cc] 42)
  have k2 := (Below.refl _ (w4.alloc (.cells #[.bool d.all, .slice pd d.vars.length cd, .slice pc d.cons.length cc] 42))).alloc (Nat.le_refl _) (.cells #[.slice (some ⟨w4.heap.size, 0, none⟩) 1 1, .slice none 0 0] 25)
  obtain ⟨wm, hwm⟩ : ∃ wm, wm = (w4.alloc (.cells #[.bool d.all, .slice pd d.vars.length cd, .slice pc d.cons.length cc] 42)).alloc (.cells #[.slice (some ⟨w4.heap.size, 0, none⟩) 1 1, .slice none 0 0] 25) := ⟨_, rfl⟩
  have hbx : BoxM wm (w4.heap.size + 1) (.slice (some ⟨w4.heap.size, 0, none⟩) 1 1) (.slice none 0 0) := by
    rw [hwm]
    have := heap_alloc_new (w4.alloc (.cells #[.bool d.all, .slice pd d.vars.length cd, .slice pc d.cons.length cc] 42)) (.cells #[.slice (some ⟨w4.heap.size, 0, none⟩) 1 1, .slice none 0 0] 25)
    unfold BoxM
    simpa using this
  have hbo := (blocks_one ho1 ho2 hs4).below k2
  have hpm := (hP.below k1).below k2
  have hrm : BoxM wm w.heap.size (.slice none 0 0) (.slice none 0 0) := by
    have q1 := (k1.block _ hrs.lt).trans hrs
    rw [hwm]
    exact (k2.block _ (Array.getElem?_eq_some_iff.1 q1).1).trans q1
  have hbm := (hb1.trans (G := fun _ => False) (But.below k1) (fun _ _ e => e.elim)).trans (G := fun _ => False) (But.below k2) (fun _ _ e => e.elim)
  rw [← hwm] at hbo hpm hbm
  obtain ⟨D, hD⟩ : ∃ D, D = w4.heap.size + 1 := ⟨_, rfl⟩
  rw [← hD] at hbx
  have H6 := Lib.hid (show MAt w wm g n bl ol cl nb (.slice pv m cv) T len D (.slice (some ⟨w4.heap.size, 0, none⟩) 1 1) [d] (.slice none 0 0) [] r4 pv4 m4 cv4 from
    ⟨hpm, hbx, hrm, hbo, cons_nil _ _, hbm, hf2, by omega, hm4⟩)
  have hon4 : r.at_ < r4.at_ := HWT.out.on.resolve_left (by simp only at hw ⊢; rw [hw]; simp)
  clear hB hw hP hf hm4 ho1 ho2 hf2 hb1 hrs hs4 k1 k2 hbx hbo hpm hrm hbm e1
  go_wp2_with fail
  rw [← hwm, ← hD]
  clear hwm hD
  go_loopw [] (fun wr => ∃ (j : Nat) (l : List PBlock) (rr : Rd) (p : Option Addr) (c : Nat) (pv' : Option Addr) (m' cv' : Nat), X = blocksD K j l T rr ∧ n < j + rr.at_ ∧ l.length ≤ rr.at_ ∧ MAt w wr g n bl ol cl nb (.slice pv m cv) T len D (.slice p l.length c) l (.slice none 0 0) [] rr pv' m' cv') (fun wr => n - tookOf wr g)
  case atStart => exact ⟨K, [d], r4, some ⟨w4.heap.size, 0, none⟩, 1, pv4, m4, cv4, HX3.out, by omega, by simp; omega, H6.out⟩
  case round =>
    obtain ⟨ws, rfl⟩ : ∃ ws, ws = wr := ⟨_, rfl⟩
    obtain ⟨j, l, rr, p, c, pv', m', cv', hXr, hnj, hll, hba⟩ := hrel
    have htp := hba.rd.top
    have HTK := Lib.hid (took_at hba.rd)
    obtain ⟨j', rfl⟩ : ∃ j', j = j' + 1 := ⟨j - 1, by omega⟩
    rw [blocksD_eq] at hXr
    have CX := Lib.hid (took_any ⟨#[103, 111, 97, 108]⟩ (by decide) hba.rd)
    rw [show txt ⟨#[103, 111, 97, 108]⟩ = tGoal from rfl] at CX
    obtain ⟨xc, hxc⟩ : ∃ xc, xc = hasF tGoal rr (next T rr) := ⟨_, rfl⟩
    have hupc := (tame_has (s := tGoal) (by decide)).up T rr
    rw [show (Pa.look (hasF tGoal) T rr).2 = (hasF tGoal rr (next T rr)).2 from rfl, ← hxc] at hupc
    rw [← hxc] at CX hXr
    have hoff : xc.1 = false → xc.2 = rr := fun e => by rw [hxc] at e ⊢; exact has_off e
    obtain ⟨bc, rc⟩ := xc
    simp only at CX hXr hoff hupc
    have HXR := Lib.hid hXr
    have HBA := Lib.hid hba
    clear hXr hba hxc
    cases bc
    · obtain rfl := hoff rfl
      have hXr := HXR.out
      rw [if_neg (by simp)] at hXr
      have HXA := Lib.hid hXr
      clear hXr hoff hupc
      go_wp2_with fail
      refine CX.out.mono ?_
      rintro e wz ⟨rfl, hP, hM⟩
      have HR := Lib.hid (show MAt w wz g n bl ol cl nb (.slice pv m cv) T len D (.slice p l.length c) l (.slice none 0 0) [] rc pv' m' cv' from HBA.out.moved hP (mbut hM) (Nat.le_refl _))
      have SX := Lib.hid (fun q => blockP_any K (HR.out.rd.drewN q) hv HR.out.mle (Nat.le_trans HNB.out HR.out.but.size) hK hn)
      obtain ⟨y, hy⟩ : ∃ y, y = blockQ K T rc := ⟨_, rfl⟩
      have HXS := Lib.hid (show X = blocksD K j' (l ++ [y.1]) T y.2 by rw [HXA.out, hy])
      have hwt := block_went K T rc
      rw [← hy] at SX hwt
      have HW5 := Lib.hid hwt
      clear hP hM hy hwt
      obtain ⟨d2, r5⟩ := y
      simp only at HXS
      have b1 := HR.out.box.cell 0 rfl
      have hdl := HR.out.box.lt
      have HSZ1 := Lib.hid (show w.heap.size + 1 ≤ wz.heap.size from by have := HR.out.res.lt; omega)
      go_upto_region 3 with fail
      cases hwv : r5.wrong with
      | true =>
        have SN := Lib.hid (fun q => nends_gone hwv (SX.out q))
        have HG := Lib.hid (fun (q : Nat) (w' : World) (hB : But (NF g (.slice pv' m' cv')) (wz.drewN q) w') => (nends_no (g := g) (n := n) (bl := bl) (ol := ol) (cl := cl) (nb := nb) (v0 := .slice pv m cv) (T := T) (len := len) (V := ModelE w X.1) (rx := r5) (nf_through (w := wz.drewN q) (but_drewN HR.out.but q) HR.out.fn hB) ((tame_blocksD K j' (l ++ [d2])).after HXS.out hwv)))
        unfold gone at SN HG
        clear hwv
        go_region_dies
        all_goals (refine (SN.out _).mono ?_; rintro e w7 ⟨hB7, rfl⟩; (try go_simp); exact ⟨rfl, HG.out _ _ hB7⟩)
      | false =>
        have SO := Lib.hid (fun q => nends_right hwv (SX.out q))
        have HON := Lib.hid (show rc.at_ < r5.at_ from HW5.out.on.resolve_left (by show ¬ r5.wrong = true; rw [hwv]; simp))
        clear hwv
        have hl6 : l.length ≤ 100000 := by omega
        go_region_law (first
          | (refine put_row_step info47b rfl (by decide) (by decide) Tryz.underlying22 rfl _ _ rfl rfl rfl HAV.out.bs rfl HCV.out (by simp [Value.oneCell']) HSN.out hl6 HLV.out ?_; intro p7 cap7 w8 hp1 hp2 hp3; have HN := Lib.hid (HAV.out.grown hp1 hp2); have b7 := (HAV.out.box.grown (fun k e => OwnsP.kind HAV.out.bs e) hp2 (by decide)).cell 0 rfl; have f7 := (HAV.out.box.grown (fun k e => OwnsP.kind HAV.out.bs e) hp2 (by decide)).frozen 0; clear hp1 hp2 hp3)
          | (go_simp; go_at_call 59; refine (SO.out _).mono ?_; rintro e w7 ⟨hB7, ⟨pv7, m7, cv7, h7, hf7, hm7⟩, pd, cd, pc, cc, rfl, ho1, ho2⟩; have HA7 := Lib.hid (((HR.out.moved (HR.out.rd.drewN 1) (but_drewN (But.refl _ wz) 1) (Nat.le_refl _)).named h7 hB7 hf7 hm7)); have b1 := HA7.out.box.cell 0 rfl; have HAV := Lib.hid (HA7.out.below ((Below.refl _ w7).alloc (Nat.le_refl _) (.cells #[.bool d2.all, .slice pd d2.vars.length cd, .slice pc d2.cons.length cc] 42))); have HCV := Lib.hid (block_cells w7 d2.all (.slice pd d2.vars.length cd) (.slice pc d2.cons.length cc)); have HSN := Lib.hid (show blockP (w7.alloc (.cells #[.bool d2.all, .slice pd d2.vars.length cd, .slice pc d2.cons.length cc] 42)) (w.heap.size + 1) [Value.bool d2.all, .slice pd d2.vars.length cd, .slice pc d2.cons.length cc] d2 from ⟨_, _, rfl, (decls_low ho1 HSZ1.out).below ((Below.refl _ w7).alloc (Nat.le_refl _) (.cells #[.bool d2.all, .slice pd d2.vars.length cd, .slice pc d2.cons.length cc] 42)), (cons_low ho2 HSZ1.out).below ((Below.refl _ w7).alloc (Nat.le_refl _) (.cells #[.bool d2.all, .slice pd d2.vars.length cd, .slice pc d2.cons.length cc] 42))⟩); have HLV := Lib.hid (show w.heap.size + 1 ≤ (w7.alloc (.cells #[.bool d2.all, .slice pd d2.vars.length cd, .slice pc d2.cons.length cc] 42)).heap.size from Nat.le_trans HSZ1.out (Nat.le_trans (show wz.heap.size ≤ w7.heap.size from hB7.size) ((Below.refl _ w7).alloc (Nat.le_refl _) (.cells #[.bool d2.all, .slice pd d2.vars.length cd, .slice pc d2.cons.length cc] 42)).size)); have bb := HA7.out.box.lt; clear h7 hB7 hf7 hm7 ho1 ho2))
        all_goals go_wp2_with fail
        all_goals
          go_roundw
          case rel => exact ⟨j', l ++ [d2], r5, p7, cap7, pv7, m7, cv7, HXS.out, by have := HON.out; omega, by have := HON.out; simp only [List.length_append, List.length_cons, List.length_nil]; omega, by rw [List.length_append]; exact HN.out⟩
          case measure =>
            have h1 := HON.out
            have h2 := HN.out.rd.top
            rw [took_at HN.out.rd, HTK.out]
            simp only at h2 ⊢
            omega
    · have hXr := HXR.out
      rw [if_pos rfl] at hXr
      have HXA := Lib.hid (show X = (seq (listQ K) fun q => seq (Pa.look (mustF tSemi)) fun _ => seq endQ fun _ => ret ⟨l, q⟩) T rc from hXr)
      clear hXr hoff
      go_wp2_with fail
      refine CX.out.mono ?_
      rintro e w5 ⟨rfl, hP, hM⟩
      have HC := Lib.hid (show MAt w w5 g n bl ol cl nb (.slice pv m cv) T len D (.slice p l.length c) l (.slice none 0 0) [] rc pv' m' cv' from HBA.out.moved hP (mbut hM) hupc)
      have LX := Lib.hid (listP_any K hP hv (by have := HC.out.mle; have := hP.top; omega) hK hn)
      obtain ⟨yl, hyl⟩ : ∃ yl, yl = listQ K T rc := ⟨_, rfl⟩
      have HXT := Lib.hid (show X = (seq (Pa.look (mustF tSemi)) fun _ => seq endQ fun _ => ret (⟨l, yl.1⟩ : PModel)) T yl.2 by rw [HXA.out, hyl]; rfl)
      have hupl := (tame_list K).up T rc
      rw [← hyl] at LX hupl
      have HS2 := Lib.hid (show w.heap.size + 1 ≤ w5.heap.size from by have := HC.out.res.lt; omega)
      clear hP hM hyl
      obtain ⟨cs, rl⟩ := yl
      simp only at HXT hupl
      go_wp2_with fail
      refine LX.out.mono ?_
      rintro e w7 ⟨hB, ⟨hw, hP, p2, c2, rfl, hc⟩ | ⟨hw, rfl⟩⟩
      rotate_left
      · have HG := Lib.hid (nends_no (g := g) (n := n) (bl := bl) (ol := ol) (cl := cl) (nb := nb) (v0 := .slice pv m cv) (T := T) (len := len) (V := ModelE w X.1) (but_nf HC.out.but hB) ((tame_seq (tame_must (s := tSemi) (by decide)) fun _ => tame_seq tame_end fun _ => tame_ret (⟨l, cs⟩ : PModel)).after HXT.out hw))
        unfold gone at HG ⊢
        clear hw hB
        go_wp2_with fail
        exact ⟨rfl, HG.out⟩
      have HW1 := Lib.hid (show MAt w w7 g n bl ol cl nb (.slice pv m cv) T len D (.slice p l.length c) l (.slice none 0 0) [] rl pv' m' cv' from HC.out.moved hP hB hupl)
      have HW := Lib.hid (HW1.out.setCons (cons_low hc HS2.out))
      have b1 := HW1.out.box.cell 1 rfl
      have f1 := HW1.out.box.frozen 1
      have WX := Lib.hid (want_any ⟨#[59]⟩ (by decide) HW.out.rd)
      rw [show txt ⟨#[59]⟩ = tSemi from rfl] at WX
      obtain ⟨ys, hys⟩ : ∃ ys, ys = mustF tSemi rl (next T rl) := ⟨_, rfl⟩
      have HXU := Lib.hid (show X = (seq endQ fun _ => ret (⟨l, cs⟩ : PModel)) T ys.2 by rw [HXT.out, hys]; rfl)
      have hups := (tame_must (s := tSemi) (by decide)).up T rl
      rw [show (Pa.look (mustF tSemi) T rl).2 = (mustF tSemi rl (next T rl)).2 from rfl, ← hys] at hups
      rw [← hys] at WX
      clear hB hw hP hc hys
      obtain ⟨u9, r9⟩ := ys
      simp only at HXU hups
      go_wp2_with fail
      refine WX.out.mono ?_
      rintro e w9 ⟨hB9, ⟨hw9, hP9, rfl⟩ | ⟨hw9, rfl⟩⟩
      rotate_left
      · have HG := Lib.hid (nends_no (g := g) (n := n) (bl := bl) (ol := ol) (cl := cl) (nb := nb) (v0 := .slice pv m cv) (T := T) (len := len) (V := ModelE w X.1) (x := X) (rx := r9) (but_nf HW.out.but hB9) ((tame_seq tame_end fun _ => tame_ret (⟨l, cs⟩ : PModel)).after HXU.out hw9))
        unfold gone at HG ⊢
        clear hB9 hw9
        go_wp2_with fail
        exact ⟨rfl, HG.out⟩
      have H9 := Lib.hid (HW.out.moved hP9 hB9 hups)
      have c0 := H9.out.rd.c0
      have c1 := H9.out.rd.c1
      have hwr9 := hw9
      have hlong := hP9.long
      obtain ⟨k9, hk9⟩ : ∃ k9, k9 = r9.at_ := ⟨_, rfl⟩
      simp only at c1
      rw [← hk9] at c1
      obtain ⟨n1, hn1⟩ : ∃ n1, n1 = n + 1 := ⟨_, rfl⟩
      rw [← hn1] at c0
      have hsub : IntKind.i64.wrap ((n1 : Int) - 1) = (n : Int) := by
        rw [hn1]
        have := IntWalk.i64_in ((n : Int)) (by omega)
        rw [show (((n + 1 : Nat) : Int) - 1) = (n : Int) by omega]
        exact this
      by_cases hend : k9 < n
      · have hei : (k9 : Int) < (n : Int) := by omega
        have hed : decide ((k9 : Int) < (n : Int)) = true := decide_eq_true hei
        have GX := Lib.hid (fun q => give_any (H9.out.rd.drewN q))
        have hX9 : X = (⟨l, cs⟩, fail1 r9) := by
          rw [HXU.out]
          show ((⟨l, cs⟩ : PModel), (endQ T r9).2) = _
          unfold endQ
          rw [if_neg (by simp only at hwr9; rw [hwr9]; simp), if_pos (by rw [← hlong, ← hk9]; exact hend)]
        have HX9 := Lib.hid hX9
        clear hB9 hw9 hP9 hk9 hn1 hwr9 hlong hX9
        go_upto_region 6 with fail
        go_quiet (fail)
        go_wp2_with fail
        refine (GX.out _).mono ?_
        rintro e wq ⟨rfl, q, rfl⟩
        have HG := Lib.hid (nends_no (g := g) (n := n) (bl := bl) (ol := ol) (cl := cl) (nb := nb) (v0 := .slice pv m cv) (T := T) (len := len) (V := ModelE w X.1) (x := X) (rx := r9) (but_drewN H9.out.but (nq + q)) (by rw [HX9.out]; exact ⟨rfl, rfl⟩))
        unfold gone at HG ⊢
        go_wp2_with fail
        exact ⟨rfl, HG.out⟩
      · have hei : ¬ ((k9 : Int) < (n : Int)) := by omega
        have hee : (n : Int) ≤ (k9 : Int) := by omega
        have hed : decide ((k9 : Int) < (n : Int)) = false := decide_eq_false hei
        have hX9 : X = (⟨l, cs⟩, r9) := by
          rw [HXU.out]
          show ((⟨l, cs⟩ : PModel), (endQ T r9).2) = _
          unfold endQ
          rw [if_neg (by simp only at hwr9; rw [hwr9]; simp), if_neg (by rw [← hlong, ← hk9]; exact hend)]
        have HX9 := Lib.hid hX9
        clear hB9 hw9 hP9 hk9 hn1 hwr9 hlong hX9
        go_upto_region 6 with fail
        go_quiet (fail)
        have HZ := Lib.hid (H9.out.moved (H9.out.rd.drewN nq) (but_drewN (But.refl _ w9) nq) (Nat.le_refl _))
        have b0 := HZ.out.box.cell 0 rfl
        have b1 := HZ.out.box.cell 1 rfl
        have q0 := HZ.out.res.cell 0 rfl
        have g0 := HZ.out.res.frozen 0
        have q1 := HZ.out.res.cell 1 rfl
        have g1 := HZ.out.res.frozen 1
        go_wp2_with fail
        (try simp only [Exit.inBlock, Exit.then])
        refine bodyPost_ret (results_model rfl _ _ w.heap.size (.slice p l.length c) (.slice p2 cs.length c2) rfl ?_ ?_) rfl ?_
        · go_simp
        · go_simp
        · exact HZ.out.ends HX9.out
end
end Go.Proofs.YtkgieaoahijheaaGreatDoor.Pp
namespace Go.Proofs.YtkgieaoahijheaaGreatDoor.Pp
open Go.RowKit
open Sc (Tok Cells str noTok)
open Pa
set_option maxRecDepth 100000

theorem catch_gone (pa pe : Addr) (x z : Int) (p : Nat) (older : List PanicEntry) (w : World) (ca : w.cell? pa = some (.int .i64 x)) (za : w.frozen? pa = false) (ce : (w.setCell pa (.int .i64 (p : Int))).cell? pe = some (.int .i64 z)) (ze : (w.setCell pa (.int .i64 (p : Int))).frozen? pe = false) :
    CallsD Tryz.prog 34 #[.pointer (some pa), .pointer (some pe)] (.panicking ({ v := .iface 94 (.int .i64 (p : Int)), recovered := false } :: older)) w fun e u' w' =>
      e = .returned (.tuple #[]) ∧ u' = .panicking ({ v := .iface 94 (.int .i64 (p : Int)), recovered := true } :: older) ∧ w' = (w.setCell pa (.int .i64 (p : Int))).setCell pe (.int .i64 2) := by
  have hta : ∀ W : World, (Instr.typeAssert (.iface 94 (.int .i64 (p : Int))) 20 94 false).run Tryz.prog W = .ok (.int .i64 (p : Int)) W := fun W => by kernel_rfl
  refine callsD_of_wpS Tryz.func34 rfl fun c₀ cs hu => ?_
  apply wpS_seq
  apply wpS_region
  simp [wpOpsS, go_sem, recoverD, hu, Tryz.ntmps34, Exit.thenS]
  apply wpS_seq
  apply wpS_region
  simp [wpOpsS, go_sem, Exit.thenS, Array.replicate]
  refine wpS_cond (t := true) (by simp [Act.eval]) ?_
  simp only [if_true]
  apply wpS_region
  simp [wpOpsS, go_sem, hta, ca, za, ce, ze, bodyPostS, results, Tryz.results34]
theorem catch_idle (pa pe : Addr) (w : World) :
    CallsD Tryz.prog 34 #[.pointer (some pa), .pointer (some pe)] .returning w fun e u' w' => e = .returned (.tuple #[]) ∧ u' = .returning ∧ w' = w := by
  refine callsD_of_wpS Tryz.func34 rfl fun c₀ cs hu => ?_
  apply wpS_seq
  apply wpS_region
  simp [wpOpsS, go_sem, recoverD, hu, Tryz.ntmps34, Exit.thenS]
  apply wpS_seq
  apply wpS_region
  simp [wpOpsS, go_sem, Exit.thenS, Array.replicate]
  refine wpS_cond (t := false) (by simp [Act.eval]) ?_
  simp only [Bool.false_eq_true, if_false]
  refine wpS_of_wp (wp_skip ?_)
  cases c₀
  simp_all [bodyPostS, results, Tryz.results34]
end Go.Proofs.YtkgieaoahijheaaGreatDoor.Pp
namespace Go.Proofs.YtkgieaoahijheaaGreatDoor.Pp
open Go.RowKit
open Sc (Tok Cells str noTok)
open Pa
set_option maxRecDepth 100000

section
variable {w0 w w' : World} {g n bl ol cl nb base : Nat} {pv : Option Addr} {m cv : Nat} {T : List Tok} {len : Nat} {r : Rd} {v : Value}
theorem owns_from {α : Type} {R : List Value → α → Prop} {k e : Nat} {M : List α} (h : OwnsP R k e base w v M) (hs : ∀ i, base ≤ i → w'.heap[i]? = w.heap[i]?) : OwnsP R k e base w' v M := h.same fun i hi => hs i (h.lt i hi).1
theorem decls_from {M : List PDecl} (h : DeclsAt w base v M) (hs : ∀ i, base ≤ i → w'.heap[i]? = w.heap[i]?) : DeclsAt w' base v M := owns_from (OwnsP.imp h (fun _ _ _ ⟨s, u, e, t, o⟩ => ⟨s, u, e, t, owns_from o hs⟩)) hs
theorem cons_from {M : List PCon} (h : ConsAt w base v M) (hs : ∀ i, base ≤ i → w'.heap[i]? = w.heap[i]?) : ConsAt w' base v M := owns_from (OwnsP.imp h (fun _ _ _ ⟨u1, u2, u3, e, o⟩ => ⟨u1, u2, u3, e, ⟨owns_from o.o1 hs, owns_from o.o2 hs, owns_from o.o3 hs, o.p12, o.p13, o.p23⟩⟩)) hs
theorem blocks_from {M : List PBlock} (h : BlocksAt w base v M) (hs : ∀ i, base ≤ i → w'.heap[i]? = w.heap[i]?) : BlocksAt w' base v M := owns_from (OwnsP.imp h (fun _ _ _ ⟨v1, v2, e, d, c⟩ => ⟨v1, v2, e, decls_from d hs, cons_from c hs⟩)) hs
/-- what is said of reading all -/
def ReadE (w : World) (g n bl ol cl nb : Nat) (v0 : Value) (T : List Tok) (len : Nat) (X : PModel × Rd) (e : Ending) (w' : World) : Prop :=
  But (NF g v0) w w' ∧ ((X.2.wrong = false ∧ (∃ (pv : Option Addr) (m cv : Nat), PAt w' g n bl ol cl nb pv m cv T len X.2) ∧ ∃ (p1 : Option Addr) (c1 : Nat) (p2 : Option Addr) (c2 : Nat), e = .returned (.tuple #[.agg #[.slice p1 X.1.blocks.length c1, .slice p2 X.1.goal.length c2], .int .i64 0, .int .i64 0]) ∧
      BlocksAt w' w.heap.size (.slice p1 X.1.blocks.length c1) X.1.blocks ∧ ConsAt w' w.heap.size (.slice p2 X.1.goal.length c2) X.1.goal) ∨
    (X.2.wrong = true ∧ e = .returned (.tuple #[.agg #[.slice none 0 0, .slice none 0 0], .int .i64 ((tokP T len X.2.at_).at_ : Nat), .int .i64 2])))
def reads3 (w : World) : World := ((w.alloc (.cells #[.slice none 0 0, .slice none 0 0] 25)).alloc (.cells #[.int .i64 0] 3)).alloc (.cells #[.int .i64 0] 28)
theorem reads_facts (w : World) : (reads3 w).heap.size = w.heap.size + 3 ∧ Below w.heap.size w (reads3 w) ∧ (reads3 w).heap[w.heap.size]? = some (.cells #[.slice none 0 0, .slice none 0 0] 25) ∧ (reads3 w).heap[w.heap.size + 1]? = some (.cells #[.int .i64 0] 3) ∧ (reads3 w).heap[w.heap.size + 2]? = some (.cells #[.int .i64 0] 28) := by
  have b1 := (Below.refl _ w).alloc (Nat.le_refl _) (.cells #[.slice none 0 0, .slice none 0 0] 25)
  have n1 := heap_alloc_new w (.cells #[.slice none 0 0, .slice none 0 0] 25)
  obtain ⟨w1, h1⟩ : ∃ w1, w1 = w.alloc (.cells #[.slice none 0 0, .slice none 0 0] 25) := ⟨_, rfl⟩
  have s1 : w1.heap.size = w.heap.size + 1 := by rw [h1]; simp
  rw [← h1] at b1 n1
  have b2 := (Below.refl _ w1).alloc (Nat.le_refl _) (.cells #[.int .i64 0] 3)
  have n2 := heap_alloc_new w1 (.cells #[.int .i64 0] 3)
  obtain ⟨w2, h2⟩ : ∃ w2, w2 = w1.alloc (.cells #[.int .i64 0] 3) := ⟨_, rfl⟩
  have s2 : w2.heap.size = w.heap.size + 2 := by rw [h2]; simp [s1]
  rw [← h2] at b2 n2
  have b3 := (Below.refl _ w2).alloc (Nat.le_refl _) (.cells #[.int .i64 0] 28)
  have n3 := heap_alloc_new w2 (.cells #[.int .i64 0] 28)
  have s3 : (w2.alloc (.cells #[.int .i64 0] 28)).heap.size = w.heap.size + 3 := by simp [s2]
  have e : reads3 w = w2.alloc (.cells #[.int .i64 0] 28) := by rw [h2, h1]; rfl
  rw [e]
  rw [s1] at n2
  rw [s2] at n3
  refine ⟨s3, (b1.trans (b2.mono b1.size)).trans (b3.mono (Nat.le_trans b1.size b2.size)), ?_, ?_, n3⟩
  · exact (b3.block _ (by omega)).trans ((b2.block _ (by omega)).trans n1)
  · exact (b3.block _ (by omega)).trans n2
theorem one_set {F : Nat → Prop} {b j f lo : Nat} {x : Value} {w1 : World} (hb : ∃ cs, w.heap[b]? = some (.cells cs f)) (h1 : 66 ≠ f) (h2 : 63 ≠ f) (h3 : 9 ≠ f) (hlo : b < lo) (hw : w0.heap.size ≤ b)
    (h : PAt w g n bl ol cl nb pv m cv T len r ∧ (∀ i, lo ≤ i → w.heap[i]? = w1.heap[i]?) ∧ But F w0 w) : PAt (w.setCell ⟨b, j, none⟩ x) g n bl ol cl nb pv m cv T len r ∧ (∀ i, lo ≤ i → (w.setCell ⟨b, j, none⟩ x).heap[i]? = w1.heap[i]?) ∧ But F w0 (w.setCell ⟨b, j, none⟩ x) :=
  ⟨h.1.put hb h1 h2 h3, fun i hi => (Below.heap_setCell w ⟨b, j, none⟩ x i (show i ≠ b by omega)).trans (h.2.1 i hi), h.2.2.trans (G := fun i => i = b) (But.set ⟨b, j, none⟩ x fun _ => rfl) (fun i hi e => by omega)⟩
theorem other_kind {b c j f : Nat} {x : Value} (hb : ∃ cs, w.heap[b]? = some (.cells cs f)) (hne : b ≠ c) : ∃ cs, (w.setCell ⟨c, j, none⟩ x).heap[b]? = some (.cells cs f) := by
  obtain ⟨cs, e⟩ := hb
  exact ⟨cs, (Below.heap_setCell w ⟨c, j, none⟩ x b hne).trans e⟩
theorem reads_set {F : Nat → Prop} {b : Nat} {a1 a2 a3 a4 : Value} (y0 : ∃ cs, w.heap[b]? = some (.cells cs 25)) (y1 : ∃ cs, w.heap[b + 1]? = some (.cells cs 3)) (y2 : ∃ cs, w.heap[b + 1 + 1]? = some (.cells cs 28)) (hw : w0.heap.size ≤ b) (hP : PAt w g n bl ol cl nb pv m cv T len r) (hB : But F w0 w) :
    PAt ((((w.setCell ⟨b, 0, none⟩ a1).setCell ⟨b, 1, none⟩ a2).setCell ⟨b + 1, 0, none⟩ a3).setCell ⟨b + 1 + 1, 0, none⟩ a4) g n bl ol cl nb pv m cv T len r ∧ (∀ i, b + 3 ≤ i → ((((w.setCell ⟨b, 0, none⟩ a1).setCell ⟨b, 1, none⟩ a2).setCell ⟨b + 1, 0, none⟩ a3).setCell ⟨b + 1 + 1, 0, none⟩ a4).heap[i]? = w.heap[i]?) ∧ But F w0 ((((w.setCell ⟨b, 0, none⟩ a1).setCell ⟨b, 1, none⟩ a2).setCell ⟨b + 1, 0, none⟩ a3).setCell ⟨b + 1 + 1, 0, none⟩ a4) :=
  one_set (other_kind (other_kind (other_kind y2 (by omega)) (by omega)) (by omega)) (by decide) (by decide) (by decide) (by omega) (by omega)
    (one_set (other_kind (other_kind y1 (by omega)) (by omega)) (by decide) (by decide) (by decide) (by omega) (by omega)
      (one_set (span_kind y0) (by decide) (by decide) (by decide) (by omega) (by omega)
        (one_set y0 (by decide) (by decide) (by decide) (by omega) (by omega) ⟨hP, fun _ _ => rfl, hB⟩)))
set_option maxHeartbeats 8000000 in
theorem read_any (K : Nat) (h : PAt w g n bl ol cl nb pv m cv T len r) (hv : ∀ t ∈ T, t.value ≤ 2000000000000) (hm : m ≤ r.at_) (hnb : nb ≤ w.heap.size) (hK : n < K) (hn : n ≤ 9000) :
    Calls Tryz.prog 19 #[.pointer (some ⟨g, 0, none⟩)] w (ReadE w g n bl ol cl nb (.slice pv m cv) T len (modelQ K T r)) := by
  have hmf : ∀ (fn : Fn) (first cap : Array Value) (w : World), (Instr.makeFunc fn first cap).run Tryz.prog w = .ok (.func fn first cap) w := fun _ _ _ _ => rfl
  obtain ⟨s3, b3, x0, x1, x2⟩ := reads_facts w
  obtain ⟨W, hW⟩ : ∃ W, W = reads3 w := ⟨_, rfl⟩
  rw [← hW] at s3 b3 x0 x1 x2
  have H := Lib.hid (h.below b3)
  have MX := Lib.hid (modelP_any K H.out hv hm (Nat.le_trans hnb b3.size) hK hn)
  obtain ⟨X, hX⟩ : ∃ X, X = modelQ K T r := ⟨_, rfl⟩
  rw [← hX] at MX ⊢
  have HF := Lib.hid (And.intro s3 (And.intro b3 (And.intro x0 (And.intro x1 x2))))
  have HW := Lib.hid hW
  clear h hX hW s3 b3 x0 x1 x2
  go_enter_defers Tryz.func19, Tryz.ntmps19
  go_wp2_with fail
  rw [show ((w.alloc (Obj.cells #[.slice none 0 0, .slice none 0 0] 25)).alloc (.cells #[.int .i64 0] 3)).alloc (.cells #[.int .i64 0] 28) = W from HW.out.symm]
  refine MX.out.mono ?_
  rintro e w4 ⟨hB, ⟨hw, ⟨pv4, m4, cv4, hP, hf, hm4⟩, p1, c1, p2, c2, rfl, ho1, ho2⟩ | ⟨hw, rfl⟩⟩
  · obtain ⟨s3, b3, x0, x1, x2⟩ := HF.out
    have y0 := (stays_nf H.out hB (by decide) (by decide) ⟨_, x0⟩).trans x0
    have y1 := (stays_nf H.out hB (by decide) (by decide) ⟨_, x1⟩).trans x1
    have y2 := (stays_nf H.out hB (by decide) (by decide) ⟨_, x2⟩).trans x2
    have d00 := cell_of_row w4 w.heap.size 0 _ 25 (0, 0) y0
    have f00 := frozen_of_row w4 w.heap.size 0 _ 25 y0
    have d01 := cell_of_row w4 w.heap.size 1 _ 25 (0, 0) y0
    have f01 := frozen_of_row w4 w.heap.size 1 _ 25 y0
    have d1 := cell_of_row w4 (w.heap.size + 1) 0 _ 3 (0, 0) y1
    have f1 := frozen_of_row w4 (w.heap.size + 1) 0 _ 3 y1
    have d2 := cell_of_row w4 (w.heap.size + 1 + 1) 0 _ 28 (0, 0) y2
    have f2 := frozen_of_row w4 (w.heap.size + 1 + 1) 0 _ 28 y2
    have HZ := Lib.hid (And.intro hB (And.intro hw (And.intro hP (And.intro ho1 (And.intro ho2 (And.intro y0 (And.intro y1 y2)))))))
    clear hB hw hP hf hm4 ho1 ho2 y0 y1 y2 s3 b3 x0 x1 x2
    go_wp2_with fail
    obtain ⟨Wz, hWz⟩ : ∃ Wz, Wz = (((w4.setCell ⟨w.heap.size, 0, none⟩ (.slice p1 X.1.blocks.length c1)).setCell ⟨w.heap.size, 1, none⟩ (.slice p2 X.1.goal.length c2)).setCell ⟨w.heap.size + 1, 0, none⟩ (.int .i64 0)).setCell ⟨w.heap.size + 1 + 1, 0, none⟩ (.int .i64 0) := ⟨_, rfl⟩
    have z00 : Wz.cell? ⟨w.heap.size, 0, none⟩ = some (.slice p1 X.1.blocks.length c1) := by rw [hWz]; go_simp
    have z01 : Wz.cell? ⟨w.heap.size, 1, none⟩ = some (.slice p2 X.1.goal.length c2) := by rw [hWz]; go_simp
    have z1 : Wz.cell? ⟨w.heap.size + 1, 0, none⟩ = some (.int .i64 0) := by rw [hWz]; go_simp
    have z2 : Wz.cell? ⟨w.heap.size + 1 + 1, 0, none⟩ = some (.int .i64 0) := by rw [hWz]; go_simp
    rw [← hWz]
    refine leaves_cons (f := 34) (args := #[.pointer (some ⟨w.heap.size + 1, 0, none⟩), .pointer (some ⟨w.heap.size + 1 + 1, 0, none⟩)]) (by simp) (by simp [go_sem]) ?_
    refine (catch_idle _ _ _).mono ?_
    rintro e u' w'' ⟨rfl, rfl, rfl⟩
    simp [Leaves, settle, results, Tryz.results19, go_sem, z00, z01, z1, z2]
    obtain ⟨hB, hw, hP, ho1, ho2, y0, y1, y2⟩ := HZ.out
    obtain ⟨s3, b3, _⟩ := HF.out
    obtain ⟨r1, r2, r3⟩ := reads_set (w0 := w) (a1 := .slice p1 X.1.blocks.length c1) (a2 := .slice p2 X.1.goal.length c2) (a3 := .int .i64 0) (a4 := .int .i64 0) ⟨_, y0⟩ ⟨_, y1⟩ ⟨_, y2⟩ (Nat.le_refl _) hP ((But.below b3).trans (G := NF g (.slice pv m cv)) (F := NF g (.slice pv m cv)) hB (fun _ _ e => e))
    rw [← hWz] at r1 r2 r3
    rw [s3] at ho1 ho2
    exact ⟨r3, .inl ⟨hw, ⟨pv4, m4, cv4, r1⟩, p1, c1, p2, c2, rfl, blocks_low (blocks_from ho1 r2) (by omega), cons_low (cons_from ho2 r2) (by omega)⟩⟩
  · obtain ⟨s3, b3, x0, x1, x2⟩ := HF.out
    have y0 := (stays_nf H.out hB (by decide) (by decide) ⟨_, x0⟩).trans x0
    have y1 := (stays_nf H.out hB (by decide) (by decide) ⟨_, x1⟩).trans x1
    have y2 := (stays_nf H.out hB (by decide) (by decide) ⟨_, x2⟩).trans x2
    have d00 : w4.cell? ⟨w.heap.size, 0, none⟩ = some (.slice none 0 0) := cell_of_row w4 w.heap.size 0 _ 25 (0, 0) y0
    have d01 : w4.cell? ⟨w.heap.size, 1, none⟩ = some (.slice none 0 0) := cell_of_row w4 w.heap.size 1 _ 25 (0, 0) y0
    have d1 : w4.cell? ⟨w.heap.size + 1, 0, none⟩ = some (.int .i64 0) := cell_of_row w4 (w.heap.size + 1) 0 _ 3 (0, 0) y1
    have f1 : w4.frozen? ⟨w.heap.size + 1, 0, none⟩ = false := frozen_of_row w4 (w.heap.size + 1) 0 _ 3 y1
    have d2 : w4.cell? ⟨w.heap.size + 1 + 1, 0, none⟩ = some (.int .i64 0) := cell_of_row w4 (w.heap.size + 1 + 1) 0 _ 28 (0, 0) y2
    have f2 : w4.frozen? ⟨w.heap.size + 1 + 1, 0, none⟩ = false := frozen_of_row w4 (w.heap.size + 1 + 1) 0 _ 28 y2
    have HZ := Lib.hid (((But.below b3).trans (G := NF g (.slice pv m cv)) (F := NF g (.slice pv m cv)) hB (fun _ _ e => e)))
    have HWR := Lib.hid hw
    obtain ⟨pp, hpp⟩ : ∃ pp, pp = (tokP T len X.2.at_).at_ := ⟨_, rfl⟩
    rw [← hpp]
    have HPP := Lib.hid hpp
    clear hB hw y0 y1 y2 s3 b3 x0 x1 x2 hpp
    unfold gone
    go_wp2_with fail
    refine leaves_cons (f := 34) (args := #[.pointer (some ⟨w.heap.size + 1, 0, none⟩), .pointer (some ⟨w.heap.size + 1 + 1, 0, none⟩)]) (by simp) (by simp [go_sem]) ?_
    refine (catch_gone _ _ 0 0 pp [] _ d1 f1 (by go_simp) (by go_simp)).mono ?_
    rintro e u' w'' ⟨rfl, rfl, hw2⟩
    have z00 : w''.cell? ⟨w.heap.size, 0, none⟩ = some (.slice none 0 0) := by rw [hw2]; go_simp
    have z01 : w''.cell? ⟨w.heap.size, 1, none⟩ = some (.slice none 0 0) := by rw [hw2]; go_simp
    have z1 : w''.cell? ⟨w.heap.size + 1, 0, none⟩ = some (.int .i64 (pp : Int)) := by rw [hw2]; go_simp
    have z2 : w''.cell? ⟨w.heap.size + 1 + 1, 0, none⟩ = some (.int .i64 2) := by rw [hw2]; go_simp
    simp [Leaves, settle, results, Tryz.results19, go_sem, z00, z01, z1, z2]
    rw [hw2]
    exact ⟨(HZ.out.trans (G := fun i => i = w.heap.size + 1) (But.set ⟨w.heap.size + 1, 0, none⟩ _ fun _ => rfl) (fun i hi e => by omega)).trans (G := fun i => i = w.heap.size + 1 + 1) (But.set ⟨w.heap.size + 1 + 1, 0, none⟩ _ fun _ => rfl) (fun i hi e => by omega), .inr ⟨HWR.out, by rw [HPP.out]⟩⟩
end
end Go.Proofs.YtkgieaoahijheaaGreatDoor.Pp
