/-
  A block that the program's parser takes.
  How far the program's parser has come with a model. Nothing of the program's text.
-/
import Derived.Test.YtkgieaoahijheaaGreatDoorZYBC
namespace Go.Proofs.YtkgieaoahijheaaGreatDoor.Pp
open Go.RowKit
open Sc (Tok Cells str noTok)
open Pa
set_option maxRecDepth 100000

section
variable {w0 w w' : World} {g n bl ol cl nb base : Nat} {pv : Option Addr} {m cv : Nat} {T : List Tok} {len : Nat} {r : Rd} {v : Value}
set_option maxHeartbeats 8000000 in
theorem blockP_any (K : Nat) (h : PAt w g n bl ol cl nb pv m cv T len r) (hv : ∀ t ∈ T, t.value ≤ 2000000000000) (hm : m ≤ r.at_) (hnb : nb ≤ w.heap.size) (hK : n < K) (hn : n ≤ 9000) :
    Calls Tryz.prog 59 #[.pointer (some ⟨g, 0, none⟩)] w (NEnds w g n bl ol cl nb (.slice pv m cv) T len (blockQ K T r) (BlockE w (blockQ K T r).1)) := by
  obtain ⟨X, hX⟩ : ∃ X, X = blockQ K T r := ⟨_, rfl⟩
  rw [← hX]
  rw [block_formQ] at hX
  have HB0 := Lib.hid (fun o => (Below.refl _ w).alloc (Nat.le_refl _) o)
  have H := Lib.hid (h.below (HB0.out (.cells #[.bool false, .slice none 0 0, .slice none 0 0] 42)))
  have FX := Lib.hid (took_any ⟨#[102, 111, 114, 97, 108, 108]⟩ (by decide) H.out)
  rw [show txt ⟨#[102, 111, 114, 97, 108, 108]⟩ = tForall from rfl] at FX
  have hup := (tame_has (s := tForall) (by decide)).up T r
  obtain ⟨y, hy⟩ : ∃ y, y = hasF tForall r (next T r) := ⟨_, rfl⟩
  rw [show (Pa.look (hasF tForall) T r).2 = (hasF tForall r (next T r)).2 from rfl] at hup
  rw [← hy] at FX hX hup
  obtain ⟨all, r1⟩ := y
  simp only at FX hX hup
  have HX := Lib.hid hX
  have HTY := Lib.hid H.out.ty
  clear h hX hy
  go_enter Tryz.func59, Tryz.ntmps59
  go_wp2_with fail
  refine FX.out.mono ?_
  rintro e w1 ⟨rfl, hP, hM⟩
  have hx0 : w1.heap[w.heap.size]? = some (.cells #[.bool false, .slice none 0 0, .slice none 0 0] 42) := (stays_but (mbut hM) HTY.out (by decide) ⟨_, heap_alloc_new w _⟩).trans (heap_alloc_new w _)
  obtain ⟨B, hB⟩ : ∃ B, B = w1.heap.size := ⟨_, rfl⟩
  obtain ⟨wb, hwb⟩ : ∃ wb, wb = w1.alloc (.cells #[.bool all, .slice none 0 0, .slice none 0 0] 42) := ⟨_, rfl⟩
  have hBb : Below w1.heap.size w1 wb := by rw [hwb]; exact (Below.refl _ w1).alloc (Nat.le_refl _) _
  have HB := Lib.hid (show BAt w wb g n bl ol cl nb (.slice pv m cv) T len B all (.slice none 0 0) [] (.slice none 0 0) [] r1 pv m cv from
    ⟨hP.below hBb, by rw [hwb, hB]; exact heap_alloc_new w1 _, (show Box3 w1 w.heap.size (.bool false) (.slice none 0 0) (.slice none 0 0) from hx0).below hBb, decls_nil _ _, cons_nil _ _, ((But.below (HB0.out _)).trans (G := fun i => i = g) (F := NF g (.slice pv m cv)) (mbut hM) (fun i _ e => .inl e)).trans (G := fun _ => False) (But.below hBb) (fun _ _ e => e.elim), fun k e => .inl (.inr e),
      by have := (Array.getElem?_eq_some_iff.1 hx0).1; omega, Nat.le_trans hm hup⟩)
  have b0 := HB.out.box.cell 0 rfl
  clear hP hM hx0 hBb
  go_upto_if 9 with (fail)
  rw [← hwb, ← hB]
  have HNB := Lib.hid hnb
  clear hwb hB b0
  go_cut [] from 10 to 11 (fun wx => ∃ r2 : Rd, X = (seq (declQ K) fun d => declsD K K all [d]) T r2 ∧ BAt w wx g n bl ol cl nb (.slice pv m cv) T len B all (.slice none 0 0) [] (.slice none 0 0) [] r2 pv m cv)
  case first =>
    cases all
    · have WX := Lib.hid (want_any ⟨#[101, 120, 105, 115, 116, 115]⟩ (by decide) HB.out.rd)
      rw [show txt ⟨#[101, 120, 105, 115, 116, 115]⟩ = tExists from rfl] at WX
      obtain ⟨y, hy⟩ : ∃ y, y = mustF tExists r1 (next T r1) := ⟨_, rfl⟩
      have HX1 := Lib.hid (show X = (seq (declQ K) fun d => declsD K K false [d]) T y.2 by rw [HX.out, hy]; rfl)
      have hup1 := (tame_must (s := tExists) (by decide)).up T r1
      rw [show (Pa.look (mustF tExists) T r1).2 = (mustF tExists r1 (next T r1)).2 from rfl, ← hy] at hup1
      rw [← hy] at WX
      clear hy
      obtain ⟨u0, r2⟩ := y
      simp only at HX1 hup1
      go_wp2_with fail
      refine WX.out.mono ?_
      rintro e w3 ⟨hB, ⟨hw, hP, rfl⟩ | ⟨hw, rfl⟩⟩
      · have H3 := Lib.hid (HB.out.moved hP hB hup1)
        clear hB hw hP
        go_wp2_with fail
        go_meet
        exact ⟨r2, HX1.out, H3.out⟩
      · have HG := Lib.hid (nends_no (g := g) (n := n) (bl := bl) (ol := ol) (cl := cl) (nb := nb) (v0 := .slice pv m cv) (T := T) (len := len) (V := BlockE w X.1) (but_nf HB.out.but hB) ((tame_seq (tame_decl K) fun d => tame_declsD K K false [d]).after HX1.out hw))
        unfold gone at HG ⊢
        clear hw hB
        go_wp2_with fail
        exact ⟨rfl, HG.out⟩
    · go_wp2_with fail
      go_meet
      exact ⟨r1, HX.out, HB.out⟩
  case rest =>
    obtain ⟨r2, hX2, hb2⟩ := hcut
    obtain ⟨w3, hw3⟩ : ∃ w3, w3 = wc := ⟨_, rfl⟩
    rw [← hw3] at hb2 ⊢
    have H2 := Lib.hid hb2
    have HX2 := Lib.hid hX2
    have DX := Lib.hid (declP_any K H2.out.rd hv H2.out.mle (Nat.le_trans HNB.out H2.out.but.size) hK hn)
    obtain ⟨y, hy⟩ : ∃ y, y = declQ K T r2 := ⟨_, rfl⟩
    have HX3 := Lib.hid (show X = declsD K K all [y.1] T y.2 by rw [HX2.out, hy]; rfl)
    have hup2 := (tame_decl K).up T r2
    rw [← hy] at DX hup2
    clear hy hb2 hX2 hw3
    obtain ⟨d, r4⟩ := y
    simp only at HX3 hup2
    go_wp2_with fail
    refine DX.out.mono ?_
    rintro e w4 ⟨hB, ⟨hw, ⟨pv4, m4, cv4, hP, hf, hm4⟩, s, pd, cd, rfl, hs, ho⟩ | ⟨hw, rfl⟩⟩
    rotate_left
    · have HG := Lib.hid (nends_no (g := g) (n := n) (bl := bl) (ol := ol) (cl := cl) (nb := nb) (v0 := .slice pv m cv) (T := T) (len := len) (V := BlockE w X.1) (nf_through H2.out.but H2.out.fn hB) ((tame_declsD K K all [d]).after HX3.out hw))
      unfold gone at HG ⊢
      clear hw hB
      go_wp2_with fail
      exact ⟨rfl, HG.out⟩
    simp only at hP hm4 hs ho
    have H4 := Lib.hid (show BAt w w4 g n bl ol cl nb (.slice pv m cv) T len B all (.slice none 0 0) [] (.slice none 0 0) [] r4 pv4 m4 cv4 from H2.out.named hP hB hf hm4)
    have HS1 := Lib.hid (show w.heap.size + 1 ≤ w3.heap.size from by have := H2.out.res.lt; omega)
    have HDO := Lib.hid (decls_one hs (ho.low HS1.out) (Nat.le_trans HS1.out hB.size))
    have H5 := Lib.hid (H4.out.below ((Below.refl _ w4).alloc (Nat.le_refl _) (.cells #[.string s, .slice pd d.dom.length cd] 45)))
    have H6 := Lib.hid (H5.out.setVars HDO.out)
    have b1 := H5.out.box.cell 1 rfl
    have f1 := H5.out.box.frozen 1
    clear hB hw hP hf hm4 hs ho
    go_wp2_with fail
    go_loopw [] (fun wr => ∃ (j : Nat) (l : List PDecl) (rr : Rd) (p : Option Addr) (c : Nat) (pv' : Option Addr) (m' cv' : Nat), X = declsD K j all l T rr ∧ n < j + rr.at_ ∧ l.length ≤ rr.at_ + 1 ∧ BAt w wr g n bl ol cl nb (.slice pv m cv) T len B all (.slice p l.length c) l (.slice none 0 0) [] rr pv' m' cv') (fun wr => n - tookOf wr g)
    case atStart => exact ⟨K, [d], r4, some ⟨w4.heap.size, 0, none⟩, 1, pv4, m4, cv4, HX3.out, by omega, by simp, H6.out⟩
    case round =>
      obtain ⟨ws, rfl⟩ : ∃ ws, ws = wr := ⟨_, rfl⟩
      obtain ⟨j, l, rr, p, c, pv', m', cv', hXr, hnj, hll, hba⟩ := hrel
      have htp := hba.rd.top
      have HTK := Lib.hid (took_at hba.rd)
      obtain ⟨j', rfl⟩ : ∃ j', j = j' + 1 := ⟨j - 1, by omega⟩
      rw [declsD_eq] at hXr
      have CX := Lib.hid (took_any ⟨#[44]⟩ (by decide) hba.rd)
      rw [show txt ⟨#[44]⟩ = tComma from rfl] at CX
      obtain ⟨xc, hxc⟩ : ∃ xc, xc = hasF tComma rr (next T rr) := ⟨_, rfl⟩
      rw [← hxc] at CX hXr
      have hon : xc.1 = true → xc.2 = step1 rr := fun e => by rw [hxc] at e ⊢; exact has_on e
      have hoff : xc.1 = false → xc.2 = rr := fun e => by rw [hxc] at e ⊢; exact has_off e
      obtain ⟨bc, rc⟩ := xc
      simp only at CX hXr hon hoff
      have HXR := Lib.hid hXr
      have HBA := Lib.hid hba
      clear hXr hba hxc
      cases bc
      · obtain rfl := hoff rfl
        have hXr := HXR.out
        rw [if_neg (by simp)] at hXr
        have HXA := Lib.hid hXr
        clear hXr hon hoff
        go_wp2_with fail
        refine CX.out.mono ?_
        rintro e w5 ⟨rfl, hP, hM⟩
        have HC := Lib.hid (show BAt w w5 g n bl ol cl nb (.slice pv m cv) T len B all (.slice p l.length c) l (.slice none 0 0) [] rc pv' m' cv' from HBA.out.moved hP (mbut hM) (Nat.le_refl _))
        have WH := Lib.hid (took_any ⟨#[119, 104, 101, 114, 101]⟩ (by decide) hP)
        rw [show txt ⟨#[119, 104, 101, 114, 101]⟩ = tWhere from rfl] at WH
        obtain ⟨xw, hxw⟩ : ∃ xw, xw = hasF tWhere rc (next T rc) := ⟨_, rfl⟩
        have HXW := Lib.hid (show X = (seq (whereQ K xw.1) fun cs => seq (Pa.look (mustF tSemi)) fun _ => ret ⟨all, l, cs⟩) T xw.2 by rw [HXA.out, hxw]; rfl)
        have hupw := (tame_has (s := tWhere) (by decide)).up T rc
        rw [show (Pa.look (hasF tWhere) T rc).2 = (hasF tWhere rc (next T rc)).2 from rfl, ← hxw] at hupw
        rw [← hxw] at WH
        clear hP hM hxw
        obtain ⟨bw, rw'⟩ := xw
        simp only at HXW hupw
        cases bw
        · have HXT := Lib.hid (show X = (seq (Pa.look (mustF tSemi)) fun _ => ret (⟨all, l, []⟩ : PBlock)) T rw' from HXW.out)
          go_wp2_with fail
          refine WH.out.mono ?_
          rintro e w6 ⟨rfl, hP, hM⟩
          have HW := Lib.hid (show BAt w w6 g n bl ol cl nb (.slice pv m cv) T len B all (.slice p l.length c) l (.slice none ([] : List PCon).length 0) [] rw' pv' m' cv' from HC.out.moved hP (mbut hM) hupw)
          clear hP hM
          have WX := Lib.hid (want_any ⟨#[59]⟩ (by decide) HW.out.rd)
          rw [show txt ⟨#[59]⟩ = tSemi from rfl] at WX
          obtain ⟨ys, hys⟩ : ∃ ys, ys = mustF tSemi rw' (next T rw') := ⟨_, rfl⟩
          have HXU := Lib.hid (show X = (⟨all, l, []⟩, ys.2) by rw [HXT.out, hys]; rfl)
          have hups := (tame_must (s := tSemi) (by decide)).up T rw'
          rw [show (Pa.look (mustF tSemi) T rw').2 = (mustF tSemi rw' (next T rw')).2 from rfl, ← hys] at hups
          rw [← hys] at WX
          clear hys
          obtain ⟨u9, r9⟩ := ys
          simp only at HXU hups
          go_wp2_with fail
          refine WX.out.mono ?_
          rintro e w9 ⟨hB9, ⟨hw9, hP9, rfl⟩ | ⟨hw9, rfl⟩⟩
          · have H9 := Lib.hid (HW.out.moved hP9 hB9 hups)
            have b0 := H9.out.box.cell 0 rfl
            have b1 := H9.out.box.cell 1 rfl
            have b2 := H9.out.box.cell 2 rfl
            have q0 := H9.out.res.cell 0 rfl
            have g0 := H9.out.res.frozen 0
            have q1 := H9.out.res.cell 1 rfl
            have g1 := H9.out.res.frozen 1
            have q2 := H9.out.res.cell 2 rfl
            have g2 := H9.out.res.frozen 2
            clear hB9 hw9 hP9
            go_wp2_with fail
            (try simp only [Exit.inBlock, Exit.then])
            refine bodyPost_ret (results_block rfl _ _ w.heap.size (.bool all) (.slice p l.length c) (.slice none 0 0) rfl ?_ ?_ ?_) rfl ?_
            · go_simp
            · go_simp
            · go_simp
            · exact H9.out.ends HXU.out
          · have HG := Lib.hid (nends_no (g := g) (n := n) (bl := bl) (ol := ol) (cl := cl) (nb := nb) (v0 := .slice pv m cv) (T := T) (len := len) (V := BlockE w X.1) (x := X) (rx := r9) (but_nf HW.out.but hB9) (by rw [HXU.out]; exact ⟨hw9, rfl⟩))
            unfold gone at HG ⊢
            clear hB9 hw9
            go_wp2_with fail
            exact ⟨rfl, HG.out⟩
        · have HXL := Lib.hid (show X = (seq (listQ K) fun cs => seq (Pa.look (mustF tSemi)) fun _ => ret ⟨all, l, cs⟩) T rw' from HXW.out)
          go_wp2_with fail
          refine WH.out.mono ?_
          rintro e w6 ⟨rfl, hP, hM⟩
          have HW0 := Lib.hid (show BAt w w6 g n bl ol cl nb (.slice pv m cv) T len B all (.slice p l.length c) l (.slice none 0 0) [] rw' pv' m' cv' from HC.out.moved hP (mbut hM) hupw)
          have LX := Lib.hid (listP_any K hP hv (by have := HW0.out.mle; have := hP.top; omega) hK hn)
          obtain ⟨yl, hyl⟩ : ∃ yl, yl = listQ K T rw' := ⟨_, rfl⟩
          have HXT := Lib.hid (show X = (seq (Pa.look (mustF tSemi)) fun _ => ret (⟨all, l, yl.1⟩ : PBlock)) T yl.2 by rw [HXL.out, hyl]; rfl)
          have hupl := (tame_list K).up T rw'
          rw [← hyl] at LX hupl
          have HS2 := Lib.hid (show w.heap.size + 1 ≤ w6.heap.size from by have := HW0.out.res.lt; omega)
          clear hP hM hyl
          obtain ⟨cs, rl⟩ := yl
          simp only at HXT hupl
          go_wp2_with fail
          refine LX.out.mono ?_
          rintro e w7 ⟨hB, ⟨hw, hP, p2, c2, rfl, hc⟩ | ⟨hw, rfl⟩⟩
          rotate_left
          · have HG := Lib.hid (nends_no (g := g) (n := n) (bl := bl) (ol := ol) (cl := cl) (nb := nb) (v0 := .slice pv m cv) (T := T) (len := len) (V := BlockE w X.1) (but_nf HW0.out.but hB) ((tame_seq (tame_must (s := tSemi) (by decide)) fun _ => tame_ret (⟨all, l, cs⟩ : PBlock)).after HXT.out hw))
            unfold gone at HG ⊢
            clear hw hB
            go_wp2_with fail
            exact ⟨rfl, HG.out⟩
          have HW1 := Lib.hid (show BAt w w7 g n bl ol cl nb (.slice pv m cv) T len B all (.slice p l.length c) l (.slice none 0 0) [] rl pv' m' cv' from HW0.out.moved hP hB hupl)
          have HW := Lib.hid (HW1.out.setCons (cons_low hc HS2.out))
          have b2 := HW1.out.box.cell 2 rfl
          have f2 := HW1.out.box.frozen 2
          clear hB hw hP hc
          have WX := Lib.hid (want_any ⟨#[59]⟩ (by decide) HW.out.rd)
          rw [show txt ⟨#[59]⟩ = tSemi from rfl] at WX
          obtain ⟨ys, hys⟩ : ∃ ys, ys = mustF tSemi rl (next T rl) := ⟨_, rfl⟩
          have HXU := Lib.hid (show X = (⟨all, l, cs⟩, ys.2) by rw [HXT.out, hys]; rfl)
          have hups := (tame_must (s := tSemi) (by decide)).up T rl
          rw [show (Pa.look (mustF tSemi) T rl).2 = (mustF tSemi rl (next T rl)).2 from rfl, ← hys] at hups
          rw [← hys] at WX
          clear hys
          obtain ⟨u9, r9⟩ := ys
          simp only at HXU hups
          go_wp2_with fail
          refine WX.out.mono ?_
          rintro e w9 ⟨hB9, ⟨hw9, hP9, rfl⟩ | ⟨hw9, rfl⟩⟩
          · have H9 := Lib.hid (HW.out.moved hP9 hB9 hups)
            have b0 := H9.out.box.cell 0 rfl
            have b1 := H9.out.box.cell 1 rfl
            have b2 := H9.out.box.cell 2 rfl
            have q0 := H9.out.res.cell 0 rfl
            have g0 := H9.out.res.frozen 0
            have q1 := H9.out.res.cell 1 rfl
            have g1 := H9.out.res.frozen 1
            have q2 := H9.out.res.cell 2 rfl
            have g2 := H9.out.res.frozen 2
            clear hB9 hw9 hP9
            go_wp2_with fail
            (try simp only [Exit.inBlock, Exit.then])
            refine bodyPost_ret (results_block rfl _ _ w.heap.size (.bool all) (.slice p l.length c) (.slice p2 cs.length c2) rfl ?_ ?_ ?_) rfl ?_
            · go_simp
            · go_simp
            · go_simp
            · exact H9.out.ends HXU.out
          · have HG := Lib.hid (nends_no (g := g) (n := n) (bl := bl) (ol := ol) (cl := cl) (nb := nb) (v0 := .slice pv m cv) (T := T) (len := len) (V := BlockE w X.1) (x := X) (rx := r9) (but_nf HW.out.but hB9) (by rw [HXU.out]; exact ⟨hw9, rfl⟩))
            unfold gone at HG ⊢
            clear hB9 hw9
            go_wp2_with fail
            exact ⟨rfl, HG.out⟩
      · have hr1 := hon rfl
        have hat : rc.at_ = rr.at_ + 1 := by rw [hr1]; rfl
        have hXr := HXR.out
        rw [if_pos rfl] at hXr
        have HXA := Lib.hid hXr
        clear hXr hon hoff hr1
        go_wp2_with fail
        refine CX.out.mono ?_
        rintro e wz ⟨rfl, hP, hM⟩
        have HR := Lib.hid (show BAt w wz g n bl ol cl nb (.slice pv m cv) T len B all (.slice p l.length c) l (.slice none 0 0) [] rc pv' m' cv' from HBA.out.moved hP (mbut hM) (by omega))
        have SX := Lib.hid (fun q => declP_any K (HR.out.rd.drewN q) hv HR.out.mle (Nat.le_trans HNB.out HR.out.but.size) hK hn)
        obtain ⟨y, hy⟩ : ∃ y, y = declQ K T rc := ⟨_, rfl⟩
        have HXS := Lib.hid (show X = declsD K j' all (l ++ [y.1]) T y.2 by rw [HXA.out, hy])
        have hup3 := (tame_decl K).up T rc
        rw [← hy] at SX hup3
        clear hP hM hy
        obtain ⟨d2, r5⟩ := y
        simp only at HXS hup3
        have b1 := HR.out.box.cell 1 rfl
        have hdl := HR.out.box.lt
        have HSZ1 := Lib.hid (show w.heap.size + 1 ≤ wz.heap.size from by have := HR.out.res.lt; omega)
        go_upto_region 6 with fail
        cases hwv : r5.wrong with
        | true =>
          have SN := Lib.hid (fun q => nends_gone hwv (SX.out q))
          have HG := Lib.hid (fun (q : Nat) (w' : World) (hB : But (NF g (.slice pv' m' cv')) (wz.drewN q) w') => (nends_no (g := g) (n := n) (bl := bl) (ol := ol) (cl := cl) (nb := nb) (v0 := .slice pv m cv) (T := T) (len := len) (V := BlockE w X.1) (rx := r5) (nf_through (w := wz.drewN q) (but_drewN HR.out.but q) HR.out.fn hB) ((tame_declsD K j' all (l ++ [d2])).after HXS.out hwv)))
          unfold gone at SN HG
          clear hwv
          go_region_dies
          all_goals (refine (SN.out _).mono ?_; rintro e w7 ⟨hB7, rfl⟩; (try go_simp); exact ⟨rfl, HG.out _ _ hB7⟩)
        | false =>
          have SO := Lib.hid (fun q => nends_right hwv (SX.out q))
          clear hwv
          have hl6 : l.length ≤ 100000 := by omega
          go_region_law (first
            | (refine put_row_step info44 rfl (by decide) (by decide) Tryz.underlying40 rfl _ _ rfl rfl rfl HAV.out.ds rfl HCV.out (by simp [Value.oneCell']) HSN.out hl6 HLV.out ?_; intro p7 cap7 w8 hp1 hp2 hp3; have HN := Lib.hid (HAV.out.grown hp1 hp2); have b7 := (HAV.out.box.grown (fun k e => OwnsP.kind HAV.out.ds e) hp2 (by decide)).cell 1 rfl; have f7 := (HAV.out.box.grown (fun k e => OwnsP.kind HAV.out.ds e) hp2 (by decide)).frozen 1; clear hp1 hp2 hp3)
            | (go_simp; go_at_call 80; refine (SO.out _).mono ?_; rintro e w7 ⟨hB7, ⟨pv7, m7, cv7, h7, hf7, hm7⟩, s, pd, cd, rfl, hs, ho⟩; have HA7 := Lib.hid (((HR.out.moved (HR.out.rd.drewN 1) (but_drewN (But.refl _ wz) 1) (Nat.le_refl _)).named h7 hB7 hf7 hm7)); have b1 := HA7.out.box.cell 1 rfl; have HAV := Lib.hid (HA7.out.below ((Below.refl _ w7).alloc (Nat.le_refl _) (.cells #[.string s, .slice pd d2.dom.length cd] 45))); have HCV := Lib.hid (decl_cells w7 s (.slice pd d2.dom.length cd)); have HSN := Lib.hid (show declP (w7.alloc (.cells #[.string s, .slice pd d2.dom.length cd] 45)) (w.heap.size + 1) [Value.string s, .slice pd d2.dom.length cd] d2 from ⟨s, _, rfl, hs, (OwnsP.low ho HSZ1.out).below ((Below.refl _ w7).alloc (Nat.le_refl _) (.cells #[.string s, .slice pd d2.dom.length cd] 45))⟩); have HLV := Lib.hid (show w.heap.size + 1 ≤ (w7.alloc (.cells #[.string s, .slice pd d2.dom.length cd] 45)).heap.size from Nat.le_trans HSZ1.out (Nat.le_trans (show wz.heap.size ≤ w7.heap.size from hB7.size) ((Below.refl _ w7).alloc (Nat.le_refl _) (.cells #[.string s, .slice pd d2.dom.length cd] 45)).size)); have bb := HA7.out.box.lt; clear h7 hB7 hf7 hm7 hs ho))
          all_goals go_wp2_with fail
          all_goals
            go_roundw
            case rel => exact ⟨j', l ++ [d2], r5, p7, cap7, pv7, m7, cv7, HXS.out, by omega, by simp only [List.length_append, List.length_cons, List.length_nil]; omega, by rw [List.length_append]; exact HN.out⟩
            case measure =>
              have h2 := HN.out.rd.top
              rw [took_at HN.out.rd, HTK.out]
              simp only at h2 ⊢
              omega
end
end Go.Proofs.YtkgieaoahijheaaGreatDoor.Pp
namespace Go.Proofs.YtkgieaoahijheaaGreatDoor.Pp
open Go.RowKit
open Sc (Tok Cells str noTok)
open Pa
set_option maxRecDepth 100000

theorem info47b : (Tryz.prog.info? 42).map (fun i => (i.zero, i.size, i.bytes)) = some (some (.agg #[.bool false, .slice none 0 0, .slice none 0 0]), 3, 56) := by kernel_rfl
/-- a model's variable: two cells -/
def BoxM (w : World) (b : Nat) (x y : Value) : Prop := w.heap[b]? = some (.cells #[x, y] 25)
section
variable {w0 w w' : World} {g n bl ol cl nb base B b : Nat} {v0 x y : Value} {pv : Option Addr} {m cv : Nat} {T : List Tok} {len : Nat} {r r' : Rd} {v v1 v2 : Value} {l : List PBlock} {cs : List PCon}
theorem BoxM.kind (h : BoxM w b x y) : ∃ cs, w.heap[b]? = some (.cells cs 25) := ⟨_, h⟩
theorem BoxM.lt (h : BoxM w b x y) : b < w.heap.size := (Array.getElem?_eq_some_iff.1 h).1
theorem BoxM.cell (h : BoxM w b x y) (j : Nat) {u : Value} (hx : #[x, y][j]? = some u) : w.cell? ⟨b, j, none⟩ = some u := by
  unfold BoxM at h
  rw [cell_of_row w b j _ 25 (0, 0) h, hx]
theorem BoxM.frozen (h : BoxM w b x y) (j : Nat) : w.frozen? ⟨b, j, none⟩ = false := frozen_of_row w b j _ 25 h
theorem BoxM.set (h : BoxM w b x y) (u : Value) : BoxM (w.setCell ⟨b, 0, none⟩ u) b u y ∧ BoxM (w.setCell ⟨b, 1, none⟩ u) b x u := by
  unfold BoxM at *
  simp only [World.setCell, Array.getElem?_modify, h]
  exact ⟨rfl, rfl⟩
theorem BoxM.grown {f : Nat} (h : BoxM w b x y) (hu : ∀ i, v.ownBlock = some i → ∃ cs, w.heap[i]? = some (.cells cs f)) (hg : w.grownBy w' v.ownBlock) (he : 25 ≠ f) : BoxM w' b x y := (hg.block b h.lt (fun e => kinds_apart h.kind (hu b e.symm) he rfl)).trans h
theorem blocks_nf (h : BlocksAt w base v l) (hp : PAt w g n bl ol cl nb pv m cv T len r) (hM : But (NF g (.slice pv m cv)) w w') : BlocksAt w' base v l :=
  owns_nf (OwnsP.imp h (fun _ _ _ ⟨v1, v2, e, d, c⟩ => ⟨v1, v2, e, decls_nf d hp hM, cons_nf c hp hM⟩)) hp hM (by decide) (by decide)
theorem blocks_low {low : Nat} (h : BlocksAt w base v l) (hl : low ≤ base) : BlocksAt w low v l := OwnsP.low (OwnsP.imp h (fun _ _ _ ⟨v1, v2, e, d, c⟩ => ⟨v1, v2, e, decls_low d hl, cons_low c hl⟩)) hl
theorem blocks_one {u1 u2 : Value} {d : PBlock} (o1 : DeclsAt w base u1 d.vars) (o2 : ConsAt w base u2 d.cons) (hb : base ≤ w.heap.size) : BlocksAt (w.alloc (.cells #[.bool d.all, u1, u2] 42)) base (.slice (some ⟨w.heap.size, 0, none⟩) 1 1) [d] := by
  refine ⟨[.bool d.all, u1, u2], ⟨rfl, .inr ⟨w.heap.size, 1, _, rfl, hb, heap_alloc_new w _, Nat.le_refl _, by unfold maxLen; omega, rfl, rfl⟩⟩, rfl, fun k a hk => ?_⟩
  have hk1 := (List.getElem?_eq_some_iff.1 hk).1
  obtain rfl : k = 0 := by simp at hk1; omega
  obtain rfl : d = a := by simpa using hk
  exact ⟨_, rfl, fun j _ => by simp, u1, u2, rfl, o1.below ((Below.refl _ w).alloc (Nat.le_refl _) _), o2.below ((Below.refl _ w).alloc (Nat.le_refl _) _)⟩
theorem block_cells (w : World) (a : Bool) (u1 u2 : Value) : ∀ (j : Nat) (x : Value), [Value.bool a, u1, u2][j]? = some x → (w.alloc (.cells #[.bool a, u1, u2] 42)).cell? ⟨w.heap.size, j, none⟩ = some x := fun j x hj =>
  (cell_of_row _ w.heap.size j _ 42 (0, 0) (heap_alloc_new w _)).trans (by simpa using hj)
structure MAt (w0 w : World) (g n bl ol cl nb : Nat) (v0 : Value) (T : List Tok) (len B : Nat) (v1 : Value) (l : List PBlock) (v2 : Value) (cs : List PCon) (r : Rd) (pv : Option Addr) (m cv : Nat) : Prop where
  rd : PAt w g n bl ol cl nb pv m cv T len r
  box : BoxM w B v1 v2
  res : BoxM w w0.heap.size (.slice none 0 0) (.slice none 0 0)
  bs : BlocksAt w (w0.heap.size + 1) v1 l
  cn : ConsAt w (w0.heap.size + 1) v2 cs
  but : But (NF g v0) w0 w
  fn : ∀ k, (Value.slice pv m cv).ownBlock = some k → NF g v0 k ∨ w0.heap.size ≤ k
  new : w0.heap.size + 1 ≤ B
  mle : m ≤ r.at_
theorem MAt.moved (h : MAt w0 w g n bl ol cl nb v0 T len B v1 l v2 cs r pv m cv) (hR : PAt w' g n bl ol cl nb pv m cv T len r') (hM : But (fun i => i = g) w w') (hu : r.at_ ≤ r'.at_) : MAt w0 w' g n bl ol cl nb v0 T len B v1 l v2 cs r' pv m cv :=
  ⟨hR, (stays_but hM h.rd.ty (by decide) h.box.kind).trans h.box, (stays_but hM h.rd.ty (by decide) h.res.kind).trans h.res, blocks_nf h.bs h.rd (nf_but hM), cons_but h.cn hM h.rd.ty, but_nf h.but hM, h.fn, h.new, Nat.le_trans h.mle hu⟩
theorem MAt.below (h : MAt w0 w g n bl ol cl nb v0 T len B v1 l v2 cs r pv m cv) (hB : Below w.heap.size w w') : MAt w0 w' g n bl ol cl nb v0 T len B v1 l v2 cs r pv m cv :=
  ⟨h.rd.below hB, (hB.block B h.box.lt).trans h.box, (hB.block _ h.res.lt).trans h.res, h.bs.below hB, h.cn.below hB, h.but.trans (G := fun _ => False) (But.below hB) (fun _ _ e => e.elim), h.fn, h.new, h.mle⟩
theorem MAt.named {pv' : Option Addr} {m' cv' : Nat} (h : MAt w0 w g n bl ol cl nb v0 T len B v1 l v2 cs r pv m cv) (hR : PAt w' g n bl ol cl nb pv' m' cv' T len r') (hM : But (NF g (.slice pv m cv)) w w') (hf : ∀ k, (Value.slice pv' m' cv').ownBlock = some k → NF g (.slice pv m cv) k ∨ w.heap.size ≤ k) (hm : m' ≤ r'.at_) : MAt w0 w' g n bl ol cl nb v0 T len B v1 l v2 cs r' pv' m' cv' :=
  ⟨hR, (stays_nf h.rd hM (by decide) (by decide) h.box.kind).trans h.box, (stays_nf h.rd hM (by decide) (by decide) h.res.kind).trans h.res, blocks_nf h.bs h.rd hM, cons_nf h.cn h.rd hM, nf_through h.but h.fn hM, nf_fn h.but h.fn hf, h.new, hm⟩
theorem MAt.setCons {v3 : Value} {cs' : List PCon} (h : MAt w0 w g n bl ol cl nb v0 T len B v1 l v2 cs r pv m cv) (ho : ConsAt w (w0.heap.size + 1) v3 cs') : MAt w0 (w.setCell ⟨B, 1, none⟩ v3) g n bl ol cl nb v0 T len B v1 l v3 cs' r pv m cv :=
  ⟨h.rd.put h.box.kind (by decide) (by decide) (by decide), (h.box.set v3).2, (Below.heap_setCell w ⟨B, 1, none⟩ v3 _ (show w0.heap.size ≠ B by have := h.new; omega)).trans h.res, h.bs.set h.box.kind (by decide) (by decide) (by decide) (by decide) (by decide), ho.set h.box.kind (by decide) (by decide), h.but.trans (G := fun i => i = B) (But.set ⟨B, 1, none⟩ v3 fun _ => rfl) (fun i hi (e : i = B) => by have := h.new; omega), h.fn, h.new, h.mle⟩
/-- one block more -/
theorem MAt.grown {v3 : Value} {l' : List PBlock} (h : MAt w0 w g n bl ol cl nb v0 T len B v1 l v2 cs r pv m cv) (ho : OwnsP (blockP w (w0.heap.size + 1)) 3 42 (w0.heap.size + 1) w' v3 l') (hg : w.grownBy w' v1.ownBlock) : MAt w0 (w'.setCell ⟨B, 0, none⟩ v3) g n bl ol cl nb v0 T len B v3 l' v2 cs r pv m cv := by
  have hk : ∀ k, v1.ownBlock = some k → ∃ c, w.heap[k]? = some (.cells c 42) := fun k e => OwnsP.kind h.bs e
  have hs := h.but.size
  have hb : BoxM w' B v1 v2 := h.box.grown hk hg (by decide)
  have ho2 : BlocksAt w' (w0.heap.size + 1) v3 l' := OwnsP.imp ho (fun _ _ _ ⟨u1, u2, e, d, c⟩ => ⟨u1, u2, e, d.grown hk hg (by decide) (by decide), cons_row c hk hg (by decide) (by decide)⟩)
  have hr2 : BoxM w' w0.heap.size (.slice none 0 0) (.slice none 0 0) := h.res.grown hk hg (by decide)
  have hp2 : PAt w' g n bl ol cl nb pv m cv T len r := h.rd.row hk hg (by decide) (by decide) (by decide)
  exact ⟨hp2.put hb.kind (by decide) (by decide) (by decide), (hb.set v3).1, (Below.heap_setCell w' ⟨B, 0, none⟩ v3 _ (show w0.heap.size ≠ B by have := h.new; omega)).trans hr2, ho2.set hb.kind (by decide) (by decide) (by decide) (by decide) (by decide), (cons_row h.cn hk hg (by decide) (by decide)).set hb.kind (by decide) (by decide),
    (h.but.trans (G := fun i => v1.ownBlock = some i) (But.grown hg fun k e _ => e) (fun i hi e => absurd (OwnsP.lt h.bs i e).1 (by omega))).trans (G := fun i => i = B) (But.set ⟨B, 0, none⟩ v3 fun _ => rfl) (fun i hi (e : i = B) => by have := h.new; omega), h.fn, h.new, h.mle⟩
/-- a model is handed back -/
def ModelE (w : World) (q : PModel) (w' : World) (e : Ending) : Prop := ∃ (p1 : Option Addr) (c1 : Nat) (p2 : Option Addr) (c2 : Nat), e = .returned (.agg #[.slice p1 q.blocks.length c1, .slice p2 q.goal.length c2]) ∧ BlocksAt w' w.heap.size (.slice p1 q.blocks.length c1) q.blocks ∧ ConsAt w' w.heap.size (.slice p2 q.goal.length c2) q.goal
theorem MAt.ends {X : PModel × Rd} {p1 p2 : Option Addr} {c1 c2 : Nat} (h : MAt w0 w g n bl ol cl nb v0 T len B (.slice p1 l.length c1) l (.slice p2 cs.length c2) cs r pv m cv) (hX : X = (⟨l, cs⟩, r)) {x y : Value} :
    NEnds w0 g n bl ol cl nb v0 T len X (ModelE w0 X.1) (.returned (.agg #[.slice p1 l.length c1, .slice p2 cs.length c2])) ((w.setCell ⟨w0.heap.size, 0, none⟩ x).setCell ⟨w0.heap.size, 1, none⟩ y) := by
  rw [hX]
  have one : ∀ (W : World) (j : Nat) (x : Value), ((∃ c, W.heap[w0.heap.size]? = some (.cells c 25)) ∧ PAt W g n bl ol cl nb pv m cv T len r ∧ BlocksAt W w0.heap.size (.slice p1 l.length c1) l ∧ ConsAt W w0.heap.size (.slice p2 cs.length c2) cs ∧ But (NF g v0) w0 W) →
      ((∃ c, (W.setCell ⟨w0.heap.size, j, none⟩ x).heap[w0.heap.size]? = some (.cells c 25)) ∧ PAt (W.setCell ⟨w0.heap.size, j, none⟩ x) g n bl ol cl nb pv m cv T len r ∧ BlocksAt (W.setCell ⟨w0.heap.size, j, none⟩ x) w0.heap.size (.slice p1 l.length c1) l ∧ ConsAt (W.setCell ⟨w0.heap.size, j, none⟩ x) w0.heap.size (.slice p2 cs.length c2) cs ∧ But (NF g v0) w0 (W.setCell ⟨w0.heap.size, j, none⟩ x)) := fun W j x ⟨a, b, c, d, e⟩ =>
    ⟨span_kind a, b.put a (by decide) (by decide) (by decide), c.set a (by decide) (by decide) (by decide) (by decide) (by decide), d.set a (by decide) (by decide), e.trans (G := fun i => i = w0.heap.size) (But.set ⟨w0.heap.size, j, none⟩ x fun _ => rfl) (fun i hi (q : i = w0.heap.size) => by omega)⟩
  obtain ⟨_, a, b, c, d⟩ := one _ 1 y (one _ 0 x ⟨h.res.kind, h.rd, blocks_low h.bs (by omega), cons_low h.cn (by omega), h.but⟩)
  exact ⟨d, .inl ⟨h.rd.ok, ⟨pv, m, cv, a, h.fn, h.mle⟩, p1, c1, p2, c2, rfl, b, c⟩⟩
theorem results_model {fn : Func} {p : Tmp} (h : fn.results = #[.cell p 25]) (tmps : Array Value) (w : World) (b : Nat) (v0 v1 : Value) (hp : tmps.getD p undef = .pointer (some ⟨b, 0, none⟩)) (c0 : w.cell? ⟨b, 0, none⟩ = some v0) (c1 : w.cell? ⟨b, 1, none⟩ = some v1) :
    (results fn tmps).run Tryz.prog w = .ok (.agg #[v0, v1]) w := by
  have hp' : tmps[p]?.getD undef = .pointer (some ⟨b, 0, none⟩) := by simpa using hp
  simp only [results, h]
  simp [hp', asAddr]
  go_simp
def afterB (K : Nat) (l : List PBlock) : Rx PModel := seq (listQ K) fun q => seq (Pa.look (mustF tSemi)) fun _ => seq endQ fun _ => ret ⟨l, q⟩
def blocksD (K j : Nat) (l : List PBlock) : Rx PModel := seq (blocksQ K j l) (afterB K)
theorem tame_afterB (K : Nat) (l : List PBlock) : Tame (afterB K l) := tame_seq (tame_list K) fun _ => tame_seq (tame_must (by decide)) fun _ => tame_seq tame_end fun _ => tame_ret _
theorem tame_blocksD (K j : Nat) (l : List PBlock) : Tame (blocksD K j l) := tame_seq (tame_blocks K j l) fun _ => tame_afterB K _
theorem blocksD_eq (K j : Nat) (l : List PBlock) (T : List Tok) (r : Rd) : blocksD K (j + 1) l T r = if (hasF tGoal r (next T r)).1 = true then afterB K l T (hasF tGoal r (next T r)).2 else blocksD K j (l ++ [(blockQ K T (hasF tGoal r (next T r)).2).1]) T (blockQ K T (hasF tGoal r (next T r)).2).2 := by
  show afterB K ((if (hasF tGoal r (next T r)).1 = true then ret l else seq (blockQ K) fun x => blocksQ K j (l ++ [x])) T (hasF tGoal r (next T r)).2).1 T ((if (hasF tGoal r (next T r)).1 = true then ret l else seq (blockQ K) fun x => blocksQ K j (l ++ [x])) T (hasF tGoal r (next T r)).2).2 = _
  rw [if_app]
  split <;> rfl
theorem model_formQ (K : Nat) (T : List Tok) (r : Rd) : modelQ K T r = (seq (blockQ K) fun d => blocksD K K [d]) T r := rfl
theorem went_seq {α β : Type} {m : Rx α} {f : α → Rx β} (hm : Tame m) (hf : ∀ a T r, Went r (f a T r).2) (T : List Tok) (r : Rd) : Went r (seq m f T r).2 :=
  ⟨Nat.le_trans (hm.up T r) (hf _ T _).up, (hf (m T r).1 T (m T r).2).on.imp id fun e => Nat.lt_of_le_of_lt (hm.up T r) e⟩
theorem went_must {α : Type} (s : Txt) (x : α) (T : List Tok) (r : Rd) : Went r ((seq (Pa.look (mustF s)) fun _ => ret x) T r).2 := by
  show Went r (mustF s r (next T r)).2
  unfold mustF
  split
  · exact ⟨by simp [step1], .inr (by simp [step1])⟩
  · exact ⟨by simp [fail1], .inl rfl⟩
theorem block_went (K : Nat) (T : List Tok) (r : Rd) : Went r (blockQ K T r).2 :=
  went_seq (tame_has (by decide)) (fun _ => went_seq (tame_head _) fun _ => went_seq (tame_decl K) fun _ => went_seq (tame_decls K K _) fun _ => went_seq (tame_has (by decide)) fun _ => went_seq (tame_where K _) fun _ => went_must tSemi _) T r
end
end Go.Proofs.YtkgieaoahijheaaGreatDoor.Pp
