/-
  A block that the document's reader of tokens takes.
-/
import Derived.Test.YtfkakdpppejehaaGreatZYAN
namespace Go.Proofs.YtfkakdpppejehaaGreat.Pa
open Go.RowKit
open Sc (Tok Cells str noTok)
set_option maxRecDepth 100000
def zeroBlk : Obj := .cells #[.bool false, .slice none 0 0, .slice none 0 0] 39
section
variable {w : World} {F : Nat → Prop} {g n : Nat} {pl : Option Addr} {bl ol cl : Nat} {pv : Option Addr} {bv ov m cv : Nat} {T : List Tok} {base : Nat} {r : Rd}
theorem blk_start (h : RdAt w g n pl bl ol cl pv bv ov m cv T r) (hnm : OwnsP nameP 1 9 base w (.slice pv m cv) r.vars) (hbase : base ≤ w.heap.size) (fg : F g) (fn : ∀ k, (Value.slice pv m cv).ownBlock = some k → F k ∨ w.heap.size ≤ k) :
    BlkAt w ((w.alloc zeroBlk).alloc zeroBlk) F g n pl bl ol cl T base false [] r (.slice none 0 0) pv bv ov m cv := by
  have hB1 : Below w.heap.size w (w.alloc zeroBlk) := (Below.refl _ w).alloc (Nat.le_refl _) _
  have hB2 : Below w.heap.size w ((w.alloc zeroBlk).alloc zeroBlk) := hB1.trans (((Below.refl _ (w.alloc zeroBlk)).alloc (Nat.le_refl _) _).mono hB1.size)
  have hb1 : Box3 (w.alloc zeroBlk) w.heap.size (.bool false) (.slice none 0 0) (.slice none 0 0) := heap_alloc_new w _
  have hb2 : Box3 ((w.alloc zeroBlk).alloc zeroBlk) (w.heap.size + 1) (.bool false) (.slice none 0 0) (.slice none 0 0) := by
    have : Box3 ((w.alloc zeroBlk).alloc zeroBlk) (w.alloc zeroBlk).heap.size (.bool false) (.slice none 0 0) (.slice none 0 0) := heap_alloc_new _ _
    simpa using this
  exact ⟨h.below hB2, hnm.below hB2, hb2, hb1.below ((Below.refl _ (w.alloc zeroBlk)).alloc (Nat.le_refl _) _), decls_nil _ _, But.below hB2, fg, fn, Nat.le_trans hbase hB2.size⟩
theorem BlkAt.all {w0 : World} {a b : Bool} {l : List PDecl} {v1 : Value} (h : BlkAt w0 w F g n pl bl ol cl T base a l r v1 pv bv ov m cv) : BlkAt w0 (w.setCell ⟨w0.heap.size + 1, 0, none⟩ (.bool b)) F g n pl bl ol cl T base b l r v1 pv bv ov m cv :=
  ⟨h.rd.put h.box.kind (by decide) (by decide) (by decide), OwnsP.set h.nm h.box.kind (by decide), (h.box.set _).1, (Below.heap_setCell _ _ _ _ (by simp)).trans h.res, h.ds.set h.box.kind (by decide) (by decide), h.but.trans (G := fun i => i = w0.heap.size + 1) (But.set ⟨w0.heap.size + 1, 0, none⟩ _ fun _ => rfl) (fun i hi (e : i = w0.heap.size + 1) => by omega), h.fg, h.fn, by have := h.low; simp [World.setCell]; exact this⟩
theorem has_vars {s : Txt} {r : Rd} {o : Option Tok} : (hasF s r o).2.vars = r.vars := by unfold hasF; split <;> rfl
theorem head_vars {b : Bool} {T : List Tok} {r : Rd} : (headR b T r).2.vars = r.vars := by
  cases b
  · show (mustF tExists r (next T r)).2.vars = _
    unfold mustF
    split <;> rfl
  · rfl
theorem BlkAt.keeps {w0 w' : World} {a : Bool} {l : List PDecl} {v1 : Value} (h : BlkAt w0 w F g n pl bl ol cl T base a l r v1 pv bv ov m cv) (hg : w.grownBy w' (Value.slice pv m cv).ownBlock) : w'.cell? ⟨g, 3, none⟩ = some (.slice pv m cv) ∧ w'.frozen? ⟨g, 3, none⟩ = false := by
  have eg : w'.heap[g]? = w.heap[g]? := by
    obtain ⟨cs, e⟩ := h.rd.ty
    exact hg.block g (Array.getElem?_eq_some_iff.1 e).1 (fun e' => kinds_apart ⟨cs, e⟩ (OwnsP.kind h.nm e'.symm) (by decide) rfl)
  exact ⟨(World.cell?_of_block (w := w) (a := ⟨g, 3, none⟩) eg).trans h.rd.c3, (World.frozen?_of_block (w := w) (a := ⟨g, 3, none⟩) eg).trans h.rd.f3⟩
theorem ConsAt.low {w : World} {base low : Nat} {v : Value} {L : List PCon} (h : ConsAt w base v L) (hl : low ≤ base) : ConsAt w low v L :=
  OwnsP.low (OwnsP.imp h (fun _ _ _ ⟨u1, u2, u3, e, o⟩ => ⟨u1, u2, u3, e, o.low hl⟩)) hl
set_option maxHeartbeats 8000000 in
theorem block_any (K : Nat) (h : RdAt w g n pl bl ol cl pv bv ov m cv T r) (hnm : OwnsP nameP 1 9 base w (.slice pv m cv) r.vars) (hbase : base ≤ w.heap.size) (fg : F g) (fn : ∀ k, (Value.slice pv m cv).ownBlock = some k → F k ∨ w.heap.size ≤ k)
    (hv : ∀ t ∈ T, t.value ≤ 2000000000000) (hvl : r.vars.length ≤ r.at_) (hK : n < K) (hn : n ≤ 9000) :
    Calls Tryz.prog 13 #[.pointer (some ⟨g, 0, none⟩)] w (BlkPost w F g n pl bl ol cl T base (blockR K T r)) := by
  obtain ⟨q, hq⟩ : ∃ q, q = blockR K T r := ⟨_, rfl⟩
  rw [← hq]
  rw [block_form] at hq
  have hst := blk_start h hnm hbase fg fn
  obtain ⟨W1, hW1⟩ : ∃ W1, W1 = (w.alloc zeroBlk).alloc zeroBlk := ⟨_, rfl⟩
  rw [← hW1] at hst
  have HW := Lib.hid hW1
  have HA := Lib.hid hst
  have FX := Lib.hid (has_any ⟨#[102, 111, 114, 97, 108, 108]⟩ (by decide) hst.rd)
  rw [show txt ⟨#[102, 111, 114, 97, 108, 108]⟩ = tForall from rfl] at FX
  obtain ⟨qa, hqa⟩ : ∃ qa, qa = (hasF tForall r (next T r)).1 := ⟨_, rfl⟩
  obtain ⟨r1, hr1⟩ : ∃ r1, r1 = (hasF tForall r (next T r)).2 := ⟨_, rfl⟩
  have HUP1 := Lib.hid (show r.at_ ≤ r1.at_ by rw [hr1]; exact (fine_look (ok_has (s := tForall) (by decide))).up T r)
  have HV1 := Lib.hid (show r1.vars = r.vars by rw [hr1, has_vars])
  rw [← hqa, ← hr1] at FX hq
  obtain ⟨r2, hr2⟩ : ∃ r2, r2 = (headR qa T r1).2 := ⟨_, rfl⟩
  have HUP2 := Lib.hid (show r1.at_ ≤ r2.at_ by rw [hr2]; exact (fine_head qa).up T r1)
  have HQ := Lib.hid (show q = (seq (declsR K K []) fun vs => seq (look (hasF tWhere)) fun b => seq (whereR K b) fun cs => seq (look (mustF tSemi)) fun _ => ret (⟨qa, vs, cs⟩ : PBlock)) T r2 by rw [hq, hr2]; rfl)
  have HR2 := Lib.hid hr2
  clear h hq hst hW1 hqa hr1 hr2 hnm fg fn
  go_enter Tryz.func13, Tryz.ntmps13
  go_upto_region 2 with fail
  rw [show (Obj.cells #[.bool false, .slice none 0 0, .slice none 0 0] 39) = zeroBlk from rfl, ← HW.out]
  go_wp2_with fail
  refine FX.out.mono ?_
  rintro e w1 ⟨rfl, h1, hm1⟩
  have HA1 := Lib.hid (HA.out.moved h1 hm1)
  have b0 := HA1.out.box.cell 0 rfl
  have f0 := HA1.out.box.frozen 0
  clear h1 hm1
  go_upto_region 3 with fail
  have HA2 := Lib.hid (HA1.out.all (b := qa))
  obtain ⟨w2, hw2⟩ : ∃ w2, w2 = w1.setCell ⟨w.heap.size + 1, 0, none⟩ (.bool qa) := ⟨_, rfl⟩
  rw [← hw2] at HA2 ⊢
  clear hw2 b0 f0
  have bq := HA2.out.box.cell 0 rfl
  go_upto_if 15 with (fail)
  go_cut [] from 16 to 17 (fun wx => BlkAt w wx F g n pl bl ol cl T base qa [] r2 (.slice none 0 0) pv bv ov m cv)
  case first =>
    cases qa
    · have EX := Lib.hid (must_any ⟨#[101, 120, 105, 115, 116, 115]⟩ (by decide) HA2.out.rd)
      rw [show txt ⟨#[101, 120, 105, 115, 116, 115]⟩ = tExists from rfl] at EX
      go_wp2_with fail
      refine EX.out.mono ?_
      rintro e w3 ⟨rfl, h3, hm3⟩
      have HA3 := Lib.hid (HA2.out.moved h3 hm3)
      clear h3 hm3
      go_wp2_with fail
      go_meet
      case rel => rw [HR2.out]; exact HA3.out
    · go_wp2_with fail
      go_meet
      case rel => rw [HR2.out]; exact HA2.out
  case rest =>
    obtain ⟨w3, hw3⟩ : ∃ w3, w3 = wc := ⟨_, rfl⟩
    rw [← hw3] at hcut ⊢
    have HA3 := Lib.hid hcut
    have hvr : r2.vars = r.vars := by rw [HR2.out, head_vars, HV1.out]
    have HVR := Lib.hid hvr
    clear hcut hw3 bq hvr
    go_wp2_with fail
    go_loopw [4] (fun vm wr => ∃ (j : Nat) (l : List PDecl) (rr : Rd) (mo : Bool) (v1 : Value) (pv : Option Addr) (bv ov m cv : Nat), vm = .bool mo ∧ (if mo = true then declsR K K [] T r2 = declsR K j l T rr ∧ n < j + rr.at_ ∧ l.length ≤ rr.at_ ∧ rr.vars.length ≤ rr.at_ else declsR K K [] T r2 = (l, rr) ∧ rr.vars.length ≤ rr.at_ + 1) ∧ BlkAt w wr F g n pl bl ol cl T base qa l rr v1 pv bv ov m cv) (fun vm wr => moOf vm + (n - tookOf wr g))
    case atStart => exact ⟨K, [], r2, true, _, _, _, _, _, _, rfl, by rw [if_pos rfl]; exact ⟨rfl, by omega, by simp, by have := HUP1.out; have := HUP2.out; rw [HVR.out]; omega⟩, HA3.out⟩
    case round =>
      obtain ⟨j, l, rr, mo, v1, pv', bv', ov', m', cv', rfl, hif, hat⟩ := hrel
      have htp := hat.rd.top
      have HAT := Lib.hid hat
      clear hat
      cases mo
      · rw [if_neg (by simp)] at hif
        obtain ⟨hde, hvl2⟩ := hif
        have hq2 : q = (seq (look (hasF tWhere)) fun b => seq (whereR K b) fun cs => seq (look (mustF tSemi)) fun _ => ret (⟨qa, l, cs⟩ : PBlock)) T rr := by
          rw [HQ.out]
          show (seq (look (hasF tWhere)) fun b => seq (whereR K b) fun cs => seq (look (mustF tSemi)) fun _ => ret (⟨qa, (declsR K K [] T r2).1, cs⟩ : PBlock)) T (declsR K K [] T r2).2 = _
          rw [hde]
        have WX := Lib.hid (has_any ⟨#[119, 104, 101, 114, 101]⟩ (by decide) HAT.out.rd)
        rw [show txt ⟨#[119, 104, 101, 114, 101]⟩ = tWhere from rfl] at WX
        obtain ⟨bw, hbw⟩ : ∃ bw, bw = (hasF tWhere rr (next T rr)).1 := ⟨_, rfl⟩
        obtain ⟨r5, hr5⟩ : ∃ r5, r5 = (hasF tWhere rr (next T rr)).2 := ⟨_, rfl⟩
        rw [← hbw, ← hr5] at WX
        have HQ2 := Lib.hid (show q = (seq (whereR K bw) fun cs => seq (look (mustF tSemi)) fun _ => ret (⟨qa, l, cs⟩ : PBlock)) T r5 by rw [hq2, hbw, hr5]; rfl)
        have hmm : m' ≤ 1000000 := by have := HAT.out.rd.nm.long; omega
        clear hde hq2 hbw hr5
        cases bw
        · have HQ3 := Lib.hid (show q = (⟨qa, l, []⟩, (mustF tSemi r5 (next T r5)).2) by rw [HQ2.out]; rfl)
          go_wp2_with fail
          refine WX.out.mono ?_
          rintro e w5 ⟨rfl, h5, hm5⟩
          have HA5 := Lib.hid (HAT.out.moved h5 hm5)
          have SX := Lib.hid (must_any ⟨#[59]⟩ (by decide) h5)
          rw [show txt ⟨#[59]⟩ = tSemi from rfl] at SX
          clear h5 hm5
          go_wp2_with fail
          refine SX.out.mono ?_
          rintro e w6 ⟨rfl, h6, hm6⟩
          have HA6 := Lib.hid (HA5.out.moved h6 hm6)
          clear h6 hm6
          obtain ⟨p1, l1, k1, e1⟩ : ∃ p l k, v1 = .slice p l k := by
            obtain ⟨p, k, e⟩ := OwnsP.shape HA6.out.ds
            exact ⟨p, _, k, e⟩
          subst e1
          have b0 := HA6.out.box.cell 0 rfl
          have b1 := HA6.out.box.cell 1 rfl
          have b2 := HA6.out.box.cell 2 rfl
          have r0 := HA6.out.res.cell 0 rfl
          have s0 := HA6.out.res.frozen 0
          have r1 := HA6.out.res.cell 1 rfl
          have s1 := HA6.out.res.frozen 1
          have r2 := HA6.out.res.cell 2 rfl
          have s2 := HA6.out.res.frozen 2
          go_wp2_with fail
          (try simp only [Exit.inBlock, Exit.then])
          refine bodyPost_ret (results_block rfl _ _ w.heap.size (.bool qa) (.slice p1 l1 k1) (.slice none 0 0) rfl ?c0a ?c1a ?c2a) rfl ?resta
          case c0a => go_simp
          case c1a => go_simp
          case c2a => go_simp
          exact blk_post ⟨HA6.out.rd, HA6.out.nm, HA6.out.res.kind, HA6.out.ds, cons_nil _ _, HA6.out.but, HA6.out.fn⟩ HQ3.out
        · have HQ3 := Lib.hid (show q = (⟨qa, l, (listR K T r5).1⟩, (mustF tSemi (listR K T r5).2 (next T (listR K T r5).2)).2) by rw [HQ2.out]; rfl)
          obtain ⟨cp, hcp⟩ : ∃ cp, cp = listR K T r5 := ⟨_, rfl⟩
          rw [← hcp] at HQ3
          go_wp2_with fail
          refine WX.out.mono ?_
          rintro e w5 ⟨rfl, h5, hm5⟩
          have HA5 := Lib.hid (HAT.out.moved h5 hm5)
          have LX := Lib.hid (list_any K h5 hv hmm hK hn)
          rw [← hcp] at LX
          clear h5 hm5 hcp
          go_wp2_with fail
          refine LX.out.mono ?_
          rintro e w6 ⟨v2, rfl, hc, h6, hb6⟩
          have HA6 := Lib.hid (HA5.out.moved h6 hb6.turns)
          have HC6 := Lib.hid (ConsAt.low hc HA5.out.but.size)
          clear hc h6 hb6
          obtain ⟨p2, l2, k2, e2⟩ : ∃ p l k, v2 = .slice p l k := by
            obtain ⟨p, k, e⟩ := OwnsP.shape HC6.out
            exact ⟨p, _, k, e⟩
          subst e2
          have b2 := HA6.out.box.cell 2 rfl
          have f2 := HA6.out.box.frozen 2
          go_upto_region 22 with fail
          have HE7 := Lib.hid (BlkEnd.set (b := w.heap.size + 1) (j := 2) (x := .slice p2 l2 k2) (⟨HA6.out.rd, HA6.out.nm, HA6.out.res.kind, HA6.out.ds, HC6.out, HA6.out.but, HA6.out.fn⟩ : BlkEnd w w6 F g n pl bl ol cl T base l cp.1 cp.2 v1 (.slice p2 l2 k2) pv' bv' ov' m' cv') HA6.out.box.kind (by omega))
          have HB7 := Lib.hid (HA6.out.box.set (.slice p2 l2 k2)).2.2
          have HS7 := Lib.hid (show Box3 (w6.setCell ⟨w.heap.size + 1, 2, none⟩ (.slice p2 l2 k2)) w.heap.size (.bool false) (.slice none 0 0) (.slice none 0 0) from (Below.heap_setCell _ _ _ _ (by simp)).trans HA6.out.res)
          obtain ⟨w7, hw7⟩ : ∃ w7, w7 = w6.setCell ⟨w.heap.size + 1, 2, none⟩ (.slice p2 l2 k2) := ⟨_, rfl⟩
          rw [← hw7] at HE7 HB7 HS7 ⊢
          have SX := Lib.hid (must_any ⟨#[59]⟩ (by decide) HE7.out.rd)
          rw [show txt ⟨#[59]⟩ = tSemi from rfl] at SX
          clear hw7 b2 f2
          go_wp2_with fail
          refine SX.out.mono ?_
          rintro e w8 ⟨rfl, h8, hm8⟩
          have HE8 := Lib.hid (HE7.out.moved HA6.out.fg h8 hm8)
          have HB8 := Lib.hid (HB7.out.moved hm8 HE7.out.rd.ty)
          have HS8 := Lib.hid (HS7.out.moved hm8 HE7.out.rd.ty)
          clear h8 hm8
          obtain ⟨p1, l1, k1, e1⟩ : ∃ p l k, v1 = .slice p l k := by
            obtain ⟨p, k, e⟩ := OwnsP.shape HE8.out.ds
            exact ⟨p, _, k, e⟩
          subst e1
          have b0 := HB8.out.cell 0 rfl
          have b1 := HB8.out.cell 1 rfl
          have b2 := HB8.out.cell 2 rfl
          have r0 := HS8.out.cell 0 rfl
          have s0 := HS8.out.frozen 0
          have r1 := HS8.out.cell 1 rfl
          have s1 := HS8.out.frozen 1
          have r2 := HS8.out.cell 2 rfl
          have s2 := HS8.out.frozen 2
          go_wp2_with fail
          (try simp only [Exit.inBlock, Exit.then])
          refine bodyPost_ret (results_block rfl _ _ w.heap.size (.bool qa) (.slice p1 l1 k1) (.slice p2 l2 k2) rfl ?c0b ?c1b ?c2b) rfl ?restb
          case c0b => go_simp
          case c1b => go_simp
          case c2b => go_simp
          exact blk_post HE8.out HQ3.out
      · rw [if_pos rfl] at hif
        obtain ⟨hde, hnj, hll, hvl2⟩ := hif
        obtain ⟨j', rfl⟩ : ∃ j', j = j' + 1 := ⟨j - 1, by omega⟩
        rw [decls_eq, decl_form] at hde
        have NX := Lib.hid (nm_any HAT.out.rd)
        obtain ⟨s, hs⟩ : ∃ s, s = (nameF rr (next T rr)).1 := ⟨_, rfl⟩
        obtain ⟨ra, hra⟩ : ∃ ra, ra = (nameF rr (next T rr)).2 := ⟨_, rfl⟩
        obtain ⟨qs, hqs, hqt⟩ := str_open s
        rw [← hs, ← hra, hqs] at NX
        have HUPA := Lib.hid (show rr.at_ ≤ ra.at_ by rw [hra]; exact (fine_look ok_name).up T rr)
        obtain ⟨rb, hrb⟩ : ∃ rb, rb = (mustF tIn ra (next T ra)).2 := ⟨_, rfl⟩
        have HUPB := Lib.hid (show ra.at_ ≤ rb.at_ by rw [hrb]; exact (fine_look (ok_must (s := tIn) (by decide))).up T ra)
        rw [← hs, show declHead T rr = rb by rw [declHead, ← hra, hrb]] at hde
        have HDE := Lib.hid hde
        have HQS := Lib.hid hqs
        have HQT := Lib.hid hqt
        have HRB := Lib.hid hrb
        have HTK := Lib.hid (tookOf_at HAT.out.rd)
        obtain ⟨ws, hws⟩ : ∃ ws, ws = wr := ⟨_, rfl⟩
        rw [← hws] at HAT NX HTK ⊢
        clear hde hs hra hqs hqt hrb hws
        go_wp2_with fail
        refine NX.out.mono ?_
        rintro e w4 ⟨rfl, h4, hm4⟩
        have H4 := Lib.hid h4
        have M4 := Lib.hid hm4
        clear h4 hm4
        go_upto_region 9 with fail
        obtain ⟨D, hD⟩ : ∃ D, D = w4.heap.size := ⟨_, rfl⟩
        obtain ⟨w5, hw5⟩ : ∃ w5, w5 = w4.alloc (.cells #[.string qs, .slice none 0 0] 36) := ⟨_, rfl⟩
        have hB5 : Below w4.heap.size w4 w5 := by rw [hw5]; exact (Below.refl _ w4).alloc (Nat.le_refl _) _
        have H5 := Lib.hid (H4.out.below hB5)
        have M5 := Lib.hid (M4.out.trans (Moves.of_below hB5))
        have BD5 := Lib.hid (show Box2 w5 D (.string qs) (.slice none 0 0) by rw [hw5, hD]; exact heap_alloc_new w4 _)
        have HD := Lib.hid (show ws.heap.size ≤ D by rw [hD]; exact M4.out.size)
        rw [← hw5, ← hD]
        have IX := Lib.hid (must_any ⟨#[105, 110]⟩ (by decide) H5.out)
        rw [show txt ⟨#[105, 110]⟩ = tIn from rfl, ← HRB.out] at IX
        clear hw5 hD hB5
        go_wp2_with fail
        refine IX.out.mono ?_
        rintro e w6 ⟨rfl, h6, hm6⟩
        have H6 := Lib.hid h6
        have M6 := Lib.hid (M5.out.trans hm6)
        have BD6 := Lib.hid (BD5.out.moved hm6 H5.out.ty)
        clear h6 hm6
        go_wp2_with fail
        go_loopw [6] (fun vm wr => ∃ (j2 : Nat) (l2 : List (Int × Int)) (rr2 : Rd) (mo2 : Bool) (u : Value), vm = .bool mo2 ∧ (if mo2 = true then rangesR K [] T rb = rangesR j2 l2 T rr2 ∧ n < j2 + rr2.at_ ∧ l2.length ≤ rr2.at_ else rangesR K [] T rb = (l2, rr2)) ∧ RdAt wr g n pl bl ol cl pv' bv' ov' m' cv' T rr2 ∧ Moves g none ws wr ∧ Box2 wr D (.string qs) u ∧ OwnsP spanP 2 33 ws.heap.size wr u l2) (fun vm wr => moOf vm + (n - tookOf wr g))
        case atStart => exact ⟨K, [], rb, true, _, rfl, by rw [if_pos rfl]; exact ⟨rfl, by omega, by simp⟩, H6.out, M6.out, BD6.out, ownsP_nil _ _ _ _ _⟩
        case round =>
          obtain ⟨j2, l2, rr2, mo2, u, rfl, hif2, hrd2, hmv2, hbd2, hou2⟩ := hrel
          have htp2 := hrd2.top
          have HRD := Lib.hid hrd2
          have HMV := Lib.hid hmv2
          have HBD := Lib.hid hbd2
          have HOU := Lib.hid hou2
          clear hrd2 hmv2 hbd2 hou2
          cases mo2
          · rw [if_neg (by simp)] at hif2
            have HAX := Lib.hid (HAT.out.moved HRD.out HMV.out)
            have HVE := Lib.hid (HAT.out.vars_eq HRD.out HMV.out)
            obtain ⟨rn, hrn⟩ : ∃ rn : Rd, rn = { rr2 with vars := rr2.vars ++ [s] } := ⟨_, rfl⟩
            have hde2 := HDE.out
            rw [hif2] at hde2
            simp only at hde2
            rw [← hrn] at hde2
            have HDE2 := Lib.hid hde2
            have HRN := Lib.hid hrn
            have HUPC := Lib.hid (show rb.at_ ≤ rr2.at_ by have := (fine_ranges K []).up T rb; rw [hif2] at this; exact this)
            clear hde2 hif2 hrn
            obtain ⟨wt, hwt⟩ : ∃ wt, wt = wr := ⟨_, rfl⟩
            rw [← hwt] at HRD HMV HBD HOU HAX ⊢
            clear hwt
            obtain ⟨p3, l3, k3, e3⟩ : ∃ p l k, u = .slice p l k := by
              obtain ⟨p, k, e⟩ := OwnsP.shape HOU.out
              exact ⟨p, _, k, e⟩
            subst e3
            obtain ⟨wb, hwb⟩ : ∃ wb, wb = wt.alloc (.cells #[.string qs, .slice p3 l3 k3] 36) := ⟨_, rfl⟩
            have hBb : Below wt.heap.size wt wb := by rw [hwb]; exact (Below.refl _ wt).alloc (Nat.le_refl _) _
            have HAB := Lib.hid (HAX.out.below hBb)
            have HDB := Lib.hid (HBD.out.below hBb)
            have HCE := Lib.hid (show ∀ j u, [Value.string qs, .slice p3 l3 k3][j]? = some u → wb.cell? ⟨wt.heap.size, j, none⟩ = some u from fun j u hj => by
              rw [hwb, World.cell?_alloc_mark]
              match j, hj with
              | 0, hj => exact hj
              | 1, hj => exact hj)
            have HSP := Lib.hid (show declP wb w.heap.size [Value.string qs, .slice p3 l3 k3] ⟨s, l2⟩ from ⟨qs, _, rfl, HQT.out, OwnsP.low (HOU.out.below hBb) HAT.out.but.size⟩)
            have HWB := Lib.hid hwb
            have b1 := HAX.out.box.cell 1 rfl
            have d0 := HBD.out.cell 0 rfl
            have d1 := HBD.out.cell 1 rfl
            have hl5 : l.length ≤ 100000 := by omega
            have HLOW := Lib.hid HAB.out.but.size
            have HDV := Lib.hid (show ∀ k, v1.ownBlock = some k → k < ws.heap.size from fun k e => (OwnsP.lt HAT.out.ds k e).2)
            clear hBb hwb
            go_upto_region 19 with (at_builtin; rw [← HWB.out]; refine put_row info44 rfl (by decide) (by decide) Tryz.underlying37 rfl _ _ rfl rfl rfl HAB.out.ds rfl HCE.out (by simp [Value.oneCell']) HSP.out hl5 HLOW.out ?_; intro p cap wp hp1 hp2 hp3; have P1 := Lib.hid hp1; have P2 := Lib.hid hp2; have bP := HAB.out.box.grown (fun i hi => OwnsP.kind HAB.out.ds (k := i) hi) hp2 (by decide); have b2 := bP.cell 1 rfl; have f2 := bP.frozen 1; clear hp1 hp2 hp3 bP)
            have HAP := Lib.hid (HAB.out.decl P1.out P2.out)
            have HDP := Lib.hid (show Box2 (wp.setCell ⟨w.heap.size + 1, 1, none⟩ (.slice p (l.length + 1) cap)) D (.string qs) (.slice p3 l3 k3) from (Below.heap_setCell _ _ _ _ (by have := HD.out; have := HAT.out.but.size; have := HAT.out.box.lt; show D ≠ w.heap.size + 1; omega)).trans ((P2.out.block D HDB.out.lt (fun e => by have := HDV.out D e.symm; have := HD.out; omega)).trans HDB.out))
            obtain ⟨wq, hwq⟩ : ∃ wq, wq = wp.setCell ⟨w.heap.size + 1, 1, none⟩ (.slice p (l.length + 1) cap) := ⟨_, rfl⟩
            rw [← hwq] at HAP HDP ⊢
            obtain ⟨y1, hy1⟩ : ∃ y1 : Value, y1 = .slice p (l.length + 1) cap := ⟨_, rfl⟩
            rw [← hy1] at HAP
            clear hwq b1 b2 f2 d0 d1 hy1
            have c3 := HAP.out.rd.c3
            have f3 := HAP.out.rd.f3
            have d0 := HDP.out.cell 0 rfl
            have hl6 : rr2.vars.length ≤ 100000 := by rw [HVE.out]; omega
            have HAV := Lib.hid (show BlkAt w ((wq.drewN 1).alloc (.cells #[.string qs] 9)) F g n pl bl ol cl T base qa (l ++ [⟨s, l2⟩]) rr2 y1 pv' bv' ov' m' cv' from (HAP.out.moved (HAP.out.rd.drewN 1) ((Moves.refl g none wq).drewN 1)).below ((Below.refl _ (wq.drewN 1)).alloc (Nat.le_refl _) _))
            have HCV := Lib.hid (show ∀ j u, [Value.string qs][j]? = some u → ((wq.drewN 1).alloc (.cells #[.string qs] 9)).cell? ⟨wq.heap.size, j, none⟩ = some u from fun j u hj => (World.cell?_alloc_mark (wq.drewN 1) _ _ _ _).trans (by
              match j, hj with
              | 0, hj => exact hj))
            have hgl : g < wq.heap.size := by
              obtain ⟨cs, e⟩ := HAP.out.rd.ty
              exact (Array.getElem?_eq_some_iff.1 e).1
            have hdl : D < wq.heap.size := HDP.out.lt
            have HSN := Lib.hid (show nameP [Value.string qs] s by rw [nameP, HQS.out])
            have HLV := Lib.hid HAV.out.low
            go_region_law (refine put_row_step info9 rfl (by decide) (by decide) Tryz.underlying48 rfl _ _ rfl rfl rfl HAV.out.nm rfl HCV.out (by simp [Value.oneCell']) HSN.out hl6 HLV.out ?_; intro p7 cap7 w7 hp1 hp2 hp3; have kk := HAV.out.keeps hp2; have c3 := kk.1; have f3 := kk.2; have HN := Lib.hid (HAV.out.name (s := s) hp1 hp2 hp3); clear hp1 hp2 hp3 kk)
            all_goals
              obtain ⟨bv9, hh9⟩ := HN.out
              have h9 := hh9
              rw [← HRN.out] at h9
              obtain ⟨w9, hw9⟩ : ∃ w9, w9 = w7.setCell ⟨g, 3, none⟩ (.slice p7 (rr2.vars.length + 1) cap7) := ⟨_, rfl⟩
              rw [← hw9] at h9 ⊢
              have HA9 := Lib.hid h9
              have CX := Lib.hid (has_any ⟨#[44]⟩ (by decide) h9.rd)
              rw [show txt ⟨#[44]⟩ = tComma from rfl] at CX
              obtain ⟨bc, hbc⟩ : ∃ bc, bc = (hasF tComma rn (next T rn)).1 := ⟨_, rfl⟩
              obtain ⟨rc, hrc⟩ : ∃ rc, rc = (hasF tComma rn (next T rn)).2 := ⟨_, rfl⟩
              have HON := Lib.hid (show bc = true → rc = step1 rn from fun e => by rw [hrc]; exact has_on (by rw [← hbc, e]))
              have HUPR := Lib.hid (show rn.at_ ≤ rc.at_ by rw [hrc]; exact (fine_look (ok_has (s := tComma) (by decide))).up T rn)
              have hde3 := HDE2.out
              rw [← hbc, ← hrc] at CX hde3
              have HDE3 := Lib.hid hde3
              have HVN := Lib.hid (show rc.vars.length = rr.vars.length + 1 by rw [hrc, has_vars, HRN.out, ← HVE.out]; simp)
              have HNA := Lib.hid (show rn.at_ = rr2.at_ by rw [HRN.out])
              clear h9 hw9 hh9 hbc hrc hde3
              go_wp2_with fail
              refine CX.out.mono ?_
              rintro e w10 ⟨rfl, h10, hm10⟩
              have HA10 := Lib.hid (HA9.out.moved h10 hm10)
              clear h10 hm10
              go_wp2_with fail
              go_roundw
              case rel =>
                refine ⟨j', l ++ [⟨s, l2⟩], rc, bc, y1, p7, bv9, 0, rr2.vars.length + 1, cap7, rfl, ?_, HA10.out⟩
                have h1 := HDE3.out
                have h2 := HUPA.out
                have h3 := HUPB.out
                have h4 := HUPC.out
                have h5 := HUPR.out
                have h6 := HVN.out
                have h7 := HNA.out
                cases bc
                · rw [if_neg (by simp)] at h1 ⊢
                  exact ⟨h1, by omega⟩
                · rw [if_pos rfl] at h1 ⊢
                  have h8 : rc.at_ = rn.at_ + 1 := by rw [HON.out rfl]; rfl
                  exact ⟨h1, by omega, by simp; omega, by omega⟩
              case measure =>
                have h2 := HUPA.out
                have h3 := HUPB.out
                have h4 := HUPC.out
                have h5 := HUPR.out
                have h7 := HNA.out
                have h8 := HA10.out.rd.top
                rw [tookOf_at HA10.out.rd, HTK.out]
                cases bc
                · simp only [moOf]; omega
                · have h9 : rc.at_ = rn.at_ + 1 := by rw [HON.out rfl]; rfl
                  simp only [moOf]; omega
          · rw [if_pos rfl] at hif2
            obtain ⟨hre, hnj2, hll2⟩ := hif2
            obtain ⟨i2, rfl⟩ : ∃ i2, j2 = i2 + 1 := ⟨j2 - 1, by omega⟩
            rw [ranges_eq] at hre
            have HRE := Lib.hid hre
            have HTK2 := Lib.hid (tookOf_at HRD.out)
            have HWT := Lib.hid (range_went T rr2)
            have HFW := Lib.hid (range_few (r := rr2) hv)
            have HFO := Lib.hid (range_form T rr2)
            have NX2 := Lib.hid (number_any HRD.out hv)
            obtain ⟨lo, hlo⟩ : ∃ lo, lo = (number T rr2).1 := ⟨_, rfl⟩
            obtain ⟨rl, hrl⟩ : ∃ rl, rl = (number T rr2).2 := ⟨_, rfl⟩
            rw [← hlo, ← hrl] at NX2 HFO
            obtain ⟨x, hx⟩ : ∃ x, x = (rangeOne T rr2).1 := ⟨_, rfl⟩
            obtain ⟨rx, hrx⟩ : ∃ rx, rx = (rangeOne T rr2).2 := ⟨_, rfl⟩
            rw [← hx, ← hrx] at HRE
            rw [← hrx] at HWT
            rw [← hx] at HFW
            have HXX := Lib.hid (show rangeOne T rr2 = (x, rx) by rw [hx, hrx])
            rw [HXX.out] at HFO
            obtain ⟨wt, hwt⟩ : ∃ wt, wt = wr := ⟨_, rfl⟩
            rw [← hwt] at HRD HMV HBD HOU HTK2 NX2 ⊢
            clear hre hlo hrl hx hrx hwt
            go_wp2_with fail
            refine NX2.out.mono ?_
            rintro e w7 ⟨rfl, h7, hm7⟩
            have H7 := Lib.hid h7
            have M7 := Lib.hid (HMV.out.trans hm7)
            have B7 := Lib.hid (HBD.out.moved hm7 HRD.out.ty)
            have O7 := Lib.hid (OwnsP.moved HOU.out hm7 HRD.out.ty (by decide))
            have DX := Lib.hid (has_any ⟨#[46, 46]⟩ (by decide) h7)
            rw [show txt ⟨#[46, 46]⟩ = tDots from rfl] at DX
            obtain ⟨bd, hbd⟩ : ∃ bd, bd = (hasF tDots rl (next T rl)).1 := ⟨_, rfl⟩
            obtain ⟨rd, hrd⟩ : ∃ rd, rd = (hasF tDots rl (next T rl)).2 := ⟨_, rfl⟩
            rw [← hbd, ← hrd] at DX HFO
            clear h7 hm7 hbd hrd
            go_wp2_with fail
            refine DX.out.mono ?_
            rintro e w8 ⟨rfl, h8, hm8⟩
            have H8 := Lib.hid h8
            have M8 := Lib.hid (M7.out.trans hm8)
            have B8 := Lib.hid (B7.out.moved hm8 H7.out.ty)
            have O8 := Lib.hid (OwnsP.moved O7.out hm8 H7.out.ty (by decide))
            clear h8 hm8
            go_upto_if 39 with (fail)
            go_cut [8] from 40 to 41 (fun vh wx => vh = .int .i64 x.2 ∧ RdAt wx g n pl bl ol cl pv' bv' ov' m' cv' T rx ∧ Moves g none ws wx ∧ Box2 wx D (.string qs) u ∧ OwnsP spanP 2 33 ws.heap.size wx u l2)
            case first =>
              cases bd
              · have e1 : x.2 = lo ∧ rx = rd := by
                  have := HFO.out
                  simp only [Prod.mk.injEq] at this
                  exact ⟨by rw [this.1]; rfl, this.2⟩
                have HE1 := Lib.hid e1
                clear e1
                go_wp2_with fail
                go_meet
                case rel => rw [HE1.out.1, HE1.out.2]; exact ⟨rfl, H8.out, M8.out, B8.out, O8.out⟩
              · have e1 : x.2 = (number T rd).1 ∧ rx = (number T rd).2 := by
                  have := HFO.out
                  simp only [Prod.mk.injEq] at this
                  exact ⟨by rw [this.1]; rfl, this.2⟩
                have HE1 := Lib.hid e1
                have NX3 := Lib.hid (number_any H8.out hv)
                clear e1
                go_wp2_with fail
                refine NX3.out.mono ?_
                rintro e w9 ⟨rfl, h9, hm9⟩
                have H9 := Lib.hid h9
                have M9 := Lib.hid (M8.out.trans hm9)
                have B9 := Lib.hid (B8.out.moved hm9 H8.out.ty)
                have O9 := Lib.hid (OwnsP.moved O8.out hm9 H8.out.ty (by decide))
                clear h9 hm9
                go_wp2_with fail
                go_meet
                case rel => rw [HE1.out.1, HE1.out.2]; exact ⟨rfl, H9.out, M9.out, B9.out, O9.out⟩
            case rest =>
              obtain ⟨rfl, hc1, hc2, hc3, hc4⟩ := hcut
              obtain ⟨wa, hwa⟩ : ∃ wa, wa = wc := ⟨_, rfl⟩
              rw [← hwa] at hc1 hc2 hc3 hc4 ⊢
              have hlx : x.1 = lo := by
                have := HFO.out
                simp only [Prod.mk.injEq] at this
                rw [this.1]
              obtain ⟨wb, hwb⟩ : ∃ wb, wb = wa.alloc (.cells #[.int .i64 lo, .int .i64 x.2] 33) := ⟨_, rfl⟩
              have hBb : Below wa.heap.size wa wb := by rw [hwb]; exact (Below.refl _ wa).alloc (Nat.le_refl _) _
              have H1 := Lib.hid (hc1.below hBb)
              have M1 := Lib.hid (hc2.trans (Moves.of_below hBb))
              have B1 := Lib.hid (hc3.below hBb)
              have O1 := Lib.hid (hc4.below hBb)
              have hcells : ∀ j u, [Value.int .i64 lo, .int .i64 x.2][j]? = some u → wb.cell? ⟨wa.heap.size, j, none⟩ = some u := fun j u hj => by
                rw [hwb, World.cell?_alloc_mark]
                match j, hj with
                | 0, hj => exact hj
                | 1, hj => exact hj
              have HCE := Lib.hid hcells
              have HSP := Lib.hid (show spanP [Value.int .i64 lo, .int .i64 x.2] x from ⟨by rw [hlx], HFW.out⟩)
              have HWB := Lib.hid hwb
              have b1 := hc3.cell 1 rfl
              have hl2 : l2.length ≤ 100000 := by omega
              have HLOW := Lib.hid (show ws.heap.size ≤ wb.heap.size from M1.out.size)
              clear hc1 hc2 hc3 hc4 hwa hlx hBb hcells hwb
              go_upto_region 12 with (at_builtin; rw [← HWB.out]; refine put_row info41 rfl (by decide) (by decide) Tryz.underlying34 rfl _ _ rfl rfl rfl O1.out rfl HCE.out (by simp [Value.oneCell']) HSP.out hl2 HLOW.out ?_; intro p cap wp hp1 hp2 hp3; have P1 := Lib.hid hp1; have P2 := Lib.hid hp2; have hu2 := fun i hi => OwnsP.kind O1.out (k := i) hi; have bP := B1.out.grown hu2 hp2 (by decide); have b2 := bP.cell 1 rfl; have f2 := bP.frozen 1; have BP := Lib.hid bP; clear hp1 hp2 hp3 bP hu2)
              have HR9 := Lib.hid ((H1.out.row (fun i hi => OwnsP.kind O1.out (k := i) hi) P2.out (by decide) (by decide) (by decide)).put (b := D) (j := 1) (x := .slice p (l2.length + 1) cap) BP.out.kind (by decide) (by decide) (by decide))
              have HM9 := Lib.hid ((M1.out.grows P2.out (fun k e => (OwnsP.lt O1.out k e).1)).put (b := D) (j := 1) (x := .slice p (l2.length + 1) cap) HD.out)
              have HB9 := Lib.hid (BP.out.set (.slice p (l2.length + 1) cap))
              have HO9 := Lib.hid (OwnsP.set (j := 1) (x := .slice p (l2.length + 1) cap) P1.out BP.out.kind (by decide))
              obtain ⟨w9, hw9⟩ : ∃ w9, w9 = wp.setCell ⟨D, 1, none⟩ (.slice p (l2.length + 1) cap) := ⟨_, rfl⟩
              rw [← hw9] at HR9 HM9 HB9 HO9 ⊢
              have KX := Lib.hid (kind_any HR9.out)
              obtain ⟨kk, hkk⟩ : ∃ kk, kk = kindO (next T rx) := ⟨_, rfl⟩
              rw [← hkk] at KX
              obtain ⟨qt, hqt1, hqt2⟩ := str_open (textO (next T rx))
              have TX := Lib.hid (fun k => text_any (HR9.out.drewN k))
              rw [hqt1] at TX
              have he := eql_txt qt ⟨#[45]⟩
              rw [hqt2, show txt ⟨#[45]⟩ = tMinus from rfl] at he
              obtain ⟨bm, hbm⟩ : ∃ bm, bm = decide (textO (next T rx) = tMinus) := ⟨_, rfl⟩
              rw [← hbm] at he
              have HMO := Lib.hid (show moreD T rx = (decide (kk = 2) || bm) by rw [moreD, hkk, hbm])
              clear hw9 b1 b2 f2 hkk hqt1 hqt2 hbm
              have HREL := Lib.hid (fun (mo : Bool) (wz : World) (hmo : moreD T rx = mo) (hz : ∃ k, wz = w9.drewN k) => show (∃ (j2 : Nat) (l2' : List (Int × Int)) (rr2' : Rd) (mo2 : Bool) (u : Value), Value.bool mo = .bool mo2 ∧ (if mo2 = true then rangesR K [] T rb = rangesR j2 l2' T rr2' ∧ n < j2 + rr2'.at_ ∧ l2'.length ≤ rr2'.at_ else rangesR K [] T rb = (l2', rr2')) ∧ RdAt wz g n pl bl ol cl pv' bv' ov' m' cv' T rr2' ∧ Moves g none ws wz ∧ Box2 wz D (.string qs) u ∧ OwnsP spanP 2 33 ws.heap.size wz u l2') ∧ moOf (.bool mo) + (n - tookOf wz g) < moOf (.bool true) + (n - tookOf wt g) from by
                obtain ⟨k, rfl⟩ := hz
                have hR := HR9.out.drewN k
                have htx := hR.top
                have hup := HWT.out.up
                have hre := HRE.out
                rw [hmo] at hre
                refine ⟨⟨i2, l2 ++ [x], rx, mo, _, rfl, ?_, hR, HM9.out.drewN k, HB9.out, HO9.out⟩, ?_⟩
                · cases mo
                  · rw [if_neg (by simp)] at hre ⊢
                    exact hre
                  · rw [if_pos rfl] at hre ⊢
                    have hlt := HWT.out.on.resolve_left (by rw [more_right hmo]; simp)
                    exact ⟨hre, by omega, by simp; omega⟩
                · rw [tookOf_at hR, HTK2.out]
                  cases mo
                  · simp only [moOf]; omega
                  · have hlt := HWT.out.on.resolve_left (by rw [more_right hmo]; simp)
                    simp only [moOf]; omega)
              by_cases k2 : kk = 2
              · have e2 : ((kk : Int) == 2) = true := beq_iff_eq.2 (by omega)
                have HMT := Lib.hid (show moreD T rx = true by rw [HMO.out, decide_eq_true k2]; rfl)
                clear k2
                go_wp2_with fail
                refine KX.out.mono ?_
                rintro e w10 ⟨rfl, q10, hq10⟩
                have HZ := Lib.hid (HREL.out true w10 HMT.out ⟨q10, hq10⟩)
                clear hq10
                go_wp2_with fail
                go_roundw
                case rel => exact HZ.out.1
                case measure => exact HZ.out.2
              · have e2 : ((kk : Int) == 2) = false := beq_eq_false_iff_ne.2 (by omega)
                have HMT := Lib.hid (show moreD T rx = bm by rw [HMO.out, decide_eq_false k2]; rfl)
                clear k2
                go_wp2_with fail
                refine KX.out.mono ?_
                rintro e w10 ⟨rfl, q10, hq10⟩
                have TX2 := Lib.hid (show Calls Tryz.prog 12 #[.pointer (some ⟨g, 0, none⟩)] w10 (fun e w' => e = .returned (.string qt) ∧ ∃ q, w' = w9.drewN q) from by
                  rw [hq10]
                  refine (TX.out q10).mono ?_
                  rintro e w' ⟨h1, k, h2⟩
                  exact ⟨h1, by rw [h2]; exact drewN_on ⟨q10, rfl⟩⟩)
                clear hq10
                go_wp2_with fail
                refine TX2.out.mono ?_
                rintro e w11 ⟨rfl, hw11⟩
                have HZ := Lib.hid (HREL.out bm w11 HMT.out hw11)
                clear hw11
                go_wp2_with fail
                go_roundw
                case rel => exact HZ.out.1
                case measure => exact HZ.out.2
end
end Go.Proofs.YtfkakdpppejehaaGreat.Pa
