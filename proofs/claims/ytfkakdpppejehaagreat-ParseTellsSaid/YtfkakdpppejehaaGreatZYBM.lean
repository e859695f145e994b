/-
  What Parse of the document's answers answers.
  Two variables that a call makes; when two models are the same: plain data. Nothing of the program.
  What Same of the document's answers answers, at every two models that can be read and whose lists are short.
-/
import Derived.Test.YtfkakdpppejehaaGreatZYBI
import Derived.Test.YtfkakdpppejehaaGreatZQCheck
import Derived.Test.YtfkakdpppejehaaGreatZCRef
import Derived.Test.YtfkakdpppejehaaGreatZYBD
import Derived.Test.YtfkakdpppejehaaGreatZYBH
import Derived.Deep.RegionHeld3
namespace Go.Proofs.YtfkakdpppejehaaGreat.Pp
open Go.RowKit
open Sc (Tok Cells str noTok scanL)
open Pa
set_option maxRecDepth 100000

/-- what comes behind the blocks -/
def body_of (l : List PBlock) (rr : Rd) (T : List Tok) : PModel × Rd := (⟨l, (listR 10000 T (mustF tGoal rr (next T rr)).2).1⟩, (mustF tSemi (listR 10000 T (mustF tGoal rr (next T rr)).2).2 (next T (listR 10000 T (mustF tGoal rr (next T rr)).2).2)).2)
theorem body_form {l : List PBlock} {rr : Rd} {T : List Tok} (h : (l, rr) = blocksR 10000 10000 [] T Pa.start) : bodyR 10000 T Pa.start = body_of l rr T := by
  show ((⟨(blocksR 10000 10000 [] T Pa.start).1, (listR 10000 T (mustF tGoal (blocksR 10000 10000 [] T Pa.start).2 (next T (blocksR 10000 10000 [] T Pa.start).2)).2).1⟩ : PModel), (mustF tSemi (listR 10000 T (mustF tGoal (blocksR 10000 10000 [] T Pa.start).2 (next T (blocksR 10000 10000 [] T Pa.start).2)).2).2 (next T (listR 10000 T (mustF tGoal (blocksR 10000 10000 [] T Pa.start).2 (next T (blocksR 10000 10000 [] T Pa.start).2)).2).2)).2) = _
  rw [← h]
  rfl
theorem _root_.Go.Proofs.YtfkakdpppejehaaGreat.Pa.RMAt.out_ {w0 w : World} {g n : Nat} {pl : Option Addr} {bl ol cl : Nat} {T : List Tok} {D : Nat} {v1 v2 x y : Value} {l : List PBlock} {cs : List PCon} {r : Rd} {pv : Option Addr} {bv ov m cv : Nat} (h : RMAt w0 w g n pl bl ol cl T D v1 l v2 cs r pv bv ov m cv) :
    BlocksAt ((w.setCell ⟨w0.heap.size, 0, none⟩ x).setCell ⟨w0.heap.size, 1, none⟩ y) (w0.heap.size + 1) v1 l ∧ ConsAt ((w.setCell ⟨w0.heap.size, 0, none⟩ x).setCell ⟨w0.heap.size, 1, none⟩ y) (w0.heap.size + 1) v2 cs ∧ Below w0.heap.size w0 ((w.setCell ⟨w0.heap.size, 0, none⟩ x).setCell ⟨w0.heap.size, 1, none⟩ y) := by
  have one : ∀ (W : World) (j : Nat) (x : Value), ((∃ c, W.heap[w0.heap.size]? = some (.cells c 26)) ∧ BlocksAt W (w0.heap.size + 1) v1 l ∧ ConsAt W (w0.heap.size + 1) v2 cs ∧ Below w0.heap.size w0 W) →
      ((∃ c, (W.setCell ⟨w0.heap.size, j, none⟩ x).heap[w0.heap.size]? = some (.cells c 26)) ∧ BlocksAt (W.setCell ⟨w0.heap.size, j, none⟩ x) (w0.heap.size + 1) v1 l ∧ ConsAt (W.setCell ⟨w0.heap.size, j, none⟩ x) (w0.heap.size + 1) v2 cs ∧ Below w0.heap.size w0 (W.setCell ⟨w0.heap.size, j, none⟩ x)) := fun W j x ⟨a, c, d, e⟩ =>
    ⟨span_kind a, c.set a (by decide) (by decide) (by decide) (by decide) (by decide), d.set a (by decide) (by decide), below_put e (Nat.le_refl _)⟩
  obtain ⟨_, a, b, c⟩ := one _ 1 y (one _ 0 x ⟨h.res.kind, h.bs, h.cn, h.low⟩)
  exact ⟨a, b, c⟩
/-- is all right yet? -/
def rightOf (w : World) (g : Nat) : Nat := match w.cell? ⟨g, 2, none⟩ with
  | some (.bool true) => 0
  | _ => 1
theorem rightOf_at {w : World} {g n : Nat} {pl : Option Addr} {bl ol cl : Nat} {pv : Option Addr} {bv ov m cv : Nat} {T : List Tok} {r : Rd} (h : RdAt w g n pl bl ol cl pv bv ov m cv T r) : rightOf w g = if r.wrong = true then 0 else 1 := by
  unfold rightOf
  rw [h.c2]
  cases r.wrong <;> rfl
/-- behind a block -/
theorem rround {w0 ws wz : World} {g n : Nat} {pl : Option Addr} {bl cl : Nat} {T : List Tok} {D : Nat} {l : List PBlock} {rr r5 : Rd} {d2 : PBlock} {X0 : List PBlock × Rd} {j : Nat} {bm : Bool} {p7 : Option Addr} {c : Nat} {pv pv7 : Option Addr} {bv ov m cv bv7 ov7 m7 cv7 : Nat} {u1 u2 : Value}
    (hde : X0 = if (!decide (textO (next T r5) = tGoal) && !r5.wrong) = true then blocksR 10000 j (l ++ [d2]) T r5 else (l ++ [d2], r5)) (hup : Went rr r5) (hvx : r5.vars.length + rr.at_ ≤ rr.vars.length + r5.at_ + 1) (hvk : r5.wrong = false → r5.vars.length + rr.at_ + 0 ≤ rr.vars.length + r5.at_ + 0) (hbm : bm = !decide (textO (next T r5) = tGoal))
    (hvl : rr.vars.length ≤ rr.at_) (hnj : n < j + 1 + rr.at_) (hll : l.length ≤ rr.at_) (hz : RMAt w0 wz g n pl bl 0 cl T D (.slice p7 (l.length + 1) c) (l ++ [d2]) (.slice none 0 0) [] r5 pv7 bv7 ov7 m7 cv7) (hs : RMAt w0 ws g n pl bl 0 cl T D u1 l u2 [] rr pv bv ov m cv) (htk : tookOf ws g = rr.at_) (hrw : rr.wrong = false) :
    (∃ (j : Nat) (l : List PBlock) (rr : Rd) (mo : Bool) (p : Option Addr) (c : Nat) (pv : Option Addr) (bv ov m cv : Nat), Value.bool bm = .bool mo ∧ (if (mo && !rr.wrong) = true then X0 = blocksR 10000 j l T rr ∧ n < j + rr.at_ ∧ l.length ≤ rr.at_ ∧ rr.vars.length ≤ rr.at_ else X0 = (l, rr) ∧ rr.vars.length ≤ rr.at_ + 1) ∧ RMAt w0 wz g n pl bl 0 cl T D (.slice p l.length c) l (.slice none 0 0) [] rr pv bv ov m cv) ∧
      moOf (.bool bm) + rightOf wz g + (n - tookOf wz g) < moOf (.bool true) + rightOf ws g + (n - tookOf ws g) := by
  have htp := hz.rd.top
  have hu := hup.up
  rw [← hbm] at hde
  refine ⟨⟨j, l ++ [d2], r5, bm, p7, c, pv7, bv7, ov7, m7, cv7, rfl, ?_, by rw [List.length_append]; exact hz⟩, ?_⟩
  · by_cases hc : (bm && !r5.wrong) = true
    · rw [if_pos hc] at hde ⊢
      have hw : r5.wrong = false := by
        cases e : r5.wrong
        · rfl
        · rw [e] at hc; simp at hc
      have hon := hup.on.resolve_left (by rw [hw]; simp)
      have := hvk hw
      refine ⟨hde, by omega, by simp; omega, by omega⟩
    · rw [if_neg hc] at hde ⊢
      exact ⟨hde, by omega⟩
  · rw [tookOf_at hz.rd, htk, rightOf_at hz.rd, rightOf_at hs.rd, hrw]
    have h1 : moOf (.bool bm) ≤ 1 := by cases bm <;> simp [moOf]
    have h2 : moOf (.bool true) = 1 := rfl
    rcases hup.on with hw | hon
    · rw [hw, h2]
      simp only [if_true, Bool.false_eq_true, if_false]
      omega
    · rw [h2]
      simp only [Bool.false_eq_true, if_false]
      split <;> omega
set_option maxHeartbeats 8000000 in
theorem rparse_ok (s : ByteArray) {T : List Tok} (hs : scanL 0 (txt s) = .ok T) (hm : s.size ≤ 4000) (hT : T.length ≤ 1000) (hx : ∀ t ∈ T, t.text.length ≤ 1000) (w : World) :
    Calls Tryz.prog 6 #[.string s] w (ParseP w (parseT 10000 T s.size)) := by
  have SX := Lib.hid (Sc.rscan_any s (w.alloc (.cells #[.slice none 0 0, .slice none 0 0] 26)) hm)
  rw [show Sc.txt s = txt s from rfl, hs] at SX
  have hsm := (small_tokens hs).2
  have HV := Lib.hid (fun (t : Tok) (ht : t ∈ T) => (hsm t ht).1)
  have HX := Lib.hid hx
  obtain ⟨ns, hn⟩ : ∃ ns, ns = s.size := ⟨_, rfl⟩
  have hsz : ((s.size : Nat) : Int) = (ns : Int) := by rw [hn]
  rw [← hn]
  obtain ⟨R, hR⟩ : ∃ R, R = parseT 10000 T ns := ⟨_, rfl⟩
  rw [← hR]
  have HR := Lib.hid hR
  obtain ⟨n, hnT⟩ : ∃ n, n = T.length := ⟨_, rfl⟩
  have hn1000 : n ≤ 1000 := by omega
  have HNT := Lib.hid hnT
  clear hs hR hsm hx hm hT
  go_enter Tryz.func6, Tryz.ntmps6
  go_wp2_with fail
  refine SX.out.mono ?_
  rintro e w1 ⟨⟨v, rfl, ho⟩, hB⟩
  obtain ⟨y0, hb⟩ := zero_kept hB
  have e1 : (w.alloc (.cells #[.slice none 0 0, .slice none 0 0] 26)).heap.size = w.heap.size + 1 := by simp
  rw [e1] at ho
  obtain ⟨pl, bl, cl, rfl, hst⟩ := rm_start ho (by omega) y0 hb
  rw [← hnT] at hst ⊢
  have HST := Lib.hid hst
  clear hn hnT y0 hb hB ho e1 hst
  go_upto_region 6 with fail
  obtain ⟨g, hg⟩ : ∃ g, g = w1.heap.size := ⟨_, rfl⟩
  obtain ⟨D, hD⟩ : ∃ D, D = g + 1 := ⟨_, rfl⟩
  obtain ⟨W, hW⟩ : ∃ W, W = (w1.alloc (.cells #[.slice pl n cl, .int .i64 0, .bool false, .slice none 0 0, .int .i64 (-1)] 58)).alloc (.cells #[.slice none 0 0, .slice none 0 0] 26) := ⟨_, rfl⟩
  have H2 := Lib.hid (HST.out W hW)
  rw [← hW]
  rw [← hg, ← hD] at H2
  rw [← hg, ← hD]
  clear hg hD hW
  obtain ⟨X0, hX0⟩ : ∃ X0, X0 = blocksR 10000 10000 [] T Pa.start := ⟨_, rfl⟩
  have HX0 := Lib.hid hX0
  clear hX0
  go_upto_block 0 with fail
  go_cut [10] (fun _ wx => ∃ (l : List PBlock) (rr : Rd) (p : Option Addr) (c : Nat) (pv : Option Addr) (bv ov m cv : Nat), X0 = (l, rr) ∧ rr.vars.length ≤ rr.at_ + 1 ∧ RMAt w wx g n pl bl 0 cl T D (.slice p l.length c) l (.slice none 0 0) [] rr pv bv ov m cv)
  case first =>
    go_wp2_with fail
    go_loopw [10] (fun vm wr => ∃ (j : Nat) (l : List PBlock) (rr : Rd) (mo : Bool) (p : Option Addr) (c : Nat) (pv : Option Addr) (bv ov m cv : Nat), vm = .bool mo ∧ (if (mo && !rr.wrong) = true then X0 = blocksR 10000 j l T rr ∧ n < j + rr.at_ ∧ l.length ≤ rr.at_ ∧ rr.vars.length ≤ rr.at_ else X0 = (l, rr) ∧ rr.vars.length ≤ rr.at_ + 1) ∧ RMAt w wr g n pl bl 0 cl T D (.slice p l.length c) l (.slice none 0 0) [] rr pv bv ov m cv) (fun vm wr => moOf vm + rightOf wr g + (n - tookOf wr g))
    case atStart => exact ⟨10000, [], Pa.start, true, none, 0, none, 0, 0, 0, 0, rfl, by rw [if_pos (show (true && !Pa.start.wrong) = true from rfl)]; exact ⟨HX0.out, by omega, by simp, by simp [Pa.start]⟩, H2.out⟩
    case round =>
      obtain ⟨j, l, rr, mo, p, c, pv, bv, ov, m, cv, rfl, hif, hat⟩ := hrel
      have c2 := hat.rd.c2
      have htp := hat.rd.top
      have HAT := Lib.hid hat
      obtain ⟨wg, hwg⟩ : ∃ wg, wg = rr.wrong := ⟨_, rfl⟩
      rw [← hwg] at c2 hif
      have HWG := Lib.hid hwg
      clear hat hwg
      obtain ⟨ws, hws⟩ : ∃ ws, ws = wr := ⟨_, rfl⟩
      rw [← hws] at HAT c2 ⊢
      have HTK := Lib.hid (tookOf_at HAT.out.rd)
      clear hws
      cases mo
      · rw [if_neg (by simp)] at hif
        go_wp2_with fail
        go_meet
        case rel => exact ⟨l, rr, p, c, pv, bv, ov, m, cv, hif.1, hif.2, HAT.out⟩
      · cases wg
        · rw [if_pos (show (true && !false) = true from rfl)] at hif
          obtain ⟨hde, hnj, hll, hvl⟩ := hif
          obtain ⟨j', rfl⟩ : ∃ j', j = j' + 1 := ⟨j - 1, by omega⟩
          rw [blocks_eq] at hde
          have SX9 := Lib.hid (fun q => block_any (F := NR g (.slice pv m cv)) (base := w.heap.size + 1) 10000 (HAT.out.rd.drewN q) (show OwnsP nameP 1 9 (w.heap.size + 1) (ws.drewN q) (.slice pv m cv) rr.vars from HAT.out.nm) (show w.heap.size + 1 ≤ ws.heap.size from by have := HAT.out.box.lt; have := HAT.out.new; omega) (.inl rfl) (fun k e => .inl (.inr e)) HV.out hvl (by omega) (by omega))
          have hup := blockR_went 10000 T rr
          have hvx := vx_block 10000 T rr
          have hvk := fun h => (vk_block 10000 T rr h).2
          obtain ⟨y, hy⟩ : ∃ y, y = blockR 10000 T rr := ⟨_, rfl⟩
          rw [← hy] at hde SX9 hup hvx hvk
          obtain ⟨d2, r5⟩ := y
          simp only at hde hup hvx hvk
          have HDE := Lib.hid hde
          have HUP := Lib.hid hup
          have HVX := Lib.hid hvx
          have HVK := Lib.hid hvk
          have b1 := HAT.out.box.cell 0 rfl
          have HSZ1 := Lib.hid (show w.heap.size + 1 ≤ ws.heap.size from by have := HAT.out.box.lt; have := HAT.out.new; omega)
          have hdl := HAT.out.box.lt
          have hl6 : l.length ≤ 100000 := by omega
          clear hde hy hup hvx hvk
          go_upto_region 9 with fail
          go_region_law (first
            | (refine put_row_step info47b rfl (by decide) (by decide) Tryz.underlying23 rfl _ _ rfl rfl rfl HAV.out.bs rfl HCV.out (by simp [Value.oneCell']) HSN.out hl6 HLV.out ?_; intro p7 cap7 w8 hp1 hp2 hp3; have HN := Lib.hid (HAV.out.grown hp1 hp2); have b7 := (HAV.out.box.grown (fun k e => OwnsP.kind HAV.out.bs e) hp2 (by decide)).cell 0 rfl; have f7 := (HAV.out.box.grown (fun k e => OwnsP.kind HAV.out.bs e) hp2 (by decide)).frozen 0; clear hp1 hp2 hp3)
            | (go_simp; go_at_call 13; refine (SX9.out _).mono ?_; rintro e w7 ⟨u1, u2, pv7, bv7, ov7, m7, cv7, rfl, hE7⟩; have HA7 := Lib.hid ((HAT.out.drewN 1).blk hE7); have b1 := HA7.out.box.cell 0 rfl; obtain ⟨q1, k1, eu1⟩ := OwnsP.shape hE7.ds; obtain ⟨q2, k2, eu2⟩ := OwnsP.shape hE7.con; subst eu1; subst eu2; have HAV := Lib.hid (HA7.out.below ((Below.refl _ w7).alloc (Nat.le_refl _) (.cells #[.bool d2.all, .slice q1 d2.vars.length k1, .slice q2 d2.cons.length k2] 39))); have HCV := Lib.hid (Pp.block_cells w7 d2.all (.slice q1 d2.vars.length k1) (.slice q2 d2.cons.length k2)); have HSN := Lib.hid (show blockP (w7.alloc (.cells #[.bool d2.all, .slice q1 d2.vars.length k1, .slice q2 d2.cons.length k2] 39)) (w.heap.size + 1) [Value.bool d2.all, .slice q1 d2.vars.length k1, .slice q2 d2.cons.length k2] d2 from ⟨_, _, rfl, (DeclsAt.low hE7.ds HSZ1.out).below ((Below.refl _ w7).alloc (Nat.le_refl _) (.cells #[.bool d2.all, .slice q1 d2.vars.length k1, .slice q2 d2.cons.length k2] 39)), (ConsAt.low hE7.con HSZ1.out).below ((Below.refl _ w7).alloc (Nat.le_refl _) (.cells #[.bool d2.all, .slice q1 d2.vars.length k1, .slice q2 d2.cons.length k2] 39))⟩); have HLV := Lib.hid (show w.heap.size + 1 ≤ (w7.alloc (.cells #[.bool d2.all, .slice q1 d2.vars.length k1, .slice q2 d2.cons.length k2] 39)).heap.size from Nat.le_trans HSZ1.out (Nat.le_trans (show ws.heap.size ≤ w7.heap.size from hE7.but.size) ((Below.refl _ w7).alloc (Nat.le_refl _) (.cells #[.bool d2.all, .slice q1 d2.vars.length k1, .slice q2 d2.cons.length k2] 39)).size)); have bb := HA7.out.box.lt; clear hE7))
          all_goals
            obtain ⟨w9, hw9⟩ : ∃ w9, w9 = w8.setCell ⟨D, 0, none⟩ (.slice p7 (l.length + 1) cap7) := ⟨_, rfl⟩
            rw [← hw9] at HN ⊢
            have TX := Lib.hid (text_any HN.out.rd)
            obtain ⟨qt, hqt, hqx⟩ := str_open (textO (next T r5))
            rw [hqt] at TX
            have hne := neq_txt qt ⟨#[103, 111, 97, 108]⟩
            rw [hqx, show txt ⟨#[103, 111, 97, 108]⟩ = tGoal from rfl] at hne
            obtain ⟨bm, hbm⟩ : ∃ bm, bm = (!decide (textO (next T r5) = tGoal)) := ⟨_, rfl⟩
            rw [← hbm] at hne
            have HBM := Lib.hid hbm
            clear hw9 hqt hqx hbm
            go_wp2_with fail
            refine TX.out.mono ?_
            rintro e wq ⟨rfl, q, rfl⟩
            have HZ := Lib.hid (HN.out.drewN q)
            have hrel2 := rround (X0 := X0) (n := n) (j := j') (bm := bm) (c := cap7) HDE.out HUP.out HVX.out HVK.out HBM.out hvl hnj hll HZ.out HAT.out HTK.out HWG.out.symm
            go_wp2_with fail
            go_roundw
            case rel => exact hrel2.1
            case measure => exact hrel2.2
        · rw [if_neg (by simp)] at hif
          go_wp2_with fail
          go_meet
          case rel => exact ⟨l, rr, p, c, pv, bv, ov, m, cv, hif.1, hif.2, HAT.out⟩
  case rest =>
    obtain ⟨l, rr, p, c, pv, bv, ov, m, cv, hX, hvl, hat⟩ := hcut
    obtain ⟨w3, hw3⟩ : ∃ w3, w3 = wc := ⟨_, rfl⟩
    rw [← hw3] at hat ⊢
    have H3 := Lib.hid hat
    have hmm : m ≤ 1000000 := by
      have := hat.rd.nm.long
      have := hat.rd.top
      omega
    have GX := Lib.hid (must_any ⟨#[103, 111, 97, 108]⟩ (by decide) hat.rd)
    rw [show txt ⟨#[103, 111, 97, 108]⟩ = tGoal from rfl] at GX
    have HRR0 := Lib.hid (show R = outT T ns (body_of l rr T) by rw [HR.out]; exact congrArg (outT T ns) (body_form (hX.symm.trans HX0.out)))
    have HBO := Lib.hid (body_form (hX.symm.trans HX0.out))
    obtain ⟨rg, hrg⟩ : ∃ rg, rg = (mustF tGoal rr (next T rr)).2 := ⟨_, rfl⟩
    have hbo : body_of l rr T = (⟨l, (listR 10000 T rg).1⟩, (mustF tSemi (listR 10000 T rg).2 (next T (listR 10000 T rg).2)).2) := by rw [hrg]; rfl
    rw [← hrg] at GX
    rw [hbo] at HRR0 HBO
    clear hat hw3 hX hvl hrg hbo
    go_wp2_with fail
    refine GX.out.mono ?_
    rintro e w4 ⟨rfl, h4, hm4⟩
    have H4 := Lib.hid (H3.out.moved h4 hm4)
    have LX := Lib.hid (list_any 10000 h4 HV.out hmm (by omega) (by omega))
    obtain ⟨yl, hyl⟩ : ∃ yl, yl = listR 10000 T rg := ⟨_, rfl⟩
    rw [← hyl] at LX HRR0 HBO
    obtain ⟨cs, rl⟩ := yl
    (try simp only at HRR0 HBO LX)
    have HS4 := Lib.hid (show w.heap.size + 1 ≤ w4.heap.size from by have := H4.out.box.lt; have := H4.out.new; omega)
    clear h4 hm4 hyl
    go_wp2_with fail
    refine LX.out.mono ?_
    rintro e w5 ⟨v2, rfl, hc, h5, hb5⟩
    have H5 := Lib.hid (H4.out.moved h5 hb5.turns)
    have HC5 := Lib.hid (ConsAt.low hc HS4.out)
    clear hc h5 hb5
    obtain ⟨p2, k2, e2⟩ := OwnsP.shape HC5.out
    subst e2
    have b1 := H5.out.box.cell 1 rfl
    have f1 := H5.out.box.frozen 1
    go_upto_region 12 with fail
    have H6 := Lib.hid (H5.out.setCons HC5.out)
    obtain ⟨w6, hw6⟩ : ∃ w6, w6 = w5.setCell ⟨D, 1, none⟩ (.slice p2 cs.length k2) := ⟨_, rfl⟩
    (try simp only at H6)
    rw [← hw6] at H6 ⊢
    have SX := Lib.hid (must_any ⟨#[59]⟩ (by decide) H6.out.rd)
    rw [show txt ⟨#[59]⟩ = tSemi from rfl] at SX
    obtain ⟨r9, hr9⟩ : ∃ r9, r9 = (mustF tSemi rl (next T rl)).2 := ⟨_, rfl⟩
    rw [← hr9] at HRR0 HBO
    have HRR := HRR0
    have HR9 := Lib.hid hr9
    clear hw6 b1 f1 hr9 HRR0
    go_upto_region 13 with (first | (refine SX.out.mono ?_; rintro e w7 ⟨rfl, h7, hm7⟩; rw [← HR9.out] at h7))
    have H7 := Lib.hid (H6.out.moved h7 hm7)
    clear h7 hm7
    obtain ⟨k9, hk9⟩ : ∃ k9, k9 = r9.at_ := ⟨_, rfl⟩
    have HK9 := Lib.hid hk9
    have c1 := H7.out.rd.c1
    have c2 := H7.out.rd.c2
    have c4 := H7.out.rd.c4
    have htp := H7.out.rd.top
    have hpl := H7.out.rd.tl
    rw [← hk9] at c1 htp
    have d0 := H7.out.res.cell 0 rfl
    have f0 := H7.out.res.frozen 0
    have d1 := H7.out.res.cell 1 rfl
    have f1 := H7.out.res.frozen 1
    obtain ⟨wg, hwg⟩ : ∃ wg, wg = r9.wrong := ⟨_, rfl⟩
    rw [← hwg] at c2
    have HWG := Lib.hid hwg
    clear hk9 hwg
    by_cases hend : k9 < n
    · have HBAD := Lib.hid (show (⟨⟨l, cs⟩, r9⟩ : PModel × Rd).2.wrong = true ∨ (⟨⟨l, cs⟩, r9⟩ : PModel × Rd).2.at_ < T.length from .inr (by rw [← HNT.out]; show r9.at_ < n; rw [← HK9.out]; exact hend))
      cases wg
      · have HRE := Lib.hid (show R = .err (T.getD k9 noTok).at_ 2 by rw [HRR.out, out_bad HBAD.out, ← HK9.out, place_in (by rw [← HNT.out]; exact hend)])
        have hn0 : 0 < n := by omega
        obtain rfl := hpl hn0
        obtain ⟨x0, x1, x2, x3⟩ := H7.out.rd.tk k9 (by rw [← HNT.out]; exact hend)
        obtain ⟨tt, htt⟩ : ∃ tt, tt = T.getD k9 noTok := ⟨_, rfl⟩
        rw [← htt] at x0 x1 x2 x3 HRE
        have hk1 : (k9 : Int) < (n : Int) := by omega
        have hk2 : decide ((k9 : Int) < (n : Int)) = true := decide_eq_true hk1
        have hk3 : (0 : Int) ≤ (k9 : Int) := by omega
        have hbl1 : bl ≠ w.heap.size := kinds_apart (H7.out.rd.tt hn0) H7.out.res.kind (by decide)
        have hbl2 : w.heap.size ≠ bl := fun e => hbl1 e.symm
        have hg1 : g ≠ w.heap.size := by have := H7.out.gnew; omega
        have hg2 : w.heap.size ≠ g := fun e => hg1 e.symm
        simp only [Nat.zero_add] at x3
        clear htt x0 x1 x2 hpl
        go_wp2_with fail
        go_region
        all_goals go_wp2_with fail
        all_goals (try simp only [Exit.inBlock, Exit.then])
        all_goals
          refine bodyPost_ret (results_parse rfl _ _ w.heap.size (.slice none 0 0) (.slice none 0 0) (.int .i64 (tt.at_ : Nat)) (.int .i64 2) rfl rfl rfl ?_ ?_) rfl ?_
          · go_simp
          · go_simp
          · rw [HRE.out]
            exact ⟨below_put (below_put (below_drewN H7.out.low) (Nat.le_refl _)) (Nat.le_refl _), rfl⟩
      · have HRE := Lib.hid (show R = .err (T.getD k9 noTok).at_ 2 by rw [HRR.out, out_bad HBAD.out, ← HK9.out, place_in (by rw [← HNT.out]; exact hend)])
        have hn0 : 0 < n := by omega
        obtain rfl := hpl hn0
        obtain ⟨x0, x1, x2, x3⟩ := H7.out.rd.tk k9 (by rw [← HNT.out]; exact hend)
        obtain ⟨tt, htt⟩ : ∃ tt, tt = T.getD k9 noTok := ⟨_, rfl⟩
        rw [← htt] at x0 x1 x2 x3 HRE
        have hk1 : (k9 : Int) < (n : Int) := by omega
        have hk2 : decide ((k9 : Int) < (n : Int)) = true := decide_eq_true hk1
        have hk3 : (0 : Int) ≤ (k9 : Int) := by omega
        have hbl1 : bl ≠ w.heap.size := kinds_apart (H7.out.rd.tt hn0) H7.out.res.kind (by decide)
        have hbl2 : w.heap.size ≠ bl := fun e => hbl1 e.symm
        have hg1 : g ≠ w.heap.size := by have := H7.out.gnew; omega
        have hg2 : w.heap.size ≠ g := fun e => hg1 e.symm
        simp only [Nat.zero_add] at x3
        clear htt x0 x1 x2 hpl
        go_wp2_with fail
        go_region
        all_goals go_wp2_with fail
        all_goals (try simp only [Exit.inBlock, Exit.then])
        all_goals
          refine bodyPost_ret (results_parse rfl _ _ w.heap.size (.slice none 0 0) (.slice none 0 0) (.int .i64 (tt.at_ : Nat)) (.int .i64 2) rfl rfl rfl ?_ ?_) rfl ?_
          · go_simp
          · go_simp
          · rw [HRE.out]
            exact ⟨below_put (below_put (below_drewN H7.out.low) (Nat.le_refl _)) (Nat.le_refl _), rfl⟩
    · have hk1 : ¬ (k9 : Int) < (n : Int) := by omega
      have hk2 : decide ((k9 : Int) < (n : Int)) = false := decide_eq_false hk1
      have hk3 : (n : Int) ≤ (k9 : Int) := by omega
      cases wg
      · have hre : R = (match r9.bad with
          | some p => .err p 7
          | none => if checkM ⟨l, cs⟩ = 0 then .model ⟨l, cs⟩ else .err 0 (checkM ⟨l, cs⟩)) := by
          rw [HRR.out]
          exact out_good HWG.out.symm (by rw [← HNT.out]; show ¬ r9.at_ < n; rw [← HK9.out]; exact hend)
        cases hbd : r9.bad with
        | some pb =>
          rw [hbd] at hre c4
          have HRE := Lib.hid (show R = .err pb 7 from hre)
          have hge : (0 : Int) ≤ (pb : Int) := by omega
          have hgd2 : decide ((0 : Int) ≤ (pb : Int)) = true := decide_eq_true hge
          simp only [badI] at c4
          clear hre hbd hpl
          go_wp2_with fail
          go_region
          all_goals go_wp2_with fail
          all_goals (try simp only [Exit.inBlock, Exit.then])
          all_goals
            refine bodyPost_ret (results_parse rfl _ _ w.heap.size (.slice none 0 0) (.slice none 0 0) (.int .i64 (pb : Nat)) (.int .i64 7) rfl rfl rfl ?_ ?_) rfl ?_
            · go_simp
            · go_simp
            · rw [HRE.out]
              exact ⟨below_put (below_put (below_drewN H7.out.low) (Nat.le_refl _)) (Nat.le_refl _), rfl⟩
        | none =>
          rw [hbd] at hre c4
          simp only at hre
          have HB := Lib.hid (show bodyR 10000 T Pa.start = (⟨l, cs⟩, r9) from HBO.out)
          have hfew : Few ⟨l, cs⟩ := by
            have := few_body (K := 10000) (by rw [← HNT.out]; exact hn1000) HX.out (by rw [HB.out]; exact HWG.out.symm)
            rw [HB.out] at this
            exact this
          have hgood := good_body (K := 10000) (T := T) HV.out
          rw [HB.out] at hgood
          have HGD := Lib.hid hgood
          have HFW := Lib.hid hfew
          have CX := Lib.hid (fun (W : World) (hM : rModel W [.slice p l.length c, .slice p2 cs.length k2] ⟨l, cs⟩) => rcheck_any hM hfew)
          have HRM := Lib.hid (show rModel w7 [.slice p l.length c, .slice p2 cs.length k2] ⟨l, cs⟩ from ⟨_, _, rfl, blocks_read H7.out.bs hgood.1, cons_read H7.out.cn hgood.2⟩)
          obtain ⟨ck, hck⟩ : ∃ ck, ck = checkM ⟨l, cs⟩ := ⟨_, rfl⟩
          rw [← hck] at CX hre
          have b0 := H7.out.box.cell 0 rfl
          have b1 := H7.out.box.cell 1 rfl
          have C0 := Lib.hid (CX.out w7 HRM.out)
          simp only [badI] at c4
          have HRE0 := Lib.hid hre
          clear hbd hfew hgood hck hre hpl
          go_wp2_with fail
          refine C0.out.mono ?_
          rintro e w8 ⟨rfl, hB8⟩
          have H8 := Lib.hid (H7.out.below hB8)
          have d0 := H8.out.res.cell 0 rfl
          have f0 := H8.out.res.frozen 0
          have d1 := H8.out.res.cell 1 rfl
          have f1 := H8.out.res.frozen 1
          have b0 := H8.out.box.cell 0 rfl
          have b1 := H8.out.box.cell 1 rfl
          have C8 := Lib.hid (CX.out w8 (rModel_stays _ _ _ _ hB8 HRM.out))
          clear hB8
          by_cases hc : ck = 0
          · have hb0 : (ck == 0) = true := by rw [hc]; rfl
            have hb1 : (ck != 0) = false := by rw [hc]; rfl
            have HRE := Lib.hid (show R = .model ⟨l, cs⟩ by rw [HRE0.out, if_pos hc])
            clear hc
            go_wp2_with fail
            (try simp only [Exit.inBlock, Exit.then])
            refine bodyPost_ret (results_parse rfl _ _ w.heap.size (.slice p l.length c) (.slice p2 cs.length k2) (.int .i64 0) (.int .i64 0) rfl rfl rfl ?_ ?_) rfl ?_
            · go_simp
            · go_simp
            · rw [HRE.out]
              obtain ⟨o1, o2, o3⟩ := H8.out.out_ (x := .slice p l.length c) (y := .slice p2 cs.length k2)
              exact ⟨o3, p, _, c, p2, _, k2, rfl, ⟨_, _, rfl, blocks_read o1 HGD.out.1, cons_read o2 HGD.out.2⟩, HFW.out⟩
          · have hb0 : (ck == 0) = false := beq_eq_false_iff_ne.2 hc
            have hb1 : (ck != 0) = true := by rw [bne, hb0]; rfl
            have HRE := Lib.hid (show R = .err 0 ck by rw [HRE0.out, if_neg hc])
            clear hc
            go_wp2_with fail
            refine C8.out.mono ?_
            rintro e w9 ⟨rfl, hB9⟩
            have H9 := Lib.hid (H8.out.below hB9)
            have d0 := H9.out.res.cell 0 rfl
            have f0 := H9.out.res.frozen 0
            have d1 := H9.out.res.cell 1 rfl
            have f1 := H9.out.res.frozen 1
            clear hB9
            go_wp2_with fail
            (try simp only [Exit.inBlock, Exit.then])
            refine bodyPost_ret (results_parse rfl _ _ w.heap.size (.slice none 0 0) (.slice none 0 0) (.int .i64 0) (.int .i64 ck) rfl rfl rfl ?_ ?_) rfl ?_
            · go_simp
            · go_simp
            · rw [HRE.out]
              exact ⟨below_put (below_put H9.out.low (Nat.le_refl _)) (Nat.le_refl _), rfl⟩
      · have HBAD := Lib.hid (show (⟨⟨l, cs⟩, r9⟩ : PModel × Rd).2.wrong = true ∨ (⟨⟨l, cs⟩, r9⟩ : PModel × Rd).2.at_ < T.length from .inl HWG.out.symm)
        have HRE := Lib.hid (show R = .err ns 2 by rw [HRR.out, out_bad HBAD.out, ← HK9.out, place_out (by rw [← HNT.out]; omega)])
        clear hpl
        go_wp2_with fail
        (try simp only [Exit.inBlock, Exit.then])
        refine bodyPost_ret (results_parse rfl _ _ w.heap.size (.slice none 0 0) (.slice none 0 0) (.int .i64 (ns : Nat)) (.int .i64 2) rfl rfl rfl ?_ ?_) rfl ?_
        · go_simp
        · go_simp
        · rw [HRE.out]
          exact ⟨below_put (below_put H7.out.low (Nat.le_refl _)) (Nat.le_refl _), rfl⟩
end Go.Proofs.YtfkakdpppejehaaGreat.Pp
namespace Go.Proofs.YtfkakdpppejehaaGreat
open Go.RowKit
set_option maxRecDepth 100000

structure At2 (w : World) (b : Nat) (v0 v1 : Value) : Prop where
  c0 : w.cell? ⟨b, 0, none⟩ = some v0
  c1 : w.cell? ⟨b, 1, none⟩ = some v1
structure At3 (w : World) (b : Nat) (v0 v1 v2 : Value) : Prop where
  c0 : w.cell? ⟨b, 0, none⟩ = some v0
  c1 : w.cell? ⟨b, 1, none⟩ = some v1
  c2 : w.cell? ⟨b, 2, none⟩ = some v2
theorem two_two (w : World) (a0 a1 b0 b1 : Value) (t : TypeId) : At2 ((w.alloc (.cells #[a0, a1] t)).alloc (.cells #[b0, b1] t)) w.heap.size a0 a1 ∧ At2 ((w.alloc (.cells #[a0, a1] t)).alloc (.cells #[b0, b1] t)) (w.heap.size + 1) b0 b1 :=
  ⟨⟨by go_simp, by go_simp⟩, ⟨by go_simp, by go_simp⟩⟩
theorem two_three (w : World) (a0 a1 a2 b0 b1 b2 : Value) (t : TypeId) : At3 ((w.alloc (.cells #[a0, a1, a2] t)).alloc (.cells #[b0, b1, b2] t)) w.heap.size a0 a1 a2 ∧ At3 ((w.alloc (.cells #[a0, a1, a2] t)).alloc (.cells #[b0, b1, b2] t)) (w.heap.size + 1) b0 b1 b2 :=
  ⟨⟨by go_simp, by go_simp, by go_simp⟩, ⟨by go_simp, by go_simp, by go_simp⟩⟩
theorem below_twice (w : World) (o o' : Obj) : Below w.heap.size w ((w.alloc o).alloc o') := ((Below.refl _ w).alloc (Nat.le_refl _) _).alloc (by simp) _

def sameB (x y : PBlock) : Bool := decide (x.all = y.all) && (listB sameD x.vars y.vars && listB sameC x.cons y.cons)
def sameM (m n : PModel) : Bool := listB sameB m.blocks n.blocks && listB sameC m.goal n.goal
/-- the lists of a block are short -/
structure FewB (b : PBlock) : Prop where
  vars : b.vars.length ≤ 1000000
  doms : ∀ d ∈ b.vars, d.dom.length ≤ 1000000
  cons : b.cons.length ≤ 1000000
  nums : ∀ c ∈ b.cons, Short 1000000 c
theorem short_more {c : PCon} (h : Short 1000 c) : Short 1000000 c := ⟨by have := h.1; omega, by have := h.2.1; omega, by have := h.2.2; omega⟩
theorem Few.block {m : PModel} (h : Few m) : ∀ b ∈ m.blocks, FewB b := fun b hb =>
  ⟨by have := h.vars b hb; omega, fun d hd => by have := (h.decls b hb d hd).2; omega, by have := (h.wheres b hb).1; omega, fun c hc => short_more ((h.wheres b hb).2 c hc)⟩
end Go.Proofs.YtfkakdpppejehaaGreat
namespace Go.Proofs.YtfkakdpppejehaaGreat
open Go.RowKit
set_option maxRecDepth 100000

theorem hold8s {W0 u u' : World} {p0 p1 p2 p3 p4 p5 p6 p7 : Addr} {a0 a1 a2 a3 a4 a5 a6 a7 : Value} (h : u.cell? p0 = some a0 ∧ u.cell? p1 = some a1 ∧ u.cell? p2 = some a2 ∧ u.cell? p3 = some a3 ∧ u.cell? p4 = some a4 ∧ u.cell? p5 = some a5 ∧ u.cell? p6 = some a6 ∧ u.cell? p7 = some a7 ∧ Hid (Below W0.heap.size W0 u)) (hb : Below u.heap.size u u') :
    u'.cell? p0 = some a0 ∧ u'.cell? p1 = some a1 ∧ u'.cell? p2 = some a2 ∧ u'.cell? p3 = some a3 ∧ u'.cell? p4 = some a4 ∧ u'.cell? p5 = some a5 ∧ u'.cell? p6 = some a6 ∧ u'.cell? p7 = some a7 ∧ Hid (Below W0.heap.size W0 u') :=
  ⟨cell_stays hb h.1, cell_stays hb h.2.1, cell_stays hb h.2.2.1, cell_stays hb h.2.2.2.1, cell_stays hb h.2.2.2.2.1, cell_stays hb h.2.2.2.2.2.1, cell_stays hb h.2.2.2.2.2.2.1, cell_stays hb h.2.2.2.2.2.2.2.1, Lib.hid (h.2.2.2.2.2.2.2.2.out.trans (hb.mono h.2.2.2.2.2.2.2.2.out.size))⟩
theorem hold8sb {W0 u : World} {p0 p1 p2 p3 p4 p5 p6 p7 : Addr} {a0 a1 a2 a3 a4 a5 a6 a7 : Value} (h : u.cell? p0 = some a0 ∧ u.cell? p1 = some a1 ∧ u.cell? p2 = some a2 ∧ u.cell? p3 = some a3 ∧ u.cell? p4 = some a4 ∧ u.cell? p5 = some a5 ∧ u.cell? p6 = some a6 ∧ u.cell? p7 = some a7 ∧ Hid (Below W0.heap.size W0 u)) : Below W0.heap.size W0 u := h.2.2.2.2.2.2.2.2.out

set_option maxRecDepth 100000 in
set_option maxHeartbeats 4000000 in
theorem rsame_any {w : World} {bv gv bv' gv' : Value} {m n : PModel} (h : rModel w [bv, gv] m) (h' : rModel w [bv', gv'] n) (hf : Few m) (hf' : Few n) :
    Calls Tryz.prog 7 #[.agg #[bv, gv], .agg #[bv', gv']] w fun e w' => e = .returned (.bool (sameM m n)) ∧ Below w.heap.size w w' := by
  obtain ⟨R, hR⟩ : ∃ R, R = sameM m n := ⟨_, rfl⟩
  rw [← hR]
  obtain ⟨pb, bb, ob, cb, lb, pg, lg, cg, rfl, rfl, _, hm⟩ := rModel_open h
  obtain ⟨pb', bb', ob', cb', lb', pg', lg', cg', rfl, rfl, _, hm'⟩ := rModel_open h'
  obtain ⟨W1, hW1⟩ : ∃ W1, W1 = (w.alloc (.cells #[.slice pb lb cb, .slice pg lg cg] 26)).alloc (.cells #[.slice pb' lb' cb', .slice pg' lg' cg'] 26) := ⟨_, rfl⟩
  have hB1 : Below w.heap.size w W1 := by rw [hW1]; exact below_twice _ _ _
  obtain ⟨⟨m0, m1⟩, ⟨n0, n1⟩⟩ := two_two w (.slice pb lb cb) (.slice pg lg cg) (.slice pb' lb' cb') (.slice pg' lg' cg') 26
  rw [← hW1] at m0 m1 n0 n1
  have hlb : lb = m.blocks.length := hm.mod.blocks.long
  have hlb' : lb' = n.blocks.length := hm'.mod.blocks.long
  have hb30 : lb ≤ 1000 := by rw [hlb]; exact hf.blocks
  have hpb := hm.mod.blocks.at_
  have hpb' := hm'.mod.blocks.at_
  have HX := Lib.hid (hm.below hB1)
  have HY := Lib.hid (hm'.below hB1)
  have HF := Lib.hid hf
  have HF' := Lib.hid hf'
  have HB1 := Lib.hid hB1
  have HW1 := Lib.hid hW1
  have HM := Lib.hid (And.intro m0 (And.intro m1 (And.intro n0 n1)))
  have HLB := Lib.hid hlb
  have HLB' := Lib.hid hlb'
  have CG := Lib.hid (fun u (hb : Below W1.heap.size W1 u) => alike_any (HX.out.mod.below hb).goal (HY.out.mod.below hb).goal (by have := HF.out.goal.1; omega) (by have := HF'.out.goal.1; omega) (fun d hd => short_more (HF.out.goal.2 d hd)) (fun d hd => short_more (HF'.out.goal.2 d hd)))
  clear h h' hf hf' hm hm' hW1 hB1 hlb hlb'
  by_cases he : lb = lb'
  · subst he
    have e1 : ((lb : Int) == (lb : Int)) = true := beq_self_eq_true _
    have e2 : ((lb : Int) != (lb : Int)) = false := by simp
    obtain ⟨G, hG⟩ : ∃ G, G = listB sameC m.goal n.goal := ⟨_, rfl⟩
    rw [← hG] at CG
    have HS := Lib.hid (show R = (listB sameB (m.blocks.drop 0) (n.blocks.drop 0) && G) by rw [hR, hG]; rfl)
    clear hR hG
    go_enter Tryz.func7, Tryz.ntmps7
    go_upto_region 1 with fail
    rw [← HW1.out]
    go_wp2_with fail
    clear m0 m1 n0 n1 e1 e2
    go_loopw [5] (fun vi wr => ∃ k : Nat, k ≤ lb ∧ vi = .int .i64 k ∧ R = (listB sameB (m.blocks.drop k) (n.blocks.drop k) && G) ∧ Below W1.heap.size W1 wr) (fun vi _ => lb - (intOf vi).toNat)
    case atStart => exact ⟨0, by omega, rfl, HS.out, Below.refl _ _⟩
    case round =>
      obtain ⟨k, hk, rfl, hrel, hB⟩ := hrel
      have m0 := cell_stays hB HM.out.1
      have n0 := cell_stays hB HM.out.2.2.1
      have HB := Lib.hid hB
      by_cases hlt : k < lb
      · obtain rfl := hpb (by omega)
        obtain rfl := hpb' (by omega)
        obtain ⟨x, v1, v2, ex, _, a0, a1, a2, sv, sc⟩ := block_at HX.out.mod.blocks hlt
        obtain ⟨y, u1, u2, ey, _, b0, b1, b2, tv, tc⟩ := block_at HY.out.mod.blocks hlt
        have a0 := cell_stays hB a0
        have a1 := cell_stays hB a1
        have a2 := cell_stays hB a2
        have b0 := cell_stays hB b0
        have b1 := cell_stays hB b1
        have b2 := cell_stays hB b2
        have hstep := hrel.trans (by rw [listB_at sameB ex ey])
        have fx := HF.out.block x (List.mem_of_getElem? ex)
        have fy := HF'.out.block y (List.mem_of_getElem? ey)
        have CD := Lib.hid (fun u (hb : Below W1.heap.size W1 u) => decls_any (sv.below rDecl_stays hb) (tv.below rDecl_stays hb) fx.vars fy.vars fx.doms fy.doms)
        have CA := Lib.hid (fun u (hb : Below W1.heap.size W1 u) => alike_any (sc.below rCon_stays hb) (tc.below rCon_stays hb) fx.cons fy.cons fx.nums fy.nums)
        obtain ⟨p1, l1, c1, rfl⟩ := slc_shape sv
        obtain ⟨p2, l2, c2, rfl⟩ := slc_shape sc
        obtain ⟨q1, k1, s1, rfl⟩ := slc_shape tv
        obtain ⟨q2, k2, s2, rfl⟩ := slc_shape tc
        rw [show sameB x y = (decide (x.all = y.all) && (listB sameD x.vars y.vars && listB sameC x.cons y.cons)) from rfl] at hstep
        generalize listB sameD x.vars y.vars = P at CD hstep
        generalize listB sameC x.cons y.cons = Q at CA hstep
        generalize x.all = xa at a0 hstep
        generalize y.all = ya at b0 hstep
        clear hrel ex ey sv sc tv tc fx fy hB
        by_cases hxy : xa = ya
        · subst hxy
          have q0 : (xa != xa) = false := by simp
          have q00 : (xa == xa) = true := by simp
          rw [decide_eq_true rfl, Bool.true_and] at hstep
          cases P
          · rw [Bool.false_and, Bool.false_and, Bool.false_and] at hstep
            subst hstep
            go_upto_region 6 with fail
            go_quiet ((go_at_call 17; exact Calls.quiet_of (CD.out _ (below_drewN HB.out))))
            clear m0 n0 a0 a1 a2 b0 b1 b2
            go_wp2_with fail
            go_ret
            exact ⟨rfl, HB1.out.trans ((below_drewN HB.out).mono HB1.out.size)⟩
          · rw [Bool.true_and] at hstep
            have hst : wr.cell? ⟨w.heap.size, 0, none⟩ = some (.slice (some ⟨bb, ob, none⟩) lb cb) ∧ wr.cell? ⟨w.heap.size + 1, 0, none⟩ = some (.slice (some ⟨bb', ob', none⟩) lb cb') ∧ wr.cell? ⟨bb, ob + k * 3, none⟩ = some (.bool xa) ∧ wr.cell? ⟨bb, ob + k * 3 + 1, none⟩ = some (.slice p1 l1 c1) ∧ wr.cell? ⟨bb, ob + k * 3 + 2, none⟩ = some (.slice p2 l2 c2) ∧ wr.cell? ⟨bb', ob' + k * 3, none⟩ = some (.bool xa) ∧ wr.cell? ⟨bb', ob' + k * 3 + 1, none⟩ = some (.slice q1 k1 s1) ∧ wr.cell? ⟨bb', ob' + k * 3 + 2, none⟩ = some (.slice q2 k2 s2) ∧ Hid (Below W1.heap.size W1 wr) := ⟨m0, n0, a0, a1, a2, b0, b1, b2, HB⟩
            have H0 := Lib.hid hst
            have NX := Lib.hid hstep
            have CB : Hid (∀ u, Below W1.heap.size W1 u → Calls Tryz.prog 17 #[.slice p1 l1 c1, .slice q1 k1 s1] u fun e w' => e = .returned (.bool true) ∧ Below u.heap.size u w') := Lib.hid fun u hb => (CD.out u hb).mono fun e w' h => ⟨h.1, by obtain ⟨nn, hn⟩ := h.2; rw [hn]; exact below_drewN (Below.refl _ _)⟩
            clear hst hstep
            go_upto_region 6 with fail
            clear m0 n0 a0 a1 a2 b0 b1 b2
            go_region_held3 (fun w' => w'.cell? ⟨w.heap.size, 0, none⟩ = some (.slice (some ⟨bb, ob, none⟩) lb cb) ∧ w'.cell? ⟨w.heap.size + 1, 0, none⟩ = some (.slice (some ⟨bb', ob', none⟩) lb cb') ∧ w'.cell? ⟨bb, ob + k * 3, none⟩ = some (.bool xa) ∧ w'.cell? ⟨bb, ob + k * 3 + 1, none⟩ = some (.slice p1 l1 c1) ∧ w'.cell? ⟨bb, ob + k * 3 + 2, none⟩ = some (.slice p2 l2 c2) ∧ w'.cell? ⟨bb', ob' + k * 3, none⟩ = some (.bool xa) ∧ w'.cell? ⟨bb', ob' + k * 3 + 1, none⟩ = some (.slice q1 k1 s1) ∧ w'.cell? ⟨bb', ob' + k * 3 + 2, none⟩ = some (.slice q2 k2 s2) ∧ Hid (Below W1.heap.size W1 w'))
              (first | exact hold8s (by assumption) (by assumption) | exact hold8s H0.out (below_drewN (n := 1) (Below.refl _ _)))
              (first | (go_at_call 17; refine (CB.out _ (hold8sb (by assumption))).mono ?_; rintro e u ⟨rfl, hB⟩) | (go_at_call 18; refine (CA.out _ (hold8sb (by assumption))).mono ?_; rintro e u2 ⟨rfl, hB⟩))
            have HH := Lib.hid (hold8sb (by assumption))
            cases Q
            · have key : R = false := by rw [NX.out, Bool.false_and, Bool.false_and]
              subst key
              go_wp2_with fail
              go_ret
              exact ⟨rfl, HB1.out.trans (HH.out.mono HB1.out.size)⟩
            · go_wp2_with fail
              go_roundw
              case rel => exact ⟨k + 1, by omega, by go_num, by rw [NX.out, Bool.true_and], HH.out⟩
              case measure => simp [intOf]; omega
        · have q0 : (xa != ya) = true := by simp [hxy]
          have q00 : (xa == ya) = false := beq_eq_false_iff_ne.2 hxy
          rw [decide_eq_false hxy, Bool.false_and, Bool.false_and, Bool.false_and] at hstep
          subst hstep
          clear hxy
          go_upto_region 6 with fail
          go_quiet (fail)
          clear m0 n0 a0 a1 a2 b0 b1 b2 q0 q00
          go_wp2_with fail
          go_ret
          exact ⟨rfl, HB1.out.trans ((below_drewN HB.out).mono HB1.out.size)⟩
      · have key : R = G := by
          rw [hrel, List.drop_of_length_le (by rw [← HLB.out]; omega), List.drop_of_length_le (by rw [← HLB'.out]; omega)]
          rfl
        subst key
        have m1 := cell_stays hB HM.out.2.1
        have n1 := cell_stays hB HM.out.2.2.2
        have CG2 := Lib.hid (CG.out _ hB)
        clear hrel hB
        go_wp2_with fail
        refine CG2.out.mono ?_
        rintro e u ⟨rfl, hBu⟩
        have HBu := Lib.hid (HB.out.trans (hBu.mono HB.out.size))
        clear hBu m0 n0 m1 n1
        go_wp2_with fail
        go_ret
        exact ⟨rfl, HB1.out.trans (HBu.out.mono HB1.out.size)⟩
  · have key : R = false := by
      rw [hR, sameM, listB_len _ _ _ (by rw [← HLB.out, ← HLB'.out]; exact he)]
      rfl
    clear hR
    subst key
    have e1 : ((lb : Int) == (lb' : Int)) = false := beq_eq_false_iff_ne.2 (by omega)
    clear he
    go_enter Tryz.func7, Tryz.ntmps7
    go_upto_region 1 with fail
    rw [← HW1.out]
    go_wp2_with fail
    go_ret
    exact ⟨rfl, HB1.out⟩
end Go.Proofs.YtfkakdpppejehaaGreat
