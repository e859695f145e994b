/-
  A constraint that the document's reader of tokens takes.
-/
import Derived.Test.YtfkakdpppejehaaGreatZGConN
import Derived.Deep.RegionLaw
import Derived.Deep.CutBlock
import Derived.Deep.DeepCutAuto
namespace Go.Proofs.YtfkakdpppejehaaGreat.Pa
open Go.RowKit
open Sc (Tok Cells str noTok)
set_option maxRecDepth 100000
section
variable {w0 w : World} {F : Nat → Prop} {g n : Nat} {pl : Option Addr} {bl ol cl : Nat} {pv : Option Addr} {bv ov m cv : Nat} {T : List Tok} {B base : Nat} {c : PCon} {r : Rd} {u1 u2 u3 : Value}
theorem At.same0 (h : At w0 w F g n pl bl ol cl pv bv ov m cv T B base c r u1 u2 u3) : At w0 (w.setCell ⟨B, 1, none⟩ u1) F g n pl bl ol cl pv bv ov m cv T B base c r u1 u2 u3 ∧ At w0 (w.setCell ⟨B, 2, none⟩ u2) F g n pl bl ol cl pv bv ov m cv T B base c r u1 u2 u3 ∧ At w0 (w.setCell ⟨B, 5, none⟩ u3) F g n pl bl ol cl pv bv ov m cv T B base c r u1 u2 u3 :=
  ⟨⟨h.store.1, h.store.2.1, h.box.set1 u1, h.store.2.2.1, h.fg, h.f1, h.f2, h.f3, h.new, h.store.2.2.2⟩, ⟨h.store.1, h.store.2.1, h.box.set2 u2, h.store.2.2.1, h.fg, h.f1, h.f2, h.f3, h.new, h.store.2.2.2⟩, ⟨h.store.1, h.store.2.1, h.box.set5 u3, h.store.2.2.1, h.fg, h.f1, h.f2, h.f3, h.new, h.store.2.2.2⟩⟩
def zeroCon : Obj := .cells #[.int .i64 0, .slice none 0 0, .slice none 0 0, .int .i64 0, .int .i64 0, .slice none 0 0] 42
def oneCon : Obj := .cells #[.int .i64 1, .slice none 0 0, .slice none 0 0, .int .i64 0, .int .i64 0, .slice none 0 0] 42
def conW (w : World) : World := (w.alloc zeroCon).alloc oneCon
theorem con_start (h : RdAt w g n pl bl ol cl pv bv ov m cv T r) : At w (conW w) (fun i => i = g) g n pl bl ol cl pv bv ov m cv T (w.heap.size + 1) w.heap.size (conOf 1) r (.slice none 0 0) (.slice none 0 0) (.slice none 0 0) ∧ Box6 (conW w) w.heap.size 0 (.slice none 0 0) (.slice none 0 0) 0 0 (.slice none 0 0) := by
  have hB1 : Below w.heap.size w (w.alloc zeroCon) := (Below.refl _ w).alloc (Nat.le_refl _) _
  have hB2 : Below w.heap.size w (conW w) := hB1.trans (((Below.refl _ (w.alloc zeroCon)).alloc (Nat.le_refl _) _).mono hB1.size)
  have hbx : Box6 (conW w) (w.heap.size + 1) 1 (.slice none 0 0) (.slice none 0 0) 0 0 (.slice none 0 0) := by
    have := Box6.new (w.alloc zeroCon) 1 (.slice none 0 0) (.slice none 0 0) 0 0 (.slice none 0 0)
    simpa [zeroCon, conW, oneCon] using this
  have hrs : Box6 (conW w) w.heap.size 0 (.slice none 0 0) (.slice none 0 0) 0 0 (.slice none 0 0) := (Box6.new w 0 (.slice none 0 0) (.slice none 0 0) 0 0 (.slice none 0 0)).below ((Below.refl _ (w.alloc zeroCon)).alloc (Nat.le_refl _) _)
  exact ⟨⟨h.below hB2, own3_nil _ _ _, hbx, But.below hB2, rfl, fun k h => by simp [Value.ownBlock] at h, fun k h => by simp [Value.ownBlock] at h, fun k h => by simp [Value.ownBlock] at h, by omega, hB2.size⟩, hrs⟩
/-- a store beside all that is told -/
theorem set_plain {b j : Nat} {x : Value} (h : RdAt w g n pl bl ol cl pv bv ov m cv T r ∧ Own3 w base c u1 u2 u3 ∧ But F w0 w ∧ ∃ cs, w.heap[b]? = some (.cells cs 42)) (hn : w0.heap.size ≤ b) :
    RdAt (w.setCell ⟨b, j, none⟩ x) g n pl bl ol cl pv bv ov m cv T r ∧ Own3 (w.setCell ⟨b, j, none⟩ x) base c u1 u2 u3 ∧ But F w0 (w.setCell ⟨b, j, none⟩ x) ∧ ∃ cs, (w.setCell ⟨b, j, none⟩ x).heap[b]? = some (.cells cs 42) :=
  ⟨h.1.stored h.2.2.2, h.2.1.set h.2.2.2, h.2.2.1.trans (G := fun i => i = b) (But.set ⟨b, j, none⟩ x fun _ => rfl) (fun i hi (e : i = b) => by omega), by
    obtain ⟨cs, e⟩ := h.2.2.2
    refine ⟨cs.setIfInBounds j x, ?_⟩
    simp only [World.setCell, Array.getElem?_modify, e]
    rfl⟩
theorem six_plain {b : Nat} {x0 x1 x2 x3 x4 x5 : Value} (h : RdAt w g n pl bl ol cl pv bv ov m cv T r ∧ Own3 w base c u1 u2 u3 ∧ But F w0 w ∧ ∃ cs, w.heap[b]? = some (.cells cs 42)) (hn : w0.heap.size ≤ b) (hf : (∀ k, u1.ownBlock = some k → F k ∨ w0.heap.size ≤ k) ∧ (∀ k, u2.ownBlock = some k → F k ∨ w0.heap.size ≤ k) ∧ (∀ k, u3.ownBlock = some k → F k ∨ w0.heap.size ≤ k)) {q : PCon × Rd} (hq : q = (c, r)) :
    SumPost w0 F g n pl bl ol cl pv bv ov m cv T base q (.returned (.agg #[.int .i64 c.kind, u1, u2, .int .i64 c.rel, .int .i64 c.const, u3])) ((((((w.setCell ⟨b, 0, none⟩ x0).setCell ⟨b, 1, none⟩ x1).setCell ⟨b, 2, none⟩ x2).setCell ⟨b, 3, none⟩ x3).setCell ⟨b, 4, none⟩ x4).setCell ⟨b, 5, none⟩ x5) := by
  have h0 := set_plain (j := 0) (x := x0) h hn
  have h1 := set_plain (j := 1) (x := x1) h0 hn
  have h2 := set_plain (j := 2) (x := x2) h1 hn
  have h3 := set_plain (j := 3) (x := x3) h2 hn
  have h4 := set_plain (j := 4) (x := x4) h3 hn
  have h5 := set_plain (j := 5) (x := x5) h4 hn
  rw [hq]
  exact ⟨u1, u2, u3, rfl, h5.2.1, h5.1, h5.2.2.1, hf.1, hf.2.1, hf.2.2⟩
theorem Box6.but {F : Nat → Prop} {w w' : World} {b : Nat} {k r t : Int} {v1 v2 v3 : Value} (h : Box6 w b k v1 v2 r t v3) (hb : But F w w') (hF : ¬ F b) : Box6 w' b k v1 v2 r t v3 := h.same (hb.block b h.lt hF)
theorem kinds_apart {w : World} {b g : Nat} {e f : TypeId} (h : ∃ cs, w.heap[b]? = some (.cells cs e)) (k : ∃ cs, w.heap[g]? = some (.cells cs f)) (hne : e ≠ f) : b ≠ g := by
  rintro rfl
  obtain ⟨c1, e1⟩ := h
  obtain ⟨c2, e2⟩ := k
  rw [e1] at e2
  injection e2 with e2
  injection e2 with _ e2
  exact hne e2

/-- what a constraint's first token says of it -/
def ConRel (w : World) (g n : Nat) (pl : Option Addr) (bl ol cl : Nat) (pv : Option Addr) (bv ov m cv : Nat) (T : List Tok) (r : Rd) (K : Nat) (q : PCon × Rd) (va vb vc : Value) (wx : World) : Prop :=
  ∃ (k : Int) (m' : Nat) (more : Bool) (nu : Int), va = .int .i64 (m' : Int) ∧ vb = .bool more ∧ vc = .int .i64 nu ∧ q = seq (namesR K m' more (conOf k)) (tailR K nu) T (step1 r) ∧ m' ≤ 3 ∧ -1 ≤ nu ∧ nu ≤ 1 ∧ r.at_ < n ∧
    At w wx (fun i => i = g) g n pl bl ol cl pv bv ov m cv T (w.heap.size + 1) w.heap.size (conOf k) r (.slice none 0 0) (.slice none 0 0) (.slice none 0 0) ∧ Box6 wx w.heap.size 0 (.slice none 0 0) (.slice none 0 0) 0 0 (.slice none 0 0)
set_option maxHeartbeats 8000000 in
theorem con_any (K : Nat) (h : RdAt w g n pl bl ol cl pv bv ov m cv T r) (hv : ∀ t ∈ T, t.value ≤ 2000000000000) (hm : m ≤ 1000000) (hK : n < K) (hn : n ≤ 9000) :
    Calls Tryz.prog 32 #[.pointer (some ⟨g, 0, none⟩)] w (SumPost w (fun i => i = g) g n pl bl ol cl pv bv ov m cv T w.heap.size (conR K T r)) := by
  obtain ⟨q, hq⟩ : ∃ q, q = conR K T r := ⟨_, rfl⟩
  rw [← hq]
  have HQ := Lib.hid hq
  have hst := con_start h
  obtain ⟨W1, hW1⟩ : ∃ W1, W1 = conW w := ⟨_, rfl⟩
  rw [← hW1] at hst
  have HA := Lib.hid hst.1
  have HR := Lib.hid hst.2
  have HW := Lib.hid hW1
  have TX := Lib.hid (text_any hst.1.rd)
  obtain ⟨t, ht⟩ : ∃ t, t = textO (next T r) := ⟨_, rfl⟩
  rw [← ht] at TX
  obtain ⟨qs, hqs, hqt⟩ := str_open t
  rw [hqs] at TX
  have HT := Lib.hid ht
  have HQT := Lib.hid hqt
  have htop := h.top
  clear h hq hst hW1 hqs hqt ht
  go_enter Tryz.func32, Tryz.ntmps32
  go_upto_region 2 with fail
  rw [show (Obj.cells #[.int .i64 0, .slice none 0 0, .slice none 0 0, .int .i64 0, .int .i64 0, .slice none 0 0] 42) = zeroCon from rfl, show (Obj.cells #[.int .i64 1, .slice none 0 0, .slice none 0 0, .int .i64 0, .int .i64 0, .slice none 0 0] 42) = oneCon from rfl, show (w.alloc zeroCon).alloc oneCon = conW w from rfl, ← HW.out]
  go_upto_region 5 with fail
  go_wp2_with fail
  refine TX.out.mono ?_
  rintro e w1 ⟨rfl, q1, hq1⟩
  have HA1 := Lib.hid (show At w w1 (fun i => i = g) g n pl bl ol cl pv bv ov m cv T (w.heap.size + 1) w.heap.size (conOf 1) r (.slice none 0 0) (.slice none 0 0) (.slice none 0 0) by rw [hq1]; exact HA.out.moved (HA.out.rd.drewN q1) ((Moves.refl g none W1).drewN q1))
  have HR1 := Lib.hid (show Box6 w1 w.heap.size 0 (.slice none 0 0) (.slice none 0 0) 0 0 (.slice none 0 0) by rw [hq1]; exact HR.out)
  clear hq1
  have b0 := HA1.out.box.cell 0 rfl
  have f0 := HA1.out.box.frozen 0
  go_upto_block 0 with fail
  have d1 := eql_txt qs ⟨#[112, 114, 111, 100, 117, 99, 116]⟩
  have d2 := eql_txt qs ⟨#[105, 102, 102]⟩
  have d3 := eql_txt qs ⟨#[101, 108, 101, 109, 101, 110, 116]⟩
  have d4 := eql_txt qs ⟨#[100, 105, 102, 102, 101, 114, 101, 110, 116]⟩
  have d5 := eql_txt qs ⟨#[116, 97, 98, 108, 101]⟩
  rw [HQT.out, show txt ⟨#[112, 114, 111, 100, 117, 99, 116]⟩ = tProduct from rfl] at d1
  rw [HQT.out, show txt ⟨#[105, 102, 102]⟩ = tIff from rfl] at d2
  rw [HQT.out, show txt ⟨#[101, 108, 101, 109, 101, 110, 116]⟩ = tElement from rfl] at d3
  rw [HQT.out, show txt ⟨#[100, 105, 102, 102, 101, 114, 101, 110, 116]⟩ = tDifferent from rfl] at d4
  rw [HQT.out, show txt ⟨#[116, 97, 98, 108, 101]⟩ = tTable from rfl] at d5
  have HIN := Lib.hid (fun (s : Txt) (hs : s ≠ []) (e : t = s) => HA1.out.rd.in_ (by rw [HT.out] at e; exact text_some e hs))
  go_cut [4, 5, 6] from 12 to 46 (fun va vb vc wx => ConRel w g n pl bl ol cl pv bv ov m cv T r K q va vb vc wx)
  case first =>
    by_cases y1 : t = tProduct
    · rw [decide_eq_true y1] at d1
      have HY := Lib.hid y1
      clear y1
      go_wp2_with fail
      go_meet
      case rel => exact ⟨2, 3, false, -1, rfl, rfl, rfl, by rw [HQ.out]; exact con_product (by rw [← HT.out]; exact HY.out), by omega, by omega, by omega, HIN.out _ (by decide) HY.out, HA1.out.setKind (k := 2), HR1.out.same (Below.heap_setCell _ _ _ _ (by simp))⟩
    · have n1 := y1
      clear y1
      by_cases y2 : t = tIff
      · rw [decide_eq_false n1] at d1
        rw [decide_eq_true y2] at d2
        have HY := Lib.hid y2
        have hin := HIN.out _ (by decide) y2
        have c1 := HA1.out.rd.c1
        have f1 := HA1.out.rd.f1
        have hw : IntKind.i64.wrap ((r.at_ : Int) + 1) = (r.at_ : Int) + 1 := IntWalk.i64_in _ (by omega)
        clear y2 n1 b0 f0
        go_upto_region 12 with fail
        have HA2 := Lib.hid (HA1.out.moved (HA1.out.rd.step hin) ((Moves.refl g none _).set 1 _))
        have HR2 := Lib.hid (HR1.out.moved ((Moves.refl g none _).set 1 (.int .i64 ((r.at_ : Int) + 1))) HA1.out.rd.ty)
        obtain ⟨w2, hw2⟩ : ∃ w2, w2 = w1.setCell ⟨g, 1, none⟩ (.int .i64 ((r.at_ : Int) + 1)) := ⟨_, rfl⟩
        rw [← hw2] at HA2 HR2 ⊢
        clear hw2 c1 f1
        have b0 := HA2.out.box.cell 0 rfl
        have f0 := HA2.out.box.frozen 0
        go_upto_region 13 with fail
        have HA3 := Lib.hid (show At w (w2.setCell ⟨w.heap.size + 1, 0, none⟩ (.int .i64 3)) (fun i => i = g) g n pl bl ol cl pv bv ov m cv T (w.heap.size + 1) w.heap.size (conOf 3) (step1 r) (.slice none 0 0) (.slice none 0 0) (.slice none 0 0) from HA2.out.setKind (k := 3))
        have HR3 := Lib.hid (HR2.out.same (w' := w2.setCell ⟨w.heap.size + 1, 0, none⟩ (.int .i64 3)) (Below.heap_setCell _ _ _ _ (by simp)))
        obtain ⟨w3, hw3⟩ : ∃ w3, w3 = w2.setCell ⟨w.heap.size + 1, 0, none⟩ (.int .i64 3) := ⟨_, rfl⟩
        rw [← hw3] at HA3 HR3 ⊢
        clear hw3 b0 f0
        obtain ⟨rs, hrs⟩ : ∃ rs, rs = step1 r := ⟨_, rfl⟩
        rw [← hrs] at HA3
        have HRS := Lib.hid hrs
        clear hrs hin d1 d2 d3 d4 d5
        go_cut [] from 12 to 46 (fun wx => ∃ y1, At w wx (fun i => i = g) g n pl bl ol cl pv bv ov m cv T (w.heap.size + 1) w.heap.size { conOf 3 with vars := [(variableF rs (next T rs)).1] } (variableF rs (next T rs)).2 y1 (.slice none 0 0) (.slice none 0 0) ∧ Box6 wx w.heap.size 0 (.slice none 0 0) (.slice none 0 0) 0 0 (.slice none 0 0))
        case first =>
          have VX := Lib.hid (fun q => variable_any (HA3.out.rd.drewN q) hm)
          have hvf := variable_few (r := rs) (o := next T rs)
          obtain ⟨z, hze⟩ : ∃ z, z = (variableF rs (next T rs)).1 := ⟨_, rfl⟩
          rw [← hze] at VX hvf
          have HZE := Lib.hid hze
          have hzf : Fit z := by
            have := HA3.out.rd.nm.long
            unfold Fit
            omega
          have HZF := Lib.hid hzf
          have b1 := HA3.out.box.cell 1 rfl
          have hl6 : (conOf 3).vars.length ≤ 100000 := by simp [conOf]
          clear hze hzf hvf
          go_region_law (first
            | (refine put_step rfl _ _ rfl rfl rfl HAV.out.own.o1 HCV.out HZF.out hl6 HSV.out rfl ?_; intro p7 cap7 w7 hP7; have HP7 := Lib.hid hP7; have b7 := (HAV.out.grown HAV.out.own.o1 HAV.out.f1 hP7).2.1.cell 1 rfl; have f7 := (HAV.out.grown HAV.out.own.o1 HAV.out.f1 hP7).2.1.frozen 1; clear hP7)
            | (go_simp; go_at_call 59; refine (VX.out _).mono ?_; rintro e w7 ⟨rfl, h7, hm7⟩; have HA7 := Lib.hid ((HA3.out.moved (HA3.out.rd.drewN 1) ((Moves.refl g none w3).drewN 1)).moved h7 hm7); have HR7 := Lib.hid (HR3.out.moved (((Moves.refl g none w3).drewN 1).trans hm7) HA3.out.rd.ty); have b1 := HA7.out.box.cell 1 rfl; have HAV := Lib.hid (HA7.out.below ((Below.refl _ w7).alloc (Nat.le_refl _) (.cells #[.int .i64 z] 3))); have HSV := Lib.hid HAV.out.low; have HCV := Lib.hid (show (w7.alloc (.cells #[.int .i64 z] 3)).cell? ⟨w7.heap.size, 0, none⟩ = some (.int .i64 z) by go_simp); have bb := HA7.out.box.lt; clear h7 hm7))
          all_goals go_wp2_with fail
          all_goals go_meet
          all_goals
            refine ⟨_, by rw [← HZE.out]; exact HAV.out.setVars HP7.out, ?_⟩
            refine Box6.same (Box6.grown (HR7.out.below ((Below.refl _ _).alloc (Nat.le_refl _) _)) HAV.out.own.o1 HP7.out.grown) (Below.heap_setCell _ _ _ _ ?_)
            simp
        case rest =>
          obtain ⟨y1, ha9, hr9⟩ := hcut
          obtain ⟨wd, hwd⟩ : ∃ wd, wd = wc := ⟨_, rfl⟩
          rw [← hwd] at ha9 hr9 ⊢
          have HA9 := Lib.hid ha9
          have HR9 := Lib.hid hr9
          obtain ⟨z, hze⟩ : ∃ z, z = (variableF rs (next T rs)).1 := ⟨_, rfl⟩
          obtain ⟨rv, hrv⟩ : ∃ rv, rv = (variableF rs (next T rs)).2 := ⟨_, rfl⟩
          rw [← hze, ← hrv] at HA9
          have HZE := Lib.hid hze
          have HRV := Lib.hid hrv
          clear ha9 hr9 hwd hze hrv
          have b0 := HA9.out.box.cell 0 rfl
          have b1 := HA9.out.box.cell 1 rfl
          have b2 := HA9.out.box.cell 2 rfl
          have b3 := HA9.out.box.cell 3 rfl
          have b4 := HA9.out.box.cell 4 rfl
          have b5 := HA9.out.box.cell 5 rfl
          have SX := Lib.hid (show Calls Tryz.prog 60 #[.pointer (some ⟨g, 0, none⟩), .agg #[.int .i64 3, y1, .slice none 0 0, .int .i64 0, .int .i64 0, .slice none 0 0]] wd (SumPost wd (fun i => i = g ∨ y1.ownBlock = some i) g n pl bl ol cl pv bv ov m cv T w.heap.size (sumR K { conOf 3 with vars := [z] } T rv)) from sum_any K HA9.out.rd HA9.out.own HA9.out.low (.inl rfl) (fun k h => .inl (.inr h)) (fun k h => by simp [Value.ownBlock] at h) (fun k h => by simp [Value.ownBlock] at h) hv hm hK (by omega) (by simp) (by simp [conOf]))
          have HSZ := Lib.hid HA9.out.but.size
          obtain ⟨p, hp⟩ : ∃ p, p = sumR K { conOf 3 with vars := [z] } T rv := ⟨_, rfl⟩
          rw [← hp] at SX
          have HP := Lib.hid (show q = p by rw [HQ.out, hp]; exact (by rw [HZE.out, HRV.out, HRS.out]; exact con_iff (by rw [← HT.out]; exact HY.out)))
          obtain ⟨d, rd2⟩ := p
          clear hp
          go_wp2_with fail
          refine SX.out.mono ?_
          rintro e w8 ⟨v1, v2, v3, rfl, ho, hr, hb, g1, g2, g3⟩
          simp only at ho hr
          obtain ⟨p1, l1, k1, e1⟩ : ∃ p l k, v1 = .slice p l k := by
            obtain ⟨p, k, e⟩ := ho.o1.shape
            exact ⟨p, _, k, e⟩
          subst e1
          obtain ⟨p2, l2, k2, e2⟩ : ∃ p l k, v2 = .slice p l k := by
            obtain ⟨p, k, e⟩ := ho.o2.shape
            exact ⟨p, _, k, e⟩
          subst e2
          obtain ⟨p3, l3, k3, e3⟩ : ∃ p l k, v3 = .slice p l k := by
            obtain ⟨p, k, e⟩ := ho.o3.shape
            exact ⟨p, _, k, e⟩
          subst e3
          have HR8 := Lib.hid (HR9.out.but hb (fun e => e.elim (kinds_apart HR9.out.kind HA9.out.rd.ty (by decide)) (fun e => kinds_apart HR9.out.kind (HA9.out.own.o1.kind e) (by decide) rfl)))
          have r0 := HR8.out.cell 0 rfl
          have s0 := HR8.out.frozen 0
          have r1 := HR8.out.cell 1 rfl
          have s1 := HR8.out.frozen 1
          have r2 := HR8.out.cell 2 rfl
          have s2 := HR8.out.frozen 2
          have r3 := HR8.out.cell 3 rfl
          have s3 := HR8.out.frozen 3
          have r4 := HR8.out.cell 4 rfl
          have s4 := HR8.out.frozen 4
          have r5 := HR8.out.cell 5 rfl
          have s5 := HR8.out.frozen 5
          have HF := Lib.hid (And.intro hr (And.intro ho (And.intro (HA9.out.but.trans hb (fun i hi e => e.elim id (fun e => absurd (HA9.out.own.o1.lt i e).1 (by omega)))) HR8.out.kind)))
          have HG := Lib.hid (show (∀ k, (Value.slice p1 l1 k1).ownBlock = some k → k = g ∨ w.heap.size ≤ k) ∧ (∀ k, (Value.slice p2 l2 k2).ownBlock = some k → k = g ∨ w.heap.size ≤ k) ∧ (∀ k, (Value.slice p3 l3 k3).ownBlock = some k → k = g ∨ w.heap.size ≤ k) from ⟨(fun k e => (g1 k e).elim (fun h => h.elim .inl (fun h => .inr (HA9.out.own.o1.lt k h).1)) (fun h => .inr (Nat.le_trans HSZ.out h))), (fun k e => (g2 k e).elim (fun h => h.elim .inl (fun h => .inr (HA9.out.own.o1.lt k h).1)) (fun h => .inr (Nat.le_trans HSZ.out h))), (fun k e => (g3 k e).elim (fun h => h.elim .inl (fun h => .inr (HA9.out.own.o1.lt k h).1)) (fun h => .inr (Nat.le_trans HSZ.out h)))⟩)
          clear hr ho hb g1 g2 g3
          go_wp2_with fail
          (try simp only [Exit.inBlock, Exit.then])
          refine bodyPost_ret (results_con rfl _ _ w.heap.size (.int .i64 d.kind) (.slice p1 l1 k1) (.slice p2 l2 k2) (.int .i64 d.rel) (.int .i64 d.const) (.slice p3 l3 k3) rfl ?c0i ?c1i ?c2i ?c3i ?c4i ?c5i) rfl ?resti
          case c0i => go_simp
          case c1i => go_simp
          case c2i => go_simp
          case c3i => go_simp
          case c4i => go_simp
          case c5i => go_simp
          exact six_plain HF.out (Nat.le_refl _) HG.out HP.out
      · have n2 := y2
        clear y2
        by_cases y3 : t = tElement
        · rw [decide_eq_false n1] at d1
          rw [decide_eq_false n2] at d2
          rw [decide_eq_true y3] at d3
          have HY := Lib.hid y3
          clear y3 n1 n2
          go_wp2_with fail
          go_meet
          case rel => exact ⟨4, 2, false, 1, rfl, rfl, rfl, by rw [HQ.out]; exact con_element (by rw [← HT.out]; exact HY.out), by omega, by omega, by omega, HIN.out _ (by decide) HY.out, HA1.out.setKind (k := 4), HR1.out.same (Below.heap_setCell _ _ _ _ (by simp))⟩
        · have n3 := y3
          clear y3
          by_cases y4 : t = tDifferent
          · rw [decide_eq_false n1] at d1
            rw [decide_eq_false n2] at d2
            rw [decide_eq_false n3] at d3
            rw [decide_eq_true y4] at d4
            have HY := Lib.hid y4
            clear y4 n1 n2 n3
            go_wp2_with fail
            go_meet
            case rel => exact ⟨5, 2, true, -1, rfl, rfl, rfl, by rw [HQ.out]; exact con_different (by rw [← HT.out]; exact HY.out), by omega, by omega, by omega, HIN.out _ (by decide) HY.out, HA1.out.setKind (k := 5), HR1.out.same (Below.heap_setCell _ _ _ _ (by simp))⟩
          · have n4 := y4
            clear y4
            by_cases y5 : t = tTable
            · rw [decide_eq_false n1] at d1
              rw [decide_eq_false n2] at d2
              rw [decide_eq_false n3] at d3
              rw [decide_eq_false n4] at d4
              rw [decide_eq_true y5] at d5
              have HY := Lib.hid y5
              clear y5 n1 n2 n3 n4
              go_wp2_with fail
              go_meet
              case rel => exact ⟨6, 1, true, 0, rfl, rfl, rfl, by rw [HQ.out]; exact con_table (by rw [← HT.out]; exact HY.out), by omega, by omega, by omega, HIN.out _ (by decide) HY.out, HA1.out.setKind (k := 6), HR1.out.same (Below.heap_setCell _ _ _ _ (by simp))⟩
            · have n5 := y5
              clear y5
              rw [decide_eq_false n1] at d1
              have N1 := Lib.hid n1
              rw [decide_eq_false n2] at d2
              have N2 := Lib.hid n2
              rw [decide_eq_false n3] at d3
              have N3 := Lib.hid n3
              rw [decide_eq_false n4] at d4
              have N4 := Lib.hid n4
              rw [decide_eq_false n5] at d5
              have N5 := Lib.hid n5
              clear n1 n2 n3 n4 n5 b0 f0
              have b0 := HA1.out.box.cell 0 rfl
              have b1 := HA1.out.box.cell 1 rfl
              have b2 := HA1.out.box.cell 2 rfl
              have b3 := HA1.out.box.cell 3 rfl
              have b4 := HA1.out.box.cell 4 rfl
              have b5 := HA1.out.box.cell 5 rfl
              have SX := Lib.hid (show Calls Tryz.prog 60 #[.pointer (some ⟨g, 0, none⟩), .agg #[.int .i64 1, (.slice none 0 0), .slice none 0 0, .int .i64 0, .int .i64 0, .slice none 0 0]] w1 (SumPost w1 (fun i => i = g) g n pl bl ol cl pv bv ov m cv T w.heap.size (sumR K (conOf 1) T r)) from sum_any K HA1.out.rd HA1.out.own HA1.out.low rfl (fun k h => by simp [Value.ownBlock] at h) (fun k h => by simp [Value.ownBlock] at h) (fun k h => by simp [Value.ownBlock] at h) hv hm hK (by omega) (by simp [conOf]) (by simp [conOf]))
              have HSZ := Lib.hid HA1.out.but.size
              obtain ⟨p, hp⟩ : ∃ p, p = sumR K (conOf 1) T r := ⟨_, rfl⟩
              rw [← hp] at SX
              have HP := Lib.hid (show q = p by rw [HQ.out, hp]; exact con_sum (by rw [← HT.out]; exact N1.out) (by rw [← HT.out]; exact N2.out) (by rw [← HT.out]; exact N3.out) (by rw [← HT.out]; exact N4.out) (by rw [← HT.out]; exact N5.out))
              obtain ⟨d, rd2⟩ := p
              clear hp
              go_wp2_with fail
              refine SX.out.mono ?_
              rintro e w8 ⟨v1, v2, v3, rfl, ho, hr, hb, g1, g2, g3⟩
              simp only at ho hr
              obtain ⟨p1, l1, k1, e1⟩ : ∃ p l k, v1 = .slice p l k := by
                obtain ⟨p, k, e⟩ := ho.o1.shape
                exact ⟨p, _, k, e⟩
              subst e1
              obtain ⟨p2, l2, k2, e2⟩ : ∃ p l k, v2 = .slice p l k := by
                obtain ⟨p, k, e⟩ := ho.o2.shape
                exact ⟨p, _, k, e⟩
              subst e2
              obtain ⟨p3, l3, k3, e3⟩ : ∃ p l k, v3 = .slice p l k := by
                obtain ⟨p, k, e⟩ := ho.o3.shape
                exact ⟨p, _, k, e⟩
              subst e3
              have HR8 := Lib.hid (HR1.out.but hb (kinds_apart HR1.out.kind HA1.out.rd.ty (by decide)))
              have r0 := HR8.out.cell 0 rfl
              have s0 := HR8.out.frozen 0
              have r1 := HR8.out.cell 1 rfl
              have s1 := HR8.out.frozen 1
              have r2 := HR8.out.cell 2 rfl
              have s2 := HR8.out.frozen 2
              have r3 := HR8.out.cell 3 rfl
              have s3 := HR8.out.frozen 3
              have r4 := HR8.out.cell 4 rfl
              have s4 := HR8.out.frozen 4
              have r5 := HR8.out.cell 5 rfl
              have s5 := HR8.out.frozen 5
              have HF := Lib.hid (And.intro hr (And.intro ho (And.intro (HA1.out.but.trans hb (fun i _ e => e)) HR8.out.kind)))
              have HG := Lib.hid (show (∀ k, (Value.slice p1 l1 k1).ownBlock = some k → k = g ∨ w.heap.size ≤ k) ∧ (∀ k, (Value.slice p2 l2 k2).ownBlock = some k → k = g ∨ w.heap.size ≤ k) ∧ (∀ k, (Value.slice p3 l3 k3).ownBlock = some k → k = g ∨ w.heap.size ≤ k) from ⟨(fun k e => (g1 k e).imp id (fun h => Nat.le_trans HSZ.out h)), (fun k e => (g2 k e).imp id (fun h => Nat.le_trans HSZ.out h)), (fun k e => (g3 k e).imp id (fun h => Nat.le_trans HSZ.out h))⟩)
              clear hr ho hb g1 g2 g3
              go_wp2_with fail
              (try simp only [Exit.inBlock, Exit.then])
              refine bodyPost_ret (results_con rfl _ _ w.heap.size (.int .i64 d.kind) (.slice p1 l1 k1) (.slice p2 l2 k2) (.int .i64 d.rel) (.int .i64 d.const) (.slice p3 l3 k3) rfl ?c0s ?c1s ?c2s ?c3s ?c4s ?c5s) rfl ?rests
              case c0s => go_simp
              case c1s => go_simp
              case c2s => go_simp
              case c3s => go_simp
              case c4s => go_simp
              case c5s => go_simp
              exact six_plain HF.out (Nat.le_refl _) HG.out HP.out

  case rest =>
    obtain ⟨k, m', more, nu, rfl, rfl, rfl, hq2, hm3, hn1, hn2, hin, ha, hr⟩ := hcut
    obtain ⟨w0', hw0⟩ : ∃ w0', w0' = wc := ⟨_, rfl⟩
    rw [← hw0] at ha hr ⊢
    have HA2 := Lib.hid ha
    have HR2 := Lib.hid hr
    have HQ2 := Lib.hid hq2
    have c1 := ha.rd.c1
    have f1 := ha.rd.f1
    have hw : IntKind.i64.wrap ((r.at_ : Int) + 1) = (r.at_ : Int) + 1 := IntWalk.i64_in _ (by omega)
    clear ha hr hq2 hw0 d1 d2 d3 d4 d5 b0 f0
    go_upto_region 29 with fail
    have HA3 := Lib.hid (HA2.out.moved (HA2.out.rd.step hin) ((Moves.refl g none _).set 1 _))
    have HR3 := Lib.hid (HR2.out.moved ((Moves.refl g none _).set 1 (.int .i64 ((r.at_ : Int) + 1))) HA2.out.rd.ty)
    obtain ⟨w3, hw3⟩ : ∃ w3, w3 = w0'.setCell ⟨g, 1, none⟩ (.int .i64 ((r.at_ : Int) + 1)) := ⟨_, rfl⟩
    rw [← hw3] at HA3 HR3 ⊢
    obtain ⟨r1, hr1⟩ : ∃ r1, r1 = step1 r := ⟨_, rfl⟩
    rw [← hr1] at HA3 HQ2
    have HR1' := Lib.hid hr1
    clear hw3 c1 f1 hr1
    go_wp2_with fail
    go_loopw [7] (fun vi wr => ∃ (cc : PCon) (rr : Rd) (x1 : Value), vi = .int .i64 (cc.vars.length : Int) ∧ NamesTo n K m' more (conOf k) T r1 cc rr ∧ Short cc.vars.length rr ∧ cc.nums = [] ∧ At w wr (fun i => i = g) g n pl bl ol cl pv bv ov m cv T (w.heap.size + 1) w.heap.size cc rr x1 (.slice none 0 0) (.slice none 0 0) ∧ Box6 wr w.heap.size 0 (.slice none 0 0) (.slice none 0 0) 0 0 (.slice none 0 0)) (fun _ wr => leftOf wr g n)
    case atStart => exact ⟨conOf k, r1, _, rfl, ⟨K, rfl, .inr (by omega)⟩, by unfold Short; show 0 + _ ≤ _; split <;> omega, rfl, HA3.out, HR3.out⟩
    case round =>
      obtain ⟨cc, rr, x1, rfl, hnt, hsh, hnn, hat, hres⟩ := hrel
      have HNT := Lib.hid hnt
      have HSH := Lib.hid hsh
      have HNN := Lib.hid hnn
      have HAT := Lib.hid hat
      have HRE := Lib.hid hres
      have htp := hat.rd.top
      have hln : cc.vars.length ≤ n + 1 := by unfold Short at hsh; split at hsh <;> omega
      clear hnt hsh hnn hat hres
      obtain ⟨ws, hws⟩ : ∃ ws, ws = wr := ⟨_, rfl⟩
      rw [← hws] at HAT HRE ⊢
      clear hws
      go_upto_region 30 with fail
      go_cut [70] from 54 to 79 (fun vg wx => vg = .bool (goN (m' - cc.vars.length) more T rr) ∧ At w wx (fun i => i = g) g n pl bl ol cl pv bv ov m cv T (w.heap.size + 1) w.heap.size cc rr x1 (.slice none 0 0) (.slice none 0 0) ∧ Box6 wx w.heap.size 0 (.slice none 0 0) (.slice none 0 0) 0 0 (.slice none 0 0))
      case first =>
        have c2 := HAT.out.rd.c2
        obtain ⟨bw, hbw⟩ : ∃ bw, bw = rr.wrong := ⟨_, rfl⟩
        rw [← hbw] at c2
        have NX := Lib.hid (named_any HAT.out.rd)
        obtain ⟨bn, hbn⟩ : ∃ bn, bn = namedO (next T rr) := ⟨_, rfl⟩
        rw [← hbn] at NX
        have HGO := Lib.hid (show goN (m' - cc.vars.length) more T rr = ((decide (0 < m' - cc.vars.length) && !bw) || (more && bn)) by rw [goN, hbw, hbn])
        clear hbw hbn
        by_cases hlt : cc.vars.length < m'
        · have hli : (cc.vars.length : Int) < (m' : Int) := by omega
          have HD := Lib.hid (show decide (0 < m' - cc.vars.length) = true from decide_eq_true (by omega))
          clear hlt
          cases bw
          · go_wp2_with fail
            go_meet
            case rel => exact ⟨by rw [HGO.out, HD.out]; rfl, HAT.out, HRE.out⟩
          · cases more
            · go_wp2_with fail
              go_meet
              case rel => exact ⟨by rw [HGO.out, HD.out]; rfl, HAT.out, HRE.out⟩
            · go_wp2_with fail
              refine NX.out.mono ?_
              rintro e w5 ⟨rfl, hb5⟩
              have HA5 := Lib.hid (HAT.out.below hb5)
              have HR5 := Lib.hid (HRE.out.below hb5)
              clear hb5
              go_wp2_with fail
              go_meet
              case rel => exact ⟨by rw [HGO.out, HD.out]; cases bn <;> rfl, HA5.out, HR5.out⟩
        · have hli : (m' : Int) ≤ (cc.vars.length : Int) := by omega
          have hlj : decide ((cc.vars.length : Int) < (m' : Int)) = false := decide_eq_false (by omega)
          have HD := Lib.hid (show decide (0 < m' - cc.vars.length) = false from decide_eq_false (by omega))
          have hle : m' ≤ cc.vars.length := by omega
          cases more
          · go_wp2_with fail
            go_meet
            case rel => exact ⟨by rw [HGO.out, HD.out]; rfl, HAT.out, HRE.out⟩
          · go_wp2_with fail
            refine NX.out.mono ?_
            rintro e w5 ⟨rfl, hb5⟩
            have HA5 := Lib.hid (HAT.out.below hb5)
            have HR5 := Lib.hid (HRE.out.below hb5)
            clear hb5
            go_wp2_with fail
            go_meet
            case rel => exact ⟨by rw [HGO.out, HD.out]; cases bn <;> rfl, HA5.out, HR5.out⟩
      case rest =>
        obtain ⟨rfl, hac, hrc⟩ := hcut
        obtain ⟨wd, hwd⟩ : ∃ wd, wd = wc := ⟨_, rfl⟩
        rw [← hwd] at hac hrc ⊢
        have HAC := Lib.hid hac
        have HRC := Lib.hid hrc
        have HLF := Lib.hid (left_at HAT.out.rd)
        obtain ⟨bg, hbg⟩ : ∃ bg, bg = goN (m' - cc.vars.length) more T rr := ⟨_, rfl⟩
        rw [← hbg]
        have HBG := Lib.hid hbg
        clear hac hrc hwd hbg
        cases bg
        · have HNE := Lib.hid (names_off HNT.out HBG.out.symm)
          have HQ3 := Lib.hid (show q = tailR K nu cc T rr by rw [HQ2.out]; show tailR K nu (namesR K m' more (conOf k) T r1).1 T (namesR K m' more (conOf k) T r1).2 = _; rw [HNE.out])
          by_cases hneg : nu < 0
          · have HQ4 := Lib.hid (show q = (cc, rr) by rw [HQ3.out, tail_none hneg])
            obtain ⟨p1, l1, k1, e1⟩ : ∃ p l k, x1 = .slice p l k := by
              obtain ⟨p, k, e⟩ := HAC.out.own.o1.shape
              exact ⟨p, _, k, e⟩
            subst e1
            have b0 := HAC.out.box.cell 0 rfl
            have b1 := HAC.out.box.cell 1 rfl
            have b2 := HAC.out.box.cell 2 rfl
            have b3 := HAC.out.box.cell 3 rfl
            have b4 := HAC.out.box.cell 4 rfl
            have b5 := HAC.out.box.cell 5 rfl
            have r0 := HRC.out.cell 0 rfl
            have s0 := HRC.out.frozen 0
            have r1 := HRC.out.cell 1 rfl
            have s1 := HRC.out.frozen 1
            have r2 := HRC.out.cell 2 rfl
            have s2 := HRC.out.frozen 2
            have r3 := HRC.out.cell 3 rfl
            have s3 := HRC.out.frozen 3
            have r4 := HRC.out.cell 4 rfl
            have s4 := HRC.out.frozen 4
            have r5 := HRC.out.cell 5 rfl
            have s5 := HRC.out.frozen 5
            go_wp2_with fail
            (try simp only [Exit.inBlock, Exit.then])
            refine bodyPost_ret (results_con rfl _ _ w.heap.size (.int .i64 cc.kind) (.slice p1 l1 k1) (.slice none 0 0) (.int .i64 cc.rel) (.int .i64 cc.const) (.slice none 0 0) rfl ?c0n ?c1n ?c2n ?c3n ?c4n ?c5n) rfl ?restn
            case c0n => go_simp
            case c1n => go_simp
            case c2n => go_simp
            case c3n => go_simp
            case c4n => go_simp
            case c5n => go_simp
            exact sum_post (HAC.out.six HRC.out.kind (by omega) (by omega)) HQ4.out
          · obtain ⟨nn, hnn⟩ : ∃ nn : Nat, nu = (nn : Int) := ⟨nu.toNat, by omega⟩
            subst hnn
            have hnn0 : (0 : Int) ≤ (nn : Int) := by omega
            have hq5 := HQ3.out
            rw [tail_some] at hq5
            obtain ⟨rm, hrm⟩ : ∃ rm, rm = (mustF tOpen rr (next T rr)).2 := ⟨_, rfl⟩
            rw [← hrm] at hq5
            have HQ5 := Lib.hid hq5
            have MX := Lib.hid (must_any ⟨#[91]⟩ (by decide) HAC.out.rd)
            rw [show txt ⟨#[91]⟩ = tOpen from rfl, ← hrm] at MX
            clear hq5 hneg hrm
            go_wp2_with fail
            refine MX.out.mono ?_
            rintro e w4 ⟨rfl, h4, hm4⟩
            have HA4 := Lib.hid (HAC.out.moved h4 hm4)
            have HR4 := Lib.hid (HRC.out.moved hm4 HAC.out.rd.ty)
            clear h4 hm4
            go_wp2_with fail
            go_loopw [8] (fun vi wr => ∃ (d : PCon) (rd2 : Rd) (x3 : Value), vi = .int .i64 (d.nums.length : Int) ∧ NumsTo n K nn cc T rm d rd2 ∧ Short d.nums.length rd2 ∧ At w wr (fun i => i = g) g n pl bl ol cl pv bv ov m cv T (w.heap.size + 1) w.heap.size d rd2 x1 (.slice none 0 0) x3 ∧ Box6 wr w.heap.size 0 (.slice none 0 0) (.slice none 0 0) 0 0 (.slice none 0 0)) (fun _ wr => leftOf wr g n)
            case atStart => exact ⟨cc, rm, _, by rw [HNN.out]; rfl, ⟨K, by rw [HNN.out]; rfl, .inr (by omega)⟩, by rw [HNN.out]; unfold Short; show 0 + _ ≤ _; split <;> omega, HA4.out, HR4.out⟩
            case round =>
              obtain ⟨d, rd2, x3, rfl, hnt, hsh, hat, hres⟩ := hrel
              have HMT := Lib.hid hnt
              have HSM := Lib.hid hsh
              have HBT := Lib.hid hat
              have HBE := Lib.hid hres
              have htq := hat.rd.top
              have hlm : d.nums.length ≤ n + 1 := by unfold Short at hsh; split at hsh <;> omega
              clear hnt hsh hat hres
              obtain ⟨wt, hwt⟩ : ∃ wt, wt = wr := ⟨_, rfl⟩
              rw [← hwt] at HBT HBE ⊢
              clear hwt
              go_upto_region 37 with fail
              go_cut [99] from 85 to 108 (fun vg wx => vg = .bool (goM (nn - d.nums.length) T rd2) ∧ At w wx (fun i => i = g) g n pl bl ol cl pv bv ov m cv T (w.heap.size + 1) w.heap.size d rd2 x1 (.slice none 0 0) x3 ∧ Box6 wx w.heap.size 0 (.slice none 0 0) (.slice none 0 0) 0 0 (.slice none 0 0))
              case first =>
                have c2 := HBT.out.rd.c2
                obtain ⟨bw, hbw⟩ : ∃ bw, bw = rd2.wrong := ⟨_, rfl⟩
                rw [← hbw] at c2
                have TX := Lib.hid (text_any HBT.out.rd)
                obtain ⟨q2, hq2, hq2t⟩ := str_open (textO (next T rd2))
                rw [hq2] at TX
                have he := neq_txt q2 ⟨#[93]⟩
                rw [hq2t, show txt ⟨#[93]⟩ = tShut from rfl] at he
                obtain ⟨bn, hbn⟩ : ∃ bn, bn = decide (textO (next T rd2) = tShut) := ⟨_, rfl⟩
                rw [← hbn] at he
                have HGO := Lib.hid (show goM (nn - d.nums.length) T rd2 = (!bw && (decide (0 < nn - d.nums.length) || !bn)) by rw [goM, hbw, hbn])
                clear hbw hbn hq2 hq2t
                cases bw
                · by_cases hlt : d.nums.length < nn
                  · have hli : (d.nums.length : Int) < (nn : Int) := by omega
                    have HD := Lib.hid (show decide (0 < nn - d.nums.length) = true from decide_eq_true (by omega))
                    clear hlt
                    go_wp2_with fail
                    go_meet
                    case rel => exact ⟨by rw [HGO.out, HD.out]; rfl, HBT.out, HBE.out⟩
                  · have hli : (nn : Int) ≤ (d.nums.length : Int) := by omega
                    have hlj : decide ((d.nums.length : Int) < (nn : Int)) = false := decide_eq_false (by omega)
                    have HD := Lib.hid (show decide (0 < nn - d.nums.length) = false from decide_eq_false (by omega))
                    have hle : nn ≤ d.nums.length := by omega
                    go_wp2_with fail
                    refine TX.out.mono ?_
                    rintro e w5 ⟨rfl, q5, hq5⟩
                    have HA5 := Lib.hid (show At w w5 (fun i => i = g) g n pl bl ol cl pv bv ov m cv T (w.heap.size + 1) w.heap.size d rd2 x1 (.slice none 0 0) x3 by rw [hq5]; exact HBT.out.moved (HBT.out.rd.drewN q5) ((Moves.refl g none wt).drewN q5))
                    have HR5 := Lib.hid (show Box6 w5 w.heap.size 0 (.slice none 0 0) (.slice none 0 0) 0 0 (.slice none 0 0) by rw [hq5]; exact HBE.out)
                    clear hq5
                    go_wp2_with fail
                    go_meet
                    case rel => exact ⟨by rw [HGO.out, HD.out]; cases bn <;> rfl, HA5.out, HR5.out⟩
                · go_wp2_with fail
                  go_meet
                  case rel => exact ⟨by rw [HGO.out]; rfl, HBT.out, HBE.out⟩
              case rest =>
                obtain ⟨rfl, hac, hrc⟩ := hcut
                obtain ⟨wd, hwd⟩ : ∃ wd, wd = wc := ⟨_, rfl⟩
                rw [← hwd] at hac hrc ⊢
                have HAC := Lib.hid hac
                have HRC := Lib.hid hrc
                have HLG := Lib.hid (left_at HBT.out.rd)
                obtain ⟨bg, hbg⟩ : ∃ bg, bg = goM (nn - d.nums.length) T rd2 := ⟨_, rfl⟩
                rw [← hbg]
                have HCG := Lib.hid hbg
                clear hac hrc hwd hbg
                cases bg
                · have hq6 := HQ5.out
                  rw [nums_off HMT.out HCG.out.symm] at hq6
                  have HQ6 := Lib.hid hq6
                  have MX := Lib.hid (must_any ⟨#[93]⟩ (by decide) HAC.out.rd)
                  rw [show txt ⟨#[93]⟩ = tShut from rfl] at MX
                  clear hq6
                  go_wp2_with fail
                  refine MX.out.mono ?_
                  rintro e w6 ⟨rfl, h6, hm6⟩
                  have HA6 := Lib.hid (HAC.out.moved h6 hm6)
                  have HR6 := Lib.hid (HRC.out.moved hm6 HAC.out.rd.ty)
                  clear h6 hm6
                  obtain ⟨p1, l1, k1, e1⟩ : ∃ p l k, x1 = .slice p l k := by
                    obtain ⟨p, k, e⟩ := HA6.out.own.o1.shape
                    exact ⟨p, _, k, e⟩
                  subst e1
                  obtain ⟨p3, l3, k3, e3⟩ : ∃ p l k, x3 = .slice p l k := by
                    obtain ⟨p, k, e⟩ := HA6.out.own.o3.shape
                    exact ⟨p, _, k, e⟩
                  subst e3
                  have b0 := HA6.out.box.cell 0 rfl
                  have b1 := HA6.out.box.cell 1 rfl
                  have b2 := HA6.out.box.cell 2 rfl
                  have b3 := HA6.out.box.cell 3 rfl
                  have b4 := HA6.out.box.cell 4 rfl
                  have b5 := HA6.out.box.cell 5 rfl
                  have r0 := HR6.out.cell 0 rfl
                  have s0 := HR6.out.frozen 0
                  have r1 := HR6.out.cell 1 rfl
                  have s1 := HR6.out.frozen 1
                  have r2 := HR6.out.cell 2 rfl
                  have s2 := HR6.out.frozen 2
                  have r3 := HR6.out.cell 3 rfl
                  have s3 := HR6.out.frozen 3
                  have r4 := HR6.out.cell 4 rfl
                  have s4 := HR6.out.frozen 4
                  have r5 := HR6.out.cell 5 rfl
                  have s5 := HR6.out.frozen 5
                  go_wp2_with fail
                  (try simp only [Exit.inBlock, Exit.then])
                  refine bodyPost_ret (results_con rfl _ _ w.heap.size (.int .i64 d.kind) (.slice p1 l1 k1) (.slice none 0 0) (.int .i64 d.rel) (.int .i64 d.const) (.slice p3 l3 k3) rfl ?c0m ?c1m ?c2m ?c3m ?c4m ?c5m) rfl ?restm
                  case c0m => go_simp
                  case c1m => go_simp
                  case c2m => go_simp
                  case c3m => go_simp
                  case c4m => go_simp
                  case c5m => go_simp
                  exact sum_post (HA6.out.six HR6.out.kind (by omega) (by omega)) HQ6.out
                · go_upto_block 4 with fail
                  go_cut [] from 85 to 108 (fun wx => ∃ y3, At w wx (fun i => i = g) g n pl bl ol cl pv bv ov m cv T (w.heap.size + 1) w.heap.size { d with nums := d.nums ++ [(number T rd2).1] } (number T rd2).2 x1 (.slice none 0 0) y3 ∧ Box6 wx w.heap.size 0 (.slice none 0 0) (.slice none 0 0) 0 0 (.slice none 0 0))
                  case first =>
                    have VX := Lib.hid (fun q => number_any (HAC.out.rd.drewN q) hv)
                    have hvf := number_few (r := rd2) hv
                    obtain ⟨z, hze⟩ : ∃ z, z = (number T rd2).1 := ⟨_, rfl⟩
                    rw [← hze] at VX hvf
                    have HZE := Lib.hid hze
                    have hzf : Fit z := by unfold Fit; omega
                    have HZF := Lib.hid hzf
                    have b1 := HAC.out.box.cell 5 rfl
                    have hl6 : d.nums.length ≤ 100000 := by omega
                    clear hze hzf hvf
                    go_upto_region 39 with fail
                    go_region_law (first
                      | (refine put_step rfl _ _ rfl rfl rfl HAV.out.own.o3 HCV.out HZF.out hl6 HSV.out rfl ?_; intro p7 cap7 w7 hP7; have HP7 := Lib.hid hP7; have b7 := (HAV.out.grown HAV.out.own.o3 HAV.out.f3 hP7).2.1.cell 5 rfl; have f7 := (HAV.out.grown HAV.out.own.o3 HAV.out.f3 hP7).2.1.frozen 5; clear hP7)
                      | (go_simp; go_at_call 31; refine (VX.out _).mono ?_; rintro e w7 ⟨rfl, h7, hm7⟩; have HA7 := Lib.hid ((HAC.out.moved (HAC.out.rd.drewN 1) ((Moves.refl g none wd).drewN 1)).moved h7 hm7); have HR7 := Lib.hid (HRC.out.moved (((Moves.refl g none wd).drewN 1).trans hm7) HAC.out.rd.ty); have b1 := HA7.out.box.cell 5 rfl; have HAV := Lib.hid (HA7.out.below ((Below.refl _ w7).alloc (Nat.le_refl _) (.cells #[.int .i64 z] 3))); have HSV := Lib.hid HAV.out.low; have HCV := Lib.hid (show (w7.alloc (.cells #[.int .i64 z] 3)).cell? ⟨w7.heap.size, 0, none⟩ = some (.int .i64 z) by go_simp); have bb := HA7.out.box.lt; clear h7 hm7))
                    all_goals go_wp2_with fail
                    all_goals go_meet
                    all_goals
                      refine ⟨_, by rw [← HZE.out]; exact HAV.out.setNums HP7.out, ?_⟩
                      refine Box6.same (Box6.grown (HR7.out.below ((Below.refl _ _).alloc (Nat.le_refl _) _)) HAV.out.own.o3 HP7.out.grown) (Below.heap_setCell _ _ _ _ ?_)
                      simp
                  case rest =>
                    obtain ⟨y3, ha9, hr9⟩ := hcut
                    obtain ⟨we, hwe⟩ : ∃ we, we = wc := ⟨_, rfl⟩
                    rw [← hwe] at ha9 hr9 ⊢
                    have HA9 := Lib.hid ha9
                    have HR9 := Lib.hid hr9
                    have HWT := Lib.hid (number_went T rd2)
                    have HW0 := Lib.hid (gom_right HCG.out.symm)
                    have hwi : IntKind.i64.wrap ((d.nums.length : Int) + 1) = (d.nums.length : Int) + 1 := IntWalk.i64_in _ (by omega)
                    clear ha9 hr9 hwe
                    go_wp2_with fail
                    go_roundw
                    case rel => exact ⟨_, _, _, by simp, nums_on HMT.out HCG.out.symm htq, by simpa using short_on HSM.out HW0.out HWT.out, HA9.out, HR9.out⟩
                    case measure => rw [left_at HA9.out.rd, HLG.out]; exact left_less HW0.out HWT.out HA9.out.rd.top
        · go_upto_block 2 with fail
          go_cut [] from 54 to 79 (fun wx => ∃ y1, At w wx (fun i => i = g) g n pl bl ol cl pv bv ov m cv T (w.heap.size + 1) w.heap.size { cc with vars := cc.vars ++ [(variableF rr (next T rr)).1] } (variableF rr (next T rr)).2 y1 (.slice none 0 0) (.slice none 0 0) ∧ Box6 wx w.heap.size 0 (.slice none 0 0) (.slice none 0 0) 0 0 (.slice none 0 0))
          case first =>
            have VX := Lib.hid (fun q => variable_any (HAC.out.rd.drewN q) hm)
            have hvf := variable_few (r := rr) (o := next T rr)
            obtain ⟨z, hze⟩ : ∃ z, z = (variableF rr (next T rr)).1 := ⟨_, rfl⟩
            rw [← hze] at VX hvf
            have HZE := Lib.hid hze
            have hzf : Fit z := by
              have := HAC.out.rd.nm.long
              unfold Fit
              omega
            have HZF := Lib.hid hzf
            have b1 := HAC.out.box.cell 1 rfl
            have hl6 : cc.vars.length ≤ 100000 := by omega
            clear hze hzf hvf
            go_upto_region 32 with fail
            go_region_law (first
              | (refine put_step rfl _ _ rfl rfl rfl HAV.out.own.o1 HCV.out HZF.out hl6 HSV.out rfl ?_; intro p7 cap7 w7 hP7; have HP7 := Lib.hid hP7; have b7 := (HAV.out.grown HAV.out.own.o1 HAV.out.f1 hP7).2.1.cell 1 rfl; have f7 := (HAV.out.grown HAV.out.own.o1 HAV.out.f1 hP7).2.1.frozen 1; clear hP7)
              | (go_simp; go_at_call 59; refine (VX.out _).mono ?_; rintro e w7 ⟨rfl, h7, hm7⟩; have HA7 := Lib.hid ((HAC.out.moved (HAC.out.rd.drewN 1) ((Moves.refl g none wd).drewN 1)).moved h7 hm7); have HR7 := Lib.hid (HRC.out.moved (((Moves.refl g none wd).drewN 1).trans hm7) HAC.out.rd.ty); have b1 := HA7.out.box.cell 1 rfl; have HAV := Lib.hid (HA7.out.below ((Below.refl _ w7).alloc (Nat.le_refl _) (.cells #[.int .i64 z] 3))); have HSV := Lib.hid HAV.out.low; have HCV := Lib.hid (show (w7.alloc (.cells #[.int .i64 z] 3)).cell? ⟨w7.heap.size, 0, none⟩ = some (.int .i64 z) by go_simp); have bb := HA7.out.box.lt; clear h7 hm7))
            all_goals go_wp2_with fail
            all_goals go_meet
            all_goals
              refine ⟨_, by rw [← HZE.out]; exact HAV.out.setVars HP7.out, ?_⟩
              refine Box6.same (Box6.grown (HR7.out.below ((Below.refl _ _).alloc (Nat.le_refl _) _)) HAV.out.own.o1 HP7.out.grown) (Below.heap_setCell _ _ _ _ ?_)
              simp
          case rest =>
            obtain ⟨y1, ha9, hr9⟩ := hcut
            obtain ⟨we, hwe⟩ : ∃ we, we = wc := ⟨_, rfl⟩
            rw [← hwe] at ha9 hr9 ⊢
            have HA9 := Lib.hid ha9
            have HR9 := Lib.hid hr9
            have HWT := Lib.hid (variable_went rr (next T rr))
            have HW0 := Lib.hid (go_right HBG.out.symm)
            have hwi : IntKind.i64.wrap ((cc.vars.length : Int) + 1) = (cc.vars.length : Int) + 1 := IntWalk.i64_in _ (by omega)
            clear ha9 hr9 hwe
            go_wp2_with fail
            go_roundw
            case rel => exact ⟨_, _, _, by simp, names_on HNT.out HBG.out.symm htp, by simpa using short_on HSH.out HW0.out HWT.out, HNN.out, HA9.out, HR9.out⟩
            case measure => rw [left_at HA9.out.rd, HLF.out]; exact left_less HW0.out HWT.out HA9.out.rd.top
end
end Go.Proofs.YtfkakdpppejehaaGreat.Pa
