/-
  What Vars of package model answers, at every model that can be read and whose lists are short.
  The text of a model, of the program.
  The tokens of a constraint, of the program.
-/
import Derived.Test.YtkgieaoahijheaaGreatDoorZYAQ
import Derived.Deep.RegionHeld3
import Derived.Test.YtkgieaoahijheaaGreatDoorZYAP
import Derived.Test.YtkgieaoahijheaaGreatDoorZPRight
namespace Go.Proofs.YtkgieaoahijheaaGreatDoor
open Go.RowKit
set_option maxRecDepth 100000

/-- u reads as spans in memory that is not block g -/
def Clean (g : Option Nat) (w : World) (u : Value) (L : List (Int × Int)) : Prop :=
  ∃ (p : Option Addr) (b off c len : Nat), u = .slice p len c ∧ ((p = none → c = 0) ∧ len ≤ c) ∧ SliceOf rSpan 2 w p b off len L ∧ (0 < len → some b ≠ g)
theorem Clean.slc {g : Option Nat} {w : World} {u : Value} {L : List (Int × Int)} (h : Clean g w u L) : Slc rSpan 2 w u L := by
  obtain ⟨p, b, off, c, len, h1, h2, h3, _⟩ := h
  exact ⟨p, b, off, c, len, h1, h2, h3⟩
theorem Clean.below {g : Option Nat} {w w' : World} {u : Value} {L : List (Int × Int)} (h : Clean g w u L) (hB : Below w.heap.size w w') : Clean g w' u L := by
  obtain ⟨p, b, off, c, len, h1, h2, h3, h4⟩ := h
  exact ⟨p, b, off, c, len, h1, h2, h3.below rSpan_stays hB, h4⟩
theorem Clean.grown {g : Option Nat} {w w' : World} {u : Value} {L : List (Int × Int)} (h : Clean g w u L) (hg : w.grownBy w' g) : Clean g w' u L := by
  obtain ⟨p, b, off, c, len, h1, h2, h3, h4⟩ := h
  refine ⟨p, b, off, c, len, h1, h2, ⟨h3.long, h3.at_, fun k a ha => ?_⟩, h4⟩
  obtain ⟨cs, c1, c2, c3⟩ := h3.cell k a ha
  have hk : 0 < len := by
    have := (List.getElem?_eq_some_iff.1 ha).1
    have := h3.long
    omega
  refine ⟨cs, c1, fun j hj => ?_, c3⟩
  have hs : ∃ v, cs[j]? = some v := ⟨cs[j], List.getElem?_eq_getElem (by omega)⟩
  obtain ⟨v, hv⟩ := hs
  rw [hv]
  exact hg.cell (by rw [c2 j hj, hv]) (h4 hk)
theorem clean_new {g : Nat} {u0 w : World} {v : Value} {L : List (Int × Int)} (h : OwnsOf rSpan 2 71 u0 w v L) (hB : Below u0.heap.size u0 w) (hg : g < u0.heap.size) : Clean (some g) w v L := by
  have hl := h.lt
  obtain ⟨p, b, off, c, len, rfl, h2, h3⟩ := h.slc rSpan_stays hB
  refine ⟨p, b, off, c, len, rfl, h2, h3, fun hp e => ?_⟩
  have := h3.at_ hp
  subst this
  have := (hl b rfl).1
  cases e
  omega

/-- the variables in a list that the call made: the first k copied, those behind as they came in -/
structure VarsAt (W0 w : World) (v : Value) (L : List PDecl) (k : Nat) (cs : List Value) : Prop where
  own : w.ownsRow W0.heap.size 45 2 v L.length cs
  long : cs.length = L.length * 2
  each : ∀ (j : Nat) (d : PDecl), L[j]? = some d → ∃ (s : ByteArray) (u : Value), cs[j * 2]? = some (.string s) ∧ cs[j * 2 + 1]? = some u ∧ txt s = d.name ∧ (k ≤ j → Slc rSpan 2 W0 u d.dom) ∧ (j < k → Clean v.ownBlock w u d.dom)
theorem vars_start {W0 w : World} {v : Value} {L : List PDecl} (h : OwnsOf rDecl 2 45 W0 w v L) : ∃ cs, VarsAt W0 w v L 0 cs := by
  obtain ⟨cs, h1, h2, h3⟩ := h
  refine ⟨cs, h1, h2, fun j d hd => ?_⟩
  obtain ⟨c, c1, c2, s, u, c3, c4, c5⟩ := h3 j d hd
  subst c3
  exact ⟨s, u, c2 0 (by omega), c2 1 (by omega), c4, fun _ => c5, fun h => by omega⟩
theorem VarsAt.below {W0 w w' : World} {v : Value} {L : List PDecl} {k : Nat} {cs : List Value} (h : VarsAt W0 w v L k cs) (hB : Below w.heap.size w w') : VarsAt W0 w' v L k cs :=
  ⟨owns_below h.own hB, h.long, fun j d hd => by
    obtain ⟨s, u, h1, h2, h3, h4, h5⟩ := h.each j d hd
    exact ⟨s, u, h1, h2, h3, h4, fun q => (h5 q).below hB⟩⟩
theorem VarsAt.shape {W0 w : World} {v : Value} {L : List PDecl} {k : Nat} {cs : List Value} (h : VarsAt W0 w v L k cs) : ∃ (p : Option Addr) (g cap : Nat), v = .slice p L.length cap ∧ (0 < L.length → p = some ⟨g, 0, none⟩ ∧ W0.heap.size ≤ g ∧ g < w.heap.size) := by
  rcases h.own.2 with ⟨rfl, h1⟩ | ⟨g, cap, cur, rfl, hb, hg, hn, hc, hs, ht⟩
  · exact ⟨none, 0, 0, by rw [h1], fun q => by omega⟩
  · exact ⟨_, g, cap, rfl, fun _ => ⟨rfl, hb, (Array.getElem?_eq_some_iff.1 hg).1⟩⟩
/-- what stands at place k -/
theorem VarsAt.at_ {W0 w : World} {g cap k n : Nat} {L : List PDecl} {cs : List Value} {d : PDecl} (h : VarsAt W0 w (.slice (some ⟨g, 0, none⟩) n cap) L k cs) (hn : n = L.length) (hd : L[k]? = some d) :
    ∃ (s : ByteArray) (u : Value), w.cell? ⟨g, k * 2, none⟩ = some (.string s) ∧ w.cell? ⟨g, k * 2 + 1, none⟩ = some u ∧ w.frozen? ⟨g, k * 2, none⟩ = false ∧ w.frozen? ⟨g, k * 2 + 1, none⟩ = false ∧ txt s = d.name ∧ Slc rSpan 2 W0 u d.dom := by
  subst hn
  have hk := (List.getElem?_eq_some_iff.1 hd).1
  obtain ⟨s, u, h1, h2, h3, h4, _⟩ := h.each k d hd
  exact ⟨s, u, by rw [h.own.cellAt (k * 2) (by omega), h1], by rw [h.own.cellAt (k * 2 + 1) (by omega), h2], h.own.frozenAt _, h.own.frozenAt _, h3, h4 (Nat.le_refl _)⟩
theorem VarsAt.store {W0 w : World} {g cap k n : Nat} {L : List PDecl} {cs : List Value} {d : PDecl} (h : VarsAt W0 w (.slice (some ⟨g, 0, none⟩) n cap) L k cs) (hn : n = L.length) (hd : L[k]? = some d) {s : ByteArray} {v2 : Value} (hs : txt s = d.name) (hv : Clean (some g) w v2 d.dom) :
    VarsAt W0 ((w.setCell ⟨g, k * 2, none⟩ (.string s)).setCell ⟨g, k * 2 + 1, none⟩ v2) (.slice (some ⟨g, 0, none⟩) n cap) L (k + 1) ((cs.set (k * 2) (.string s)).set (k * 2 + 1) v2) := by
  subst hn
  have hk := (List.getElem?_eq_some_iff.1 hd).1
  obtain ⟨a1, a2⟩ := h.own.stored (k * 2) (.string s)
  obtain ⟨b1, b2⟩ := a1.stored (k * 2 + 1) v2
  have hl := h.long
  refine ⟨b1, by simp [hl], fun j e he => ?_⟩
  have hj := (List.getElem?_eq_some_iff.1 he).1
  by_cases hjk : j = k
  · subst hjk
    rw [hd] at he
    cases he
    refine ⟨s, v2, ?_, ?_, hs, fun q => by omega, fun _ => (hv.grown a2).grown b2⟩
    · rw [List.getElem?_set_ne (by omega), List.getElem?_set_self (by omega)]
    · rw [List.getElem?_set_self (by rw [List.length_set]; omega)]
  · obtain ⟨s', u', h1, h2, h3, h4, h5⟩ := h.each j e he
    refine ⟨s', u', ?_, ?_, h3, fun q => h4 (by omega), fun q => ((h5 (by omega)).grown a2).grown b2⟩
    · rw [List.getElem?_set_ne (by omega), List.getElem?_set_ne (by omega), h1]
    · rw [List.getElem?_set_ne (by omega), List.getElem?_set_ne (by omega), h2]
theorem VarsAt.slc {W0 w : World} {v : Value} {L : List PDecl} {k : Nat} {cs : List Value} (h : VarsAt W0 w v L k cs) (hk : L.length ≤ k) : Slc rDecl 2 w v L := by
  have h0 := h.own
  rcases h.own.2 with ⟨rfl, hl⟩ | ⟨g, cap, cur, rfl, hb, hg, hn, hc, hs, ht⟩
  · exact ⟨none, 0, 0, 0, 0, rfl, ⟨fun _ => rfl, Nat.le_refl _⟩, hl.symm, fun h => by omega, fun k a ha => by
      have := (List.getElem?_eq_some_iff.1 ha).1
      omega⟩
  · refine ⟨_, g, 0, cap, L.length, rfl, ⟨(fun h => by cases h), hn⟩, rfl, fun _ => rfl, fun j d hd => ?_⟩
    have hj := (List.getElem?_eq_some_iff.1 hd).1
    obtain ⟨s, u, h1, h2, h3, _, h5⟩ := h.each j d hd
    refine ⟨[.string s, u], rfl, fun i hi => ?_, s, u, rfl, h3, (h5 (by omega)).slc⟩
    rw [Nat.zero_add]
    match i, hi with
    | 0, _ => rw [Nat.add_zero, h0.cellAt (j * 2) (by omega), h1]; rfl
    | 1, _ => rw [h0.cellAt (j * 2 + 1) (by omega), h2]; rfl

theorem frozen_below {w wr : World} {p : Addr} {v : Value} (hB : Below w.heap.size w wr) (h : w.cell? p = some v) (hf : w.frozen? p = false) : wr.frozen? p = false :=
  (hB.frozen (World.block_lt_of_cell? w p h)).trans hf
theorem cell_set {u : World} {p a : Addr} {v y : Value} (h : u.cell? p = some v) (hne : p.block ≠ a.block) : (u.setCell a y).cell? p = some v := by
  rw [World.cell?_of_block (w := u) (Below.heap_setCell u a y p.block hne)]
  exact h
theorem hold2 {W0 u u' : World} {p0 p1 : Addr} {a0 a1 : Value} (h : u.cell? p0 = some a0 ∧ u.cell? p1 = some a1 ∧ Below W0.heap.size W0 u) (hb : Below u.heap.size u u') :
    u'.cell? p0 = some a0 ∧ u'.cell? p1 = some a1 ∧ Below W0.heap.size W0 u' := ⟨cell_stays hb h.1, cell_stays hb h.2.1, h.2.2.trans (hb.mono h.2.2.size)⟩
theorem hold2b {W0 u : World} {p0 p1 : Addr} {a0 a1 : Value} (h : u.cell? p0 = some a0 ∧ u.cell? p1 = some a1 ∧ Below W0.heap.size W0 u) : Below W0.heap.size W0 u := h.2.2
theorem hold2_set {W0 u : World} {p0 p1 a b : Addr} {a0 a1 y0 y1 : Value} (h : u.cell? p0 = some a0 ∧ u.cell? p1 = some a1 ∧ Below W0.heap.size W0 u) (h0 : p0.block ≠ a.block) (h1 : p1.block ≠ a.block) (hab : a.block = b.block) (hr : W0.heap.size ≤ a.block) :
    ((u.setCell a y0).setCell b y1).cell? p0 = some a0 ∧ ((u.setCell a y0).setCell b y1).cell? p1 = some a1 ∧ Below W0.heap.size W0 ((u.setCell a y0).setCell b y1) :=
  ⟨cell_set (cell_set h.1 h0) (hab ▸ h0), cell_set (cell_set h.2.1 h1) (hab ▸ h1), (h.2.2.setCell hr _).setCell (hab ▸ hr) _⟩

/-- the block of a slice is of this type -/
def Typed (t : TypeId) (w : World) (v : Value) : Prop := ∀ k, v.ownBlock = some k → ∃ c fz, w.heap[k]? = some (.cells c t fz)
theorem VarsAt.typed {W0 w : World} {v : Value} {L : List PDecl} {k : Nat} {cs : List Value} (h : VarsAt W0 w v L k cs) : Typed 45 w v := fun i hi => by
  rcases h.own.2 with ⟨rfl, _⟩ | ⟨g, cap, cur, rfl, _, hg, _⟩
  · simp [Value.ownBlock] at hi
  · simp only [Value.ownBlock, Option.some.injEq] at hi
    subst hi
    exact ⟨_, _, hg⟩
set_option maxRecDepth 100000 in
set_option maxHeartbeats 4000000 in
theorem pvars_any {w : World} {bv gv : Value} {m : PModel} (h : rModel w [bv, gv] m) (hf : Few m) :
    Calls Tryz.prog 13 #[.agg #[bv, gv]] w fun e w' => ∃ v, e = .returned v ∧ Slc rDecl 2 w' v (varsL m.blocks) ∧ Typed 45 w' v ∧ Below w.heap.size w w' := by
  obtain ⟨L, hL⟩ : ∃ L, L = varsL m.blocks := ⟨_, rfl⟩
  have hdl : ∀ d ∈ L, d.name.length ≤ 1000 ∧ d.dom.length ≤ 1000 := fun d hd => hf.decl d (by rw [← hL]; exact hd)
  have hLn : L.length ≤ 1000 := by rw [hL]; exact hf.few
  obtain ⟨pb, bb, ob, cb, lb, pg, lg, cg, rfl, rfl, hc, hm⟩ := rModel_open h
  obtain ⟨W0, hW0⟩ : ∃ W0, W0 = w.alloc (.cells #[.slice pb lb cb, .slice pg lg cg] 25) := ⟨_, rfl⟩
  have hB0 : Below w.heap.size w W0 := by rw [hW0]; exact (Below.refl _ w).alloc (Nat.le_refl _) _
  have m0 : W0.cell? ⟨w.heap.size, 0, none⟩ = some (.slice pb lb cb) := by rw [hW0]; go_simp
  have m1 : W0.cell? ⟨w.heap.size, 1, none⟩ = some (.slice pg lg cg) := by rw [hW0]; go_simp
  have D := Lib.hid (pdecls_any ((hm.below hB0).model hc) hf)
  rw [← hL] at D ⊢
  have HW := Lib.hid hW0
  have HB0 := Lib.hid hB0
  have HDL := Lib.hid hdl
  clear h hf hc hm hW0 hB0 hdl hL
  go_enter Tryz.func13, Tryz.ntmps13
  go_upto_region 1 with fail
  rw [← HW.out]
  go_wp2_with fail
  refine D.out.mono ?_
  rintro e w1 ⟨v, rfl, hown, hB1⟩
  obtain ⟨cs, hva⟩ := vars_start hown
  obtain ⟨p, g, cap, rfl, hp⟩ := hva.shape
  obtain ⟨len, hlen⟩ : ∃ len, len = L.length := ⟨_, rfl⟩
  rw [← hlen] at hva hp hLn ⊢
  have HLN := Lib.hid hlen
  have HVA := Lib.hid hva
  have HB1 := Lib.hid hB1
  clear hown hB1 hva hlen m0 m1
  go_wp2_with fail
  go_loopw [10] (fun i wr => ∃ k : Nat, k ≤ len ∧ i = .int .i64 k ∧ (∃ cs, VarsAt W0 wr (.slice p len cap) L k cs) ∧ Below W0.heap.size W0 wr) (fun i _ => len - (intOf i).toNat)
  case atStart => exact ⟨0, by omega, rfl, ⟨cs, HVA.out⟩, HB1.out⟩
  case round =>
    obtain ⟨k, hk, rfl, ⟨cs, hva⟩, hB⟩ := hrel
    by_cases hlt : k < len
    · obtain ⟨rfl, hg0, _⟩ := hp (by omega)
      have hkL : k < L.length := by rw [← HLN.out]; exact hlt
      have ex : L[k]? = some L[k] := List.getElem?_eq_getElem hkL
      generalize L[k] = d at ex
      obtain ⟨s, u, a0, a1, f0, f1, hs, hsp⟩ := hva.at_ HLN.out ex
      have hbd := HDL.out d (List.mem_of_getElem? ex)
      have hss : s.size ≤ 100000 := by rw [txt_size, hs]; omega
      have hglt : g < wr.heap.size := World.block_lt_of_cell? wr _ a0
      obtain ⟨pd, ld, cd, rfl⟩ := slc_shape hsp
      obtain ⟨W3, hW3⟩ : ∃ W3, W3 = wr.alloc (.cells #[.string s, .slice pd ld cd] 45) := ⟨_, rfl⟩
      have hB3 : Below wr.heap.size wr W3 := by rw [hW3]; exact (Below.refl _ wr).alloc (Nat.le_refl _) _
      have q0 : W3.cell? ⟨wr.heap.size, 0, none⟩ = some (.string s) := by rw [hW3]; go_simp
      have q1 : W3.cell? ⟨wr.heap.size, 1, none⟩ = some (.slice pd ld cd) := by rw [hW3]; go_simp
      have t0 := cell_stays hB3 a0
      have t1 := cell_stays hB3 a1
      have g0 := frozen_below hB3 a0 f0
      have g1 := frozen_below hB3 a1 f1
      have hBB := hB.trans (hB3.mono hB.size)
      have HT := Lib.hid (And.intro t0 (And.intro t1 (And.intro g0 g1)))
      have H0 := Lib.hid (And.intro q0 (And.intro q1 hBB))
      have HV3 := Lib.hid (hva.below hB3)
      have HW3 := Lib.hid hW3
      have hsz3 : wr.heap.size ≤ W3.heap.size := hB3.size
      have HG := Lib.hid (show g < W3.heap.size by omega)
      have HS := Lib.hid hs
      have HEX := Lib.hid ex
      have CL := Lib.hid (fun u' (hb : Below W0.heap.size W0 u') => spclone_any (hsp.below rSpan_stays hb) (by omega))
      have N0 : Hid (wr.heap.size ≠ g) := Lib.hid (by omega)
      have N1 := Lib.hid hg0
      have HSS := Lib.hid hss
      clear hva hB hs hsp hbd hss hW3 hB3 q0 q1 t0 t1 g0 g1 hBB f0 f1 ex hsz3 hglt hg0 hkL
      go_upto_region 5 with fail
      rw [← HW3.out]
      clear a0 a1
      go_region_held3 (fun w' => w'.cell? ⟨wr.heap.size, 0, none⟩ = some (.string s) ∧ w'.cell? ⟨wr.heap.size, 1, none⟩ = some (.slice pd ld cd) ∧ Below W0.heap.size W0 w')
        (first | exact hold2 (by assumption) (by assumption) | exact hold2_set (by assumption) N0.out N0.out rfl N1.out | exact hold2 H0.out (below_drewN (n := 1) (Below.refl _ _)))
        (first
          | (go_at_call 26; refine (sclone_any s _ HSS.out).mono ?_; rintro e u1 ⟨rfl, hB⟩; have HB1a := Lib.hid (below_two (below_drewN (n := 1) (Below.refl W3.heap.size W3)) hB))
          | (go_at_call 27; refine (CL.out _ (hold2b (by assumption))).mono ?_; rintro e u2 ⟨v2, rfl, ho, hB⟩; have HB2a := Lib.hid (below_two HB1a.out hB); have HCL := Lib.hid (clean_new (g := g) ho hB (Nat.lt_of_lt_of_le HG.out HB1a.out.size)); obtain ⟨pv, nv, kv, rfl⟩ := slc_shape HCL.out.slc; have d0 := cell_stays HB2a.out HT.out.1; have d1 := cell_stays HB2a.out HT.out.2.1; have f0 := frozen_below HB2a.out HT.out.1 HT.out.2.2.1; have f1 := frozen_below HB2a.out HT.out.2.1 HT.out.2.2.2; have HV4 := Lib.hid (HV3.out.below HB2a.out); clear ho))
      have HH := Lib.hid (hold2b (by assumption))
      go_wp2_with fail
      go_roundw
      case rel => exact ⟨k + 1, by omega, by go_num, ⟨_, HV4.out.store HLN.out HEX.out HS.out HCL.out⟩, HH.out⟩
      case measure => simp [intOf]; omega
    · have HSL := Lib.hid (hva.slc (by rw [← HLN.out]; omega))
      have HTY := Lib.hid hva.typed
      have HB := Lib.hid (HB0.out.trans (hB.mono HB0.out.size))
      clear hva hB
      go_wp2_with fail
      go_ret
      exact ⟨_, rfl, HSL.out, HTY.out, HB.out⟩
end Go.Proofs.YtkgieaoahijheaaGreatDoor
namespace Go.Proofs.YtkgieaoahijheaaGreatDoor.Wt
open Go.RowKit
open Sc (Tok)
set_option maxRecDepth 100000

section
variable {B b tb pb : Nat} {w W u u' : World} {X : List UInt8} {pn : Option Addr} {bn on_ ln cn : Nat} {L : List PDecl} {nm : Int → Tok}
/-- a builder that was just made -/
structure Fresh (B b : Nat) (u : World) : Prop where
  row : u.heap[b]? = some (.cells #[.pointer none, .slice none 0 0] 50)
  low : B ≤ b
  tab : Tb B u
theorem Fresh.lt (h : Fresh B b u) : b < u.heap.size := (Array.getElem?_eq_some_iff.1 h.row).1
theorem Fresh.ext (h : Fresh B b u) (hB : Below u.heap.size u u') : Fresh B b u' := ⟨(hB.block _ h.lt).trans h.row, h.low, h.tab.below (hB.mono (by have := h.lt; have := h.low; omega))⟩
theorem put_new (h : Fresh B b u) : PutAt B b u.heap.size (u.heap.size + 1) [] ((u.alloc (.cells #[.pointer (some ⟨b, 0, none⟩)] 47)).alloc (.cells #[.string ⟨#[]⟩] 9)) := by
  have hl := h.lt
  have hb := h.low
  have k1 := (Below.refl _ u).alloc (Nat.le_refl _) (.cells #[.pointer (some ⟨b, 0, none⟩)] 47)
  have s1 : (u.alloc (.cells #[.pointer (some ⟨b, 0, none⟩)] 47)).heap.size = u.heap.size + 1 := by simp
  have k2 := k1.alloc (by omega) (.cells #[.string ⟨#[]⟩] 9)
  have s2 : ((u.alloc (.cells #[.pointer (some ⟨b, 0, none⟩)] 47)).alloc (.cells #[.string ⟨#[]⟩] 9)).heap.size = u.heap.size + 2 := by simp
  have h0 : Lib.IsBuilderF TB TU B b (Lib.byteCells []) u := .inl ⟨hb, .slice none 0 0, h.row, World.ownsRowF_nil u B TU 1, by simp [Value.ownBlock]⟩
  have r1 := heap_alloc_new (u.alloc (.cells #[.pointer (some ⟨b, 0, none⟩)] 47)) (.cells #[.string ⟨#[]⟩] 9)
  rw [s1] at r1
  have r0 : ((u.alloc (.cells #[.pointer (some ⟨b, 0, none⟩)] 47)).alloc (.cells #[.string ⟨#[]⟩] 9)).heap[u.heap.size]? = some (.cells #[.pointer (some ⟨b, 0, none⟩)] 47) :=
    (Lib.alloc_old _ _ _ (by omega)).trans (heap_alloc_new u _)
  exact ⟨⟨[], rfl, bld_ext h0 k2⟩, r1, r0, by omega, by omega, hb, by omega, by omega, by omega, by omega, by omega, by omega, h.tab.below (k2.mono (by omega))⟩
set_option maxHeartbeats 1000000 in
theorem into_any (h : Fresh B b u) : Calls Tryz.prog 14 #[.pointer (some ⟨b, 0, none⟩)] u fun e w' => ∃ tb pb, e = .returned (putV tb pb) ∧ PutAt B b tb pb [] w' ∧ Below u.heap.size u w' := by
  have HP := Lib.hid (put_new h)
  have HB := Lib.hid (((Below.refl _ u).alloc (Nat.le_refl _) (.cells #[.pointer (some ⟨b, 0, none⟩)] 47)).alloc (by simp) (.cells #[.string ⟨#[]⟩] 9))
  clear h
  go_enter Tryz.func14, Tryz.ntmps14
  go_wp2_with fail
  go_ret
  exact ⟨_, _, rfl, HP.out, HB.out⟩
/-- the variables of a model, as the call has made them -/
structure VarsIn (u : World) (p : Option Addr) (n c : Nat) (L : List PDecl) : Prop where
  slc : Slc rDecl 2 u (.slice p n c) L
  typ : Typed 45 u (.slice p n c)
theorem VarsIn.ext {p : Option Addr} {n c : Nat} (h : VarsIn u p n c L) (hB : Below u.heap.size u u') : VarsIn u' p n c L :=
  ⟨h.slc.below rDecl_stays hB, fun k hk => by
    obtain ⟨cs, fz, q⟩ := h.typ k hk
    exact ⟨cs, fz, (hB.block k (Array.getElem?_eq_some_iff.1 q).1).trans q⟩⟩
theorem nmk_of {p : Option Addr} {n c : Nat} (H : PutAt B b tb pb X u) (h : VarsIn u p n c L) (hl : L.length ≤ 1000000) : ∃ bn on_, NmK B b pb u p bn on_ n L nm := by
  obtain ⟨p', bn, off, c', n', e, _, hs⟩ := h.slc
  cases e
  refine ⟨bn, off, fun v hv => ⟨hs.long, hs.at_, fun k d hd => ?_⟩, by rw [hs.long]; exact hl⟩
  have hk : k < L.length := (List.getElem?_eq_some_iff.1 hd).1
  have hn : 0 < n := by rw [hs.long]; omega
  obtain ⟨cs, fz, hrow⟩ := h.typ bn (by rw [hs.at_ hn]; rfl)
  have hne : bn ≠ b := fun e => by
    obtain ⟨O, _, hO⟩ := H.bld
    rw [e] at hrow
    rcases hO with q | q
    · obtain ⟨_, v, hb, _⟩ := q
      rw [hrow] at hb
      simp only [Option.some.injEq, Obj.cells.injEq] at hb
      exact absurd hb.2.1 (by decide)
    · obtain ⟨_, v, hb, _⟩ := q
      rw [hrow] at hb
      simp only [Option.some.injEq, Obj.cells.injEq] at hb
      exact absurd hb.2.1 (by decide)
  have hnp : bn ≠ pb := fun e => by
    have hb := H.part
    rw [← e, hrow] at hb
    simp only [Option.some.injEq, Obj.cells.injEq] at hb
    exact absurd hb.2.1 (by decide)
  have hr2 := hv.row hrow hne hnp (by decide)
  obtain ⟨cs1, h1, h2, s, x, h3, h4, _⟩ := hs.cell k d hd
  have h5 := h2 0 (by omega)
  rw [h3, Nat.add_zero, cell_of_row u bn _ cs _ fz hrow] at h5
  rw [cell_of_row v bn _ cs _ fz hr2, h5]
  have : s = ⟨d.name.toArray⟩ := by rw [← h4]
  rw [this]
  rfl
/-- the argument's own variable -/
structure Mb (w : World) (bv gv : Value) (u : World) : Prop where
  row : u.heap[w.heap.size]? = some (.cells #[bv, gv] 25)
  low : Below w.heap.size w u
theorem Mb.cells {bv gv : Value} (h : Mb w bv gv u) : u.cell? ⟨w.heap.size, 0, none⟩ = some bv ∧ u.cell? ⟨w.heap.size, 1, none⟩ = some gv ∧ Mb w bv gv u := ⟨cell_of_row u _ 0 _ 25 (0, 0) h.row, cell_of_row u _ 1 _ 25 (0, 0) h.row, h⟩
theorem Mb.ext {bv gv : Value} (h : Mb w bv gv u) (hB : Below u.heap.size u u') : Mb w bv gv u' := ⟨(hB.block _ (Array.getElem?_eq_some_iff.1 h.row).1).trans h.row, h.low.trans (hB.mono h.low.size)⟩
theorem Mb.put {bv gv : Value} (h : Mb w bv gv u) (H : PutAt w.heap.size b tb pb X u) (hK : Kp w.heap.size b pb u u') : Mb w bv gv u' := by
  refine ⟨hK.row h.row (fun e => ?_) (fun e => ?_) (by decide), h.low.trans hK.low⟩
  · obtain ⟨O, _, hO⟩ := H.bld
    have hr := h.row
    rw [e] at hr
    rcases hO with q | q
    · obtain ⟨_, v, hb, _⟩ := q
      rw [hr] at hb
      simp only [Option.some.injEq, Obj.cells.injEq] at hb
      exact absurd hb.2.1 (by decide)
    · obtain ⟨_, v, hb, _⟩ := q
      rw [hr] at hb
      simp only [Option.some.injEq, Obj.cells.injEq] at hb
      exact absurd hb.2.1 (by decide)
  · have hr := h.row
    have hb := H.part
    rw [← e, hr] at hb
    simp only [Option.some.injEq, Obj.cells.injEq] at hb
    exact absurd hb.2.1 (by decide)
theorem mbk {bv gv : Value} (h : u.cell? ⟨w.heap.size, 0, none⟩ = some bv ∧ u.cell? ⟨w.heap.size, 1, none⟩ = some gv ∧ Mb w bv gv u) (hB : Below u.heap.size u u') : u'.cell? ⟨w.heap.size, 0, none⟩ = some bv ∧ u'.cell? ⟨w.heap.size, 1, none⟩ = some gv ∧ Mb w bv gv u' := (h.2.2.ext hB).cells
theorem mbp {bv gv : Value} (h : u.cell? ⟨w.heap.size, 0, none⟩ = some bv ∧ u.cell? ⟨w.heap.size, 1, none⟩ = some gv ∧ Mb w bv gv u) (H : PutAt w.heap.size b tb pb X u) (hK : Kp w.heap.size b pb u u') : u'.cell? ⟨w.heap.size, 0, none⟩ = some bv ∧ u'.cell? ⟨w.heap.size, 1, none⟩ = some gv ∧ Mb w bv gv u' := (h.2.2.put H hK).cells
theorem mbl {bv gv : Value} (h : u.cell? ⟨w.heap.size, 0, none⟩ = some bv ∧ u.cell? ⟨w.heap.size, 1, none⟩ = some gv ∧ Mb w bv gv u) : Below w.heap.size w u := h.2.2.low
theorem below_dr (n : Nat) : Below u.heap.size u (u.drewN n) := ⟨rfl, rfl, rfl, Nat.le_refl _, fun _ _ => rfl⟩
set_option maxHeartbeats 4000000 in
theorem ptext_bad {bv gv : Value} {m : PModel} (hm : rModel w [bv, gv] m) (hf : Few m) (hc : checkM m ≠ 0) :
    Calls Tryz.prog 6 #[.agg #[bv, gv]] w fun e w' => e = .returned (.tuple #[.string ⟨([] : List UInt8).toArray⟩, .int .i64 (checkM m)]) ∧ Below w.heap.size w w' := by
  obtain ⟨pb, bb, ob, cb, lb, pg, lg, cg, rfl, rfl, _, _⟩ := rModel_open hm
  have k1 := (Below.refl _ w).alloc (Nat.le_refl _) (.cells #[.slice pb lb cb, .slice pg lg cg] 25)
  have C1 := Lib.hid (Go.Proofs.YtkgieaoahijheaaGreatDoor.check_any (rModel_stays _ _ _ _ k1 hm) hf)
  have K1 := Lib.hid k1
  obtain ⟨ck, hck⟩ : ∃ ck, ck = checkM m := ⟨_, rfl⟩
  rw [← hck] at C1 hc ⊢
  have h1 : (ck == 0) = false := beq_eq_false_iff_ne.2 hc
  have h2 : (ck != 0) = true := by rw [bne, h1]; rfl
  clear hm hf k1 hck hc
  go_enter Tryz.func6, Tryz.ntmps6
  go_wp2_with fail
  refine C1.out.mono ?_
  rintro e w1 ⟨rfl, hB⟩
  have HB := Lib.hid (K1.out.trans (hB.mono K1.out.size))
  clear hB
  go_wp2_with fail
  go_ret2
  exact ⟨rfl, HB.out⟩
set_option maxHeartbeats 16000000 in
theorem ptext_good {bv gv : Value} {m : PModel} (hm : rModel w [bv, gv] m) (hf : Few m) (hc : checkM m = 0) (ht : Tb w.heap.size w) :
    Calls Tryz.prog 6 #[.agg #[bv, gv]] w fun e w' => e = .returned (.tuple #[.string ⟨(textA m).1.toArray⟩, .int .i64 (textA m).2]) ∧ Below w.heap.size w w' := by
  obtain ⟨pb, bb, ob, cb, lb, pg, lg, cg, rfl, rfl, _, _⟩ := rModel_open hm
  obtain ⟨A, hA⟩ : ∃ A, A = textL (nmT (namesM m)) m := ⟨_, rfl⟩
  have hans : textA m = if 4000 < A.length then ([], 5) else (A, 0) := by unfold textA; rw [if_pos hc, ← hA]
  obtain ⟨hd, hn⟩ := name_semi hc
  have hput : putT (modelT (nmT (namesM m)) m) = A := by rw [hA]; exact putT_model hn m fun x hx d hdd => hd d (List.mem_flatMap.2 ⟨x, hx, hdd⟩)
  have hal : A.length ≤ 1000000000 := by rw [hA]; exact text_long hc
  have htl : tailX A = [] := by rw [hA]; exact text_last _ _
  have k1 := (Below.refl _ w).alloc (Nat.le_refl _) (.cells #[.slice pb lb cb, .slice pg lg cg] 25)
  have C1 := Lib.hid (Go.Proofs.YtkgieaoahijheaaGreatDoor.check_any (rModel_stays _ _ _ _ k1 hm) hf)
  rw [hc] at C1
  have HM1 := Lib.hid (show Mb w (.slice pb lb cb) (.slice pg lg cg) (w.alloc (.cells #[.slice pb lb cb, .slice pg lg cg] 25)) from ⟨heap_alloc_new w _, k1⟩)
  have VX := Lib.hid (fun (u : World) (hb : Below w.heap.size w u) => show Calls Tryz.prog 13 #[.agg #[.slice pb lb cb, .slice pg lg cg]] u fun e w' => ∃ p n c, e = .returned (.slice p n c) ∧ VarsIn w' p n c (varsL m.blocks) ∧ Below u.heap.size u w' from (pvars_any (rModel_stays _ _ _ _ hb hm) hf).mono fun e w' ⟨v, e1, e2, e3, e4⟩ => by
    have q := e2
    obtain ⟨p, _, _, c, n, rfl, _, _⟩ := q
    exact ⟨p, n, c, e1, ⟨e2, e3⟩, e4⟩)
  have MX := Lib.hid (fun (u : World) (b tb pb2 : Nat) (p : Option Addr) (n c : Nat) (hP : PutAt w.heap.size b tb pb2 [] u) (hV : VarsIn u p n c (varsL m.blocks)) (hb : Below w.heap.size w u) => show Calls Tryz.prog 15 #[.agg #[.slice p n c, putV tb pb2], .agg #[.slice pb lb cb, .slice pg lg cg]] u fun e w' => e = .returned (.tuple #[]) ∧ PutAt w.heap.size b tb pb2 A w' ∧ Kp w.heap.size b pb2 u w' from by
    obtain ⟨bn, on_, hk⟩ := nmk_of (nm := nmT (namesM m)) hP hV (by have := hf.few; omega)
    have h := model_put (cn := c) hP hk ⟨rfl, hb⟩ hm (model_out hc) (by rw [hput]; simp; omega)
    rw [hput] at h
    exact h)
  have IX := Lib.hid (fun (u : World) (b : Nat) (h : Fresh w.heap.size b u) => into_any h)
  have HT := Lib.hid ht
  have hput2 := hput
  obtain ⟨R1, hR1⟩ : ∃ R1, R1 = (textA m).1 := ⟨_, rfl⟩
  obtain ⟨R2, hR2⟩ : ∃ R2, R2 = (textA m).2 := ⟨_, rfl⟩
  rw [← hR1, ← hR2]
  rw [hans] at hR1 hR2
  have HR1 := Lib.hid hR1
  have HR2 := Lib.hid hR2
  have HTL := Lib.hid htl
  have HAL := Lib.hid hal
  unfold putV at MX IX
  clear hm hf hc ht k1 hA hd hn hput hput2 hal htl hans hR1 hR2
  go_enter Tryz.func6, Tryz.ntmps6
  go_wp2_with fail
  refine C1.out.mono ?_
  rintro e w1 ⟨rfl, hB⟩
  have hM2 := HM1.out.ext hB
  have HM2 := Lib.hid hM2
  have hM3 := hM2.ext ((Below.refl _ w1).alloc (Nat.le_refl _) (.cells #[.pointer none, .slice none 0 0] 50))
  have HFR := Lib.hid (show Fresh w.heap.size w1.heap.size ((w1.alloc (.cells #[.pointer none, .slice none 0 0] 50)).drewN 1) from ⟨heap_alloc_new w1 _, hM2.low.size, HT.out.below (hM3.low.trans ((below_dr 1).mono hM3.low.size))⟩)
  have H0 := Lib.hid hM3.cells
  obtain ⟨x0, x1, _⟩ := hM3.cells
  clear hB hM2 hM3
  go_upto_region 5 with fail
  clear x0 x1
  go_region_held3 (fun w' => w'.cell? ⟨w.heap.size, 0, none⟩ = some (.slice pb lb cb) ∧ w'.cell? ⟨w.heap.size, 1, none⟩ = some (.slice pg lg cg) ∧ Mb w (.slice pb lb cb) (.slice pg lg cg) w')
    (first | exact mbk (by assumption) (by assumption) | exact mbp (by assumption) HPA.out (by assumption) | exact mbk H0.out (below_dr 1))
    (first
      | (go_at_call 13; refine (VX.out _ (mbl (by assumption))).mono ?_; rintro e u1 ⟨pn, ln, cn, rfl, hV, hBv⟩; have HVA := Lib.hid hV; (first | (have HPA := Lib.hid (HPA.out.ext hBv)) | skip); (first | (have HFR := Lib.hid (HFR.out.ext hBv)) | skip); clear hV)
      | (go_at_call 14; refine (IX.out _ _ HFR.out).mono ?_; rintro e u2 ⟨tb, pb2, rfl, hPi, hBi⟩; have HPA := Lib.hid hPi; (first | (have HVA := Lib.hid (HVA.out.ext hBi)) | skip); clear hPi)
      | (go_at_call 15; refine (MX.out _ _ _ _ _ _ _ HPA.out HVA.out (mbl (by assumption))).mono ?_; rintro e u3 ⟨rfl, hPm, hKm⟩; have HPM := Lib.hid hPm; clear hPm))
  all_goals
    have HLOW := Lib.hid (mbl (by assumption : u3.cell? ⟨w.heap.size, 0, none⟩ = some (.slice pb lb cb) ∧ u3.cell? ⟨w.heap.size, 1, none⟩ = some (.slice pg lg cg) ∧ Mb w (.slice pb lb cb) (.slice pg lg cg) u3))
    obtain ⟨O, eO, hO⟩ := HPM.out.bld
    rw [HTL.out, List.append_nil] at eO
    rw [← eO] at hO
    have LN := Lib.hid (Tryz.Builder_Len_f w.heap.size w1.heap.size _ u3 hO)
    rw [Lib.byteCells_length] at LN
    have SG := Lib.hid (Tryz.Builder_String_any_k w.heap.size w1.heap.size A u3 hO HPM.out.size)
    clear hO eO
    go_wp2_with fail
    refine LN.out.mono ?_
    rintro e w5 ⟨rfl, rfl⟩
    by_cases hbig : 4000 < A.length
    · have hb1 : (4000 : Int) < (A.length : Int) := by omega
      go_wp2_with fail
      go_ret2
      have q1 : R1 = [] := by rw [HR1.out, if_pos hbig]
      have q2 : R2 = 5 := by rw [HR2.out, if_pos hbig]
      rw [q1, q2]
      exact ⟨rfl, HLOW.out⟩
    · have hb1 : ¬ (4000 : Int) < (A.length : Int) := by omega
      have hb2 : A.length ≤ 4000 := by omega
      go_wp2_with fail
      refine SG.out.mono ?_
      rintro e w6 ⟨rfl, _, hB6, _⟩
      have HB6 := Lib.hid (HLOW.out.trans hB6)
      clear hB6
      go_wp2_with fail
      go_ret2
      have q1 : R1 = A := by rw [HR1.out, if_neg hbig]
      have q2 : R2 = 0 := by rw [HR2.out, if_neg hbig]
      rw [q1, q2]
      exact ⟨rfl, HB6.out⟩
theorem ptext_any {bv gv : Value} {m : PModel} (hm : rModel w [bv, gv] m) (hf : Few m) (ht : Tb w.heap.size w) :
    Calls Tryz.prog 6 #[.agg #[bv, gv]] w fun e w' => e = .returned (.tuple #[.string ⟨(textA m).1.toArray⟩, .int .i64 (textA m).2]) ∧ Below w.heap.size w w' := by
  by_cases h : checkM m = 0
  · exact ptext_good hm hf h ht
  · have e : textA m = ([], checkM m) := by unfold textA; rw [if_neg h]
    rw [e]
    exact ptext_bad hm hf h
end
end Go.Proofs.YtkgieaoahijheaaGreatDoor.Wt
namespace Go.Proofs.YtkgieaoahijheaaGreatDoor.Wt
open Go.RowKit
open Sc (Tok)
set_option maxRecDepth 100000

section
variable {b tb pb : Nat} {w u u' : World} {X : List UInt8} {L : List PDecl}
theorem con_some (nm : Int → Tok) (c : PCon) : conT nm c ≠ [] := by
  unfold conT sumsT
  split
  · simp
  · split <;> simp
open Classical in
/-- the answer of Con -/
noncomputable def conA (m : PModel) (c : PCon) : List UInt8 × Int := if checkM m = 0 then (if rightC c ((varsL m.blocks).length : Int) = true then ((spT (conT (nmT (namesM m)) c)).drop 1, 0) else ([], 12)) else ([], checkM m)
/-- the argument's own variable: a constraint's -/
structure Cb (w : World) (k : Nat) (cs : Array Value) (u : World) : Prop where
  row : u.heap[k]? = some (.cells cs 38)
  low : Below w.heap.size w u
theorem Cb.cell {k : Nat} {cs : Array Value} (h : Cb w k cs u) (j : Nat) : u.cell? ⟨k, j, none⟩ = cs[j]? := cell_of_row u k j cs 38 (0, 0) h.row
theorem Cb.ext {k : Nat} {cs : Array Value} (h : Cb w k cs u) (hB : Below u.heap.size u u') : Cb w k cs u' := ⟨(hB.block _ (Array.getElem?_eq_some_iff.1 h.row).1).trans h.row, h.low.trans (hB.mono h.low.size)⟩
theorem Cb.put {k : Nat} {cs : Array Value} (h : Cb w k cs u) (H : PutAt w.heap.size b tb pb X u) (hK : Kp w.heap.size b pb u u') : Cb w k cs u' := by
  refine ⟨hK.row h.row (fun e => ?_) (fun e => ?_) (by decide), h.low.trans hK.low⟩
  · obtain ⟨O, _, hO⟩ := H.bld
    have hr := h.row
    rw [e] at hr
    rcases hO with q | q
    · obtain ⟨_, v, hb, _⟩ := q
      rw [hr] at hb
      simp only [Option.some.injEq, Obj.cells.injEq] at hb
      exact absurd hb.2.1 (by decide)
    · obtain ⟨_, v, hb, _⟩ := q
      rw [hr] at hb
      simp only [Option.some.injEq, Obj.cells.injEq] at hb
      exact absurd hb.2.1 (by decide)
  · have hr := h.row
    have hb := H.part
    rw [← e, hr] at hb
    simp only [Option.some.injEq, Obj.cells.injEq] at hb
    exact absurd hb.2.1 (by decide)
theorem Cb.six {k : Nat} {y0 y1 y2 y3 y4 y5 : Value} (h : Cb w k #[y0, y1, y2, y3, y4, y5] u) : u.cell? ⟨k, 0, none⟩ = some y0 ∧ u.cell? ⟨k, 1, none⟩ = some y1 ∧ u.cell? ⟨k, 2, none⟩ = some y2 ∧ u.cell? ⟨k, 3, none⟩ = some y3 ∧ u.cell? ⟨k, 4, none⟩ = some y4 ∧ u.cell? ⟨k, 5, none⟩ = some y5 ∧ Cb w k #[y0, y1, y2, y3, y4, y5] u :=
  ⟨h.cell 0, h.cell 1, h.cell 2, h.cell 3, h.cell 4, h.cell 5, h⟩
theorem cbk {k : Nat} {y0 y1 y2 y3 y4 y5 : Value} (h : u.cell? ⟨k, 0, none⟩ = some y0 ∧ u.cell? ⟨k, 1, none⟩ = some y1 ∧ u.cell? ⟨k, 2, none⟩ = some y2 ∧ u.cell? ⟨k, 3, none⟩ = some y3 ∧ u.cell? ⟨k, 4, none⟩ = some y4 ∧ u.cell? ⟨k, 5, none⟩ = some y5 ∧ Cb w k #[y0, y1, y2, y3, y4, y5] u) (hB : Below u.heap.size u u') :
    u'.cell? ⟨k, 0, none⟩ = some y0 ∧ u'.cell? ⟨k, 1, none⟩ = some y1 ∧ u'.cell? ⟨k, 2, none⟩ = some y2 ∧ u'.cell? ⟨k, 3, none⟩ = some y3 ∧ u'.cell? ⟨k, 4, none⟩ = some y4 ∧ u'.cell? ⟨k, 5, none⟩ = some y5 ∧ Cb w k #[y0, y1, y2, y3, y4, y5] u' := (h.2.2.2.2.2.2.ext hB).six
theorem cbp {k : Nat} {y0 y1 y2 y3 y4 y5 : Value} (h : u.cell? ⟨k, 0, none⟩ = some y0 ∧ u.cell? ⟨k, 1, none⟩ = some y1 ∧ u.cell? ⟨k, 2, none⟩ = some y2 ∧ u.cell? ⟨k, 3, none⟩ = some y3 ∧ u.cell? ⟨k, 4, none⟩ = some y4 ∧ u.cell? ⟨k, 5, none⟩ = some y5 ∧ Cb w k #[y0, y1, y2, y3, y4, y5] u) (H : PutAt w.heap.size b tb pb X u) (hK : Kp w.heap.size b pb u u') :
    u'.cell? ⟨k, 0, none⟩ = some y0 ∧ u'.cell? ⟨k, 1, none⟩ = some y1 ∧ u'.cell? ⟨k, 2, none⟩ = some y2 ∧ u'.cell? ⟨k, 3, none⟩ = some y3 ∧ u'.cell? ⟨k, 4, none⟩ = some y4 ∧ u'.cell? ⟨k, 5, none⟩ = some y5 ∧ Cb w k #[y0, y1, y2, y3, y4, y5] u' := (h.2.2.2.2.2.2.put H hK).six
theorem cbl {k : Nat} {y0 y1 y2 y3 y4 y5 : Value} (h : u.cell? ⟨k, 0, none⟩ = some y0 ∧ u.cell? ⟨k, 1, none⟩ = some y1 ∧ u.cell? ⟨k, 2, none⟩ = some y2 ∧ u.cell? ⟨k, 3, none⟩ = some y3 ∧ u.cell? ⟨k, 4, none⟩ = some y4 ∧ u.cell? ⟨k, 5, none⟩ = some y5 ∧ Cb w k #[y0, y1, y2, y3, y4, y5] u) : Below w.heap.size w u := h.2.2.2.2.2.2.low
set_option maxHeartbeats 4000000 in
theorem pcon_bad {bv gv v1 v2 v3 : Value} {m : PModel} {c : PCon} (hm : rModel w [bv, gv] m) (hf : Few m) (hr : rCon w [.int .i64 c.kind, v1, v2, .int .i64 c.rel, .int .i64 c.const, v3] c) (hc : checkM m ≠ 0) :
    Calls Tryz.prog 10 #[.agg #[bv, gv], .agg #[.int .i64 c.kind, v1, v2, .int .i64 c.rel, .int .i64 c.const, v3]] w fun e w' => e = .returned (.tuple #[.string ⟨([] : List UInt8).toArray⟩, .int .i64 (checkM m)]) ∧ Below w.heap.size w w' := by
  obtain ⟨pb, bb, ob, cb, lb, pg, lg, cg, rfl, rfl, _, _⟩ := rModel_open hm
  obtain ⟨⟨q1, m1, d1, rfl⟩, ⟨q2, m2, d2, rfl⟩, ⟨q3, m3, d3, rfl⟩⟩ := rCon_shape hr
  have k1 := ((Below.refl _ w).alloc (Nat.le_refl _) (.cells #[.slice pb lb cb, .slice pg lg cg] 25)).alloc (by simp) (.cells #[.int .i64 c.kind, .slice q1 m1 d1, .slice q2 m2 d2, .int .i64 c.rel, .int .i64 c.const, .slice q3 m3 d3] 38)
  have C1 := Lib.hid (Go.Proofs.YtkgieaoahijheaaGreatDoor.check_any (rModel_stays _ _ _ _ k1 hm) hf)
  have K1 := Lib.hid k1
  obtain ⟨ck, hck⟩ : ∃ ck, ck = checkM m := ⟨_, rfl⟩
  rw [← hck] at C1 hc ⊢
  have h1 : (ck == 0) = false := beq_eq_false_iff_ne.2 hc
  have h2 : (ck != 0) = true := by rw [bne, h1]; rfl
  clear hm hf k1 hck hc hr
  go_enter Tryz.func10, Tryz.ntmps10
  go_wp2_with fail
  refine C1.out.mono ?_
  rintro e w1 ⟨rfl, hB⟩
  have HB := Lib.hid (K1.out.trans (hB.mono K1.out.size))
  clear hB
  go_wp2_with fail
  go_ret2
  exact ⟨rfl, HB.out⟩
set_option maxHeartbeats 16000000 in
theorem pcon_good {bv gv v1 v2 v3 : Value} {m : PModel} {c : PCon} (hm : rModel w [bv, gv] m) (hf : Few m) (hr : rCon w [.int .i64 c.kind, v1, v2, .int .i64 c.rel, .int .i64 c.const, v3] c) (hs : Short 1000 c) (hc : checkM m = 0) (ht : Tb w.heap.size w) :
    Calls Tryz.prog 10 #[.agg #[bv, gv], .agg #[.int .i64 c.kind, v1, v2, .int .i64 c.rel, .int .i64 c.const, v3]] w fun e w' => e = .returned (.tuple #[.string ⟨(conA m c).1.toArray⟩, .int .i64 (conA m c).2]) ∧ Below w.heap.size w w' := by
  obtain ⟨pb, bb, ob, cb, lb, pg, lg, cg, rfl, rfl, _, _⟩ := rModel_open hm
  obtain ⟨⟨q1, m1, d1, rfl⟩, ⟨q2, m2, d2, rfl⟩, ⟨q3, m3, d3, rfl⟩⟩ := rCon_shape hr
  obtain ⟨L, hL⟩ : ∃ L, L = varsL m.blocks := ⟨_, rfl⟩
  have hLl : L.length ≤ 1000 := by rw [hL]; exact hf.few
  obtain ⟨rt, hrt⟩ : ∃ rt, rt = rightC c (L.length : Int) := ⟨_, rfl⟩
  have hans : conA m c = if rt = true then ((spT (conT (nmT (namesM m)) c)).drop 1, 0) else ([], 12) := by unfold conA; rw [if_pos hc, hrt, hL]
  obtain ⟨hd, hn⟩ := name_semi hc
  obtain ⟨O, o1, o2⟩ := con_tail hn c (con_some _ c)
  have hO : (spT (conT (nmT (namesM m)) c)).drop 1 = O := by rw [o1]; rfl
  rw [hO] at hans
  have hok : rt = true → ConOut (nmT (namesM m)) L c := fun h => by
    rw [hrt, hL] at h
    rw [hL]
    exact ⟨con_may (Nat.le_refl _) h, right_nz h⟩
  have hOl : rt = true → O.length ≤ 3000000 := fun h => by
    have := con_long (hok h).may (fun d hdd => by rw [hL] at hdd; have := (text_may hc).name d hdd; omega)
    rw [o1, List.length_cons] at this
    omega
  have k0 := (Below.refl _ w).alloc (Nat.le_refl _) (.cells #[.slice pb lb cb, .slice pg lg cg] 25)
  have s1 : (w.alloc (.cells #[.slice pb lb cb, .slice pg lg cg] 25)).heap.size = w.heap.size + 1 := by simp
  have k1 := k0.alloc (by omega) (.cells #[.int .i64 c.kind, .slice q1 m1 d1, .slice q2 m2 d2, .int .i64 c.rel, .int .i64 c.const, .slice q3 m3 d3] 38)
  have C1 := Lib.hid (Go.Proofs.YtkgieaoahijheaaGreatDoor.check_any (rModel_stays _ _ _ _ k1 hm) hf)
  rw [hc] at C1
  have rw1 := heap_alloc_new (w.alloc (.cells #[.slice pb lb cb, .slice pg lg cg] 25)) (.cells #[.int .i64 c.kind, .slice q1 m1 d1, .slice q2 m2 d2, .int .i64 c.rel, .int .i64 c.const, .slice q3 m3 d3] 38)
  rw [s1] at rw1
  have HC1 := Lib.hid (show Cb w (w.heap.size + 1) #[.int .i64 c.kind, .slice q1 m1 d1, .slice q2 m2 d2, .int .i64 c.rel, .int .i64 c.const, .slice q3 m3 d3] _ from ⟨rw1, k1⟩)
  have HM1 := Lib.hid (show Mb w (.slice pb lb cb) (.slice pg lg cg) ((w.alloc (.cells #[.slice pb lb cb, .slice pg lg cg] 25)).alloc (.cells #[.int .i64 c.kind, .slice q1 m1 d1, .slice q2 m2 d2, .int .i64 c.rel, .int .i64 c.const, .slice q3 m3 d3] 38)) from ⟨(Lib.alloc_old _ _ _ (by omega)).trans (heap_alloc_new w _), k1⟩)
  have VX := Lib.hid (fun (u : World) (hb : Below w.heap.size w u) => show Calls Tryz.prog 13 #[.agg #[.slice pb lb cb, .slice pg lg cg]] u fun e w' => ∃ p n c, e = .returned (.slice p n c) ∧ (VarsIn w' p n c L ∧ n = L.length) ∧ Below u.heap.size u w' from (pvars_any (rModel_stays _ _ _ _ hb hm) hf).mono fun e w' ⟨v, e1, e2, e3, e4⟩ => by
    rw [← hL] at e2
    have q := e2
    obtain ⟨p, _, _, c, n, rfl, _, hsl⟩ := q
    exact ⟨p, n, c, e1, ⟨⟨e2, e3⟩, hsl.long⟩, e4⟩)
  have RX := Lib.hid (fun (u : World) (hb : Below w.heap.size w u) => pright_any (L.length : Int) (rCon_stays _ _ _ _ hb hr) hs)
  rw [← hrt] at RX
  have MX := Lib.hid (fun (u : World) (b tb pb2 : Nat) (p : Option Addr) (n cn : Nat) (hq : rt = true) (hP : PutAt w.heap.size b tb pb2 [] u) (hV : VarsIn u p n cn L) (hb : Below w.heap.size w u) => show Calls Tryz.prog 23 #[.agg #[.slice p n cn, putV tb pb2], .agg #[.int .i64 c.kind, .slice q1 m1 d1, .slice q2 m2 d2, .int .i64 c.rel, .int .i64 c.const, .slice q3 m3 d3]] u fun e w' => e = .returned (.tuple #[]) ∧ PutAt w.heap.size b tb pb2 (O ++ [32]) w' ∧ Kp w.heap.size b pb2 u w' from by
    obtain ⟨bn, on_, hk⟩ := nmk_of (nm := nmT (namesM m)) hP hV (by omega)
    have h := con_put (cn := cn) hP hk ⟨rfl, hb⟩ hr (hok hq) (by rw [o2, List.length_append]; have := hOl hq; simp; omega)
    rw [o2] at h
    exact h)
  have IX := Lib.hid (fun (u : World) (b : Nat) (h : Fresh w.heap.size b u) => into_any h)
  have HT := Lib.hid ht
  obtain ⟨R1, hR1⟩ : ∃ R1, R1 = (conA m c).1 := ⟨_, rfl⟩
  obtain ⟨R2, hR2⟩ : ∃ R2, R2 = (conA m c).2 := ⟨_, rfl⟩
  rw [← hR1, ← hR2]
  rw [hans] at hR1 hR2
  have HR1 := Lib.hid hR1
  have HR2 := Lib.hid hR2
  unfold putV at MX IX
  clear hm hf hr hs hc ht k0 k1 hd hn hans hR1 hR2 o1 o2 hO hok hOl s1 rw1 hrt hL
  go_enter Tryz.func10, Tryz.ntmps10
  go_wp2_with fail
  refine C1.out.mono ?_
  rintro e w1 ⟨rfl, hB⟩
  have hM2 := HM1.out.ext hB
  have hC2 := HC1.out.ext hB
  obtain ⟨x0, x1, _⟩ := hM2.cells
  have HM2 := Lib.hid hM2
  have HC2 := Lib.hid hC2
  clear hB hM2 hC2
  go_wp2_with fail
  refine (VX.out _ HM2.out.low).mono ?_
  rintro e w2 ⟨pn, ln, cn, rfl, ⟨hV, hln⟩, hB⟩
  subst hln
  have hC3 := HC2.out.ext hB
  obtain ⟨z0, z1, z2, z3, z4, z5, _⟩ := hC3.six
  have HV3 := Lib.hid hV
  have HC3 := Lib.hid hC3
  clear hB hV hC3 x0 x1
  go_wp2_with fail
  refine (RX.out _ HC3.out.low).mono ?_
  rintro e w3 ⟨rfl, hB⟩
  have hC4 := HC3.out.ext hB
  have HV4 := Lib.hid (HV3.out.ext hB)
  have HC4 := Lib.hid hC4
  clear hB hC4 z0 z1 z2 z3 z4 z5
  cases rt
  · go_wp2_with fail
    go_ret2
    have q1 : R1 = [] := by rw [HR1.out]; rfl
    have q2 : R2 = 12 := by rw [HR2.out]; rfl
    rw [q1, q2]
    exact ⟨rfl, HC4.out.low⟩
  · have hC5 := HC4.out.ext ((Below.refl _ w3).alloc (Nat.le_refl _) (.cells #[.pointer none, .slice none 0 0] 50))
    have HFR := Lib.hid (show Fresh w.heap.size w3.heap.size ((w3.alloc (.cells #[.pointer none, .slice none 0 0] 50)).drewN 1) from ⟨heap_alloc_new w3 _, HC4.out.low.size, HT.out.below (hC5.low.trans ((below_dr 1).mono hC5.low.size))⟩)
    have HVA := Lib.hid ((HV4.out.ext ((Below.refl _ w3).alloc (Nat.le_refl _) (.cells #[.pointer none, .slice none 0 0] 50))).ext (below_dr 1))
    have H0 := Lib.hid hC5.six
    obtain ⟨z0, z1, z2, z3, z4, z5, _⟩ := hC5.six
    clear hC5
    go_wp2_with fail
    clear z0 z1 z2 z3 z4 z5
    go_region_held3 (fun w' => w'.cell? ⟨w.heap.size + 1, 0, none⟩ = some (.int .i64 c.kind) ∧ w'.cell? ⟨w.heap.size + 1, 1, none⟩ = some (.slice q1 m1 d1) ∧ w'.cell? ⟨w.heap.size + 1, 2, none⟩ = some (.slice q2 m2 d2) ∧ w'.cell? ⟨w.heap.size + 1, 3, none⟩ = some (.int .i64 c.rel) ∧ w'.cell? ⟨w.heap.size + 1, 4, none⟩ = some (.int .i64 c.const) ∧ w'.cell? ⟨w.heap.size + 1, 5, none⟩ = some (.slice q3 m3 d3) ∧ Cb w (w.heap.size + 1) #[.int .i64 c.kind, .slice q1 m1 d1, .slice q2 m2 d2, .int .i64 c.rel, .int .i64 c.const, .slice q3 m3 d3] w')
      (first | exact cbk (by assumption) (by assumption) | exact cbp (by assumption) HPA.out (by assumption) | exact cbk H0.out (below_dr 1))
      (first
        | (go_at_call 14; refine (IX.out _ _ HFR.out).mono ?_; rintro e u2 ⟨tb, pb2, rfl, hPi, hBi⟩; have HPA := Lib.hid hPi; have HVB := Lib.hid (HVA.out.ext hBi); clear hPi)
        | (go_at_call 23; refine (MX.out _ _ _ _ _ _ _ (by trivial) HPA.out HVB.out (cbl (by assumption))).mono ?_; rintro e u3 ⟨rfl, hPm, hKm⟩; have HPM := Lib.hid hPm; clear hPm))
    have HLOW := Lib.hid (cbl (by assumption : u3.cell? ⟨w.heap.size + 1, 0, none⟩ = some (.int .i64 c.kind) ∧ u3.cell? ⟨w.heap.size + 1, 1, none⟩ = some (.slice q1 m1 d1) ∧ u3.cell? ⟨w.heap.size + 1, 2, none⟩ = some (.slice q2 m2 d2) ∧ u3.cell? ⟨w.heap.size + 1, 3, none⟩ = some (.int .i64 c.rel) ∧ u3.cell? ⟨w.heap.size + 1, 4, none⟩ = some (.int .i64 c.const) ∧ u3.cell? ⟨w.heap.size + 1, 5, none⟩ = some (.slice q3 m3 d3) ∧ Cb w (w.heap.size + 1) #[.int .i64 c.kind, .slice q1 m1 d1, .slice q2 m2 d2, .int .i64 c.rel, .int .i64 c.const, .slice q3 m3 d3] u3))
    obtain ⟨P, eP, hP⟩ := HPM.out.bld
    rw [tail_sp] at eP
    have eP2 : O = P := List.append_cancel_right eP
    rw [← eP2] at hP
    have SG := Lib.hid (Tryz.Builder_String_any_k w.heap.size w3.heap.size O u3 hP HPM.out.size)
    clear hP eP eP2
    go_wp2_with fail
    refine SG.out.mono ?_
    rintro e w6 ⟨rfl, _, hB6, _⟩
    have HB6 := Lib.hid (HLOW.out.trans hB6)
    clear hB6
    go_wp2_with fail
    go_ret2
    have q1 : R1 = O := by rw [HR1.out]; rfl
    have q2 : R2 = 0 := by rw [HR2.out]; rfl
    rw [q1, q2]
    exact ⟨rfl, HB6.out⟩
theorem pcon_any {bv gv v1 v2 v3 : Value} {m : PModel} {c : PCon} (hm : rModel w [bv, gv] m) (hf : Few m) (hr : rCon w [.int .i64 c.kind, v1, v2, .int .i64 c.rel, .int .i64 c.const, v3] c) (hs : Short 1000 c) (ht : Tb w.heap.size w) :
    Calls Tryz.prog 10 #[.agg #[bv, gv], .agg #[.int .i64 c.kind, v1, v2, .int .i64 c.rel, .int .i64 c.const, v3]] w fun e w' => e = .returned (.tuple #[.string ⟨(conA m c).1.toArray⟩, .int .i64 (conA m c).2]) ∧ Below w.heap.size w w' := by
  by_cases h : checkM m = 0
  · exact pcon_good hm hf hr hs h ht
  · have e : conA m c = ([], checkM m) := by unfold conA; rw [if_neg h]
    rw [e]
    exact pcon_bad hm hf hr h
end
end Go.Proofs.YtkgieaoahijheaaGreatDoor.Wt
