/-
  What Scan of the program answers, at every text.
  What decls of package model answers, at every model that can be read.
  What the looks of package model (big, form, name, dom, con) answer, at every model that can be read and whose lists are short.
-/
import Derived.Test.YtfkakdpppejehaaGreatZYAF
import Derived.Test.YtfkakdpppejehaaGreatZYBD
namespace Go.Proofs.YtfkakdpppejehaaGreat.Sc
open Go.RowKit

/-- what a call of Scan hands back: the tokens (their type's number is t) in memory from base on, or the place and what is wrong -/
def ScanPost (t : TypeId) (base : Nat) (R : Res) (e : Ending) (w' : World) : Prop :=
  match R with
  | .ok L => ∃ v, e = .returned (.tuple #[v, .int .i64 0, .int .i64 0]) ∧ OwnsT t w' base v L
  | .bad p x => e = .returned (.tuple #[.slice none 0 0, .int .i64 (p : Nat), .int .i64 (x : Nat)])

theorem scan_long (s : ByteArray) (w : World) (hm : 4000 < s.size) :
    Calls Tryz.prog 8 #[.string s] w fun e w' => e = .returned (.tuple #[.slice none 0 0, .int .i64 0, .int .i64 5]) ∧ w' = w := by
  have h1 : (4000 : Int) < ((s.size : Nat) : Int) := by omega
  go_enter Tryz.func8, Tryz.ntmps8
  go_wp2_with fail
  go_ret3
  exact ⟨rfl, rfl⟩

theorem cut_from (s : ByteArray) (k : Nat) (h : k ≤ s.size) (W : World) : (Instr.slice 9 (.string s) (some (.int .i64 (k : Int))) none none).run Tryz.prog W = .ok (.string (s.extract k s.size)) W := by
  rw [run_slice_string_from_if W 9 s .i64 (k : Int) Tryz.underlying9, if_pos ⟨by omega, by omega⟩]
  rfl
theorem txt_from (s : ByteArray) (k : Nat) : txt (s.extract k s.size) = (txt s).drop k := by
  show (s.extract k s.size).data.toList = _
  rw [Lib.extract_data, List.take_of_length_le (by rw [List.length_drop, ← txt_size]; exact Nat.le_refl _)]
theorem size_from (s : ByteArray) (k : Nat) : (s.extract k s.size).size = s.size - k := by
  rw [txt_size, txt_from, List.length_drop, ← txt_size]

/-- how far a loop over a text has come: A is told, place k is next -/
structure Going (l : List UInt8) (k : Nat) (A : List Tok) : Prop where
  rest : scanL 0 l = (scanL k (l.drop k)).app A
  few : A.length ≤ k
theorem going_start (l : List UInt8) : Going l 0 [] := ⟨by simp [Res.app_nil], Nat.le_refl _⟩
theorem going_skip {l : List UInt8} {k : Nat} {A : List Tok} {c : UInt8} (h : Going l k A) (e : l.drop k = c :: l.drop (k + 1)) (hs : between c = true) : Going l (k + 1) A :=
  ⟨by rw [h.rest, e, scan_skip k (by rw [step, if_pos hs])], by have := h.few; omega⟩
theorem going_tok {l : List UInt8} {k : Nat} {A : List Tok} {c : UInt8} {kd m v : Nat} (h : Going l k A) (e : l.drop k = c :: l.drop (k + 1)) (hs : between c = false) (hf : first c (l.drop (k + 1)) = .tok kd m v) :
    Going l (k + m) (A ++ [⟨kd, (l.drop k).take m, v, k⟩]) ∧ 0 < m ∧ k + m ≤ l.length := by
  have hz := first_size hf
  have hl : (l.drop k).length = (c :: l.drop (k + 1)).length := by rw [← e]
  rw [← hl, List.length_drop] at hz
  refine ⟨⟨?_, ?_⟩, hz.1, by omega⟩
  · rw [h.rest]
    have := scan_tok (c := c) (r := l.drop (k + 1)) (k := kd) (m := m) (v := v) k (by rw [step, if_neg (by simp [hs]), hf])
    rw [← e] at this
    rw [this, Res.app_cons, List.drop_drop]
  · have := h.few
    rw [List.length_append, List.length_singleton]
    omega
theorem going_bad {l : List UInt8} {k : Nat} {A : List Tok} {c : UInt8} {x : Nat} (h : Going l k A) (e : l.drop k = c :: l.drop (k + 1)) (hs : between c = false) (hf : first c (l.drop (k + 1)) = .bad x) : scanL 0 l = .bad k x := by
  rw [h.rest, e, scan_bad k (by rw [step, if_neg (by simp [hs]), hf])]
  rfl
theorem going_end {l : List UInt8} {k : Nat} {A : List Tok} (h : Going l k A) (hk : l.length ≤ k) : scanL 0 l = .ok A := by
  rw [h.rest, List.drop_of_length_le hk, scan_nil]
  simp [Res.app]
theorem ans_tok (s : ByteArray) (k m v : Nat) : ans s (.tok k m v) = .tuple #[.agg #[.int .i64 (k : Nat), .string (s.extract 0 m), .int .i64 (v : Nat), .int .i64 0], .int .i64 0] := rfl
theorem ans_bad (s : ByteArray) (x : Nat) : ans s (.bad x) = .tuple #[.agg #[.int .i64 0, .string ⟨#[]⟩, .int .i64 0, .int .i64 0], .int .i64 (x : Nat)] := rfl
theorem size_cut {t : ByteArray} {m : Nat} (h : m ≤ t.size) : (t.extract 0 m).size = m := by
  rw [txt_size] at h
  rw [txt_size]
  show ((t.extract 0 m).data.toList).length = m
  rw [Lib.extract_data, List.drop_zero, List.length_take]
  have e : (txt t).length = t.data.toList.length := rfl
  omega
theorem cells_tok (w : World) (kd v k : Nat) (q : ByteArray) (tx : List UInt8) (h : Value.string q = str tx) (g : Nat) (hg : g = w.heap.size) {ty : TypeId} : ∀ j z, (cells4 ⟨kd, tx, v, k⟩)[j]? = some z → (w.alloc (.cells #[.int .i64 kd, .string q, .int .i64 v, .int .i64 k] ty)).cell? ((⟨g, 0, none⟩ : Addr).add j) = some z := by
  subst hg
  intro j z hj
  refine cells_four w _ _ _ _ ty j z ?_
  rw [h]
  exact hj
theorem first_small {c : UInt8} {r : List UInt8} {k m v : Nat} (h : first c r = .tok k m v) : v ≤ mostV := by
  unfold first at h
  split at h
  · cases h; omega
  · split at h
    · split at h
      · cases h; assumption
      · cases h
    · split at h
      · cases h
      · cases h; omega
theorem first_not_skip {c : UInt8} {r : List UInt8} : first c r ≠ .skip := by
  unfold first
  split
  · simp
  · split
    · split <;> simp
    · split <;> simp

set_option maxRecDepth 100000 in
set_option maxHeartbeats 2000000 in
theorem scan_any (s : ByteArray) (w : World) (hm : s.size ≤ 4000) :
    Calls Tryz.prog 8 #[.string s] w fun e w' => ScanPost 47 w.heap.size (scanL 0 (txt s)) e w' ∧ Below w.heap.size w w' := by
  obtain ⟨i0, hi, hz0, hz1, hz2⟩ := info_parts info34
  obtain ⟨n, hn⟩ : ∃ n, n = s.size := ⟨_, rfl⟩
  have hsz : ((s.size : Nat) : Int) = (n : Int) := by rw [hn]
  have HM := Lib.hid hm
  rw [← hn] at hm
  have HN := Lib.hid hn
  have HS := Lib.hid (going_start (txt s))
  have HL := Lib.hid (show n = (txt s).length by rw [hn, txt_size])
  have I := Lib.hid (And.intro hi (And.intro hz0 (And.intro hz1 hz2)))
  clear hi hz0 hz1 hz2 hn
  go_enter Tryz.func8, Tryz.ntmps8
  go_wp2_with fail
  go_loopw [5, 6] (fun l i wr => ∃ k : Nat, k ≤ n ∧ i = .int .i64 k ∧ ∃ A, Going (txt s) k A ∧ OwnsT 47 wr w.heap.size l A ∧ Below w.heap.size w wr) (fun _ i _ => n - (intOf i).toNat)
  case atStart => exact ⟨0, by omega, rfl, [], HS.out, World.ownsRow_nil _ _ _ _, Below.refl _ _⟩
  case round =>
    obtain ⟨k, hk, rfl, A, hgo, hown, hB⟩ := hrel
    obtain ⟨p, cp, rfl⟩ := shape hown
    have HG := Lib.hid hgo
    have HO := Lib.hid hown
    have HB := Lib.hid hB
    have hfew := hgo.few
    clear hgo hown hB
    by_cases hlt : k < n
    · obtain ⟨c, ec, ed⟩ := drop_at (l := txt s) (k := k) (by rw [← HL.out]; exact hlt)
      have hx := idx ec
      have hb := between_any c
      cases eb : between c
      · rw [eb] at hb
        have BT := Lib.hid hb
        have hcut := cut_from s k (by rw [← HN.out]; omega)
        have ht : txt (s.extract k s.size) = c :: (txt s).drop (k + 1) := by rw [txt_from, ed]
        have F := Lib.hid (fun W => first_any (s.extract k s.size) c ((txt s).drop (k + 1)) W (by rw [size_from, ← HN.out]; omega) ht)
        obtain ⟨t, et⟩ : ∃ t, t = s.extract k s.size := ⟨_, rfl⟩
        rw [← et] at hcut F ht
        have HT := Lib.hid ht
        clear hb ec et ht
        cases ef : first c ((txt s).drop (k + 1)) with
        | skip => exact absurd ef first_not_skip
        | bad x =>
          have hr := going_bad HG.out ed eb ef
          rw [ef] at F
          have hx5 : x = 2 ∨ x = 5 := scan_err hr
          have HX := Lib.hid hr
          clear hr ed eb ef
          rw [ans_bad] at F
          go_wp2_with (go_at_call 19; refine (BT.out _).mono ?_; rintro e w' ⟨rfl, rfl⟩)
          refine (F.out _).mono ?_
          rintro e w1 ⟨rfl, hB1⟩
          have HB1 := Lib.hid (HB.out.trans (hB1.mono HB.out.size))
          clear hB1
          have hx0 : ((x : Int) == 0) = false := beq_eq_false_iff_ne.2 (by omega)
          go_wp2_with fail
          go_ret3
          refine ⟨?_, HB1.out.alloc HB1.out.size _⟩
          rw [HX.out]
          exact rfl
        | tok kd m v =>
          obtain ⟨hr, hm0, hml⟩ := going_tok HG.out ed eb ef
          rw [ef] at F
          rw [← HL.out] at hml
          have hstr : Value.string (t.extract 0 m) = str (((txt s).drop k).take m) := by rw [str_cut, HT.out, ed]; rfl
          have hlen : (t.extract 0 m).size = m := size_cut (by rw [txt_size, HT.out, ← ed, List.length_drop, ← HL.out]; omega)
          have hv : v < 4611686018427387904 := by
            have := first_small ef
            unfold mostV at this
            omega
          rw [ans_tok] at F
          obtain ⟨q, eq⟩ : ∃ q, q = t.extract 0 m := ⟨_, rfl⟩
          rw [← eq] at F hstr hlen
          have HX := Lib.hid hr
          have HSTR := Lib.hid hstr
          have hlen2 : ((q.size : Nat) : Int) = (m : Int) := by rw [hlen]
          clear hr ed eb ef eq hstr hlen
          go_wp2_with (go_at_call 19; refine (BT.out _).mono ?_; rintro e w' ⟨rfl, rfl⟩)
          refine (F.out _).mono ?_
          rintro e w1 ⟨rfl, hB1⟩
          have HO1 := Lib.hid (owns_below HO.out hB1)
          have HB1 := Lib.hid (HB.out.trans (hB1.mono HB.out.size))
          clear hB1
          have hi := I.out.1
          have hz0 := I.out.2.1
          have hz1 := I.out.2.2.1
          have hz2 := I.out.2.2.2
          have HZ := Lib.hid (HB1.out.size)
          go_wp2_with (at_builtin; refine append_tok rfl _ _ 43 47 i0 Tryz.underlying43 hi hz0 hz1 hz2 rfl w.heap.size _ (w1.heap.size + 1) A ⟨kd, ((txt s).drop k).take m, v, k⟩ rfl rfl ((HO1.out.alloc _).alloc _) (cells_tok _ _ _ _ _ _ HSTR.out (w1.heap.size + 1) (by simp)) (by omega) (by have := HZ.out; simp; omega) ?_; intro v' w2 hown hgrow; have hq : w2.cell? ⟨w1.heap.size, 1, none⟩ = some (.string q) := cell_grown hgrow (fun e => Nat.lt_irrefl _ (HO1.out.lt _ e).2) (by go_simp))
          go_roundw
          case rel =>
            refine ⟨k + m, hml, by go_num, _, HX.out, hown, ?_⟩
            exact ((HB1.out.alloc HZ.out _).alloc (by have := HZ.out; simp; omega) _).grown hgrow (by have := HZ.out; simp; omega) (fun j e => (HO1.out.lt j e).1)
          case measure => simp [intOf]; omega
      · rw [eb] at hb
        have BT := Lib.hid hb
        have HX := Lib.hid (going_skip HG.out ed eb)
        clear hb eb ec ed
        go_wp2_with (go_at_call 19; refine (BT.out _).mono ?_; rintro e w' ⟨rfl, rfl⟩)
        go_roundw
        case rel => exact ⟨k + 1, by omega, by go_num, A, HX.out, HO.out, HB.out⟩
        case measure => simp [intOf]; omega
    · have hr := going_end HG.out (by rw [← HL.out]; omega)
      have HR := Lib.hid hr
      clear hr
      go_wp2
      go_ret3
      refine ⟨?_, HB.out⟩
      rw [HR.out]
      exact ⟨_, rfl, HO.out⟩
end Go.Proofs.YtfkakdpppejehaaGreat.Sc
namespace Go.Proofs.YtfkakdpppejehaaGreat
open Go.RowKit
set_option maxRecDepth 100000

set_option maxRecDepth 100000 in
set_option maxHeartbeats 2000000 in
theorem pdecls_cells (pb : Option Addr) (bb ob cb lb : Nat) (gv : Value) (m : PModel) (w : World) (h : Mod w pb bb ob cb lb gv m) (hl : lb ≤ 1000) (hv : ∀ x ∈ m.blocks, x.vars.length ≤ 1000) (ht : (varsL m.blocks).length ≤ 100000) :
    Calls Tryz.prog 72 #[.agg #[.slice pb lb cb, gv]] w fun e w' => ∃ v, e = .returned v ∧ OwnsOf rDecl 2 36 w w' v (varsL m.blocks) ∧ Below w.heap.size w w' := by
  obtain ⟨i0, hi, hz0, hz1, hz2⟩ := info_parts info48
  have I := Lib.hid (And.intro hi (And.intro hz0 (And.intro hz1 hz2)))
  have HM := Lib.hid h
  have HV := Lib.hid hv
  have HT := Lib.hid ht
  have hp := h.blocks.at_
  have hlb : lb = m.blocks.length := h.blocks.long
  have HLB := Lib.hid hlb
  clear h hv ht hi hz0 hz1 hz2 hlb
  go_enter Tryz.func72, Tryz.ntmps72
  go_upto_region 1 with fail
  obtain ⟨W0, hW0⟩ : ∃ W0, W0 = w.alloc (.cells #[.slice pb lb cb, gv] 26) := ⟨_, rfl⟩
  rw [← hW0]
  have hB0 : Below w.heap.size w W0 := by rw [hW0]; exact (Below.refl _ w).alloc (Nat.le_refl _) _
  have hb0 : W0.cell? ⟨w.heap.size, 0, none⟩ = some (.slice pb lb cb) := by rw [hW0]; go_simp
  have HB0 := Lib.hid hB0
  clear hW0 hB0
  go_wp2_with fail
  go_loopw [3, 9] (fun o i wr => ∃ k : Nat, k ≤ lb ∧ i = .int .i64 k ∧ OwnsOf rDecl 2 36 w wr o (varsL (m.blocks.take k)) ∧ Below w.heap.size w wr) (fun _ i _ => lb - (intOf i).toNat)
  case atStart => exact ⟨0, by omega, rfl, ownsOf_nil rDecl 2 36 w W0, HB0.out⟩
  case round =>
    obtain ⟨k, hk, rfl, hown, hB⟩ := hrel
    obtain ⟨A, eA⟩ : ∃ A, A = varsL (m.blocks.take k) := ⟨_, rfl⟩
    rw [← eA] at hown
    obtain ⟨po, co, rfl⟩ := hown.shape
    by_cases hlt : k < lb
    · obtain rfl := hp (by omega)
      obtain ⟨x, v1, v2, ex, ed, a0, a1, a2, sv, sc⟩ := block_at HM.out.blocks hlt
      have a0 := cell_stays hB a0
      have a1 := cell_stays hB a1
      have a2 := cell_stays hB a2
      obtain ⟨p1, b1, o1, c1, l1, rfl, hnl, hs⟩ := sv
      obtain ⟨p2, l2, c2, rfl⟩ := slc_shape sc
      have hnl := hnl.1
      have hxv := HV.out x (List.mem_of_getElem? ex)
      have hnx := vars_drop ed
      have hA : A.length ≤ 100000 := by
        rw [eA]
        have h2 := vars_to m.blocks k
        have h3 := HT.out
        omega
      rw [← hs.long] at hxv
      rw [← eA] at hnx
      generalize x.all = xa at a0
      obtain ⟨W1, hW1⟩ : ∃ W1, W1 = wr.alloc (.cells #[.bool xa, .slice p1 l1 c1, .slice p2 l2 c2] 39) := ⟨_, rfl⟩
      have hBa : Below wr.heap.size wr W1 := by rw [hW1]; exact (Below.refl _ wr).alloc (Nat.le_refl _) _
      have q1 : W1.cell? ⟨wr.heap.size, 1, none⟩ = some (.slice p1 l1 c1) := by rw [hW1]; go_simp
      have HO := Lib.hid (hown.below hBa)
      have HB := Lib.hid (hB.trans (hBa.mono hB.size))
      have NX := Lib.hid hnx
      have HSL := Lib.hid hs
      have HNL := Lib.hid hnl
      have HW1 := Lib.hid hW1
      have hsz : w.heap.size ≤ W1.heap.size := HB.out.size
      have hi := I.out.1
      have hz0 := I.out.2.1
      have hz1 := I.out.2.2.1
      have hz2 := I.out.2.2.2
      clear hown hB ex ed hs hnx eA hnl sc hW1 hBa
      go_upto_region 5 with fail
      rw [← HW1.out]
      clear a0 a1 a2
      go_wp2_with (at_builtin; refine append_of rDecl_one rfl _ _ 37 36 2 40 i0 _ Tryz.underlying37 hi hz0 hz1 hz2 rfl (by decide) (by decide) rfl _ p1 b1 o1 c1 l1 A x.vars rfl rfl HO.out HSL.out HNL.out HB.out (by omega) hsz ?_; intro v' w1 hown' hgrow)
      go_roundw
      case rel =>
        refine ⟨k + 1, by omega, by go_num, ?_, ?_⟩
        · rw [NX.out]
          exact hown'
        · exact HB.out.grown hgrow hsz (fun j e => (HO.out.lt j e).1)
      case measure => simp [intOf]; omega
    · have hf : A = varsL m.blocks := by
        rw [eA, List.take_of_length_le (by rw [← HLB.out]; omega)]
      have HF := Lib.hid hf
      have HB := Lib.hid hB
      have HO := Lib.hid hown
      clear hown hB hf eA
      go_wp2_with fail
      go_ret
      exact ⟨_, rfl, HF.out ▸ HO.out, HB.out⟩
theorem pdecls_any {w : World} {bv gv : Value} {m : PModel} (h : rModel w [bv, gv] m) (hf : Few m) :
    Calls Tryz.prog 72 #[.agg #[bv, gv]] w fun e w' => ∃ v, e = .returned v ∧ OwnsOf rDecl 2 36 w w' v (varsL m.blocks) ∧ Below w.heap.size w w' := by
  obtain ⟨pb, bb, ob, cb, lb, rfl, hm⟩ := mod_of h
  exact pdecls_cells pb bb ob cb lb gv m w hm (by rw [hm.blocks.long]; exact hf.blocks) hf.vars (by have := hf.few; omega)
end Go.Proofs.YtfkakdpppejehaaGreat
namespace Go.Proofs.YtfkakdpppejehaaGreat
open Go.RowKit
set_option maxRecDepth 100000

theorem Slc.open_ {α : Type} {R : Reader α} {n : Nat} {w : World} {v : Value} {L : List α} (h : Slc R n w v L) : ∃ (p : Option Addr) (b off c len : Nat), v = .slice p len c ∧ SliceOf R n w p b off len L := by
  obtain ⟨p, b, off, c, len, h1, _, h2⟩ := h
  exact ⟨p, b, off, c, len, h1, h2⟩

/-- a model's value, its two slices open -/
structure Mo (w : World) (pb : Option Addr) (bb ob cb lb : Nat) (pg : Option Addr) (lg cg : Nat) (m : PModel) : Prop where
  mod : Mod w pb bb ob cb lb (.slice pg lg cg) m
  goal : lg = m.goal.length
theorem mo_of {w : World} {bv gv : Value} {m : PModel} (h : rModel w [bv, gv] m) : ∃ (pb : Option Addr) (bb ob cb lb : Nat) (pg : Option Addr) (lg cg : Nat), bv = .slice pb lb cb ∧ gv = .slice pg lg cg ∧ Mo w pb bb ob cb lb pg lg cg m := by
  obtain ⟨pb, bb, ob, cb, lb, rfl, hm⟩ := mod_of h
  obtain ⟨pg, bg, og, cg, lg, rfl, hg⟩ := Slc.open_ hm.goal
  exact ⟨pb, bb, ob, cb, lb, pg, lg, cg, rfl, rfl, hm, hg.long⟩
theorem Mo.model {w : World} {pb : Option Addr} {bb ob cb lb : Nat} {pg : Option Addr} {lg cg : Nat} {m : PModel} (h : Mo w pb bb ob cb lb pg lg cg m) (hc : (pb = none → cb = 0) ∧ lb ≤ cb) : rModel w [.slice pb lb cb, .slice pg lg cg] m :=
  ⟨_, _, rfl, ⟨pb, bb, ob, cb, lb, rfl, hc, h.mod.blocks⟩, h.mod.goal⟩
theorem Mo.below {w w' : World} {pb : Option Addr} {bb ob cb lb : Nat} {pg : Option Addr} {lg cg : Nat} {m : PModel} (h : Mo w pb bb ob cb lb pg lg cg m) (hB : Below w.heap.size w w') : Mo w' pb bb ob cb lb pg lg cg m :=
  ⟨h.mod.below hB, h.goal⟩

def fW (b : PBlock) : Bool := decide (16 < b.cons.length)
set_option maxRecDepth 100000 in
set_option maxHeartbeats 2000000 in
theorem big_cells (pb : Option Addr) (bb ob cb lb : Nat) (pg : Option Addr) (lg cg : Nat) (m : PModel) (w : World) (h : Mo w pb bb ob cb lb pg lg cg m) (hf : Few m) :
    Calls Tryz.prog 51 #[.agg #[.slice pb lb cb, .slice pg lg cg]] w fun e w' => e = .returned (.bool (bigM m)) ∧ Below w.heap.size w w' := by
  obtain ⟨R, hR⟩ : ∃ R, R = bigM m := ⟨_, rfl⟩
  rw [← hR]
  have hR2 : R = (decide (8 < lb) || (decide (16 < lg) || (m.blocks.any fW || decide (16 < (varsL m.blocks).length)))) := by rw [hR, bigM, ← h.mod.blocks.long, ← h.goal]; rfl
  have hp := h.mod.blocks.at_
  have hlb : lb ≤ 1000 := by rw [h.mod.blocks.long]; exact hf.blocks
  have hlg : lg ≤ 1000 := by rw [h.goal]; exact hf.goal.1
  have HLB := Lib.hid h.mod.blocks.long
  have HM := Lib.hid h
  have HF := Lib.hid hf
  obtain ⟨W0, hW0⟩ : ∃ W0, W0 = w.alloc (.cells #[.slice pb lb cb, .slice pg lg cg] 73) := ⟨_, rfl⟩
  have hB0 : Below w.heap.size w W0 := by rw [hW0]; exact (Below.refl _ w).alloc (Nat.le_refl _) _
  have m0 : W0.cell? ⟨w.heap.size, 0, none⟩ = some (.slice pb lb cb) := by rw [hW0]; go_simp
  have m1 : W0.cell? ⟨w.heap.size, 1, none⟩ = some (.slice pg lg cg) := by rw [hW0]; go_simp
  have HW := Lib.hid hW0
  have HB0 := Lib.hid hB0
  clear hR h hf hW0 hB0
  by_cases g1 : 8 < lb
  · have d1 : decide ((8 : Int) < (lb : Int)) = true := decide_eq_true (by omega)
    rw [decide_eq_true g1, Bool.true_or] at hR2
    subst hR2
    clear g1
    go_enter Tryz.func51, Tryz.ntmps51
    go_upto_region 1 with fail
    rw [← HW.out]
    go_wp2_with fail
    go_ret
    exact ⟨rfl, HB0.out⟩
  · have d1 : decide ((8 : Int) < (lb : Int)) = false := decide_eq_false (by omega)
    rw [decide_eq_false g1, Bool.false_or] at hR2
    by_cases g2 : 16 < lg
    · have d2 : decide ((16 : Int) < (lg : Int)) = true := decide_eq_true (by omega)
      rw [decide_eq_true g2, Bool.true_or] at hR2
      subst hR2
      go_enter Tryz.func51, Tryz.ntmps51
      go_upto_region 1 with fail
      rw [← HW.out]
      go_wp2_with fail
      go_ret
      exact ⟨rfl, HB0.out⟩
    · have d2 : decide ((16 : Int) < (lg : Int)) = false := decide_eq_false (by omega)
      rw [decide_eq_false g2, Bool.false_or] at hR2
      have HS := Lib.hid (show R = ((m.blocks.drop 0).any fW || decide (16 < (varsL m.blocks).length)) ∧ 0 = (varsL (m.blocks.take 0)).length ∧ 0 ≤ 0 * 1000 by exact ⟨by rw [hR2]; simp, by simp [varsL], by omega⟩)
      clear hR2
      go_enter Tryz.func51, Tryz.ntmps51
      go_upto_region 1 with fail
      rw [← HW.out]
      go_wp2_with fail
      go_loopw [3, 22] (fun t i wr => ∃ k n : Nat, k ≤ lb ∧ i = .int .i64 k ∧ t = .int .i64 n ∧ (R = ((m.blocks.drop k).any fW || decide (16 < (varsL m.blocks).length)) ∧ n = (varsL (m.blocks.take k)).length ∧ n ≤ k * 1000) ∧ Below w.heap.size w wr) (fun _ i _ => lb - (intOf i).toNat)
      case atStart => exact ⟨0, 0, by omega, rfl, rfl, HS.out, HB0.out⟩
      case round =>
        obtain ⟨k, n, hk, rfl, rfl, ⟨hrel, hn, hn2⟩, hB⟩ := hrel
        by_cases hlt : k < lb
        · obtain rfl := hp (by omega)
          obtain ⟨x, v1, v2, ex, ed, a0, a1, a2, sv, sc⟩ := block_at (HM.out.mod.below hB).blocks hlt
          have hstep := hrel.trans (by rw [any_at fW ex])
          have htot := totals ex
          obtain ⟨p1, l1, c1, rfl, hl1⟩ := slc_long sv
          obtain ⟨p2, l2, c2, rfl, hl2⟩ := slc_long sc
          have hxv := HF.out.vars x (List.mem_of_getElem? ex)
          have hxc := (HF.out.wheres x (List.mem_of_getElem? ex)).1
          rw [← hl1] at hxv htot
          rw [← hl2] at hxc
          have hfw : fW x = decide (16 < l2) := by rw [fW, ← hl2]
          rw [hfw] at hstep
          rw [← hn] at htot
          generalize x.all = xa at a0
          have HB := Lib.hid (hB.alloc hB.size (.cells #[.bool xa, .slice p1 l1 c1, .slice p2 l2 c2] 39))
          have HT := Lib.hid htot
          clear hrel hB ex ed sv sc hl1 hl2 hfw htot hn
          by_cases g3 : 16 < l2
          · have d3 : decide ((16 : Int) < (l2 : Int)) = true := decide_eq_true (by omega)
            rw [decide_eq_true g3, Bool.true_or, Bool.true_or] at hstep
            subst hstep
            go_wp2_with fail
            go_ret
            exact ⟨rfl, HB.out⟩
          · have d3 : decide ((16 : Int) < (l2 : Int)) = false := decide_eq_false (by omega)
            rw [decide_eq_false g3, Bool.false_or] at hstep
            have NX := Lib.hid hstep
            clear hstep
            go_wp2_with fail
            go_roundw
            case rel => exact ⟨k + 1, n + l1, by omega, by go_num, by go_num, ⟨NX.out, HT.out.symm, by omega⟩, HB.out⟩
            case measure => simp [intOf]; omega
        · have key : R = decide (16 < n) := by
            rw [hrel, any_end fW (by rw [← HLB.out]; omega), Bool.false_or, hn, List.take_of_length_le (by rw [← HLB.out]; omega)]
          have HB := Lib.hid hB
          have hk2 : n ≤ 1000000 := by omega
          clear hrel hB hn
          by_cases g4 : 16 < n
          · have d4 : decide ((16 : Int) < (n : Int)) = true := decide_eq_true (by omega)
            rw [decide_eq_true g4] at key
            subst key
            go_wp2_with fail
            go_ret
            exact ⟨rfl, HB.out⟩
          · have d4 : decide ((16 : Int) < (n : Int)) = false := decide_eq_false (by omega)
            rw [decide_eq_false g4] at key
            subst key
            go_wp2_with fail
            go_ret
            exact ⟨rfl, HB.out⟩

def fV (b : PBlock) : Bool := decide (b.vars.length = 0)
set_option maxHeartbeats 400000 in
theorem form1_any (u : World) (x : PBlock) (v1 v2 : Value) (h : rBlock u [.bool x.all, v1, v2] x) : Calls Tryz.prog 70 (#[.agg #[.bool x.all, v1, v2]] ++ #[]) u fun e w' => e = .returned (.bool (fV x)) ∧ Below u.heap.size u w' := by
  obtain ⟨u1, u2, e, h1, h2⟩ := h
  simp only [List.cons.injEq, and_true, true_and] at e
  obtain ⟨rfl, rfl⟩ := e
  obtain ⟨p1, l1, c1, rfl, hl1⟩ := slc_long h1
  obtain ⟨p2, l2, c2, rfl⟩ := slc_shape h2
  have hv : fV x = decide (l1 = 0) := by rw [fV, ← hl1]
  rw [hv]
  generalize x.all = xa
  have HB := Lib.hid ((Below.refl _ u).alloc (Nat.le_refl _) (.cells #[.bool xa, .slice p1 l1 c1, .slice p2 l2 c2] 39))
  clear hv h1 h2 hl1
  simp only [Array.append_empty]
  by_cases g : l1 = 0
  · have e : ((l1 : Int) == 0) = true := beq_iff_eq.2 (by omega)
    rw [decide_eq_true g]
    clear g
    go_enter Tryz.func70, Tryz.ntmps70
    go_wp2_with fail
    go_ret
    exact ⟨rfl, HB.out⟩
  · have e : ((l1 : Int) == 0) = false := beq_eq_false_iff_ne.2 (by omega)
    rw [decide_eq_false g]
    go_enter Tryz.func70, Tryz.ntmps70
    go_wp2_with fail
    go_ret
    exact ⟨rfl, HB.out⟩
theorem enters61 : Enters Tryz.prog 70 := enters_of Tryz.func70 (by kernel_rfl) rfl
theorem enters63 : Enters Tryz.prog 73 := enters_of Tryz.func73 (by kernel_rfl) rfl
theorem enters64 : Enters Tryz.prog 75 := enters_of Tryz.func75 (by kernel_rfl) rfl
theorem enters71 : Enters Tryz.prog 93 := enters_of Tryz.func93 (by kernel_rfl) rfl

set_option maxRecDepth 100000 in
set_option maxHeartbeats 1000000 in
theorem form_cells (pb : Option Addr) (bb ob cb lb : Nat) (pg : Option Addr) (lg cg : Nat) (m : PModel) (w : World) (h : Mo w pb bb ob cb lb pg lg cg m) (hc : (pb = none → cb = 0) ∧ lb ≤ cb) (hf : Few m) :
    Calls Tryz.prog 52 #[.agg #[.slice pb lb cb, .slice pg lg cg]] w fun e w' => e = .returned (.bool (formM m)) ∧ Below w.heap.size w w' := by
  obtain ⟨R, hR⟩ : ∃ R, R = formM m := ⟨_, rfl⟩
  rw [← hR]
  have hR2 : R = (decide (lb = 0) || m.blocks.any fV) := by rw [hR, formM, ← h.mod.blocks.long]; rfl
  have hlb : lb ≤ 1000 := by rw [h.mod.blocks.long]; exact hf.blocks
  obtain ⟨W0, hW0⟩ : ∃ W0, W0 = w.alloc (.cells #[.slice pb lb cb, .slice pg lg cg] 73) := ⟨_, rfl⟩
  have hB0 : Below w.heap.size w W0 := by rw [hW0]; exact (Below.refl _ w).alloc (Nat.le_refl _) _
  have m0 : W0.cell? ⟨w.heap.size, 0, none⟩ = some (.slice pb lb cb) := by rw [hW0]; go_simp
  have C := Lib.hid (hasB_any 70 enters61 #[] fV (show Slc rBlock 3 W0 (.slice pb lb cb) m.blocks from ⟨pb, bb, ob, cb, lb, rfl, hc, (h.mod.below hB0).blocks⟩) (by have := hf.blocks; omega) fun u x v1 v2 _ _ hx => form1_any u x v1 v2 hx)
  have HW := Lib.hid hW0
  have HB0 := Lib.hid hB0
  clear hR h hf hW0 hB0 hc
  by_cases g1 : lb = 0
  · have d1 : ((lb : Int) == 0) = true := beq_iff_eq.2 (by omega)
    rw [decide_eq_true g1, Bool.true_or] at hR2
    subst hR2
    clear g1
    go_enter Tryz.func52, Tryz.ntmps52
    go_upto_region 1 with fail
    rw [← HW.out]
    go_wp2_with fail
    go_ret
    exact ⟨rfl, HB0.out⟩
  · have d1 : ((lb : Int) == 0) = false := beq_eq_false_iff_ne.2 (by omega)
    rw [decide_eq_false g1, Bool.false_or] at hR2
    rw [← hR2] at C
    clear hR2
    go_enter Tryz.func52, Tryz.ntmps52
    go_upto_region 1 with fail
    rw [← HW.out]
    go_wp2_with fail
    refine C.out.mono ?_
    rintro e w2 ⟨rfl, hB⟩
    have HB := Lib.hid (HB0.out.trans (hB.mono HB0.out.size))
    clear hB
    go_wp2_with fail
    go_ret
    exact ⟨rfl, HB.out⟩

theorem rDecl_open {w : World} {s : ByteArray} {v : Value} {d : PDecl} (h : rDecl w [.string s, v] d) : txt s = d.name ∧ Slc rSpan 2 w v d.dom := by
  obtain ⟨s', v', e, h1, h2⟩ := h
  simp only [List.cons.injEq, and_true, Value.string.injEq] at e
  obtain ⟨rfl, rfl⟩ := e
  exact ⟨h1, h2⟩
def fN (d : PDecl) : Bool := !nameL d.name
set_option maxHeartbeats 400000 in
theorem name1_any (u : World) (x : PDecl) (s : ByteArray) (v1 : Value) (h : rDecl u [.string s, v1] x) (hl : x.name.length ≤ 1000) : Calls Tryz.prog 73 (#[.agg #[.string s, v1]] ++ #[]) u fun e w' => e = .returned (.bool (fN x)) ∧ Below u.heap.size u w' := by
  obtain ⟨h1, h2⟩ := rDecl_open h
  obtain ⟨p1, l1, c1, rfl⟩ := slc_shape h2
  obtain ⟨B, hB⟩ : ∃ B, B = nameL x.name := ⟨_, rfl⟩
  have hv : fN x = !B := by rw [fN, hB]
  rw [hv]
  have HB := Lib.hid ((Below.refl _ u).alloc (Nat.le_refl _) (.cells #[.string s, .slice p1 l1 c1] 36))
  have C := Lib.hid (fun W => pname_any s W (by rw [txt_size, h1]; omega))
  rw [h1, ← hB] at C
  clear hv h h1 h2 hB hl
  simp only [Array.append_empty]
  cases B
  · skip
    go_enter Tryz.func73, Tryz.ntmps73
    go_wp2_with fail
    refine (C.out _).mono ?_
    rintro e w2 ⟨rfl, rfl⟩
    go_wp2_with fail
    go_ret
    exact ⟨rfl, HB.out⟩
  · skip
    go_enter Tryz.func73, Tryz.ntmps73
    go_wp2_with fail
    refine (C.out _).mono ?_
    rintro e w2 ⟨rfl, rfl⟩
    go_wp2_with fail
    go_ret
    exact ⟨rfl, HB.out⟩
set_option maxHeartbeats 400000 in
theorem dom1_any (u : World) (x : PDecl) (s : ByteArray) (v1 : Value) (h : rDecl u [.string s, v1] x) (hl : x.dom.length ≤ 1000) : Calls Tryz.prog 75 (#[.agg #[.string s, v1]] ++ #[]) u fun e w' => e = .returned (.bool (domD x)) ∧ Below u.heap.size u w' := by
  obtain ⟨h1, h2⟩ := rDecl_open h
  have HBa := Lib.hid (fun o => (Below.refl _ u).alloc (Nat.le_refl _) o)
  have C := Lib.hid (fun o => psize_any (h2.below rSpan_stays (HBa.out o)) (by omega))
  obtain ⟨p1, l1, c1, rfl⟩ := slc_shape h2
  rw [dom_is]
  obtain ⟨z, hz⟩ : ∃ z, z = szL x.dom := ⟨_, rfl⟩
  obtain ⟨z0, z1⟩ := sz_low x.dom
  rw [← hz] at C z0 z1 ⊢
  clear h h1 h2 hz
  simp only [Array.append_empty]
  by_cases g1 : z = 0
  · have e1 : (z == 0) = true := beq_iff_eq.2 g1
    have u1 : z ≤ 0 := by omega
    rw [decide_eq_true g1]
    clear g1
    go_enter Tryz.func75, Tryz.ntmps75
    go_wp2_with fail
    refine (C.out _).mono ?_
    rintro e w2 ⟨rfl, hB2⟩
    have HB2 := Lib.hid ((HBa.out _).trans (hB2.mono (HBa.out _).size))
    clear hB2
    go_wp2_with fail
    all_goals try (exfalso; omega)
    go_ret
    exact ⟨rfl, HB2.out⟩
  · have e1 : (z == 0) = false := beq_eq_false_iff_ne.2 g1
    rw [decide_eq_false g1, Bool.false_or]
    by_cases g2 : 64 < z
    · have e2 : decide ((64 : Int) < z) = true := decide_eq_true g2
      rw [e2]
      go_enter Tryz.func75, Tryz.ntmps75
      go_wp2_with fail
      refine (C.out _).mono ?_
      rintro e w2 ⟨rfl, hB2⟩
      have HB2 := Lib.hid ((HBa.out _).trans (hB2.mono (HBa.out _).size))
      clear hB2
      go_wp2_with fail
      all_goals try (exfalso; omega)
      go_ret
      exact ⟨rfl, HB2.out⟩
    · have e2 : decide ((64 : Int) < z) = false := decide_eq_false g2
      rw [e2]
      go_enter Tryz.func75, Tryz.ntmps75
      go_wp2_with fail
      refine (C.out _).mono ?_
      rintro e w2 ⟨rfl, hB2⟩
      have HB2 := Lib.hid ((HBa.out _).trans (hB2.mono (HBa.out _).size))
      clear hB2
      go_wp2_with fail
      all_goals try (exfalso; omega)
      go_ret
      exact ⟨rfl, HB2.out⟩

set_option maxRecDepth 100000 in
set_option maxHeartbeats 1000000 in
theorem name_cells (pb : Option Addr) (bb ob cb lb : Nat) (pg : Option Addr) (lg cg : Nat) (m : PModel) (w : World) (h : Mo w pb bb ob cb lb pg lg cg m) (hc : (pb = none → cb = 0) ∧ lb ≤ cb) (hf : Few m) :
    Calls Tryz.prog 53 #[.agg #[.slice pb lb cb, .slice pg lg cg]] w fun e w' => e = .returned (.bool (nameM m)) ∧ Below w.heap.size w w' := by
  obtain ⟨R, hR⟩ : ∃ R, R = nameM m := ⟨_, rfl⟩
  rw [← hR]
  have hR2 : (varsL m.blocks).any fN = R := by rw [hR]; rfl
  obtain ⟨W0, hW0⟩ : ∃ W0, W0 = w.alloc (.cells #[.slice pb lb cb, .slice pg lg cg] 73) := ⟨_, rfl⟩
  have hB0 : Below w.heap.size w W0 := by rw [hW0]; exact (Below.refl _ w).alloc (Nat.le_refl _) _
  have m0 : W0.cell? ⟨w.heap.size, 0, none⟩ = some (.slice pb lb cb) := by rw [hW0]; go_simp
  have m1 : W0.cell? ⟨w.heap.size, 1, none⟩ = some (.slice pg lg cg) := by rw [hW0]; go_simp
  have D := Lib.hid (pdecls_any ((h.below hB0).model hc) hf)
  have C := Lib.hid (fun (v : Value) (u : World) (hs : Slc rDecl 2 u v (varsL m.blocks)) => hasD_any 73 enters63 #[] fN hs (by have := hf.few; omega) fun u x s v1 _ hm hx => name1_any u x s v1 hx (hf.decl x hm).1)
  rw [hR2] at C
  have HW := Lib.hid hW0
  have HB0 := Lib.hid hB0
  clear hR h hf hW0 hB0 hc hR2
  go_enter Tryz.func53, Tryz.ntmps53
  go_upto_region 1 with fail
  rw [← HW.out]
  go_wp2_with fail
  refine D.out.mono ?_
  rintro e w1 ⟨v, rfl, hown, hB1⟩
  have CC := Lib.hid (C.out v w1 (hown.slc rDecl_stays hB1))
  have HB1 := Lib.hid (HB0.out.trans (hB1.mono HB0.out.size))
  clear hown hB1
  go_wp2_with fail
  refine CC.out.mono ?_
  rintro e w2 ⟨rfl, hB2⟩
  have HB2 := Lib.hid (HB1.out.trans (hB2.mono HB1.out.size))
  clear hB2
  go_wp2_with fail
  go_ret
  exact ⟨rfl, HB2.out⟩

set_option maxRecDepth 100000 in
set_option maxHeartbeats 1000000 in
theorem dom_cells (pb : Option Addr) (bb ob cb lb : Nat) (pg : Option Addr) (lg cg : Nat) (m : PModel) (w : World) (h : Mo w pb bb ob cb lb pg lg cg m) (hc : (pb = none → cb = 0) ∧ lb ≤ cb) (hf : Few m) :
    Calls Tryz.prog 55 #[.agg #[.slice pb lb cb, .slice pg lg cg]] w fun e w' => e = .returned (.bool (domM m)) ∧ Below w.heap.size w w' := by
  obtain ⟨R, hR⟩ : ∃ R, R = domM m := ⟨_, rfl⟩
  rw [← hR]
  have hR2 : (varsL m.blocks).any domD = R := by rw [hR]; rfl
  obtain ⟨W0, hW0⟩ : ∃ W0, W0 = w.alloc (.cells #[.slice pb lb cb, .slice pg lg cg] 73) := ⟨_, rfl⟩
  have hB0 : Below w.heap.size w W0 := by rw [hW0]; exact (Below.refl _ w).alloc (Nat.le_refl _) _
  have m0 : W0.cell? ⟨w.heap.size, 0, none⟩ = some (.slice pb lb cb) := by rw [hW0]; go_simp
  have m1 : W0.cell? ⟨w.heap.size, 1, none⟩ = some (.slice pg lg cg) := by rw [hW0]; go_simp
  have D := Lib.hid (pdecls_any ((h.below hB0).model hc) hf)
  have C := Lib.hid (fun (v : Value) (u : World) (hs : Slc rDecl 2 u v (varsL m.blocks)) => hasD_any 75 enters64 #[] domD hs (by have := hf.few; omega) fun u x s v1 _ hm hx => dom1_any u x s v1 hx (hf.decl x hm).2)
  rw [hR2] at C
  have HW := Lib.hid hW0
  have HB0 := Lib.hid hB0
  clear hR h hf hW0 hB0 hc hR2
  go_enter Tryz.func55, Tryz.ntmps55
  go_upto_region 1 with fail
  rw [← HW.out]
  go_wp2_with fail
  refine D.out.mono ?_
  rintro e w1 ⟨v, rfl, hown, hB1⟩
  have CC := Lib.hid (C.out v w1 (hown.slc rDecl_stays hB1))
  have HB1 := Lib.hid (HB0.out.trans (hB1.mono HB0.out.size))
  clear hown hB1
  go_wp2_with fail
  refine CC.out.mono ?_
  rintro e w2 ⟨rfl, hB2⟩
  have HB2 := Lib.hid (HB1.out.trans (hB2.mono HB1.out.size))
  clear hB2
  go_wp2_with fail
  go_ret
  exact ⟨rfl, HB2.out⟩
end Go.Proofs.YtfkakdpppejehaaGreat
