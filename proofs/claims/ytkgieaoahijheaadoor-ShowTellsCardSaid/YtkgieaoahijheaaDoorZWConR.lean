/-
  Constraints, of the document's answers for texts of models.
-/
import Derived.Test.YtkgieaoahijheaaDoorZWSum
import Derived.Deep.RegionHeld3
import Derived.Deep.RegionLaw
namespace Go.Proofs.YtkgieaoahijheaaDoor.Wt
open Go.RowKit
open Sc (Tok)
set_option maxRecDepth 100000

section
variable {nm : Int → Tok} {w w' : World} {pv : Option Addr} {bv ov lv cv : Nat} {pc : Option Addr} {bc oc lc cc : Nat} {pn : Option Addr} {bn on_ ln cn : Nat} {vs ks : List Int} {L : List PDecl}
theorem _root_.Go.Proofs.YtkgieaoahijheaaDoor.Nums.below {p : Option Addr} {b off len : Nat} {xs : List Int} (h : Nums w p b off len xs) (hB : Below w.heap.size w w') : Nums w' p b off len xs := ⟨h.long, h.at_, fun k hk => cell_stays hB (h.cell k hk), h.fit⟩
theorem SumArgs.below (h : SumArgs w nm pv bv ov lv cv pc bc oc lc cc pn bn on_ ln cn vs ks L) (hB : Below w.heap.size w w') : SumArgs w' nm pv bv ov lv cv pc bc oc lc cc pn bn on_ ln cn vs ks L :=
  ⟨h.vars.below hB, h.coefs.below hB, h.names.below rDecl_stays hB, h.same, h.few, h.low, h.nm_, h.name, h.num⟩
theorem digs_short {k : Int} (h : k.natAbs ≤ 1000000000000000000) : (digs k.natAbs).length ≤ 19 := digs_long _ 18 (by omega)
theorem numT_long {z : Int} (h : z.natAbs ≤ 1000000000000000000) : (spT (numT z)).length ≤ 22 := by
  have := digs_short h
  unfold numT
  split <;> simp [spT, tM, tN, Pa.tMinus] <;> omega
theorem term_long {f : Bool} {v k : Int} (h1 : (nm v).text.length ≤ 1000) (h2 : k.natAbs ≤ 1000000000000000000) : (spT (signT f k ++ (coefT k ++ [nm v]))).length ≤ 2000 := by
  have := digs_short h2
  unfold signT coefT
  split <;> (try split) <;> (try split) <;> simp [spT, tM, tN, Pa.tMinus, Pa.tPlus, Pa.tStar] <;> omega
theorem sum_long : ∀ (l : List (Int × Int)) (f : Bool), (∀ x ∈ l, (nm x.1).text.length ≤ 1000 ∧ x.2.natAbs ≤ 1000000000000000000) → (spT (sumT nm f l)).length ≤ 2000 * l.length
  | [], _, _ => by simp [sumT, spT]
  | (v, k) :: l, f, h => by
    have h1 := term_long (f := f) (h (v, k) (by simp)).1 (h (v, k) (by simp)).2
    have h2 := sum_long l false (fun x hx => h x (by simp [hx]))
    have e : sumT nm f ((v, k) :: l) = (signT f k ++ (coefT k ++ [nm v])) ++ sumT nm false l := by simp [sumT]
    simp only at h1
    rw [e, sp_app, List.length_append, List.length_cons]
    omega
theorem SumArgs.long (h : SumArgs w nm pv bv ov lv cv pc bc oc lc cc pn bn on_ ln cn vs ks L) : (spT (sumT nm true (vs.zip ks))).length ≤ 2000000 := by
  have h1 := sum_long (nm := nm) (vs.zip ks) true (fun x hx => by
    have hv := (List.of_mem_zip hx).1
    have hc := (List.of_mem_zip hx).2
    refine ⟨?_, h.num _ hc⟩
    rw [h.nm_ _ hv]
    have hl := h.low _ hv
    rw [List.getD_eq_getElem?_getD, List.getElem?_eq_getElem hl.2]
    exact h.name _ (List.getElem_mem hl.2))
  have h2 := h.few
  have h3 : (vs.zip ks).length ≤ vs.length := by rw [List.length_zip]; omega
  omega
theorem below_two {w w' w'' : World} (h : Below w.heap.size w w') (k : Below w'.heap.size w' w'') : Below w.heap.size w w'' := h.trans (k.mono h.size)
theorem held3 {W0 u u' : World} {p0 p1 p2 : Addr} {a0 a1 a2 : Value} (h : u.cell? p0 = some a0 ∧ u.cell? p1 = some a1 ∧ u.cell? p2 = some a2 ∧ Below W0.heap.size W0 u) (hb : Below u.heap.size u u') :
    u'.cell? p0 = some a0 ∧ u'.cell? p1 = some a1 ∧ u'.cell? p2 = some a2 ∧ Below W0.heap.size W0 u' :=
  ⟨cell_stays hb h.1, cell_stays hb h.2.1, cell_stays hb h.2.2.1, below_two h.2.2.2 hb⟩
theorem held3b {W0 u : World} {p0 p1 p2 : Addr} {a0 a1 a2 : Value} (h : u.cell? p0 = some a0 ∧ u.cell? p1 = some a1 ∧ u.cell? p2 = some a2 ∧ Below W0.heap.size W0 u) : Below W0.heap.size W0 u := h.2.2.2
/-- a constraint's variable, and the texts of rels, as a call of Con makes them -/
def conW (w : World) (k : Int) (v1 v2 : Value) (r c : Int) (v3 : Value) : World := (w.alloc (.cells #[.int .i64 k, v1, v2, .int .i64 r, .int .i64 c, v3] 28)).alloc (.cells #[.string ⟨#[32, 61]⟩, .string ⟨#[32, 33, 61]⟩, .string ⟨#[32, 60]⟩, .string ⟨#[32, 60, 61]⟩, .string ⟨#[32, 62]⟩, .string ⟨#[32, 62, 61]⟩] 9)
structure ConW (w W : World) (k : Int) (v1 v2 : Value) (r c : Int) (v3 : Value) : Prop where
  low : Below w.heap.size w W
  box : W.heap[w.heap.size]? = some (.cells #[.int .i64 k, v1, v2, .int .i64 r, .int .i64 c, v3] 28)
  rels : W.heap[w.heap.size + 1]? = some (.cells #[.string ⟨#[32, 61]⟩, .string ⟨#[32, 33, 61]⟩, .string ⟨#[32, 60]⟩, .string ⟨#[32, 60, 61]⟩, .string ⟨#[32, 62]⟩, .string ⟨#[32, 62, 61]⟩] 9)
theorem conW_is (w : World) (k : Int) (v1 v2 : Value) (r c : Int) (v3 : Value) : ConW w (conW w k v1 v2 r c v3) k v1 v2 r c v3 := by
  have k1 := (Below.refl _ w).alloc (Nat.le_refl _) (.cells #[.int .i64 k, v1, v2, .int .i64 r, .int .i64 c, v3] 28)
  have n1 := heap_alloc_new w (.cells #[.int .i64 k, v1, v2, .int .i64 r, .int .i64 c, v3] 28)
  obtain ⟨W1, h1⟩ : ∃ W1, W1 = w.alloc (.cells #[.int .i64 k, v1, v2, .int .i64 r, .int .i64 c, v3] 28) := ⟨_, rfl⟩
  have s1 : W1.heap.size = w.heap.size + 1 := by rw [h1]; simp
  have n2 := heap_alloc_new W1 (.cells #[.string ⟨#[32, 61]⟩, .string ⟨#[32, 33, 61]⟩, .string ⟨#[32, 60]⟩, .string ⟨#[32, 60, 61]⟩, .string ⟨#[32, 62]⟩, .string ⟨#[32, 62, 61]⟩] 9)
  have k2 := (Below.refl _ W1).alloc (Nat.le_refl _) (.cells #[.string ⟨#[32, 61]⟩, .string ⟨#[32, 33, 61]⟩, .string ⟨#[32, 60]⟩, .string ⟨#[32, 60, 61]⟩, .string ⟨#[32, 62]⟩, .string ⟨#[32, 62, 61]⟩] 9)
  unfold conW
  rw [← h1] at k1 n1 ⊢
  rw [s1] at n2
  exact ⟨k1.trans (k2.mono k1.size), (k2.block _ (by omega)).trans n1, n2⟩
theorem ConW.on {W W' : World} {k : Int} {v1 v2 : Value} {r c : Int} {v3 : Value} (h : ConW w W k v1 v2 r c v3) (hB : Below W.heap.size W W') : ConW w W' k v1 v2 r c v3 :=
  ⟨h.low.trans (hB.mono h.low.size), (hB.block _ (Array.getElem?_eq_some_iff.1 h.box).1).trans h.box, (hB.block _ (Array.getElem?_eq_some_iff.1 h.rels).1).trans h.rels⟩
theorem ConW.cell {W : World} {k : Int} {v1 v2 : Value} {r c : Int} {v3 : Value} (h : ConW w W k v1 v2 r c v3) : W.cell? ⟨w.heap.size, 0, none⟩ = some (.int .i64 k) ∧ W.cell? ⟨w.heap.size, 1, none⟩ = some v1 ∧ W.cell? ⟨w.heap.size, 2, none⟩ = some v2 ∧ W.cell? ⟨w.heap.size, 3, none⟩ = some (.int .i64 r) ∧ W.cell? ⟨w.heap.size, 4, none⟩ = some (.int .i64 c) ∧ W.cell? ⟨w.heap.size, 5, none⟩ = some v3 :=
  ⟨cell_of_row W _ 0 _ 28 (0, 0) h.box, cell_of_row W _ 1 _ 28 (0, 0) h.box, cell_of_row W _ 2 _ 28 (0, 0) h.box, cell_of_row W _ 3 _ 28 (0, 0) h.box, cell_of_row W _ 4 _ 28 (0, 0) h.box, cell_of_row W _ 5 _ 28 (0, 0) h.box⟩
/-- the text of a rel -/
theorem ConW.rel {W : World} {k : Int} {v1 v2 : Value} {c : Int} {v3 : Value} {r : Nat} (h : ConW w W k v1 v2 (r : Int) c v3) (hr : r ≤ 5) : W.cell? ⟨w.heap.size + 1, r, none⟩ = some (.string ⟨(spT [relT (r : Int)]).toArray⟩) ∧ (spT [relT (r : Int)]).length ≤ 3 := by
  have e := cell_of_row W (w.heap.size + 1) r _ 9 (0, 0) h.rels
  rw [e]
  match r, hr with
  | 0, _ => exact ⟨rfl, by decide⟩
  | 1, _ => exact ⟨rfl, by decide⟩
  | 2, _ => exact ⟨rfl, by decide⟩
  | 3, _ => exact ⟨rfl, by decide⟩
  | 4, _ => exact ⟨rfl, by decide⟩
  | 5, _ => exact ⟨rfl, by decide⟩
set_option maxHeartbeats 8000000 in
theorem con_lin (h : SumArgs w nm pv bv ov lv cv pc bc oc lc cc pn bn on_ ln cn vs ks L) {r : Nat} {const : Int} (hr : r ≤ 5) (hc : const.natAbs ≤ 1000000000000000000) (v3 : Value) :
    Calls Tryd.prog 12 #[.agg #[.int .i64 1, .slice pv lv cv, .slice pc lc cc, .int .i64 (r : Int), .int .i64 const, v3], .slice pn ln cn] w fun e w' => e = .returned (.string ⟨(spT (sumsT nm (vs.zip ks) (r : Int) const)).toArray⟩) ∧ Below w.heap.size w w' := by
  have HW := Lib.hid (conW_is w 1 (.slice pv lv cv) (.slice pc lc cc) (r : Int) const v3)
  obtain ⟨W, hW⟩ : ∃ W, W = conW w 1 (.slice pv lv cv) (.slice pc lc cc) (r : Int) const v3 := ⟨_, rfl⟩
  rw [← hW] at HW
  obtain ⟨x0, x1, x2, x3, x4, x5⟩ := HW.out.cell
  obtain ⟨y0, y1⟩ := HW.out.rel hr
  have SX := Lib.hid (fun U (hb : Below W.heap.size W U) => sum_any ((h.below HW.out.low).below hb))
  have NX := Lib.hid (fun U => number_any const U (by omega))
  have hsl := h.long
  have hnl := numT_long hc
  have hfin : spT (sumsT nm (vs.zip ks) (r : Int) const) = (spT (sumT nm true (vs.zip ks)) ++ spT [relT (r : Int)]) ++ spT (numT const) := by unfold sumsT; rw [sp_app, sp_app, List.append_assoc]
  rw [hfin]
  obtain ⟨A, hA⟩ : ∃ A, A = spT (sumT nm true (vs.zip ks)) := ⟨_, rfl⟩
  obtain ⟨B, hBq⟩ : ∃ B, B = spT [relT (r : Int)] := ⟨_, rfl⟩
  obtain ⟨N, hN⟩ : ∃ N, N = spT (numT const) := ⟨_, rfl⟩
  rw [← hA, ← hBq, ← hN]
  rw [← hA] at SX hsl
  rw [← hBq] at y0 y1
  rw [← hN] at NX hnl
  have c1 := cat_str A B (by omega)
  have c2 := cat_str (A ++ B) N (by rw [List.length_append]; omega)
  have hr1 : ((r : Nat) : Int) < 6 := by omega
  have hr2 : (0 : Int) ≤ ((r : Nat) : Int) := by omega
  have HWW := Lib.hid hW
  obtain ⟨AB, hAB⟩ : ∃ AB, AB = A ++ B := ⟨_, rfl⟩
  rw [← hAB] at c1 c2 ⊢
  clear hA hBq hN hfin h hW hAB hsl hnl y1 hr
  go_enter Tryd.func12, Tryd.ntmps12
  go_upto_region 2 with (simp only [show ((w.alloc (.cells #[.int .i64 1, .slice pv lv cv, .slice pc lc cc, .int .i64 (r : Int), .int .i64 const, v3] 28)).alloc (.cells #[.string ⟨#[32, 61]⟩, .string ⟨#[32, 33, 61]⟩, .string ⟨#[32, 60]⟩, .string ⟨#[32, 60, 61]⟩, .string ⟨#[32, 62]⟩, .string ⟨#[32, 62, 61]⟩] 9)) = W from HWW.out.symm])
  have H0 := Lib.hid (And.intro x1 (And.intro x2 (And.intro x4 (Below.refl W.heap.size W))))
  have HLOW := Lib.hid HW.out.low
  clear x1 x2 x3 x4 x5 y0 HW HWW
  go_upto_region 3 with fail
  go_region_held3 (fun w' => w'.cell? ⟨w.heap.size, 1, none⟩ = some (.slice pv lv cv) ∧ w'.cell? ⟨w.heap.size, 2, none⟩ = some (.slice pc lc cc) ∧ w'.cell? ⟨w.heap.size, 4, none⟩ = some (.int .i64 const) ∧ Below W.heap.size W w')
    (first | exact held3 (by assumption) (by assumption) | exact held3 H0.out (below_drewN (n := 1) (Below.refl _ _)))
    (first
      | (go_at_call 29; refine (SX.out _ (held3b (by assumption))).mono ?_; rintro e w3 ⟨rfl, hB⟩)
      | (go_at_call 21; refine (NX.out _).mono ?_; rintro e w4 ⟨rfl, hB⟩))
  all_goals
    have hb := held3b (by assumption)
    have HH := Lib.hid (HLOW.out.trans (hb.mono HLOW.out.size))
    clear hb
    go_wp2_with fail
    go_ret
    exact ⟨rfl, HH.out⟩
theorem slice_one (b o l m : Nat) (h : l ≤ m) (h0 : 0 < l) (W : World) : (Instr.slice 26 (.slice (some ⟨b, o, none⟩) (l + 1) (m + 1)) (some (.int .i64 1)) none none).run Tryd.prog W = .ok (.slice (some ⟨b, o + 1, none⟩) l m) W := by
  have hc : m + 1 ≠ 1 := by omega
  have g1 : (1 : Int) ≤ ((l + 1 : Nat) : Int) := by omega
  rw [run_slice_l W 26 (some ⟨b, o, none⟩) (l + 1) (m + 1) Tryd.underlying26 .i64 1 (by decide) g1]
  simp only [Result.andThen]
  go_simp
  all_goals omega
theorem held5 {W0 u u' : World} {p0 p1 p2 p3 p4 : Addr} {a0 a1 a2 a3 a4 : Value} (h : u.cell? p0 = some a0 ∧ u.cell? p1 = some a1 ∧ u.cell? p2 = some a2 ∧ u.cell? p3 = some a3 ∧ u.cell? p4 = some a4 ∧ Below W0.heap.size W0 u) (hb : Below u.heap.size u u') :
    u'.cell? p0 = some a0 ∧ u'.cell? p1 = some a1 ∧ u'.cell? p2 = some a2 ∧ u'.cell? p3 = some a3 ∧ u'.cell? p4 = some a4 ∧ Below W0.heap.size W0 u' :=
  ⟨cell_stays hb h.1, cell_stays hb h.2.1, cell_stays hb h.2.2.1, cell_stays hb h.2.2.2.1, cell_stays hb h.2.2.2.2.1, below_two h.2.2.2.2.2 hb⟩
theorem held5b {W0 u : World} {p0 p1 p2 p3 p4 : Addr} {a0 a1 a2 a3 a4 : Value} (h : u.cell? p0 = some a0 ∧ u.cell? p1 = some a1 ∧ u.cell? p2 = some a2 ∧ u.cell? p3 = some a3 ∧ u.cell? p4 = some a4 ∧ Below W0.heap.size W0 u) : Below W0.heap.size W0 u := h.2.2.2.2.2
set_option maxHeartbeats 8000000 in
theorem con_iff {bz oz l m : Nat} {x : Int} (hz : w.cell? ⟨bz, oz, none⟩ = some (.int .i64 x)) (hx : 0 ≤ x ∧ x.toNat < L.length) (hxn : (nm x).text = (L.getD x.toNat ⟨[], []⟩).name) (h : SumArgs w nm (some ⟨bz, oz + 1, none⟩) bz (oz + 1) l m pc bc oc l cc pn bn on_ ln cn vs ks L) (hl : 0 < l) (hlm : l ≤ m) {r : Nat} {const : Int} (hr : r ≤ 5) (hc : const.natAbs ≤ 1000000000000000000) (v3 : Value) :
    Calls Tryd.prog 12 #[.agg #[.int .i64 3, .slice (some ⟨bz, oz, none⟩) (l + 1) (m + 1), .slice pc l cc, .int .i64 (r : Int), .int .i64 const, v3], .slice pn ln cn] w fun e w' => e = .returned (.string ⟨(spT (tW Pa.tIff :: nm x :: sumsT nm (vs.zip ks) (r : Int) const)).toArray⟩) ∧ Below w.heap.size w w' := by
  have HW := Lib.hid (conW_is w 3 (.slice (some ⟨bz, oz, none⟩) (l + 1) (m + 1)) (.slice pc l cc) (r : Int) const v3)
  obtain ⟨W, hW⟩ : ∃ W, W = conW w 3 (.slice (some ⟨bz, oz, none⟩) (l + 1) (m + 1)) (.slice pc l cc) (r : Int) const v3 := ⟨_, rfl⟩
  rw [← hW] at HW
  obtain ⟨x0, x1, x2, x3, x4, x5⟩ := HW.out.cell
  obtain ⟨y0, y1⟩ := HW.out.rel hr
  have SX := Lib.hid (fun U (hb : Below W.heap.size W U) => sum_any ((h.below HW.out.low).below hb))
  have NX := Lib.hid (fun U => number_any const U (by omega))
  obtain ⟨d, s, xx, e1, e2, e3, e4, e5⟩ := decl_at h.names (k := x.toNat) (by rw [h.names.long]; exact hx.2)
  have hdn := h.name d (List.mem_of_getElem? e1)
  have hxt : (nm x).text = d.name := by rw [hxn, List.getD_eq_getElem?_getD, e1]; rfl
  have hs : s = ⟨d.name.toArray⟩ := by rw [← e4]
  rw [hs] at e2
  have hln := h.names.long
  obtain rfl := h.names.at_ (by omega)
  obtain ⟨xi, rfl⟩ : ∃ xi : Nat, x = (xi : Int) := ⟨x.toNat, by omega⟩
  rw [Int.toNat_natCast] at e2 hx
  have hxl : xi < ln := by omega
  have v0 := cell_stays HW.out.low hz
  have n0 := cell_stays HW.out.low e2
  have hsl := h.long
  have hnl := numT_long hc
  have hfin : spT (tW Pa.tIff :: nm (xi : Int) :: sumsT nm (vs.zip ks) (r : Int) const) = ((([32, 105, 102, 102, 32] ++ d.name) ++ spT (sumT nm true (vs.zip ks))) ++ spT [relT (r : Int)]) ++ spT (numT const) := by
    unfold sumsT
    rw [← hxt]
    simp [spT, tW, Pa.tIff]
  rw [hfin]
  obtain ⟨A, hA⟩ : ∃ A, A = spT (sumT nm true (vs.zip ks)) := ⟨_, rfl⟩
  obtain ⟨B, hBq⟩ : ∃ B, B = spT [relT (r : Int)] := ⟨_, rfl⟩
  obtain ⟨N, hN⟩ : ∃ N, N = spT (numT const) := ⟨_, rfl⟩
  rw [← hA, ← hBq, ← hN]
  rw [← hA] at SX hsl
  rw [← hBq] at y0 y1
  rw [← hN] at NX hnl
  have c0 := cat_str [32, 105, 102, 102, 32] d.name (by simp; omega)
  obtain ⟨E, hE⟩ : ∃ E, E = [32, 105, 102, 102, 32] ++ d.name := ⟨_, rfl⟩
  have hEl : E.length ≤ 1005 := by rw [hE]; simp; omega
  rw [← hE] at c0 ⊢
  have c1 := cat_str E A (by omega)
  obtain ⟨EA, hEA⟩ : ∃ EA, EA = E ++ A := ⟨_, rfl⟩
  have hEAl : EA.length ≤ 2001005 := by rw [hEA, List.length_append]; omega
  rw [← hEA] at c1 ⊢
  have c2 := cat_str EA B (by omega)
  obtain ⟨EB, hEB⟩ : ∃ EB, EB = EA ++ B := ⟨_, rfl⟩
  have hEBl : EB.length ≤ 2001008 := by rw [hEB, List.length_append]; omega
  rw [← hEB] at c2 ⊢
  have c3 := cat_str EB N (by omega)
  have hr1 : ((r : Nat) : Int) < 6 := by omega
  have hr2 : (0 : Int) ≤ ((r : Nat) : Int) := by omega
  have HWW := Lib.hid hW
  have H0 := Lib.hid (And.intro x1 (And.intro x2 (And.intro x4 (And.intro v0 (And.intro n0 (Below.refl W.heap.size W))))))
  have HLOW := Lib.hid HW.out.low
  have hslc := fun W => slice_one bz oz l m hlm hl W
  clear hA hBq hN hfin h hW hE hEl hEA hEAl hEB hEBl hsl hnl y1 hr e1 e2 e3 e4 e5 hs hxt hxn hdn hln hz HW
  go_enter Tryd.func12, Tryd.ntmps12
  go_upto_region 2 with (simp only [show ((w.alloc (.cells #[.int .i64 3, .slice (some ⟨bz, oz, none⟩) (l + 1) (m + 1), .slice pc l cc, .int .i64 (r : Int), .int .i64 const, v3] 28)).alloc (.cells #[.string ⟨#[32, 61]⟩, .string ⟨#[32, 33, 61]⟩, .string ⟨#[32, 60]⟩, .string ⟨#[32, 60, 61]⟩, .string ⟨#[32, 62]⟩, .string ⟨#[32, 62, 61]⟩] 9)) = W from HWW.out.symm])
  clear x1 x2 x3 x4 x5 y0 HWW
  go_upto_region 5 with fail
  clear x0
  go_region_held3 (fun w' => w'.cell? ⟨w.heap.size, 1, none⟩ = some (.slice (some ⟨bz, oz, none⟩) (l + 1) (m + 1)) ∧ w'.cell? ⟨w.heap.size, 2, none⟩ = some (.slice pc l cc) ∧ w'.cell? ⟨w.heap.size, 4, none⟩ = some (.int .i64 const) ∧ w'.cell? ⟨bz, oz, none⟩ = some (.int .i64 (xi : Int)) ∧ w'.cell? ⟨bn, on_ + xi * 2, none⟩ = some (.string ⟨d.name.toArray⟩) ∧ Below W.heap.size W w')
    (first | exact held5 (by assumption) (by assumption) | exact held5 H0.out (below_drewN (n := 1) (Below.refl _ _)))
    (first
      | (go_at_call 29; refine (SX.out _ (held5b (by assumption))).mono ?_; rintro e w3 ⟨rfl, hB⟩)
      | (go_at_call 21; refine (NX.out _).mono ?_; rintro e w4 ⟨rfl, hB⟩))
  all_goals
    have hb := held5b (by assumption)
    have HH := Lib.hid (HLOW.out.trans (hb.mono HLOW.out.size))
    clear hb
    go_wp2_with fail
    go_ret
    exact ⟨rfl, HH.out⟩
end
end Go.Proofs.YtkgieaoahijheaaDoor.Wt
