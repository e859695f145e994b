/-
  What a constraint takes in, way by way; a row that a constraint is given.
  A constraint that the program's parser takes (product).
  A constraint that the program's parser takes (iff).
  A constraint that the program's parser takes (element).
  A constraint that the program's parser takes (different).
  A constraint that the program's parser takes (table).
  A constraint that the program's parser takes (sum).
  A constraint that the program's parser takes: all ways.
-/
import Derived.Test.YtfkakdpppejehaaZHB
namespace Go.Proofs.Ytfkakdpppejehaa.Pp
open Go.RowKit
open Sc (Tok Cells str noTok)
open Pa
set_option maxRecDepth 100000

section
variable {w0 w w' : World} {F : Nat → Prop} {g n bl ol cl nb : Nat} {pv : Option Addr} {m cv : Nat} {T : List Tok} {len : Nat} {B base lo : Nat} {c : PCon} {r : Rd} {u1 u2 u3 v : Value} {L : List Int}
theorem took_no (s : ByteArray) (hs : txt s ≠ []) (hne : textO (next T r) ≠ txt s) (h : PAt w g n bl ol cl nb pv m cv T len r) :
    Calls Try.prog 39 #[.pointer (some ⟨g, 0, none⟩), .string s] w fun e w' => e = .returned (.bool false) ∧ PAt w' g n bl ol cl nb pv m cv T len r ∧ But (fun i => i = g) w w' :=
  (took_any s hs h).mono fun e w' ⟨he, hP, hM⟩ => by
    have e0 : hasF (txt s) r (next T r) = (false, r) := by unfold hasF; rw [if_neg hne]
    rw [e0] at he hP
    exact ⟨he, hP, mbut hM⟩
theorem took_yes (s : ByteArray) (hs : txt s ≠ []) (heq : textO (next T r) = txt s) (h : PAt w g n bl ol cl nb pv m cv T len r) :
    Calls Try.prog 39 #[.pointer (some ⟨g, 0, none⟩), .string s] w fun e w' => e = .returned (.bool true) ∧ PAt w' g n bl ol cl nb pv m cv T len (step1 r) ∧ But (fun i => i = g) w w' :=
  (took_any s hs h).mono fun e w' ⟨he, hP, hM⟩ => by
    have e0 : hasF (txt s) r (next T r) = (true, step1 r) := by unfold hasF; rw [if_pos heq]
    rw [e0] at he hP
    exact ⟨he, hP, mbut hM⟩
theorem has_yes {α : Type} {s : Txt} {A B : Rx α} {T : List Tok} {r : Rd} (h : textO (next T r) = s) : (seq (Pa.look (hasF s)) fun b => if b = true then A else B) T r = A T (step1 r) := by
  show (if (hasF s r (next T r)).1 = true then A else B) T (hasF s r (next T r)).2 = _
  unfold hasF
  rw [if_pos h]
  rfl
theorem has_no {α : Type} {s : Txt} {A B : Rx α} {T : List Tok} {r : Rd} (h : textO (next T r) ≠ s) : (seq (Pa.look (hasF s)) fun b => if b = true then A else B) T r = B T r := by
  show (if (hasF s r (next T r)).1 = true then A else B) T (hasF s r (next T r)).2 = _
  unfold hasF
  rw [if_neg h]
  rfl
theorem conQ1 {K : Nat} (h : textO (next T r) = tProduct) : conQ K T r = (seq (varsQ 3 []) fun l => ret { conOf 2 with vars := l }) T (step1 r) := has_yes h
theorem conQ2 {K : Nat} (h : textO (next T r) = tIff) : conQ K T r = (seq (varsQ 1 []) fun l => sumQ K { conOf 3 with vars := l }) T (step1 r) := by
  unfold conQ
  rw [has_no (by rw [h]; decide)]
  exact has_yes h
theorem conQ3 {K : Nat} (h : textO (next T r) = tElement) : conQ K T r = (seq (varsQ 2 []) fun l => tableQ K 1 { conOf 4 with vars := l }) T (step1 r) := by
  unfold conQ
  rw [has_no (by rw [h]; decide), has_no (by rw [h]; decide)]
  exact has_yes h
theorem conQ4 {K : Nat} (h : textO (next T r) = tDifferent) : conQ K T r = (seq (fromQ K 2) fun l => ret { conOf 5 with vars := l }) T (step1 r) := by
  unfold conQ
  rw [has_no (by rw [h]; decide), has_no (by rw [h]; decide), has_no (by rw [h]; decide)]
  exact has_yes h
theorem conQ5 {K : Nat} (h : textO (next T r) = tTable) : conQ K T r = (seq (fromQ K 1) fun l => tableQ K 0 { conOf 6 with vars := l }) T (step1 r) := by
  unfold conQ
  rw [has_no (by rw [h]; decide), has_no (by rw [h]; decide), has_no (by rw [h]; decide), has_no (by rw [h]; decide)]
  exact has_yes h
theorem conQ6 {K : Nat} (h1 : textO (next T r) ≠ tProduct) (h2 : textO (next T r) ≠ tIff) (h3 : textO (next T r) ≠ tElement) (h4 : textO (next T r) ≠ tDifferent) (h5 : textO (next T r) ≠ tTable) : conQ K T r = sumQ K (conOf 1) T r := by
  unfold conQ
  rw [has_no h1, has_no h2, has_no h3, has_no h4, has_no h5]
/-- the constraint's names are given -/
theorem KAt.giveVars (h : KAt w0 w F g n bl ol cl nb pv m cv T len B base c r u1 (.slice none 0 0) (.slice none 0 0)) (ho : OwnsP numP 1 3 lo w v L) (hlo : base ≤ lo) (h0 : w0.heap.size ≤ lo) : KAt w0 (w.setCell ⟨B, 1, none⟩ v) F g n bl ol cl nb pv m cv T len B base { c with vars := L } r v (.slice none 0 0) (.slice none 0 0) := by
  have hown : Own3 w base { c with vars := L } v (.slice none 0 0) (.slice none 0 0) := ⟨ho.low hlo, h.own.o2, h.own.o3, fun k _ e => by simp [Value.ownBlock] at e, fun k _ e => by simp [Value.ownBlock] at e, fun k e => by simp [Value.ownBlock] at e⟩
  exact ⟨h.store.1, hown.set h.box.kind, h.box.set1 v, h.store.2.2.1, h.fg, h.fb, fun k e => .inr (Nat.le_trans h0 (ho.lt k e).1), h.f2, h.f3, h.store.2.2.2⟩
/-- its numbers are -/
theorem KAt.giveNums (h : KAt w0 w F g n bl ol cl nb pv m cv T len B base c r u1 (.slice none 0 0) (.slice none 0 0)) (ho : OwnsP numP 1 3 lo w v L) (h1 : ∀ k, u1.ownBlock = some k → k < lo) (hlo : base ≤ lo) (h0 : w0.heap.size ≤ lo) : KAt w0 (w.setCell ⟨B, 5, none⟩ v) F g n bl ol cl nb pv m cv T len B base { c with nums := L } r u1 (.slice none 0 0) v := by
  have hown : Own3 w base { c with nums := L } u1 (.slice none 0 0) v := ⟨h.own.o1, h.own.o2, ho.low hlo, fun k _ e => by simp [Value.ownBlock] at e, fun k e e' => by have := h1 k e; have := (ho.lt k e').1; omega, fun k e => by simp [Value.ownBlock] at e⟩
  exact ⟨h.store.1, hown.set h.box.kind, h.box.set5 v, h.store.2.2.1, h.fg, h.fb, h.f1, h.f2, fun k e => .inr (Nat.le_trans h0 (ho.lt k e).1), h.store.2.2.2⟩
/-- a constraint is handed back -/
def ConE (w : World) (c : PCon) (w' : World) (e : Ending) : Prop := ∃ u1 u2 u3 : Value, e = .returned (.agg #[.int .i64 c.kind, u1, u2, .int .i64 c.rel, .int .i64 c.const, u3]) ∧ Own3 w' w.heap.size c u1 u2 u3
/-- a constraint in a variable of its own, and the variable of what is handed back -/
structure CAt (w0 w : World) (g n bl ol cl nb : Nat) (pv : Option Addr) (m cv : Nat) (T : List Tok) (len : Nat) (c : PCon) (r : Rd) (u1 u2 u3 : Value) : Prop where
  k : KAt w0 w (fun i => i = g) g n bl ol cl nb pv m cv T len (w0.heap.size + 1) (w0.heap.size + 2) c r u1 u2 u3
  res : Box6 w w0.heap.size 0 (.slice none 0 0) (.slice none 0 0) 0 0 (.slice none 0 0)
theorem CAt.moved {r' : Rd} (h : CAt w0 w g n bl ol cl nb pv m cv T len c r u1 u2 u3) (hR : PAt w' g n bl ol cl nb pv m cv T len r') (hM : But (fun i => i = g) w w') : CAt w0 w' g n bl ol cl nb pv m cv T len c r' u1 u2 u3 := ⟨h.k.moved hR hM, box6_but h.res hM h.k.rd.ty⟩
theorem res_set {j : Nat} {x : Value} (h : Box6 w w0.heap.size 0 (.slice none 0 0) (.slice none 0 0) 0 0 (.slice none 0 0)) : Box6 (w.setCell ⟨w0.heap.size + 1, j, none⟩ x) w0.heap.size 0 (.slice none 0 0) (.slice none 0 0) 0 0 (.slice none 0 0) :=
  h.same (Below.heap_setCell w ⟨w0.heap.size + 1, j, none⟩ x _ (by simp))
theorem CAt.setKind {k : Int} (h : CAt w0 w g n bl ol cl nb pv m cv T len c r u1 u2 u3) : CAt w0 (w.setCell ⟨w0.heap.size + 1, 0, none⟩ (.int .i64 k)) g n bl ol cl nb pv m cv T len { c with kind := k } r u1 u2 u3 := ⟨h.k.setKind, res_set h.res⟩
theorem CAt.giveVars (h : CAt w0 w g n bl ol cl nb pv m cv T len c r u1 (.slice none 0 0) (.slice none 0 0)) (ho : OwnsP numP 1 3 lo w v L) (hlo : w0.heap.size + 2 ≤ lo) : CAt w0 (w.setCell ⟨w0.heap.size + 1, 1, none⟩ v) g n bl ol cl nb pv m cv T len { c with vars := L } r v (.slice none 0 0) (.slice none 0 0) :=
  ⟨h.k.giveVars ho hlo (by omega), res_set h.res⟩
theorem CAt.giveNums (h : CAt w0 w g n bl ol cl nb pv m cv T len c r u1 (.slice none 0 0) (.slice none 0 0)) (ho : OwnsP numP 1 3 lo w v L) (h1 : ∀ k, u1.ownBlock = some k → k < lo) (hlo : w0.heap.size + 2 ≤ lo) : CAt w0 (w.setCell ⟨w0.heap.size + 1, 5, none⟩ v) g n bl ol cl nb pv m cv T len { c with nums := L } r u1 (.slice none 0 0) v :=
  ⟨h.k.giveNums ho h1 hlo (by omega), res_set h.res⟩
theorem CAt.tight (h : CAt w0 w g n bl ol cl nb pv m cv T len c r u1 u2 u3) : KAt w w (fun k => k = g ∨ k = w0.heap.size + 1 ∨ w0.heap.size + 2 ≤ k) g n bl ol cl nb pv m cv T len (w0.heap.size + 1) (w0.heap.size + 2) c r u1 u2 u3 :=
  ⟨h.k.rd, h.k.own, h.k.box, But.refl _ _, .inl rfl, .inl (.inr (.inl rfl)), fun k e => .inl (.inr (.inr (h.k.own.o1.lt k e).1)), fun k e => .inl (.inr (.inr (h.k.own.o2.lt k e).1)), fun k e => .inl (.inr (.inr (h.k.own.o3.lt k e).1)), h.k.low⟩
theorem tight_but (h : But (fun i => i = g) w0 w) (hB : But (fun k => k = g ∨ k = w0.heap.size + 1 ∨ w0.heap.size + 2 ≤ k) w w') : But (fun i => i = g) w0 w' := h.trans hB (fun i hi e => e.resolve_right (by omega))
theorem CAt.back {c' : PCon} {r' : Rd} {y1 y2 : Value} (h : CAt w0 w g n bl ol cl nb pv m cv T len c r u1 u2 u3) (hk : KAt w w' (fun k => k = g ∨ k = w0.heap.size + 1 ∨ w0.heap.size + 2 ≤ k) g n bl ol cl nb pv m cv T len (w0.heap.size + 1) (w0.heap.size + 2) c' r' y1 y2 u3) : CAt w0 w' g n bl ol cl nb pv m cv T len c' r' y1 y2 u3 := by
  have hg : w0.heap.size ≠ g := fun e => kinds_apart h.res.kind h.k.rd.ty (by decide) e
  refine ⟨⟨hk.rd, hk.own, hk.box, tight_but h.k.but hk.but, rfl, h.k.fb, fun k e => .inr (by have := (hk.own.o1.lt k e).1; omega), fun k e => .inr (by have := (hk.own.o2.lt k e).1; omega), h.k.f3, hk.low⟩, h.res.same (hk.but.block _ h.res.lt (by omega))⟩
theorem CAt.kindVars {k : Int} (h : CAt w0 w g n bl ol cl nb pv m cv T len c r (.slice none 0 0) (.slice none 0 0) (.slice none 0 0)) (ho : OwnsP numP 1 3 lo w v L) (hlo : w0.heap.size + 2 ≤ lo) : CAt w0 ((w.setCell ⟨w0.heap.size + 1, 0, none⟩ (.int .i64 k)).setCell ⟨w0.heap.size + 1, 1, none⟩ v) g n bl ol cl nb pv m cv T len { c with kind := k, vars := L } r v (.slice none 0 0) (.slice none 0 0) :=
  (h.setKind (k := k)).giveVars (OwnsP.set ho h.k.box.kind (by decide)) hlo
/-- what is handed back -/
theorem CAt.ends {x0 x1 x2 x3 x4 x5 : Value} (h : CAt w0 w g n bl ol cl nb pv m cv T len c r u1 u2 u3) : PAt ((((((w.setCell ⟨w0.heap.size, 0, none⟩ x0).setCell ⟨w0.heap.size, 1, none⟩ x1).setCell ⟨w0.heap.size, 2, none⟩ x2).setCell ⟨w0.heap.size, 3, none⟩ x3).setCell ⟨w0.heap.size, 4, none⟩ x4).setCell ⟨w0.heap.size, 5, none⟩ x5) g n bl ol cl nb pv m cv T len r ∧
    Own3 ((((((w.setCell ⟨w0.heap.size, 0, none⟩ x0).setCell ⟨w0.heap.size, 1, none⟩ x1).setCell ⟨w0.heap.size, 2, none⟩ x2).setCell ⟨w0.heap.size, 3, none⟩ x3).setCell ⟨w0.heap.size, 4, none⟩ x4).setCell ⟨w0.heap.size, 5, none⟩ x5) w0.heap.size c u1 u2 u3 ∧
    But (fun i => i = g) w0 ((((((w.setCell ⟨w0.heap.size, 0, none⟩ x0).setCell ⟨w0.heap.size, 1, none⟩ x1).setCell ⟨w0.heap.size, 2, none⟩ x2).setCell ⟨w0.heap.size, 3, none⟩ x3).setCell ⟨w0.heap.size, 4, none⟩ x4).setCell ⟨w0.heap.size, 5, none⟩ x5) := by
  have one : ∀ (W : World) (j : Nat) (x : Value), ((∃ cs, W.heap[w0.heap.size]? = some (.cells cs 50)) ∧ PAt W g n bl ol cl nb pv m cv T len r ∧ Own3 W w0.heap.size c u1 u2 u3 ∧ But (fun i => i = g) w0 W) →
      ((∃ cs, (W.setCell ⟨w0.heap.size, j, none⟩ x).heap[w0.heap.size]? = some (.cells cs 50)) ∧ PAt (W.setCell ⟨w0.heap.size, j, none⟩ x) g n bl ol cl nb pv m cv T len r ∧ Own3 (W.setCell ⟨w0.heap.size, j, none⟩ x) w0.heap.size c u1 u2 u3 ∧ But (fun i => i = g) w0 (W.setCell ⟨w0.heap.size, j, none⟩ x)) := fun W j x ⟨a, b, c', d⟩ =>
    ⟨by
      obtain ⟨cs, e⟩ := a
      refine ⟨cs.setIfInBounds j x, ?_⟩
      simp only [World.setCell, Array.getElem?_modify, e]
      rfl, b.put a (by decide) (by decide) (by decide), c'.set a, d.trans (G := fun i => i = w0.heap.size) (But.set ⟨w0.heap.size, j, none⟩ x fun _ => rfl) (fun i hi (e : i = w0.heap.size) => by omega)⟩
  exact (one _ 5 x5 (one _ 4 x4 (one _ 3 x3 (one _ 2 x2 (one _ 1 x1 (one _ 0 x0 ⟨h.res.kind, h.k.rd, h.k.own.low (by omega), h.k.but⟩)))))).2
theorem cat_new (h : PAt w g n bl ol cl nb pv m cv T len r) : CAt w ((w.alloc (.cells #[.int .i64 0, .slice none 0 0, .slice none 0 0, .int .i64 0, .int .i64 0, .slice none 0 0] 50)).alloc (.cells #[.int .i64 0, .slice none 0 0, .slice none 0 0, .int .i64 0, .int .i64 0, .slice none 0 0] 50)) g n bl ol cl nb pv m cv T len (conOf 0) r (.slice none 0 0) (.slice none 0 0) (.slice none 0 0) := by
  have b1 := (Below.refl _ w).alloc (Nat.le_refl _) (.cells #[.int .i64 0, .slice none 0 0, .slice none 0 0, .int .i64 0, .int .i64 0, .slice none 0 0] 50)
  have b2 := (Below.refl _ (w.alloc (.cells #[.int .i64 0, .slice none 0 0, .slice none 0 0, .int .i64 0, .int .i64 0, .slice none 0 0] 50))).alloc (Nat.le_refl _) (.cells #[.int .i64 0, .slice none 0 0, .slice none 0 0, .int .i64 0, .int .i64 0, .slice none 0 0] 50)
  have x2 := Box6.new (w.alloc (.cells #[.int .i64 0, .slice none 0 0, .slice none 0 0, .int .i64 0, .int .i64 0, .slice none 0 0] 50)) 0 (.slice none 0 0) (.slice none 0 0) 0 0 (.slice none 0 0)
  have x3 : Box6 ((w.alloc (.cells #[.int .i64 0, .slice none 0 0, .slice none 0 0, .int .i64 0, .int .i64 0, .slice none 0 0] 50)).alloc (.cells #[.int .i64 0, .slice none 0 0, .slice none 0 0, .int .i64 0, .int .i64 0, .slice none 0 0] 50)) (w.heap.size + 1) 0 (.slice none 0 0) (.slice none 0 0) 0 0 (.slice none 0 0) := by simpa using x2
  refine ⟨⟨(h.below b1).below b2, own3_nil _ _ _, x3, (But.below b1).trans (G := fun _ => False) (But.below b2) (fun _ _ e => e.elim), rfl, .inr (by omega), fun k e => by simp [Value.ownBlock] at e, fun k e => by simp [Value.ownBlock] at e, fun k e => by simp [Value.ownBlock] at e, by simp⟩, (Box6.new w 0 (.slice none 0 0) (.slice none 0 0) 0 0 (.slice none 0 0)).below b2⟩
end
end Go.Proofs.Ytfkakdpppejehaa.Pp
namespace Go.Proofs.Ytfkakdpppejehaa.Pp
open Go.RowKit
open Sc (Tok Cells str noTok)
open Pa
set_option maxRecDepth 100000

section
variable {w w' : World} {g n bl ol cl nb : Nat} {pv : Option Addr} {m cv : Nat} {T : List Tok} {len : Nat} {r : Rd}
set_option maxHeartbeats 8000000 in
theorem con_product (K : Nat) (h : PAt w g n bl ol cl nb pv m cv T len r) (hv : ∀ t ∈ T, t.value ≤ 2000000000000) (hm : m ≤ 1000000) (hK : n < K) (hn : n ≤ 9000) (ht : textO (next T r) = tProduct) :
    Calls Try.prog 56 #[.pointer (some ⟨g, 0, none⟩)] w (Ends w (fun i => i = g) g n bl ol cl nb pv m cv T len (conQ K T r) (ConE w (conQ K T r).1)) := by
  obtain ⟨X, hX⟩ : ∃ X, X = conQ K T r := ⟨_, rfl⟩
  rw [← hX]
  rw [conQ1 ht] at hX
  have HX := Lib.hid hX
  have HT := Lib.hid ht
  have HC := Lib.hid (cat_new h)
  clear h hX ht
  go_enter Try.func56, Try.ntmps56
  go_wp2_with fail
  refine (took_yes ⟨#[112, 114, 111, 100, 117, 99, 116]⟩ (by decide) HT.out HC.out.k.rd).mono ?_
  rintro e wy ⟨rfl, hP, hB⟩
  have HY := Lib.hid (show CAt w wy g n bl ol cl nb pv m cv T len (conOf 0) (step1 r) (.slice none 0 0) (.slice none 0 0) (.slice none 0 0) from HC.out.moved hP hB)
  clear hP hB
  have VX := Lib.hid (vars_any 3 (by decide) HY.out.k.rd hm)
  rw [show ((3 : Nat) : Int) = 3 from rfl] at VX
  have HS0 := Lib.hid (show w.heap.size + 2 ≤ wy.heap.size from HY.out.k.low)
  obtain ⟨y, hy⟩ : ∃ y, y = varsQ 3 [] T (step1 r) := ⟨_, rfl⟩
  have HXY := Lib.hid (show X = ret { conOf 2 with vars := y.1 } T y.2 by rw [HX.out, hy]; rfl)
  rw [← hy] at VX
  clear hy
  obtain ⟨L, r2⟩ := y
  simp only at HXY
  go_wp2_with fail
  refine VX.out.mono ?_
  rintro e w2 ⟨hB, ⟨hw, hP, p1, c1, rfl, ho⟩ | ⟨hw, rfl⟩⟩
  rotate_left
  · have HG := Lib.hid (ends_no (T := T) (len := len) (n := n) (bl := bl) (ol := ol) (cl := cl) (base := nb) (pv := pv) (m := m) (cv := cv) (g := g) (x := X) (V := ConE w X.1) (HY.out.k.but.trans hB (fun i _ e => e)) ((tame_ret { conOf 2 with vars := L }).after HXY.out hw).1)
    rw [((tame_ret { conOf 2 with vars := L }).after HXY.out hw).2] at HG
    unfold gone at HG ⊢
    clear hw hB
    go_wp2_with fail
    exact ⟨rfl, HG.out⟩
  have HV0 := Lib.hid (show CAt w w2 g n bl ol cl nb pv m cv T len (conOf 0) r2 (.slice none 0 0) (.slice none 0 0) (.slice none 0 0) from HY.out.moved hP hB)
  have HV := Lib.hid (show CAt w ((w2.setCell ⟨w.heap.size + 1, 0, none⟩ (.int .i64 2)).setCell ⟨w.heap.size + 1, 1, none⟩ (.slice p1 L.length c1)) g n bl ol cl nb pv m cv T len { conOf 2 with vars := L } r2 (.slice p1 L.length c1) (.slice none 0 0) (.slice none 0 0) from HV0.out.kindVars ho HS0.out)
  have b0 := HV0.out.k.box.cell 0 rfl
  have f0 := HV0.out.k.box.frozen 0
  have b1 := HV0.out.k.box.cell 1 rfl
  have f1 := HV0.out.k.box.frozen 1
  have HOL := Lib.hid ho
  clear hB hw hP ho
  have HXE := Lib.hid (show X = ({ conOf 2 with vars := L }, r2) from HXY.out)
  have b0 := HV.out.k.box.cell 0 rfl
  have b1 := HV.out.k.box.cell 1 rfl
  have b2 := HV.out.k.box.cell 2 rfl
  have b3 := HV.out.k.box.cell 3 rfl
  have b4 := HV.out.k.box.cell 4 rfl
  have b5 := HV.out.k.box.cell 5 rfl
  have q0 := HV.out.res.cell 0 rfl
  have g0 := HV.out.res.frozen 0
  have q1 := HV.out.res.cell 1 rfl
  have g1 := HV.out.res.frozen 1
  have q2 := HV.out.res.cell 2 rfl
  have g2 := HV.out.res.frozen 2
  have q3 := HV.out.res.cell 3 rfl
  have g3 := HV.out.res.frozen 3
  have q4 := HV.out.res.cell 4 rfl
  have g4 := HV.out.res.frozen 4
  have q5 := HV.out.res.cell 5 rfl
  have g5 := HV.out.res.frozen 5
  have HEX := Lib.hid (show X = ({ conOf 2 with vars := L }, r2) from HXE.out)
  (try simp only [conOf] at b0 b1 b2 b3 b4 b5)
  go_wp2_with fail
  (try simp only [Exit.inBlock, Exit.then])
  refine bodyPost_ret (results_con rfl _ _ w.heap.size (.int .i64 2) (.slice p1 L.length c1) (.slice none 0 0) (.int .i64 0) (.int .i64 0) (.slice none 0 0) rfl ?c0a ?c1a ?c2a ?c3a ?c4a ?c5a) rfl ?resta
  case c0a => go_simp
  case c1a => go_simp
  case c2a => go_simp
  case c3a => go_simp
  case c4a => go_simp
  case c5a => go_simp
  case resta =>
    obtain ⟨e1, e2, e3⟩ := HV.out.ends (x0 := .int .i64 2) (x1 := (.slice p1 L.length c1)) (x2 := (.slice none 0 0)) (x3 := .int .i64 0) (x4 := .int .i64 0) (x5 := (.slice none 0 0))
    exact ⟨e3, .inl ⟨by rw [HEX.out]; exact HV.out.k.rd.ok, by rw [HEX.out]; exact e1, (.slice p1 L.length c1), (.slice none 0 0), (.slice none 0 0), by rw [HEX.out]; rfl, by rw [HEX.out]; exact e2⟩⟩
end
end Go.Proofs.Ytfkakdpppejehaa.Pp
namespace Go.Proofs.Ytfkakdpppejehaa.Pp
open Go.RowKit
open Sc (Tok Cells str noTok)
open Pa
set_option maxRecDepth 100000

section
variable {w w' : World} {g n bl ol cl nb : Nat} {pv : Option Addr} {m cv : Nat} {T : List Tok} {len : Nat} {r : Rd}
set_option maxHeartbeats 8000000 in
theorem con_iff (K : Nat) (h : PAt w g n bl ol cl nb pv m cv T len r) (hv : ∀ t ∈ T, t.value ≤ 2000000000000) (hm : m ≤ 1000000) (hK : n < K) (hn : n ≤ 9000) (ht : textO (next T r) = tIff) :
    Calls Try.prog 56 #[.pointer (some ⟨g, 0, none⟩)] w (Ends w (fun i => i = g) g n bl ol cl nb pv m cv T len (conQ K T r) (ConE w (conQ K T r).1)) := by
  obtain ⟨X, hX⟩ : ∃ X, X = conQ K T r := ⟨_, rfl⟩
  rw [← hX]
  rw [conQ2 ht] at hX
  have HX := Lib.hid hX
  have N0 := Lib.hid (show textO (next T r) ≠ tProduct by rw [ht]; decide)
  have HT := Lib.hid ht
  have HC := Lib.hid (cat_new h)
  clear h hX ht
  go_enter Try.func56, Try.ntmps56
  go_wp2_with fail
  refine (took_no ⟨#[112, 114, 111, 100, 117, 99, 116]⟩ (by decide) N0.out HC.out.k.rd).mono ?_
  rintro e wn0 ⟨rfl, hP, hB⟩
  have HC0 := Lib.hid (show CAt w wn0 g n bl ol cl nb pv m cv T len (conOf 0) r (.slice none 0 0) (.slice none 0 0) (.slice none 0 0) from HC.out.moved hP hB)
  clear hP hB
  go_wp2_with fail
  refine (took_yes ⟨#[105, 102, 102]⟩ (by decide) HT.out HC0.out.k.rd).mono ?_
  rintro e wy ⟨rfl, hP, hB⟩
  have HY := Lib.hid (show CAt w wy g n bl ol cl nb pv m cv T len (conOf 0) (step1 r) (.slice none 0 0) (.slice none 0 0) (.slice none 0 0) from HC0.out.moved hP hB)
  clear hP hB
  have VX := Lib.hid (vars_any 1 (by decide) HY.out.k.rd hm)
  rw [show ((1 : Nat) : Int) = 1 from rfl] at VX
  have HS0 := Lib.hid (show w.heap.size + 2 ≤ wy.heap.size from HY.out.k.low)
  obtain ⟨y, hy⟩ : ∃ y, y = varsQ 1 [] T (step1 r) := ⟨_, rfl⟩
  have HXY := Lib.hid (show X = sumQ K { conOf 3 with vars := y.1 } T y.2 by rw [HX.out, hy]; rfl)
  have HSL := Lib.hid (show y.1.length = 1 by rw [hy, vars_size]; rfl)
  rw [← hy] at VX
  clear hy
  obtain ⟨L, r2⟩ := y
  simp only at HXY
  go_wp2_with fail
  refine VX.out.mono ?_
  rintro e w2 ⟨hB, ⟨hw, hP, p1, c1, rfl, ho⟩ | ⟨hw, rfl⟩⟩
  rotate_left
  · have HG := Lib.hid (ends_no (T := T) (len := len) (n := n) (bl := bl) (ol := ol) (cl := cl) (base := nb) (pv := pv) (m := m) (cv := cv) (g := g) (x := X) (V := ConE w X.1) (HY.out.k.but.trans hB (fun i _ e => e)) ((tame_sum K { conOf 3 with vars := L }).after HXY.out hw).1)
    rw [((tame_sum K { conOf 3 with vars := L }).after HXY.out hw).2] at HG
    unfold gone at HG ⊢
    clear hw hB
    go_wp2_with fail
    exact ⟨rfl, HG.out⟩
  have HV0 := Lib.hid (show CAt w w2 g n bl ol cl nb pv m cv T len (conOf 0) r2 (.slice none 0 0) (.slice none 0 0) (.slice none 0 0) from HY.out.moved hP hB)
  have HV := Lib.hid (show CAt w ((w2.setCell ⟨w.heap.size + 1, 0, none⟩ (.int .i64 3)).setCell ⟨w.heap.size + 1, 1, none⟩ (.slice p1 L.length c1)) g n bl ol cl nb pv m cv T len { conOf 3 with vars := L } r2 (.slice p1 L.length c1) (.slice none 0 0) (.slice none 0 0) from HV0.out.kindVars ho HS0.out)
  have b0 := HV0.out.k.box.cell 0 rfl
  have f0 := HV0.out.k.box.frozen 0
  have b1 := HV0.out.k.box.cell 1 rfl
  have f1 := HV0.out.k.box.frozen 1
  have HOL := Lib.hid ho
  clear hB hw hP ho
  obtain ⟨wb, hwb⟩ : ∃ wb, wb = ((w2.setCell ⟨w.heap.size + 1, 0, none⟩ (.int .i64 3)).setCell ⟨w.heap.size + 1, 1, none⟩ (.slice p1 L.length c1)) := ⟨_, rfl⟩
  rw [← hwb] at HV
  have SX := Lib.hid (sum_any K HV.out.tight hv hm hK (by omega) (by have := HSL.out; simp only at this ⊢; omega) (by simp [conOf]))
  rw [← HXY.out] at SX
  go_wp2_with fail
  rw [← hwb]
  clear hwb b0 f0 b1 f1
  refine SX.out.mono ?_
  rintro e w3 ⟨hB, ⟨hw, rfl, y1, y2, hk⟩ | ⟨hw, rfl⟩⟩
  rotate_left
  · have HG := Lib.hid (ends_no (T := T) (len := len) (n := n) (bl := bl) (ol := ol) (cl := cl) (base := nb) (pv := pv) (m := m) (cv := cv) (g := g) (x := X) (V := ConE w X.1) (tight_but HV.out.k.but hB) hw)
    unfold gone at HG ⊢
    clear hw hB
    go_wp2_with fail
    exact ⟨rfl, HG.out⟩
  obtain ⟨p1, l1, k1, e1⟩ : ∃ p l k, y1 = .slice p l k := by
    obtain ⟨p, k, e⟩ := hk.own.o1.shape
    exact ⟨p, _, k, e⟩
  subst e1
  obtain ⟨p2, l2, k2, e2⟩ : ∃ p l k, y2 = .slice p l k := by
    obtain ⟨p, k, e⟩ := hk.own.o2.shape
    exact ⟨p, _, k, e⟩
  subst e2
  have HN0 := Lib.hid (HV.out.back hk)
  obtain ⟨cx, rx⟩ := X
  obtain ⟨kk, hkk⟩ : ∃ kk, kk = cx.kind := ⟨_, rfl⟩
  obtain ⟨rr, hrr⟩ : ∃ rr, rr = cx.rel := ⟨_, rfl⟩
  obtain ⟨tt, htt⟩ : ∃ tt, tt = cx.const := ⟨_, rfl⟩
  have HKK := Lib.hid (And.intro hkk (And.intro hrr htt))
  have n0 := HN0.out.k.box.cell 0 rfl
  have n1 := HN0.out.k.box.cell 1 rfl
  have n2 := HN0.out.k.box.cell 2 rfl
  have n3 := HN0.out.k.box.cell 3 rfl
  have n4 := HN0.out.k.box.cell 4 rfl
  have n5 := HN0.out.k.box.cell 5 rfl
  simp only at n0 n1 n2 n3 n4 n5
  rw [← hkk] at n0
  rw [← hrr] at n3
  rw [← htt] at n4
  have q0 := HN0.out.res.cell 0 rfl
  have g0 := HN0.out.res.frozen 0
  have q1 := HN0.out.res.cell 1 rfl
  have g1 := HN0.out.res.frozen 1
  have q2 := HN0.out.res.cell 2 rfl
  have g2 := HN0.out.res.frozen 2
  have q3 := HN0.out.res.cell 3 rfl
  have g3 := HN0.out.res.frozen 3
  have q4 := HN0.out.res.cell 4 rfl
  have g4 := HN0.out.res.frozen 4
  have q5 := HN0.out.res.cell 5 rfl
  have g5 := HN0.out.res.frozen 5
  clear hB hw hk hkk hrr htt
  go_wp2_with fail
  (try simp only [Exit.inBlock, Exit.then])
  refine bodyPost_ret (results_con rfl _ _ w.heap.size (.int .i64 kk) (.slice p1 l1 k1) (.slice p2 l2 k2) (.int .i64 rr) (.int .i64 tt) (.slice none 0 0) rfl ?c0a ?c1a ?c2a ?c3a ?c4a ?c5a) rfl ?resta
  case c0a => go_simp
  case c1a => go_simp
  case c2a => go_simp
  case c3a => go_simp
  case c4a => go_simp
  case c5a => go_simp
  case resta =>
    obtain ⟨e1, e2, e3⟩ := HN0.out.ends (x0 := .int .i64 kk) (x1 := .slice p1 l1 k1) (x2 := .slice p2 l2 k2) (x3 := .int .i64 rr) (x4 := .int .i64 tt) (x5 := .slice none 0 0)
    exact ⟨e3, .inl ⟨HN0.out.k.rd.ok, e1, _, _, _, by rw [HKK.out.1, HKK.out.2.1, HKK.out.2.2], e2⟩⟩
end
end Go.Proofs.Ytfkakdpppejehaa.Pp
namespace Go.Proofs.Ytfkakdpppejehaa.Pp
open Go.RowKit
open Sc (Tok Cells str noTok)
open Pa
set_option maxRecDepth 100000

section
variable {w w' : World} {g n bl ol cl nb : Nat} {pv : Option Addr} {m cv : Nat} {T : List Tok} {len : Nat} {r : Rd}
set_option maxHeartbeats 8000000 in
theorem con_element (K : Nat) (h : PAt w g n bl ol cl nb pv m cv T len r) (hv : ∀ t ∈ T, t.value ≤ 2000000000000) (hm : m ≤ 1000000) (hK : n < K) (hn : n ≤ 9000) (ht : textO (next T r) = tElement) :
    Calls Try.prog 56 #[.pointer (some ⟨g, 0, none⟩)] w (Ends w (fun i => i = g) g n bl ol cl nb pv m cv T len (conQ K T r) (ConE w (conQ K T r).1)) := by
  obtain ⟨X, hX⟩ : ∃ X, X = conQ K T r := ⟨_, rfl⟩
  rw [← hX]
  rw [conQ3 ht] at hX
  have HX := Lib.hid hX
  have N0 := Lib.hid (show textO (next T r) ≠ tProduct by rw [ht]; decide)
  have N1 := Lib.hid (show textO (next T r) ≠ tIff by rw [ht]; decide)
  have HT := Lib.hid ht
  have HC := Lib.hid (cat_new h)
  clear h hX ht
  go_enter Try.func56, Try.ntmps56
  go_wp2_with fail
  refine (took_no ⟨#[112, 114, 111, 100, 117, 99, 116]⟩ (by decide) N0.out HC.out.k.rd).mono ?_
  rintro e wn0 ⟨rfl, hP, hB⟩
  have HC0 := Lib.hid (show CAt w wn0 g n bl ol cl nb pv m cv T len (conOf 0) r (.slice none 0 0) (.slice none 0 0) (.slice none 0 0) from HC.out.moved hP hB)
  clear hP hB
  go_wp2_with fail
  refine (took_no ⟨#[105, 102, 102]⟩ (by decide) N1.out HC0.out.k.rd).mono ?_
  rintro e wn1 ⟨rfl, hP, hB⟩
  have HC1 := Lib.hid (show CAt w wn1 g n bl ol cl nb pv m cv T len (conOf 0) r (.slice none 0 0) (.slice none 0 0) (.slice none 0 0) from HC0.out.moved hP hB)
  clear hP hB
  go_wp2_with fail
  refine (took_yes ⟨#[101, 108, 101, 109, 101, 110, 116]⟩ (by decide) HT.out HC1.out.k.rd).mono ?_
  rintro e wy ⟨rfl, hP, hB⟩
  have HY := Lib.hid (show CAt w wy g n bl ol cl nb pv m cv T len (conOf 0) (step1 r) (.slice none 0 0) (.slice none 0 0) (.slice none 0 0) from HC1.out.moved hP hB)
  clear hP hB
  have VX := Lib.hid (vars_any 2 (by decide) HY.out.k.rd hm)
  rw [show ((2 : Nat) : Int) = 2 from rfl] at VX
  have HS0 := Lib.hid (show w.heap.size + 2 ≤ wy.heap.size from HY.out.k.low)
  obtain ⟨y, hy⟩ : ∃ y, y = varsQ 2 [] T (step1 r) := ⟨_, rfl⟩
  have HXY := Lib.hid (show X = tableQ K 1 { conOf 4 with vars := y.1 } T y.2 by rw [HX.out, hy]; rfl)
  rw [← hy] at VX
  clear hy
  obtain ⟨L, r2⟩ := y
  simp only at HXY
  go_wp2_with fail
  refine VX.out.mono ?_
  rintro e w2 ⟨hB, ⟨hw, hP, p1, c1, rfl, ho⟩ | ⟨hw, rfl⟩⟩
  rotate_left
  · have HG := Lib.hid (ends_no (T := T) (len := len) (n := n) (bl := bl) (ol := ol) (cl := cl) (base := nb) (pv := pv) (m := m) (cv := cv) (g := g) (x := X) (V := ConE w X.1) (HY.out.k.but.trans hB (fun i _ e => e)) ((tame_table K 1 { conOf 4 with vars := L }).after HXY.out hw).1)
    rw [((tame_table K 1 { conOf 4 with vars := L }).after HXY.out hw).2] at HG
    unfold gone at HG ⊢
    clear hw hB
    go_wp2_with fail
    exact ⟨rfl, HG.out⟩
  have HV0 := Lib.hid (show CAt w w2 g n bl ol cl nb pv m cv T len (conOf 0) r2 (.slice none 0 0) (.slice none 0 0) (.slice none 0 0) from HY.out.moved hP hB)
  have HV := Lib.hid (show CAt w ((w2.setCell ⟨w.heap.size + 1, 0, none⟩ (.int .i64 4)).setCell ⟨w.heap.size + 1, 1, none⟩ (.slice p1 L.length c1)) g n bl ol cl nb pv m cv T len { conOf 4 with vars := L } r2 (.slice p1 L.length c1) (.slice none 0 0) (.slice none 0 0) from HV0.out.kindVars ho HS0.out)
  have b0 := HV0.out.k.box.cell 0 rfl
  have f0 := HV0.out.k.box.frozen 0
  have b1 := HV0.out.k.box.cell 1 rfl
  have f1 := HV0.out.k.box.frozen 1
  have HOL := Lib.hid ho
  clear hB hw hP ho
  obtain ⟨wb, hwb⟩ : ∃ wb, wb = ((w2.setCell ⟨w.heap.size + 1, 0, none⟩ (.int .i64 4)).setCell ⟨w.heap.size + 1, 1, none⟩ (.slice p1 L.length c1)) := ⟨_, rfl⟩
  rw [← hwb] at HV
  have HLT := Lib.hid (show ∀ k, (Value.slice p1 L.length c1).ownBlock = some k → k < wb.heap.size from fun k e => (HV.out.k.own.o1.lt k e).2)
  have NX := Lib.hid (nums_any K 1 (by decide) HV.out.k.rd hv hK (by omega))
  rw [show ((1 : Nat) : Int) = 1 from rfl] at NX
  have HS1 := Lib.hid (show w.heap.size + 2 ≤ wb.heap.size from HV.out.k.low)
  obtain ⟨y, hy⟩ : ∃ y, y = numsQ K 1 T r2 := ⟨_, rfl⟩
  have HXZ := Lib.hid (show X = ({ conOf 4 with vars := L, nums := y.1 }, y.2) by rw [HXY.out, hy]; rfl)
  rw [← hy] at NX
  clear hy
  obtain ⟨M, r3⟩ := y
  simp only at HXZ
  go_wp2_with fail
  rw [← hwb]
  clear hwb b0 f0 b1 f1
  refine NX.out.mono ?_
  rintro e w3 ⟨hB, ⟨hw, hP, p3, c3, rfl, ho⟩ | ⟨hw, rfl⟩⟩
  rotate_left
  · have HG := Lib.hid (ends_no (T := T) (len := len) (n := n) (bl := bl) (ol := ol) (cl := cl) (base := nb) (pv := pv) (m := m) (cv := cv) (g := g) (x := X) (V := ConE w X.1) (HV.out.k.but.trans hB (fun i _ e => e)) (by rw [HXZ.out]; exact hw))
    rw [show X.2.at_ = r3.at_ by rw [HXZ.out]] at HG
    unfold gone at HG ⊢
    clear hw hB
    go_wp2_with fail
    exact ⟨rfl, HG.out⟩
  have HN0 := Lib.hid (show CAt w w3 g n bl ol cl nb pv m cv T len { conOf 4 with vars := L } r3 (.slice p1 L.length c1) (.slice none 0 0) (.slice none 0 0) from HV.out.moved hP hB)
  have HN := Lib.hid (show CAt w (w3.setCell ⟨w.heap.size + 1, 5, none⟩ (.slice p3 M.length c3)) g n bl ol cl nb pv m cv T len { conOf 4 with vars := L, nums := M } r3 (.slice p1 L.length c1) (.slice none 0 0) (.slice p3 M.length c3) from HN0.out.giveNums ho HLT.out HS1.out)
  have n0 := HN0.out.k.box.cell 0 rfl
  have n1 := HN0.out.k.box.cell 1 rfl
  have n2 := HN0.out.k.box.cell 2 rfl
  have n3 := HN0.out.k.box.cell 3 rfl
  have n4 := HN0.out.k.box.cell 4 rfl
  have n5 := HN0.out.k.box.cell 5 rfl
  have f5 := HN0.out.k.box.frozen 5
  clear hB hw hP ho
  have HXE := Lib.hid (show X = ({ conOf 4 with vars := L, nums := M }, r3) from HXZ.out)
  have b0 := HN.out.k.box.cell 0 rfl
  have b1 := HN.out.k.box.cell 1 rfl
  have b2 := HN.out.k.box.cell 2 rfl
  have b3 := HN.out.k.box.cell 3 rfl
  have b4 := HN.out.k.box.cell 4 rfl
  have b5 := HN.out.k.box.cell 5 rfl
  have q0 := HN.out.res.cell 0 rfl
  have g0 := HN.out.res.frozen 0
  have q1 := HN.out.res.cell 1 rfl
  have g1 := HN.out.res.frozen 1
  have q2 := HN.out.res.cell 2 rfl
  have g2 := HN.out.res.frozen 2
  have q3 := HN.out.res.cell 3 rfl
  have g3 := HN.out.res.frozen 3
  have q4 := HN.out.res.cell 4 rfl
  have g4 := HN.out.res.frozen 4
  have q5 := HN.out.res.cell 5 rfl
  have g5 := HN.out.res.frozen 5
  have HEX := Lib.hid (show X = ({ conOf 4 with vars := L, nums := M }, r3) from HXE.out)
  (try simp only [conOf] at b0 b1 b2 b3 b4 b5)
  go_wp2_with fail
  (try simp only [Exit.inBlock, Exit.then])
  refine bodyPost_ret (results_con rfl _ _ w.heap.size (.int .i64 4) (.slice p1 L.length c1) (.slice none 0 0) (.int .i64 0) (.int .i64 0) (.slice p3 M.length c3) rfl ?c0a ?c1a ?c2a ?c3a ?c4a ?c5a) rfl ?resta
  case c0a => go_simp
  case c1a => go_simp
  case c2a => go_simp
  case c3a => go_simp
  case c4a => go_simp
  case c5a => go_simp
  case resta =>
    obtain ⟨e1, e2, e3⟩ := HN.out.ends (x0 := .int .i64 4) (x1 := (.slice p1 L.length c1)) (x2 := (.slice none 0 0)) (x3 := .int .i64 0) (x4 := .int .i64 0) (x5 := (.slice p3 M.length c3))
    exact ⟨e3, .inl ⟨by rw [HEX.out]; exact HN.out.k.rd.ok, by rw [HEX.out]; exact e1, (.slice p1 L.length c1), (.slice none 0 0), (.slice p3 M.length c3), by rw [HEX.out]; rfl, by rw [HEX.out]; exact e2⟩⟩
end
end Go.Proofs.Ytfkakdpppejehaa.Pp
namespace Go.Proofs.Ytfkakdpppejehaa.Pp
open Go.RowKit
open Sc (Tok Cells str noTok)
open Pa
set_option maxRecDepth 100000

section
variable {w w' : World} {g n bl ol cl nb : Nat} {pv : Option Addr} {m cv : Nat} {T : List Tok} {len : Nat} {r : Rd}
set_option maxHeartbeats 8000000 in
theorem con_different (K : Nat) (h : PAt w g n bl ol cl nb pv m cv T len r) (hv : ∀ t ∈ T, t.value ≤ 2000000000000) (hm : m ≤ 1000000) (hK : n < K) (hn : n ≤ 9000) (ht : textO (next T r) = tDifferent) :
    Calls Try.prog 56 #[.pointer (some ⟨g, 0, none⟩)] w (Ends w (fun i => i = g) g n bl ol cl nb pv m cv T len (conQ K T r) (ConE w (conQ K T r).1)) := by
  obtain ⟨X, hX⟩ : ∃ X, X = conQ K T r := ⟨_, rfl⟩
  rw [← hX]
  rw [conQ4 ht] at hX
  have HX := Lib.hid hX
  have N0 := Lib.hid (show textO (next T r) ≠ tProduct by rw [ht]; decide)
  have N1 := Lib.hid (show textO (next T r) ≠ tIff by rw [ht]; decide)
  have N2 := Lib.hid (show textO (next T r) ≠ tElement by rw [ht]; decide)
  have HT := Lib.hid ht
  have HC := Lib.hid (cat_new h)
  clear h hX ht
  go_enter Try.func56, Try.ntmps56
  go_wp2_with fail
  refine (took_no ⟨#[112, 114, 111, 100, 117, 99, 116]⟩ (by decide) N0.out HC.out.k.rd).mono ?_
  rintro e wn0 ⟨rfl, hP, hB⟩
  have HC0 := Lib.hid (show CAt w wn0 g n bl ol cl nb pv m cv T len (conOf 0) r (.slice none 0 0) (.slice none 0 0) (.slice none 0 0) from HC.out.moved hP hB)
  clear hP hB
  go_wp2_with fail
  refine (took_no ⟨#[105, 102, 102]⟩ (by decide) N1.out HC0.out.k.rd).mono ?_
  rintro e wn1 ⟨rfl, hP, hB⟩
  have HC1 := Lib.hid (show CAt w wn1 g n bl ol cl nb pv m cv T len (conOf 0) r (.slice none 0 0) (.slice none 0 0) (.slice none 0 0) from HC0.out.moved hP hB)
  clear hP hB
  go_wp2_with fail
  refine (took_no ⟨#[101, 108, 101, 109, 101, 110, 116]⟩ (by decide) N2.out HC1.out.k.rd).mono ?_
  rintro e wn2 ⟨rfl, hP, hB⟩
  have HC2 := Lib.hid (show CAt w wn2 g n bl ol cl nb pv m cv T len (conOf 0) r (.slice none 0 0) (.slice none 0 0) (.slice none 0 0) from HC1.out.moved hP hB)
  clear hP hB
  go_wp2_with fail
  refine (took_yes ⟨#[100, 105, 102, 102, 101, 114, 101, 110, 116]⟩ (by decide) HT.out HC2.out.k.rd).mono ?_
  rintro e wy ⟨rfl, hP, hB⟩
  have HY := Lib.hid (show CAt w wy g n bl ol cl nb pv m cv T len (conOf 0) (step1 r) (.slice none 0 0) (.slice none 0 0) (.slice none 0 0) from HC2.out.moved hP hB)
  clear hP hB
  have VX := Lib.hid (from_any K 2 (by decide) HY.out.k.rd hm hK (by omega))
  rw [show ((2 : Nat) : Int) = 2 from rfl] at VX
  have HS0 := Lib.hid (show w.heap.size + 2 ≤ wy.heap.size from HY.out.k.low)
  obtain ⟨y, hy⟩ : ∃ y, y = fromQ K 2 T (step1 r) := ⟨_, rfl⟩
  have HXY := Lib.hid (show X = ret { conOf 5 with vars := y.1 } T y.2 by rw [HX.out, hy]; rfl)
  rw [← hy] at VX
  clear hy
  obtain ⟨L, r2⟩ := y
  simp only at HXY
  go_wp2_with fail
  refine VX.out.mono ?_
  rintro e w2 ⟨hB, ⟨hw, hP, p1, c1, rfl, ho⟩ | ⟨hw, rfl⟩⟩
  rotate_left
  · have HG := Lib.hid (ends_no (T := T) (len := len) (n := n) (bl := bl) (ol := ol) (cl := cl) (base := nb) (pv := pv) (m := m) (cv := cv) (g := g) (x := X) (V := ConE w X.1) (HY.out.k.but.trans hB (fun i _ e => e)) ((tame_ret { conOf 5 with vars := L }).after HXY.out hw).1)
    rw [((tame_ret { conOf 5 with vars := L }).after HXY.out hw).2] at HG
    unfold gone at HG ⊢
    clear hw hB
    go_wp2_with fail
    exact ⟨rfl, HG.out⟩
  have HV0 := Lib.hid (show CAt w w2 g n bl ol cl nb pv m cv T len (conOf 0) r2 (.slice none 0 0) (.slice none 0 0) (.slice none 0 0) from HY.out.moved hP hB)
  have HV := Lib.hid (show CAt w ((w2.setCell ⟨w.heap.size + 1, 0, none⟩ (.int .i64 5)).setCell ⟨w.heap.size + 1, 1, none⟩ (.slice p1 L.length c1)) g n bl ol cl nb pv m cv T len { conOf 5 with vars := L } r2 (.slice p1 L.length c1) (.slice none 0 0) (.slice none 0 0) from HV0.out.kindVars ho HS0.out)
  have b0 := HV0.out.k.box.cell 0 rfl
  have f0 := HV0.out.k.box.frozen 0
  have b1 := HV0.out.k.box.cell 1 rfl
  have f1 := HV0.out.k.box.frozen 1
  have HOL := Lib.hid ho
  clear hB hw hP ho
  have HXE := Lib.hid (show X = ({ conOf 5 with vars := L }, r2) from HXY.out)
  have b0 := HV.out.k.box.cell 0 rfl
  have b1 := HV.out.k.box.cell 1 rfl
  have b2 := HV.out.k.box.cell 2 rfl
  have b3 := HV.out.k.box.cell 3 rfl
  have b4 := HV.out.k.box.cell 4 rfl
  have b5 := HV.out.k.box.cell 5 rfl
  have q0 := HV.out.res.cell 0 rfl
  have g0 := HV.out.res.frozen 0
  have q1 := HV.out.res.cell 1 rfl
  have g1 := HV.out.res.frozen 1
  have q2 := HV.out.res.cell 2 rfl
  have g2 := HV.out.res.frozen 2
  have q3 := HV.out.res.cell 3 rfl
  have g3 := HV.out.res.frozen 3
  have q4 := HV.out.res.cell 4 rfl
  have g4 := HV.out.res.frozen 4
  have q5 := HV.out.res.cell 5 rfl
  have g5 := HV.out.res.frozen 5
  have HEX := Lib.hid (show X = ({ conOf 5 with vars := L }, r2) from HXE.out)
  (try simp only [conOf] at b0 b1 b2 b3 b4 b5)
  go_wp2_with fail
  (try simp only [Exit.inBlock, Exit.then])
  refine bodyPost_ret (results_con rfl _ _ w.heap.size (.int .i64 5) (.slice p1 L.length c1) (.slice none 0 0) (.int .i64 0) (.int .i64 0) (.slice none 0 0) rfl ?c0a ?c1a ?c2a ?c3a ?c4a ?c5a) rfl ?resta
  case c0a => go_simp
  case c1a => go_simp
  case c2a => go_simp
  case c3a => go_simp
  case c4a => go_simp
  case c5a => go_simp
  case resta =>
    obtain ⟨e1, e2, e3⟩ := HV.out.ends (x0 := .int .i64 5) (x1 := (.slice p1 L.length c1)) (x2 := (.slice none 0 0)) (x3 := .int .i64 0) (x4 := .int .i64 0) (x5 := (.slice none 0 0))
    exact ⟨e3, .inl ⟨by rw [HEX.out]; exact HV.out.k.rd.ok, by rw [HEX.out]; exact e1, (.slice p1 L.length c1), (.slice none 0 0), (.slice none 0 0), by rw [HEX.out]; rfl, by rw [HEX.out]; exact e2⟩⟩
end
end Go.Proofs.Ytfkakdpppejehaa.Pp
namespace Go.Proofs.Ytfkakdpppejehaa.Pp
open Go.RowKit
open Sc (Tok Cells str noTok)
open Pa
set_option maxRecDepth 100000

section
variable {w w' : World} {g n bl ol cl nb : Nat} {pv : Option Addr} {m cv : Nat} {T : List Tok} {len : Nat} {r : Rd}
set_option maxHeartbeats 8000000 in
theorem con_table (K : Nat) (h : PAt w g n bl ol cl nb pv m cv T len r) (hv : ∀ t ∈ T, t.value ≤ 2000000000000) (hm : m ≤ 1000000) (hK : n < K) (hn : n ≤ 9000) (ht : textO (next T r) = tTable) :
    Calls Try.prog 56 #[.pointer (some ⟨g, 0, none⟩)] w (Ends w (fun i => i = g) g n bl ol cl nb pv m cv T len (conQ K T r) (ConE w (conQ K T r).1)) := by
  obtain ⟨X, hX⟩ : ∃ X, X = conQ K T r := ⟨_, rfl⟩
  rw [← hX]
  rw [conQ5 ht] at hX
  have HX := Lib.hid hX
  have N0 := Lib.hid (show textO (next T r) ≠ tProduct by rw [ht]; decide)
  have N1 := Lib.hid (show textO (next T r) ≠ tIff by rw [ht]; decide)
  have N2 := Lib.hid (show textO (next T r) ≠ tElement by rw [ht]; decide)
  have N3 := Lib.hid (show textO (next T r) ≠ tDifferent by rw [ht]; decide)
  have HT := Lib.hid ht
  have HC := Lib.hid (cat_new h)
  clear h hX ht
  go_enter Try.func56, Try.ntmps56
  go_wp2_with fail
  refine (took_no ⟨#[112, 114, 111, 100, 117, 99, 116]⟩ (by decide) N0.out HC.out.k.rd).mono ?_
  rintro e wn0 ⟨rfl, hP, hB⟩
  have HC0 := Lib.hid (show CAt w wn0 g n bl ol cl nb pv m cv T len (conOf 0) r (.slice none 0 0) (.slice none 0 0) (.slice none 0 0) from HC.out.moved hP hB)
  clear hP hB
  go_wp2_with fail
  refine (took_no ⟨#[105, 102, 102]⟩ (by decide) N1.out HC0.out.k.rd).mono ?_
  rintro e wn1 ⟨rfl, hP, hB⟩
  have HC1 := Lib.hid (show CAt w wn1 g n bl ol cl nb pv m cv T len (conOf 0) r (.slice none 0 0) (.slice none 0 0) (.slice none 0 0) from HC0.out.moved hP hB)
  clear hP hB
  go_wp2_with fail
  refine (took_no ⟨#[101, 108, 101, 109, 101, 110, 116]⟩ (by decide) N2.out HC1.out.k.rd).mono ?_
  rintro e wn2 ⟨rfl, hP, hB⟩
  have HC2 := Lib.hid (show CAt w wn2 g n bl ol cl nb pv m cv T len (conOf 0) r (.slice none 0 0) (.slice none 0 0) (.slice none 0 0) from HC1.out.moved hP hB)
  clear hP hB
  go_wp2_with fail
  refine (took_no ⟨#[100, 105, 102, 102, 101, 114, 101, 110, 116]⟩ (by decide) N3.out HC2.out.k.rd).mono ?_
  rintro e wn3 ⟨rfl, hP, hB⟩
  have HC3 := Lib.hid (show CAt w wn3 g n bl ol cl nb pv m cv T len (conOf 0) r (.slice none 0 0) (.slice none 0 0) (.slice none 0 0) from HC2.out.moved hP hB)
  clear hP hB
  go_wp2_with fail
  refine (took_yes ⟨#[116, 97, 98, 108, 101]⟩ (by decide) HT.out HC3.out.k.rd).mono ?_
  rintro e wy ⟨rfl, hP, hB⟩
  have HY := Lib.hid (show CAt w wy g n bl ol cl nb pv m cv T len (conOf 0) (step1 r) (.slice none 0 0) (.slice none 0 0) (.slice none 0 0) from HC3.out.moved hP hB)
  clear hP hB
  have VX := Lib.hid (from_any K 1 (by decide) HY.out.k.rd hm hK (by omega))
  rw [show ((1 : Nat) : Int) = 1 from rfl] at VX
  have HS0 := Lib.hid (show w.heap.size + 2 ≤ wy.heap.size from HY.out.k.low)
  obtain ⟨y, hy⟩ : ∃ y, y = fromQ K 1 T (step1 r) := ⟨_, rfl⟩
  have HXY := Lib.hid (show X = tableQ K 0 { conOf 6 with vars := y.1 } T y.2 by rw [HX.out, hy]; rfl)
  rw [← hy] at VX
  clear hy
  obtain ⟨L, r2⟩ := y
  simp only at HXY
  go_wp2_with fail
  refine VX.out.mono ?_
  rintro e w2 ⟨hB, ⟨hw, hP, p1, c1, rfl, ho⟩ | ⟨hw, rfl⟩⟩
  rotate_left
  · have HG := Lib.hid (ends_no (T := T) (len := len) (n := n) (bl := bl) (ol := ol) (cl := cl) (base := nb) (pv := pv) (m := m) (cv := cv) (g := g) (x := X) (V := ConE w X.1) (HY.out.k.but.trans hB (fun i _ e => e)) ((tame_table K 0 { conOf 6 with vars := L }).after HXY.out hw).1)
    rw [((tame_table K 0 { conOf 6 with vars := L }).after HXY.out hw).2] at HG
    unfold gone at HG ⊢
    clear hw hB
    go_wp2_with fail
    exact ⟨rfl, HG.out⟩
  have HV0 := Lib.hid (show CAt w w2 g n bl ol cl nb pv m cv T len (conOf 0) r2 (.slice none 0 0) (.slice none 0 0) (.slice none 0 0) from HY.out.moved hP hB)
  have HV := Lib.hid (show CAt w ((w2.setCell ⟨w.heap.size + 1, 0, none⟩ (.int .i64 6)).setCell ⟨w.heap.size + 1, 1, none⟩ (.slice p1 L.length c1)) g n bl ol cl nb pv m cv T len { conOf 6 with vars := L } r2 (.slice p1 L.length c1) (.slice none 0 0) (.slice none 0 0) from HV0.out.kindVars ho HS0.out)
  have b0 := HV0.out.k.box.cell 0 rfl
  have f0 := HV0.out.k.box.frozen 0
  have b1 := HV0.out.k.box.cell 1 rfl
  have f1 := HV0.out.k.box.frozen 1
  have HOL := Lib.hid ho
  clear hB hw hP ho
  obtain ⟨wb, hwb⟩ : ∃ wb, wb = ((w2.setCell ⟨w.heap.size + 1, 0, none⟩ (.int .i64 6)).setCell ⟨w.heap.size + 1, 1, none⟩ (.slice p1 L.length c1)) := ⟨_, rfl⟩
  rw [← hwb] at HV
  have HLT := Lib.hid (show ∀ k, (Value.slice p1 L.length c1).ownBlock = some k → k < wb.heap.size from fun k e => (HV.out.k.own.o1.lt k e).2)
  have NX := Lib.hid (nums_any K 0 (by decide) HV.out.k.rd hv hK (by omega))
  rw [show ((0 : Nat) : Int) = 0 from rfl] at NX
  have HS1 := Lib.hid (show w.heap.size + 2 ≤ wb.heap.size from HV.out.k.low)
  obtain ⟨y, hy⟩ : ∃ y, y = numsQ K 0 T r2 := ⟨_, rfl⟩
  have HXZ := Lib.hid (show X = ({ conOf 6 with vars := L, nums := y.1 }, y.2) by rw [HXY.out, hy]; rfl)
  rw [← hy] at NX
  clear hy
  obtain ⟨M, r3⟩ := y
  simp only at HXZ
  go_wp2_with fail
  rw [← hwb]
  clear hwb b0 f0 b1 f1
  refine NX.out.mono ?_
  rintro e w3 ⟨hB, ⟨hw, hP, p3, c3, rfl, ho⟩ | ⟨hw, rfl⟩⟩
  rotate_left
  · have HG := Lib.hid (ends_no (T := T) (len := len) (n := n) (bl := bl) (ol := ol) (cl := cl) (base := nb) (pv := pv) (m := m) (cv := cv) (g := g) (x := X) (V := ConE w X.1) (HV.out.k.but.trans hB (fun i _ e => e)) (by rw [HXZ.out]; exact hw))
    rw [show X.2.at_ = r3.at_ by rw [HXZ.out]] at HG
    unfold gone at HG ⊢
    clear hw hB
    go_wp2_with fail
    exact ⟨rfl, HG.out⟩
  have HN0 := Lib.hid (show CAt w w3 g n bl ol cl nb pv m cv T len { conOf 6 with vars := L } r3 (.slice p1 L.length c1) (.slice none 0 0) (.slice none 0 0) from HV.out.moved hP hB)
  have HN := Lib.hid (show CAt w (w3.setCell ⟨w.heap.size + 1, 5, none⟩ (.slice p3 M.length c3)) g n bl ol cl nb pv m cv T len { conOf 6 with vars := L, nums := M } r3 (.slice p1 L.length c1) (.slice none 0 0) (.slice p3 M.length c3) from HN0.out.giveNums ho HLT.out HS1.out)
  have n0 := HN0.out.k.box.cell 0 rfl
  have n1 := HN0.out.k.box.cell 1 rfl
  have n2 := HN0.out.k.box.cell 2 rfl
  have n3 := HN0.out.k.box.cell 3 rfl
  have n4 := HN0.out.k.box.cell 4 rfl
  have n5 := HN0.out.k.box.cell 5 rfl
  have f5 := HN0.out.k.box.frozen 5
  clear hB hw hP ho
  have HXE := Lib.hid (show X = ({ conOf 6 with vars := L, nums := M }, r3) from HXZ.out)
  have b0 := HN.out.k.box.cell 0 rfl
  have b1 := HN.out.k.box.cell 1 rfl
  have b2 := HN.out.k.box.cell 2 rfl
  have b3 := HN.out.k.box.cell 3 rfl
  have b4 := HN.out.k.box.cell 4 rfl
  have b5 := HN.out.k.box.cell 5 rfl
  have q0 := HN.out.res.cell 0 rfl
  have g0 := HN.out.res.frozen 0
  have q1 := HN.out.res.cell 1 rfl
  have g1 := HN.out.res.frozen 1
  have q2 := HN.out.res.cell 2 rfl
  have g2 := HN.out.res.frozen 2
  have q3 := HN.out.res.cell 3 rfl
  have g3 := HN.out.res.frozen 3
  have q4 := HN.out.res.cell 4 rfl
  have g4 := HN.out.res.frozen 4
  have q5 := HN.out.res.cell 5 rfl
  have g5 := HN.out.res.frozen 5
  have HEX := Lib.hid (show X = ({ conOf 6 with vars := L, nums := M }, r3) from HXE.out)
  (try simp only [conOf] at b0 b1 b2 b3 b4 b5)
  go_wp2_with fail
  (try simp only [Exit.inBlock, Exit.then])
  refine bodyPost_ret (results_con rfl _ _ w.heap.size (.int .i64 6) (.slice p1 L.length c1) (.slice none 0 0) (.int .i64 0) (.int .i64 0) (.slice p3 M.length c3) rfl ?c0a ?c1a ?c2a ?c3a ?c4a ?c5a) rfl ?resta
  case c0a => go_simp
  case c1a => go_simp
  case c2a => go_simp
  case c3a => go_simp
  case c4a => go_simp
  case c5a => go_simp
  case resta =>
    obtain ⟨e1, e2, e3⟩ := HN.out.ends (x0 := .int .i64 6) (x1 := (.slice p1 L.length c1)) (x2 := (.slice none 0 0)) (x3 := .int .i64 0) (x4 := .int .i64 0) (x5 := (.slice p3 M.length c3))
    exact ⟨e3, .inl ⟨by rw [HEX.out]; exact HN.out.k.rd.ok, by rw [HEX.out]; exact e1, (.slice p1 L.length c1), (.slice none 0 0), (.slice p3 M.length c3), by rw [HEX.out]; rfl, by rw [HEX.out]; exact e2⟩⟩
end
end Go.Proofs.Ytfkakdpppejehaa.Pp
namespace Go.Proofs.Ytfkakdpppejehaa.Pp
open Go.RowKit
open Sc (Tok Cells str noTok)
open Pa
set_option maxRecDepth 100000

section
variable {w w' : World} {g n bl ol cl nb : Nat} {pv : Option Addr} {m cv : Nat} {T : List Tok} {len : Nat} {r : Rd}
set_option maxHeartbeats 8000000 in
theorem con_sum (K : Nat) (h : PAt w g n bl ol cl nb pv m cv T len r) (hv : ∀ t ∈ T, t.value ≤ 2000000000000) (hm : m ≤ 1000000) (hK : n < K) (hn : n ≤ 9000) (h1 : textO (next T r) ≠ tProduct) (h2 : textO (next T r) ≠ tIff) (h3 : textO (next T r) ≠ tElement) (h4 : textO (next T r) ≠ tDifferent) (h5 : textO (next T r) ≠ tTable) :
    Calls Try.prog 56 #[.pointer (some ⟨g, 0, none⟩)] w (Ends w (fun i => i = g) g n bl ol cl nb pv m cv T len (conQ K T r) (ConE w (conQ K T r).1)) := by
  obtain ⟨X, hX⟩ : ∃ X, X = conQ K T r := ⟨_, rfl⟩
  rw [← hX]
  rw [conQ6 h1 h2 h3 h4 h5] at hX
  have HX := Lib.hid hX
  have N0 := Lib.hid h1
  have N1 := Lib.hid h2
  have N2 := Lib.hid h3
  have N3 := Lib.hid h4
  have N4 := Lib.hid h5
  have HC := Lib.hid (cat_new h)
  clear h hX h1 h2 h3 h4 h5
  go_enter Try.func56, Try.ntmps56
  go_wp2_with fail
  refine (took_no ⟨#[112, 114, 111, 100, 117, 99, 116]⟩ (by decide) N0.out HC.out.k.rd).mono ?_
  rintro e wn0 ⟨rfl, hP, hB⟩
  have HC0 := Lib.hid (show CAt w wn0 g n bl ol cl nb pv m cv T len (conOf 0) r (.slice none 0 0) (.slice none 0 0) (.slice none 0 0) from HC.out.moved hP hB)
  clear hP hB
  go_wp2_with fail
  refine (took_no ⟨#[105, 102, 102]⟩ (by decide) N1.out HC0.out.k.rd).mono ?_
  rintro e wn1 ⟨rfl, hP, hB⟩
  have HC1 := Lib.hid (show CAt w wn1 g n bl ol cl nb pv m cv T len (conOf 0) r (.slice none 0 0) (.slice none 0 0) (.slice none 0 0) from HC0.out.moved hP hB)
  clear hP hB
  go_wp2_with fail
  refine (took_no ⟨#[101, 108, 101, 109, 101, 110, 116]⟩ (by decide) N2.out HC1.out.k.rd).mono ?_
  rintro e wn2 ⟨rfl, hP, hB⟩
  have HC2 := Lib.hid (show CAt w wn2 g n bl ol cl nb pv m cv T len (conOf 0) r (.slice none 0 0) (.slice none 0 0) (.slice none 0 0) from HC1.out.moved hP hB)
  clear hP hB
  go_wp2_with fail
  refine (took_no ⟨#[100, 105, 102, 102, 101, 114, 101, 110, 116]⟩ (by decide) N3.out HC2.out.k.rd).mono ?_
  rintro e wn3 ⟨rfl, hP, hB⟩
  have HC3 := Lib.hid (show CAt w wn3 g n bl ol cl nb pv m cv T len (conOf 0) r (.slice none 0 0) (.slice none 0 0) (.slice none 0 0) from HC2.out.moved hP hB)
  clear hP hB
  go_wp2_with fail
  refine (took_no ⟨#[116, 97, 98, 108, 101]⟩ (by decide) N4.out HC3.out.k.rd).mono ?_
  rintro e wn4 ⟨rfl, hP, hB⟩
  have HC4 := Lib.hid (show CAt w wn4 g n bl ol cl nb pv m cv T len (conOf 0) r (.slice none 0 0) (.slice none 0 0) (.slice none 0 0) from HC3.out.moved hP hB)
  clear hP hB
  have HV := Lib.hid (show CAt w (wn4.setCell ⟨w.heap.size + 1, 0, none⟩ (.int .i64 1)) g n bl ol cl nb pv m cv T len (conOf 1) r (.slice none 0 0) (.slice none 0 0) (.slice none 0 0) from HC4.out.setKind)
  have HXY := Lib.hid (show X = sumQ K (conOf 1) T r from HX.out)
  have b0 := HC4.out.k.box.cell 0 rfl
  have f0 := HC4.out.k.box.frozen 0
  have HSL := Lib.hid (show (conOf 1).vars.length ≤ 1 by decide)
  obtain ⟨wb, hwb⟩ : ∃ wb, wb = (wn4.setCell ⟨w.heap.size + 1, 0, none⟩ (.int .i64 1)) := ⟨_, rfl⟩
  rw [← hwb] at HV
  have SX := Lib.hid (sum_any K HV.out.tight hv hm hK (by omega) (by have := HSL.out; omega) (by simp [conOf]))
  rw [← HXY.out] at SX
  go_wp2_with fail
  rw [← hwb]
  clear hwb b0 f0
  refine SX.out.mono ?_
  rintro e w3 ⟨hB, ⟨hw, rfl, y1, y2, hk⟩ | ⟨hw, rfl⟩⟩
  rotate_left
  · have HG := Lib.hid (ends_no (T := T) (len := len) (n := n) (bl := bl) (ol := ol) (cl := cl) (base := nb) (pv := pv) (m := m) (cv := cv) (g := g) (x := X) (V := ConE w X.1) (tight_but HV.out.k.but hB) hw)
    unfold gone at HG ⊢
    clear hw hB
    go_wp2_with fail
    exact ⟨rfl, HG.out⟩
  obtain ⟨p1, l1, k1, e1⟩ : ∃ p l k, y1 = .slice p l k := by
    obtain ⟨p, k, e⟩ := hk.own.o1.shape
    exact ⟨p, _, k, e⟩
  subst e1
  obtain ⟨p2, l2, k2, e2⟩ : ∃ p l k, y2 = .slice p l k := by
    obtain ⟨p, k, e⟩ := hk.own.o2.shape
    exact ⟨p, _, k, e⟩
  subst e2
  have HN0 := Lib.hid (HV.out.back hk)
  obtain ⟨cx, rx⟩ := X
  obtain ⟨kk, hkk⟩ : ∃ kk, kk = cx.kind := ⟨_, rfl⟩
  obtain ⟨rr, hrr⟩ : ∃ rr, rr = cx.rel := ⟨_, rfl⟩
  obtain ⟨tt, htt⟩ : ∃ tt, tt = cx.const := ⟨_, rfl⟩
  have HKK := Lib.hid (And.intro hkk (And.intro hrr htt))
  have n0 := HN0.out.k.box.cell 0 rfl
  have n1 := HN0.out.k.box.cell 1 rfl
  have n2 := HN0.out.k.box.cell 2 rfl
  have n3 := HN0.out.k.box.cell 3 rfl
  have n4 := HN0.out.k.box.cell 4 rfl
  have n5 := HN0.out.k.box.cell 5 rfl
  simp only at n0 n1 n2 n3 n4 n5
  rw [← hkk] at n0
  rw [← hrr] at n3
  rw [← htt] at n4
  have q0 := HN0.out.res.cell 0 rfl
  have g0 := HN0.out.res.frozen 0
  have q1 := HN0.out.res.cell 1 rfl
  have g1 := HN0.out.res.frozen 1
  have q2 := HN0.out.res.cell 2 rfl
  have g2 := HN0.out.res.frozen 2
  have q3 := HN0.out.res.cell 3 rfl
  have g3 := HN0.out.res.frozen 3
  have q4 := HN0.out.res.cell 4 rfl
  have g4 := HN0.out.res.frozen 4
  have q5 := HN0.out.res.cell 5 rfl
  have g5 := HN0.out.res.frozen 5
  clear hB hw hk hkk hrr htt
  go_wp2_with fail
  (try simp only [Exit.inBlock, Exit.then])
  refine bodyPost_ret (results_con rfl _ _ w.heap.size (.int .i64 kk) (.slice p1 l1 k1) (.slice p2 l2 k2) (.int .i64 rr) (.int .i64 tt) (.slice none 0 0) rfl ?c0a ?c1a ?c2a ?c3a ?c4a ?c5a) rfl ?resta
  case c0a => go_simp
  case c1a => go_simp
  case c2a => go_simp
  case c3a => go_simp
  case c4a => go_simp
  case c5a => go_simp
  case resta =>
    obtain ⟨e1, e2, e3⟩ := HN0.out.ends (x0 := .int .i64 kk) (x1 := .slice p1 l1 k1) (x2 := .slice p2 l2 k2) (x3 := .int .i64 rr) (x4 := .int .i64 tt) (x5 := .slice none 0 0)
    exact ⟨e3, .inl ⟨HN0.out.k.rd.ok, e1, _, _, _, by rw [HKK.out.1, HKK.out.2.1, HKK.out.2.2], e2⟩⟩
end
end Go.Proofs.Ytfkakdpppejehaa.Pp
namespace Go.Proofs.Ytfkakdpppejehaa.Pp
open Go.RowKit
open Sc (Tok Cells str noTok)
open Pa
set_option maxRecDepth 100000

section
variable {w w' : World} {g n bl ol cl nb : Nat} {pv : Option Addr} {m cv : Nat} {T : List Tok} {len : Nat} {r : Rd}
theorem conP_any (K : Nat) (h : PAt w g n bl ol cl nb pv m cv T len r) (hv : ∀ t ∈ T, t.value ≤ 2000000000000) (hm : m ≤ 1000000) (hK : n < K) (hn : n ≤ 9000) :
    Calls Try.prog 56 #[.pointer (some ⟨g, 0, none⟩)] w (Ends w (fun i => i = g) g n bl ol cl nb pv m cv T len (conQ K T r) (ConE w (conQ K T r).1)) := by
  by_cases h1 : textO (next T r) = tProduct
  · exact con_product K h hv hm hK hn h1
  by_cases h2 : textO (next T r) = tIff
  · exact con_iff K h hv hm hK hn h2
  by_cases h3 : textO (next T r) = tElement
  · exact con_element K h hv hm hK hn h3
  by_cases h4 : textO (next T r) = tDifferent
  · exact con_different K h hv hm hK hn h4
  by_cases h5 : textO (next T r) = tTable
  · exact con_table K h hv hm hK hn h5
  exact con_sum K h hv hm hK hn h1 h2 h3 h4 h5
end
end Go.Proofs.Ytfkakdpppejehaa.Pp
