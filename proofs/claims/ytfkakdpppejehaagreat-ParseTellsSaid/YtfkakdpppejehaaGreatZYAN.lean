/-
  A block that the document's reader of tokens takes.
  What a reader of tokens takes in is numbers of 64 bits; blocks in rows of their own.
  A reader as it starts on tokens that a call made.
  The program's parser of tokens in memory. What its looks at the next token answer.
  Which models the laws do not look at: plain data; readings of slices. Nothing of the program.
-/
import Derived.Test.YtfkakdpppejehaaGreatZYAM
import Derived.Deep.RegionLaw
import Derived.Deep.CutBlock
import Derived.Deep.DeepCutAuto
import Derived.IntWalk
import Derived.Test.YtfkakdpppejehaaGreatZYAH
namespace Go.Proofs.YtfkakdpppejehaaGreat.Pa
open Go.RowKit
open Sc (Tok Cells str noTok)
set_option maxRecDepth 100000

theorem Moves.put {g b j : Nat} {w w' : World} {x : Value} (h : Moves g none w w') (hb : w.heap.size ≤ b) : Moves g none w (w'.setCell ⟨b, j, none⟩ x) :=
  ⟨h.os, h.tape, h.output, by have := h.size; simp [World.setCell]; exact this, fun k hk hg hv => (Below.heap_setCell _ _ _ _ (show k ≠ b by omega)).trans (h.block k hk hg hv)⟩
theorem Moves.grows {g : Nat} {w w' w'' : World} {row : Option Nat} (h : Moves g none w w') (hg : w'.grownBy w'' row) (hr : ∀ k, row = some k → w.heap.size ≤ k) : Moves g none w w'' :=
  ⟨hg.os.trans h.os, hg.tape.trans h.tape, hg.output.trans h.output, Nat.le_trans h.size hg.size, fun k hk h1 h2 => (hg.block k (Nat.lt_of_lt_of_le hk h.size) (fun e => by have := hr k e.symm; omega)).trans (h.block k hk h1 h2)⟩
section
variable {w0 w w' : World} {F : Nat → Prop} {g n : Nat} {pl : Option Addr} {bl ol cl : Nat} {pv : Option Addr} {bv ov m cv : Nat} {T : List Tok} {base : Nat} {all : Bool} {l : List PDecl} {cs : List PCon} {r : Rd} {v1 v2 : Value}
theorem names_same {L : List Txt} (h : RdAt w g n pl bl ol cl pv bv ov m cv T r) (ho : OwnsP nameP 1 9 base w (.slice pv m cv) L) : r.vars = L := by
  obtain ⟨hm, b, hb, _⟩ := nm_of_owns ho
  have hl : r.vars.length = L.length := by rw [← h.nm.long, ← hm]
  refine List.ext_getElem hl fun k h1 h2 => ?_
  have h0 : 0 < m := by omega
  have e := (h.nm.at_ h0).symm.trans (hb.at_ h0)
  simp only [Option.some.injEq, Addr.mk.injEq] at e
  obtain ⟨rfl, rfl, _⟩ := e
  have e2 := (h.nm.cell k (by omega)).symm.trans (hb.cell k (by omega))
  simp only [List.getD, List.getElem?_eq_getElem h1, List.getElem?_eq_getElem h2, Option.getD_some, str, Option.some.injEq, Value.string.injEq, ByteArray.mk.injEq] at e2
  simpa using e2
/-- how far a reader has come with a block -/
structure BlkAt (w0 w : World) (F : Nat → Prop) (g n : Nat) (pl : Option Addr) (bl ol cl : Nat) (T : List Tok) (base : Nat) (all : Bool) (l : List PDecl) (r : Rd) (v1 : Value) (pv : Option Addr) (bv ov m cv : Nat) : Prop where
  rd : RdAt w g n pl bl ol cl pv bv ov m cv T r
  nm : OwnsP nameP 1 9 base w (.slice pv m cv) r.vars
  box : Box3 w (w0.heap.size + 1) (.bool all) v1 (.slice none 0 0)
  res : Box3 w w0.heap.size (.bool false) (.slice none 0 0) (.slice none 0 0)
  ds : DeclsAt w w0.heap.size v1 l
  but : But F w0 w
  fg : F g
  fn : ∀ k, (Value.slice pv m cv).ownBlock = some k → F k ∨ w0.heap.size ≤ k
  low : base ≤ w.heap.size
theorem BlkAt.moved {r' : Rd} (h : BlkAt w0 w F g n pl bl ol cl T base all l r v1 pv bv ov m cv) (hR : RdAt w' g n pl bl ol cl pv bv ov m cv T r') (hM : Moves g none w w') : BlkAt w0 w' F g n pl bl ol cl T base all l r' v1 pv bv ov m cv := by
  have hn := OwnsP.moved h.nm hM h.rd.ty (by decide)
  exact ⟨hR, by rw [names_same hR hn]; exact hn, h.box.moved hM h.rd.ty, h.res.moved hM h.rd.ty, h.ds.moved hM h.rd.ty, h.but.trans (G := fun i => i = g) (But.moves hM rfl) (fun _ _ e => e ▸ h.fg), h.fg, h.fn, Nat.le_trans h.low hM.size⟩
theorem BlkAt.vars_eq {r' : Rd} (h : BlkAt w0 w F g n pl bl ol cl T base all l r v1 pv bv ov m cv) (hR : RdAt w' g n pl bl ol cl pv bv ov m cv T r') (hM : Moves g none w w') : r'.vars = r.vars := names_same hR (OwnsP.moved h.nm hM h.rd.ty (by decide))
theorem BlkAt.below (h : BlkAt w0 w F g n pl bl ol cl T base all l r v1 pv bv ov m cv) (hB : Below w.heap.size w w') : BlkAt w0 w' F g n pl bl ol cl T base all l r v1 pv bv ov m cv :=
  ⟨h.rd.below hB, h.nm.below hB, h.box.below hB, h.res.below hB, h.ds.below hB, h.but.trans (G := fun _ => False) (But.below hB) (fun _ _ e => e.elim), h.fg, h.fn, Nat.le_trans h.low hB.size⟩
/-- one variable more -/
theorem BlkAt.decl {p : Option Addr} {cap : Nat} {d : PDecl} (h : BlkAt w0 w F g n pl bl ol cl T base all l r v1 pv bv ov m cv) (ho : OwnsP (declP w w0.heap.size) 2 36 w0.heap.size w' (.slice p (l.length + 1) cap) (l ++ [d])) (hg : w.grownBy w' v1.ownBlock) :
    BlkAt w0 (w'.setCell ⟨w0.heap.size + 1, 1, none⟩ (.slice p (l.length + 1) cap)) F g n pl bl ol cl T base all (l ++ [d]) r (.slice p (l.length + 1) cap) pv bv ov m cv := by
  have hu : ∀ i, v1.ownBlock = some i → ∃ cs, w.heap[i]? = some (.cells cs 36) := fun i hi => OwnsP.kind h.ds hi
  have hbx := h.box.grown hu hg (by decide)
  have hds : DeclsAt w' w0.heap.size (.slice p (l.length + 1) cap) (l ++ [d]) := OwnsP.imp ho (fun _ _ _ ⟨s, u, e, t, o⟩ => ⟨s, u, e, t, OwnsP.grown o hu hg (by decide)⟩)
  exact ⟨(h.rd.row hu hg (by decide) (by decide) (by decide)).put hbx.kind (by decide) (by decide) (by decide), OwnsP.set (OwnsP.grown h.nm hu hg (by decide)) hbx.kind (by decide), (hbx.set _).2.1, (Below.heap_setCell _ _ _ _ (by simp)).trans (h.res.grown hu hg (by decide)), hds.set hbx.kind (by decide) (by decide),
    (h.but.trans (G := fun i => v1.ownBlock = some i) (But.grown hg fun k e _ => e) (fun i hi e => absurd (OwnsP.lt h.ds i e).1 (by omega))).trans (G := fun i => i = w0.heap.size + 1) (But.set ⟨w0.heap.size + 1, 1, none⟩ _ fun _ => rfl) (fun i hi (e : i = w0.heap.size + 1) => by omega), h.fg, h.fn, by have := Nat.le_trans h.low hg.size; simp [World.setCell]; exact this⟩
/-- one name more -/
theorem BlkAt.name {p : Option Addr} {cap : Nat} {s : Txt} (h : BlkAt w0 w F g n pl bl ol cl T base all l r v1 pv bv ov m cv) (hn : OwnsP nameP 1 9 base w' (.slice p (r.vars.length + 1) cap) (r.vars ++ [s])) (hg : w.grownBy w' (Value.slice pv m cv).ownBlock) (hat : (Value.slice p (r.vars.length + 1) cap).ownBlock = (Value.slice pv m cv).ownBlock ∨ (Value.slice p (r.vars.length + 1) cap).ownBlock = some w.heap.size) :
    ∃ b, BlkAt w0 (w'.setCell ⟨g, 3, none⟩ (.slice p (r.vars.length + 1) cap)) F g n pl bl ol cl T base all l { r with vars := r.vars ++ [s] } v1 p b 0 (r.vars.length + 1) cap := by
  obtain ⟨b, hR, hN⟩ := h.rd.named h.nm hg hn
  have hu : ∀ i, (Value.slice pv m cv).ownBlock = some i → ∃ cs, w.heap[i]? = some (.cells cs 9) := fun i hi => OwnsP.kind h.nm hi
  have hty : ∃ cs, w'.heap[g]? = some (.cells cs 58) := by
    obtain ⟨cs, e⟩ := h.rd.ty
    exact ⟨cs, (hg.block g (Array.getElem?_eq_some_iff.1 e).1 (fun e' => kinds_apart ⟨cs, e⟩ (hu g e'.symm) (by decide) rfl)).trans e⟩
  have hb1 := h.box.grown hu hg (by decide)
  have hb2 := h.res.grown hu hg (by decide)
  refine ⟨b, hR, hN, (Below.heap_setCell _ _ _ _ (kinds_apart hb1.kind hty (by decide))).trans hb1, (Below.heap_setCell _ _ _ _ (kinds_apart hb2.kind hty (by decide))).trans hb2, (h.ds.grown hu hg (by decide) (by decide)).set hty (by decide) (by decide),
    (h.but.trans (G := fun i => (Value.slice pv m cv).ownBlock = some i) (But.grown hg fun k e _ => e) (fun i hi e => (h.fn i e).resolve_right (by omega))).trans (G := fun i => i = g) (But.set ⟨g, 3, none⟩ _ fun _ => rfl) (fun i hi (e : i = g) => e ▸ h.fg), h.fg, fun k e => ?_, by have := Nat.le_trans h.low hg.size; simp [World.setCell]; exact this⟩
  rcases hat with q | q
  · exact h.fn k (q ▸ e)
  · rw [q] at e
    cases e
    exact .inr h.but.size
/-- a block that is taken in -/
structure BlkEnd (w0 w : World) (F : Nat → Prop) (g n : Nat) (pl : Option Addr) (bl ol cl : Nat) (T : List Tok) (base : Nat) (l : List PDecl) (cs : List PCon) (r : Rd) (v1 v2 : Value) (pv : Option Addr) (bv ov m cv : Nat) : Prop where
  rd : RdAt w g n pl bl ol cl pv bv ov m cv T r
  nm : OwnsP nameP 1 9 base w (.slice pv m cv) r.vars
  res : ∃ c, w.heap[w0.heap.size]? = some (.cells c 39)
  ds : DeclsAt w w0.heap.size v1 l
  con : ConsAt w w0.heap.size v2 cs
  but : But F w0 w
  fn : ∀ k, (Value.slice pv m cv).ownBlock = some k → F k ∨ w0.heap.size ≤ k
theorem ConsAt.set {b j f : Nat} {x v : Value} {L : List PCon} (h : ConsAt w base v L) (hb : ∃ cs, w.heap[b]? = some (.cells cs f)) (h1 : 42 ≠ f) (h2 : 3 ≠ f) : ConsAt (w.setCell ⟨b, j, none⟩ x) base v L :=
  OwnsP.set (OwnsP.imp h (fun _ _ _ ⟨u1, u2, u3, e, o⟩ => ⟨u1, u2, u3, e, ⟨OwnsP.set o.o1 hb h2, OwnsP.set o.o2 hb h2, OwnsP.set o.o3 hb h2, o.p12, o.p13, o.p23⟩⟩)) hb h1
theorem BlkEnd.set {b j : Nat} {x : Value} (h : BlkEnd w0 w F g n pl bl ol cl T base l cs r v1 v2 pv bv ov m cv) (hb : ∃ c, w.heap[b]? = some (.cells c 39)) (hn : w0.heap.size ≤ b) : BlkEnd w0 (w.setCell ⟨b, j, none⟩ x) F g n pl bl ol cl T base l cs r v1 v2 pv bv ov m cv := by
  refine ⟨h.rd.put hb (by decide) (by decide) (by decide), OwnsP.set h.nm hb (by decide), ?_, h.ds.set hb (by decide) (by decide), h.con.set hb (by decide) (by decide), h.but.trans (G := fun i => i = b) (But.set ⟨b, j, none⟩ x fun _ => rfl) (fun i hi (e : i = b) => by omega), h.fn⟩
  obtain ⟨c, e⟩ := h.res
  by_cases hx : w0.heap.size = b
  · subst hx
    refine ⟨c.setIfInBounds j x, ?_⟩
    simp only [World.setCell, Array.getElem?_modify, e]
    rfl
  · exact ⟨c, (Below.heap_setCell w ⟨b, j, none⟩ x _ hx).trans e⟩
theorem BlkEnd.moved {r' : Rd} (h : BlkEnd w0 w F g n pl bl ol cl T base l cs r v1 v2 pv bv ov m cv) (hF : F g) (hR : RdAt w' g n pl bl ol cl pv bv ov m cv T r') (hM : Moves g none w w') : BlkEnd w0 w' F g n pl bl ol cl T base l cs r' v1 v2 pv bv ov m cv := by
  have hn := OwnsP.moved h.nm hM h.rd.ty (by decide)
  obtain ⟨c, e⟩ := h.res
  exact ⟨hR, by rw [names_same hR hn]; exact hn, ⟨c, (hM.block _ (Array.getElem?_eq_some_iff.1 e).1 (kinds_apart ⟨c, e⟩ h.rd.ty (by decide)) (by simp)).trans e⟩, h.ds.moved hM h.rd.ty, h.con.moved hM h.rd.ty, h.but.trans (G := fun i => i = g) (But.moves hM rfl) (fun _ _ e => e ▸ hF), h.fn⟩
/-- what is said of a block -/
def BlkPost (w : World) (F : Nat → Prop) (g n : Nat) (pl : Option Addr) (bl ol cl : Nat) (T : List Tok) (base : Nat) (q : PBlock × Rd) (e : Ending) (w' : World) : Prop :=
  ∃ (v1 v2 : Value) (pv : Option Addr) (bv ov m cv : Nat), e = .returned (.agg #[.bool q.1.all, v1, v2]) ∧ BlkEnd w w' F g n pl bl ol cl T base q.1.vars q.1.cons q.2 v1 v2 pv bv ov m cv
theorem blk_post (h : BlkEnd w0 w F g n pl bl ol cl T base l cs r v1 v2 pv bv ov m cv) {q : PBlock × Rd} (hq : q = (⟨all, l, cs⟩, r)) {x y z : Value} : BlkPost w0 F g n pl bl ol cl T base q (.returned (.agg #[.bool all, v1, v2])) (((w.setCell ⟨w0.heap.size, 0, none⟩ x).setCell ⟨w0.heap.size, 1, none⟩ y).setCell ⟨w0.heap.size, 2, none⟩ z) := by
  have h1 := h.set (j := 0) (x := x) h.res (Nat.le_refl _)
  have h2 := h1.set (j := 1) (x := y) h1.res (Nat.le_refl _)
  rw [hq]
  exact ⟨v1, v2, pv, bv, ov, m, cv, rfl, h2.set (j := 2) (x := z) h2.res (Nat.le_refl _)⟩
end
theorem results_block {fn : Func} {p : Tmp} (h : fn.results = #[.cell p 39]) (tmps : Array Value) (w : World) (b : Nat) (v0 v1 v2 : Value) (hp : tmps.getD p undef = .pointer (some ⟨b, 0, none⟩)) (c0 : w.cell? ⟨b, 0, none⟩ = some v0) (c1 : w.cell? ⟨b, 1, none⟩ = some v1) (c2 : w.cell? ⟨b, 2, none⟩ = some v2) :
    (results fn tmps).run Tryz.prog w = .ok (.agg #[v0, v1, v2]) w := by
  have hp' : tmps[p]?.getD undef = .pointer (some ⟨b, 0, none⟩) := by simpa using hp
  simp only [results, h]
  simp [hp', asAddr]
  go_simp
end Go.Proofs.YtfkakdpppejehaaGreat.Pa
namespace Go.Proofs.YtfkakdpppejehaaGreat.Pa
open Go.RowKit
open Sc (Tok Cells str noTok)
set_option maxRecDepth 100000

/-- whatever is told is such -/
def Gives {α : Type} (P : Rx α) (φ : α → Prop) : Prop := ∀ T r, (∀ t ∈ T, t.value ≤ 2000000000000) → φ (P T r).1
section
variable {α β : Type} {φ : α → Prop} {ψ : β → Prop}
theorem gives_ret {a : α} (h : φ a) : Gives (ret a) φ := fun _ _ _ => h
theorem gives_seq {m : Rx α} {f : α → Rx β} (hm : Gives m φ) (hf : ∀ a, φ a → Gives (f a) ψ) : Gives (seq m f) ψ := fun T r hv => hf _ (hm T r hv) T _ hv
theorem gives_true (m : Rx α) : Gives m fun _ => True := fun _ _ _ => trivial
theorem gives_if {c : Prop} [Decidable c] {A B : Rx α} (hA : Gives A φ) (hB : Gives B φ) : Gives (if c then A else B) φ := by split <;> assumption
end
def GoodC (c : PCon) : Prop := Fit c.kind ∧ Fit c.rel ∧ Fit c.const
theorem gives_number : Gives number Fit := fun T r hv => by
  have := number_few (r := r) hv
  unfold Fit
  omega
theorem gives_terms : ∀ (n : Nat) (s : Int) (c : PCon), GoodC c → Gives (terms n s c) GoodC
  | 0, _, _, h => gives_ret h
  | n + 1, _, _, h => gives_seq (gives_true _) fun _ _ => gives_seq (gives_true _) fun _ _ => gives_seq (gives_true _) fun _ _ => gives_seq (gives_true _) fun _ _ => gives_seq (gives_true _) fun _ _ => gives_seq (gives_true _) fun _ _ =>
    gives_if (gives_terms n _ _ h) (gives_ret h)
theorem gives_rel : Gives (look relF) fun i => ∀ k, i = some k → k < 6 := fun T r _ k hk => by
  simp only [look, relF] at hk
  split at hk
  · rename_i i e
    cases hk
    exact findF_lt e
  · cases hk
theorem gives_sum (K : Nat) (c : PCon) (h : GoodC c) : Gives (sumR K c) GoodC :=
  gives_seq (gives_true _) fun _ _ => gives_seq (gives_terms K _ c h) fun d hd => gives_seq gives_rel fun i hi => by
    cases i with
    | none => exact gives_ret hd
    | some k => exact gives_seq (φ := Fit) gives_number fun z hz => gives_ret ⟨hd.1, by have := hi k rfl; show Fit (k : Int); unfold Fit; omega, hz⟩
theorem gives_names : ∀ (n m : Nat) (more : Bool) (c : PCon), GoodC c → Gives (namesR n m more c) GoodC
  | 0, _, _, _, h => gives_ret h
  | n + 1, _, _, _, h => gives_seq (gives_true _) fun _ _ => gives_if (gives_seq (gives_true _) fun _ _ => gives_names n _ _ _ h) (gives_ret h)
theorem gives_nums : ∀ (n m : Nat) (c : PCon), GoodC c → Gives (numsR n m c) GoodC
  | 0, _, _, h => gives_ret h
  | n + 1, _, _, h => gives_seq (gives_true _) fun _ _ => gives_if (gives_seq (gives_true _) fun _ _ => gives_nums n _ _ h) (gives_ret h)
theorem gives_brackets (K m : Nat) (c : PCon) (h : GoodC c) : Gives (brackets K m c) GoodC := gives_seq (gives_true _) fun _ _ => gives_seq (gives_nums K m c h) fun _ hd => gives_seq (gives_true _) fun _ _ => gives_ret hd
theorem good_of (k : Nat) (h : k ≤ 6) : GoodC (conOf k) := by
  refine ⟨?_, ?_, ?_⟩ <;> simp only [conOf, Fit] <;> omega
theorem gives_con (K : Nat) : Gives (conR K) GoodC := gives_seq (gives_true _) fun _ _ =>
  gives_if (gives_seq (gives_true _) fun _ _ => gives_names _ _ _ _ (good_of 2 (by decide))) (gives_if (gives_seq (gives_true _) fun _ _ => gives_seq (gives_true _) fun _ _ => gives_sum _ _ (good_of 3 (by decide)))
    (gives_if (gives_seq (gives_true _) fun _ _ => gives_seq (gives_names _ _ _ _ (good_of 4 (by decide))) fun _ h => gives_brackets _ _ _ h) (gives_if (gives_seq (gives_true _) fun _ _ => gives_names _ _ _ _ (good_of 5 (by decide)))
      (gives_if (gives_seq (gives_true _) fun _ _ => gives_seq (gives_names _ _ _ _ (good_of 6 (by decide))) fun _ h => gives_brackets _ _ _ h) (gives_sum _ _ (good_of 1 (by decide)))))))
def GoodL (l : List PCon) : Prop := ∀ c ∈ l, GoodC c
theorem good_snoc {l : List PCon} {c : PCon} (h : GoodL l) (hc : GoodC c) : GoodL (l ++ [c]) := fun x hx => by
  rcases List.mem_append.1 hx with q | q
  · exact h x q
  · rw [List.mem_singleton.1 q]; exact hc
theorem gives_ands (K : Nat) : ∀ (n : Nat) (l : List PCon), GoodL l → Gives (andsR K n l) GoodL
  | 0, _, h => gives_ret h
  | n + 1, _, h => gives_seq (gives_true _) fun _ _ => gives_if (gives_seq (gives_con K) fun _ hc => gives_ands K n _ (good_snoc h hc)) (gives_ret h)
theorem gives_list (K : Nat) : Gives (listR K) GoodL := gives_seq (gives_true _) fun _ _ => gives_if (gives_ret fun c h => by cases h) (gives_seq (gives_con K) fun c hc => gives_ands K K _ fun x hx => by rw [List.mem_singleton.1 hx]; exact hc)
theorem gives_where (K : Nat) (b : Bool) : Gives (whereR K b) GoodL := gives_if (gives_list K) (gives_ret fun c h => by cases h)
theorem gives_block (K : Nat) : Gives (blockR K) fun b => GoodL b.cons := gives_seq (gives_true _) fun _ _ => gives_seq (gives_true _) fun _ _ => gives_seq (gives_true _) fun _ _ => gives_seq (gives_true _) fun _ _ => gives_seq (gives_where K _) fun _ h => gives_seq (gives_true _) fun _ _ => gives_ret h
theorem gives_blocks (K : Nat) : ∀ (n : Nat) (l : List PBlock), (∀ b ∈ l, GoodL b.cons) → Gives (blocksR K n l) fun l => ∀ b ∈ l, GoodL b.cons
  | 0, _, h => gives_ret h
  | n + 1, l, h => gives_seq (gives_block K) fun b hb => by
    have h2 : ∀ x ∈ l ++ [b], GoodL x.cons := fun x hx => by
      rcases List.mem_append.1 hx with q | q
      · exact h x q
      · rw [List.mem_singleton.1 q]; exact hb
    exact gives_seq (gives_true _) fun _ _ => gives_if (gives_blocks K n _ h2) (gives_ret h2)
theorem gives_body (K : Nat) : Gives (bodyR K) fun m => (∀ b ∈ m.blocks, GoodL b.cons) ∧ GoodL m.goal :=
  gives_seq (gives_seq (gives_blocks K K [] fun b h => by cases h) fun bs hb => gives_seq (gives_true _) fun _ _ => gives_seq (gives_list K) fun g hg => gives_ret (φ := fun m : PModel => (∀ b ∈ m.blocks, GoodL b.cons) ∧ GoodL m.goal) ⟨hb, hg⟩) fun _ h => gives_seq (gives_true _) fun _ _ => gives_ret h

/-- blocks in rows of their own -/
def blockP (w : World) (base : Nat) (cs : List Value) (b : PBlock) : Prop := ∃ v1 v2 : Value, cs = [.bool b.all, v1, v2] ∧ DeclsAt w base v1 b.vars ∧ ConsAt w base v2 b.cons
def BlocksAt (w : World) (base : Nat) (v : Value) (L : List PBlock) : Prop := OwnsP (blockP w base) 3 39 base w v L
section
variable {w w' : World} {base g f b j : Nat} {u v x : Value} {L : List PBlock} {M : List PCon} {D : List PDecl}
theorem ConsAt.grown (h : ConsAt w base v M) (hu : ∀ i, u.ownBlock = some i → ∃ cs, w.heap[i]? = some (.cells cs f)) (hg : w.grownBy w' u.ownBlock) (h1 : 42 ≠ f) (h2 : 3 ≠ f) : ConsAt w' base v M :=
  OwnsP.grown (OwnsP.imp h (fun _ _ _ ⟨u1, u2, u3, e, o⟩ => ⟨u1, u2, u3, e, ⟨OwnsP.grown o.o1 hu hg h2, OwnsP.grown o.o2 hu hg h2, OwnsP.grown o.o3 hu hg h2, o.p12, o.p13, o.p23⟩⟩)) hu hg h1
theorem DeclsAt.low {low : Nat} (h : DeclsAt w base v D) (hl : low ≤ base) : DeclsAt w low v D :=
  OwnsP.low (OwnsP.imp h (fun _ _ _ ⟨s, u, e, t, o⟩ => ⟨s, u, e, t, o.low hl⟩)) hl
theorem BlocksAt.moved (h : BlocksAt w base v L) (hM : Moves g none w w') (hg : ∃ cs, w.heap[g]? = some (.cells cs 58)) : BlocksAt w' base v L :=
  OwnsP.moved (OwnsP.imp h (fun _ _ _ ⟨v1, v2, e, d, c⟩ => ⟨v1, v2, e, d.moved hM hg, c.moved hM hg⟩)) hM hg (by decide)
theorem BlocksAt.below (h : BlocksAt w base v L) (hB : Below w.heap.size w w') : BlocksAt w' base v L :=
  OwnsP.below (OwnsP.imp h (fun _ _ _ ⟨v1, v2, e, d, c⟩ => ⟨v1, v2, e, d.below hB, c.below hB⟩)) hB
theorem BlocksAt.set (h : BlocksAt w base v L) (hb : ∃ cs, w.heap[b]? = some (.cells cs f)) (h1 : 39 ≠ f) (h2 : 36 ≠ f) (h3 : 33 ≠ f) (h4 : 42 ≠ f) (h5 : 3 ≠ f) : BlocksAt (w.setCell ⟨b, j, none⟩ x) base v L :=
  OwnsP.set (OwnsP.imp h (fun _ _ _ ⟨v1, v2, e, d, c⟩ => ⟨v1, v2, e, d.set hb h2 h3, c.set hb h4 h5⟩)) hb h1
theorem BlocksAt.grown (h : BlocksAt w base v L) (hu : ∀ i, u.ownBlock = some i → ∃ cs, w.heap[i]? = some (.cells cs f)) (hg : w.grownBy w' u.ownBlock) (h1 : 39 ≠ f) (h2 : 36 ≠ f) (h3 : 33 ≠ f) (h4 : 42 ≠ f) (h5 : 3 ≠ f) : BlocksAt w' base v L :=
  OwnsP.grown (OwnsP.imp h (fun _ _ _ ⟨v1, v2, e, d, c⟩ => ⟨v1, v2, e, d.grown hu hg h2 h3, c.grown hu hg h4 h5⟩)) hu hg h1
/- what is so in memory reads as a model's parts -/
theorem cons_read (h : ConsAt w base v M) (hG : GoodL M) : Slc rCon 6 w v M :=
  OwnsP.slc h fun _ c hc ⟨u1, u2, u3, e, o⟩ => ⟨u1, u2, u3, e, hG c hc, o.o1.slc fun _ _ _ h => h, o.o2.slc fun _ _ _ h => h, o.o3.slc fun _ _ _ h => h⟩
theorem decls_read (h : DeclsAt w base v D) : Slc rDecl 2 w v D :=
  OwnsP.slc h fun _ _ _ ⟨s, u, e, t, o⟩ => ⟨s, u, e, t, o.slc fun _ _ _ h => h⟩
theorem blocks_read (h : BlocksAt w base v L) (hG : ∀ b ∈ L, GoodL b.cons) : Slc rBlock 3 w v L :=
  OwnsP.slc h fun _ b hb ⟨v1, v2, e, d, c⟩ => ⟨v1, v2, e, decls_read d, cons_read c (hG b hb)⟩
end
end Go.Proofs.YtfkakdpppejehaaGreat.Pa
namespace Go.Proofs.YtfkakdpppejehaaGreat.Pa
open Go.RowKit
open Sc (Tok Cells str noTok OwnsT)
set_option maxRecDepth 100000

theorem rd_start {w : World} {base : Nat} {v : Value} {T : List Tok} (h : OwnsT 63 w base v T) (hf : T.length ≤ 100000) :
    ∃ (p : Option Addr) (bl c : Nat), v = .slice p T.length c ∧ RdAt (w.alloc (.cells #[v, .int .i64 0, .bool false, .slice none 0 0, .int .i64 (-1)] 58)) w.heap.size T.length p bl 0 c none 0 0 0 0 T start := by
  have hs := Sc.sees_of_owns h
  obtain ⟨W, hW⟩ : ∃ W, W = w.alloc (.cells #[v, .int .i64 0, .bool false, .slice none 0 0, .int .i64 (-1)] 58) := ⟨_, rfl⟩
  have hB : Below w.heap.size w W := by rw [hW]; exact (Below.refl _ w).alloc (Nat.le_refl _) _
  have hg : W.heap[w.heap.size]? = some (.cells #[v, .int .i64 0, .bool false, .slice none 0 0, .int .i64 (-1)] 58) := by rw [hW]; exact heap_alloc_new w _
  have cg : ∀ (j : Nat) (x : Value), #[v, .int .i64 0, .bool false, .slice none 0 0, .int .i64 (-1)][j]? = some x → W.cell? ⟨w.heap.size, j, none⟩ = some x := fun j x hx => by
    simp only [World.cell?, hg]
    exact hx
  have fg : ∀ j, W.frozen? ⟨w.heap.size, j, none⟩ = false := fun j => frozen_of_row W _ j _ 58 hg
  rw [← hW]
  rcases h.2 with ⟨rfl, h1⟩ | ⟨b, cap, cur, rfl, hb, hgb, hn, hc, hsz, ht⟩
  · refine ⟨none, 0, 0, by rw [h1], ?_⟩
    have h2 : T = [] := List.length_eq_zero_iff.1 h1
    subst h2
    exact ⟨cg 0 _ rfl, cg 1 _ rfl, cg 2 _ rfl, cg 3 _ rfl, cg 4 _ rfl, fg 1, fg 2, fg 3, fg 4, rfl, by simp, by simp [start], fun h => by simp at h, fun k hk => by simp at hk, fun h => by simp at h, ⟨rfl, fun h => by omega, fun k hk => by omega⟩, fun h => by omega, ⟨_, hg⟩, fun h => by omega, fun h => by simp at h⟩
  · obtain ⟨p', b', off', c', e, e2, e3⟩ := hs
    simp only [Value.slice.injEq] at e
    obtain ⟨rfl, _, rfl⟩ := e
    have hlt : b < w.heap.size := (Array.getElem?_eq_some_iff.1 hgb).1
    refine ⟨_, b, _, rfl, cg 0 _ rfl, cg 1 _ rfl, cg 2 _ rfl, cg 3 _ rfl, cg 4 _ rfl, fg 1, fg 2, fg 3, fg 4, rfl, hf, by simp [start], fun _ => rfl, ?_, fun _ e => by omega, ⟨rfl, fun h => by omega, fun k hk => by omega⟩, fun h => by omega, ⟨_, hg⟩, fun h => by omega, fun _ => ⟨_, (hB.block b hlt).trans hgb⟩⟩
    by_cases h0 : 0 < T.length
    · have := e2 h0
      simp only [Option.some.injEq, Addr.mk.injEq] at this
      obtain ⟨rfl, rfl, _⟩ := this
      exact Sc.cells_below e3 hB
    · exact fun k hk => by omega
theorem start_names (w : World) (base : Nat) : OwnsP nameP 1 9 base w (.slice none 0 0) start.vars := ownsP_nil _ _ _ _ _
end Go.Proofs.YtfkakdpppejehaaGreat.Pa
namespace Go.Proofs.YtfkakdpppejehaaGreat.Pp
open Go.RowKit
open Sc (Tok Cells str noTok)
open Pa
set_option maxRecDepth 100000

def endT (len : Nat) : Tok := ⟨0, [], 0, len⟩
/-- the token at a place, or the one behind the last one -/
def tokP (T : List Tok) (len k : Nat) : Tok := (T ++ [endT len]).getD k noTok
/-- with this a parser gives up -/
def gone (p : Nat) : Ending := .panicked [{ v := .iface 70 (.int .i64 (p : Int)), recovered := false }]
/-- a parser in memory: block g, of four cells -/
structure PAt (w : World) (g n bl ol cl base : Nat) (pv : Option Addr) (m cv : Nat) (T : List Tok) (len : Nat) (r : Rd) : Prop where
  c0 : w.cell? ⟨g, 0, none⟩ = some (.slice (some ⟨bl, ol, none⟩) (n + 1) cl)
  c1 : w.cell? ⟨g, 1, none⟩ = some (.int .i64 (r.at_ : Int))
  c2 : w.cell? ⟨g, 2, none⟩ = some (.slice pv m cv)
  c3 : w.cell? ⟨g, 3, none⟩ = some (.int .i64 (badI r.bad))
  f1 : w.frozen? ⟨g, 1, none⟩ = false
  f2 : w.frozen? ⟨g, 2, none⟩ = false
  f3 : w.frozen? ⟨g, 3, none⟩ = false
  ok : r.wrong = false
  long : n = T.length
  few : n ≤ 100000
  top : r.at_ ≤ n
  tk : Cells w bl ol (T ++ [endT len])
  nm : OwnsP nameP 1 9 base w (.slice pv m cv) r.vars
  ty : ∃ cs, w.heap[g]? = some (.cells cs 50)
  tt : ∃ cs, w.heap[bl]? = some (.cells cs 47)
section
variable {w w' : World} {g n bl ol cl base : Nat} {pv : Option Addr} {m cv : Nat} {T : List Tok} {len : Nat} {r : Rd}
theorem PAt.of_blocks (h : PAt w g n bl ol cl base pv m cv T len r) (hg : w'.heap[g]? = w.heap[g]?) (hl : w'.heap[bl]? = w.heap[bl]?) (hv : ∀ k, (Value.slice pv m cv).ownBlock = some k → w'.heap[k]? = w.heap[k]?) : PAt w' g n bl ol cl base pv m cv T len r := by
  have cg : ∀ (i : Nat) (x : Value), w.cell? ⟨g, i, none⟩ = some x → w'.cell? ⟨g, i, none⟩ = some x := fun i x hc => (World.cell?_of_block (w := w) (a := ⟨g, i, none⟩) hg).trans hc
  have fg : ∀ i : Nat, w.frozen? ⟨g, i, none⟩ = false → w'.frozen? ⟨g, i, none⟩ = false := fun i hc => (World.frozen?_of_block (w := w) (a := ⟨g, i, none⟩) hg).trans hc
  have cl' : ∀ (i : Nat) (x : Value), w.cell? ⟨bl, i, none⟩ = some x → w'.cell? ⟨bl, i, none⟩ = some x := fun i x hc => (World.cell?_of_block (w := w) (a := ⟨bl, i, none⟩) hl).trans hc
  refine ⟨cg _ _ h.c0, cg _ _ h.c1, cg _ _ h.c2, cg _ _ h.c3, fg _ h.f1, fg _ h.f2, fg _ h.f3, h.ok, h.long, h.few, h.top, fun k hk => ?_, h.nm.same hv, ?_, ?_⟩
  · obtain ⟨a, b, c, d⟩ := h.tk k hk
    exact ⟨cl' _ _ a, cl' _ _ b, cl' _ _ c, cl' _ _ d⟩
  · obtain ⟨cs, e⟩ := h.ty; exact ⟨cs, hg.trans e⟩
  · obtain ⟨cs, e⟩ := h.tt; exact ⟨cs, hl.trans e⟩
theorem PAt.drewN (h : PAt w g n bl ol cl base pv m cv T len r) (q : Nat) : PAt (w.drewN q) g n bl ol cl base pv m cv T len r := h.of_blocks rfl rfl fun _ _ => rfl
theorem PAt.below (h : PAt w g n bl ol cl base pv m cv T len r) (hB : Below w.heap.size w w') : PAt w' g n bl ol cl base pv m cv T len r :=
  h.of_blocks (hB.block g (Array.getElem?_eq_some_iff.1 h.ty.choose_spec).1) (hB.block bl (Array.getElem?_eq_some_iff.1 h.tt.choose_spec).1) fun k hk => hB.block k (h.nm.lt k hk).2
theorem PAt.gne (h : PAt w g n bl ol cl base pv m cv T len r) : bl ≠ g := kinds_apart h.tt h.ty (by decide)
theorem PAt.glt (h : PAt w g n bl ol cl base pv m cv T len r) : g < w.heap.size := (Array.getElem?_eq_some_iff.1 h.ty.choose_spec).1
theorem PAt.llt (h : PAt w g n bl ol cl base pv m cv T len r) : bl < w.heap.size := (Array.getElem?_eq_some_iff.1 h.tt.choose_spec).1
theorem tok_next (hl : n = T.length) (ht : r.at_ ≤ n) (hw : r.wrong = false) : kindO (next T r) = (tokP T len r.at_).kind ∧ textO (next T r) = (tokP T len r.at_).text ∧ valueO (next T r) = (tokP T len r.at_).value := by
  unfold tokP
  by_cases h : r.at_ < T.length
  · rw [next_in hw h]
    have e : (T ++ [endT len]).getD r.at_ noTok = T.getD r.at_ noTok := by
      simp only [List.getD]
      rw [List.getElem?_append_left h]
    rw [e]
    exact ⟨rfl, rfl, rfl⟩
  · rw [next_out (.inr (by omega))]
    have e : (T ++ [endT len]).getD r.at_ noTok = endT len := by
      obtain e0 : r.at_ = T.length := by omega
      simp only [List.getD]
      rw [List.getElem?_append_right (by omega), e0]
      simp
    rw [e]
    exact ⟨rfl, rfl, rfl⟩
theorem PAt.cells (h : PAt w g n bl ol cl base pv m cv T len r) : w.cell? ⟨bl, ol + r.at_ * 4, none⟩ = some (.int .i64 (kindO (next T r) : Nat)) ∧ w.cell? ⟨bl, ol + r.at_ * 4 + 1, none⟩ = some (str (textO (next T r))) ∧
    w.cell? ⟨bl, ol + r.at_ * 4 + 2, none⟩ = some (.int .i64 (valueO (next T r) : Nat)) ∧ w.cell? ⟨bl, ol + r.at_ * 4 + 3, none⟩ = some (.int .i64 ((tokP T len r.at_).at_ : Nat)) := by
  obtain ⟨e1, e2, e3⟩ := tok_next (len := len) h.long h.top h.ok
  rw [e1, e2, e3]
  have := h.top
  exact h.tk r.at_ (by rw [List.length_append, ← h.long]; simp; omega)
/-- the step of a parser that took a token -/
theorem PAt.step (h : PAt w g n bl ol cl base pv m cv T len r) (hk : r.at_ < n) : PAt (w.setCell ⟨g, 1, none⟩ (.int .i64 ((r.at_ : Int) + 1))) g n bl ol cl base pv m cv T len (step1 r) := by
  have hne := h.gne
  have c0 := h.c0
  have c1 := h.c1
  have c2 := h.c2
  have c3 := h.c3
  have f1 := h.f1
  have f2 := h.f2
  have f3 := h.f3
  refine ⟨by go_simp, by go_simp; simp [step1], by go_simp, by go_simp; simp [step1], by go_simp, by go_simp, by go_simp, h.ok, h.long, h.few, by show r.at_ + 1 ≤ n; omega, fun k hk => ?_, h.nm.same fun k hk => Below.heap_setCell w ⟨g, 1, none⟩ _ k (kinds_apart (h.nm.kind hk) h.ty (by decide)), ?_, ?_⟩
  · obtain ⟨a, b, c, d⟩ := h.tk k hk
    exact ⟨cell_off a hne, cell_off b hne, cell_off c hne, cell_off d hne⟩
  · obtain ⟨cs, e⟩ := h.ty
    refine ⟨cs.setIfInBounds 1 (.int .i64 ((r.at_ : Int) + 1)), ?_⟩
    simp only [World.setCell, Array.getElem?_modify, e]
    rfl
  · obtain ⟨cs, e⟩ := h.tt
    exact ⟨cs, (Below.heap_setCell w ⟨g, 1, none⟩ _ bl hne).trans e⟩
theorem PAt.setBad (h : PAt w g n bl ol cl base pv m cv T len r) (p : Nat) : PAt (w.setCell ⟨g, 3, none⟩ (.int .i64 (p : Int))) g n bl ol cl base pv m cv T len { r with bad := some p } := by
  have hne := h.gne
  have c0 := h.c0
  have c1 := h.c1
  have c2 := h.c2
  have c3 := h.c3
  have f1 := h.f1
  have f2 := h.f2
  have f3 := h.f3
  refine ⟨by go_simp, by go_simp, by go_simp, by go_simp; simp [badI], by go_simp, by go_simp, by go_simp, h.ok, h.long, h.few, h.top, fun k hk => ?_, h.nm.same fun k hk => Below.heap_setCell w ⟨g, 3, none⟩ _ k (kinds_apart (h.nm.kind hk) h.ty (by decide)), ?_, ?_⟩
  · obtain ⟨a, b, c, d⟩ := h.tk k hk
    exact ⟨cell_off a hne, cell_off b hne, cell_off c hne, cell_off d hne⟩
  · obtain ⟨cs, e⟩ := h.ty
    refine ⟨cs.setIfInBounds 3 (.int .i64 (p : Int)), ?_⟩
    simp only [World.setCell, Array.getElem?_modify, e]
    rfl
  · obtain ⟨cs, e⟩ := h.tt
    exact ⟨cs, (Below.heap_setCell w ⟨g, 3, none⟩ _ bl hne).trans e⟩
/-- a row of a kind that a parser does not hold grows -/
theorem PAt.row {v : Value} {f : Nat} (h : PAt w g n bl ol cl base pv m cv T len r) (hk : ∀ k, v.ownBlock = some k → ∃ cs, w.heap[k]? = some (.cells cs f)) (hg : w.grownBy w' v.ownBlock) (h1 : 50 ≠ f) (h2 : 47 ≠ f) (h3 : 9 ≠ f) : PAt w' g n bl ol cl base pv m cv T len r := by
  have hne : ∀ (k e : Nat), e ≠ f → (∃ cs, w.heap[k]? = some (.cells cs e)) → w'.heap[k]? = w.heap[k]? := fun k e he q => hg.block k (Array.getElem?_eq_some_iff.1 q.choose_spec).1 (fun e' => kinds_apart q (hk k e'.symm) he rfl)
  exact h.of_blocks (hne g 50 h1 h.ty) (hne bl 47 h2 h.tt) (fun k hk => hne k 9 h3 (h.nm.kind hk))
theorem PAt.put {b j f : Nat} {x : Value} (h : PAt w g n bl ol cl base pv m cv T len r) (hb : ∃ cs, w.heap[b]? = some (.cells cs f)) (h1 : 50 ≠ f) (h2 : 47 ≠ f) (h3 : 9 ≠ f) : PAt (w.setCell ⟨b, j, none⟩ x) g n bl ol cl base pv m cv T len r := by
  have hne : ∀ (k e : Nat), e ≠ f → (∃ cs, w.heap[k]? = some (.cells cs e)) → (w.setCell ⟨b, j, none⟩ x).heap[k]? = w.heap[k]? := fun k e he q => Below.heap_setCell w ⟨b, j, none⟩ x k (kinds_apart q hb he)
  exact h.of_blocks (hne g 50 h1 h.ty) (hne bl 47 h2 h.tt) (fun k hk => hne k 9 h3 (h.nm.kind hk))
/-- one name more -/
theorem PAt.named {p : Option Addr} {cap : Nat} {s : Txt} (h : PAt w g n bl ol cl base pv m cv T len r) (hg : w.grownBy w' (Value.slice pv m cv).ownBlock) (hn : OwnsP nameP 1 9 base w' (.slice p (r.vars.length + 1) cap) (r.vars ++ [s])) :
    PAt (w'.setCell ⟨g, 2, none⟩ (.slice p (r.vars.length + 1) cap)) g n bl ol cl base p (r.vars.length + 1) cap T len { r with vars := r.vars ++ [s] } := by
  have hne : ∀ (k e : Nat), e ≠ 9 → (∃ cs, w.heap[k]? = some (.cells cs e)) → w'.heap[k]? = w.heap[k]? := fun k e he q => hg.block k (Array.getElem?_eq_some_iff.1 q.choose_spec).1 (fun e' => kinds_apart q (h.nm.kind e'.symm) he rfl)
  have eg := hne g 50 (by decide) h.ty
  have el := hne bl 47 (by decide) h.tt
  have hty : ∃ cs, w'.heap[g]? = some (.cells cs 50) := by rw [eg]; exact h.ty
  have hgl := h.gne
  have cg : ∀ (i : Nat) (x : Value), w.cell? ⟨g, i, none⟩ = some x → w'.cell? ⟨g, i, none⟩ = some x := fun i x hc => (World.cell?_of_block (w := w) (a := ⟨g, i, none⟩) eg).trans hc
  have fg : ∀ i : Nat, w.frozen? ⟨g, i, none⟩ = false → w'.frozen? ⟨g, i, none⟩ = false := fun i hc => (World.frozen?_of_block (w := w) (a := ⟨g, i, none⟩) eg).trans hc
  have c0 := cg _ _ h.c0
  have c1 := cg _ _ h.c1
  have c2 := cg _ _ h.c2
  have c3 := cg _ _ h.c3
  have f1 := fg _ h.f1
  have f2 := fg _ h.f2
  have f3 := fg _ h.f3
  refine ⟨by go_simp, by go_simp, by go_simp, by go_simp, by go_simp, by go_simp, by go_simp, h.ok, h.long, h.few, h.top, fun k hk => ?_, OwnsP.set hn hty (by decide), ?_, ?_⟩
  · obtain ⟨a, b, c, d⟩ := h.tk k hk
    have cl' : ∀ (i : Nat) (x : Value), w.cell? ⟨bl, i, none⟩ = some x → w'.cell? ⟨bl, i, none⟩ = some x := fun i x hc => (World.cell?_of_block (w := w) (a := ⟨bl, i, none⟩) el).trans hc
    exact ⟨cell_off (cl' _ _ a) hgl, cell_off (cl' _ _ b) hgl, cell_off (cl' _ _ c) hgl, cell_off (cl' _ _ d) hgl⟩
  · obtain ⟨cs, e⟩ := hty
    refine ⟨cs.setIfInBounds 2 (.slice p (r.vars.length + 1) cap), ?_⟩
    simp only [World.setCell, Array.getElem?_modify, e]
    rfl
  · obtain ⟨cs, e⟩ := h.tt
    exact ⟨cs, ((Below.heap_setCell w' ⟨g, 2, none⟩ _ bl hgl).trans el).trans e⟩

set_option maxHeartbeats 1000000 in
theorem is_any (s : ByteArray) (h : PAt w g n bl ol cl base pv m cv T len r) :
    Calls Tryz.prog 66 #[.pointer (some ⟨g, 0, none⟩), .string s] w fun e w' => e = .returned (.bool (decide (textO (next T r) = txt s))) ∧ ∃ q, w' = w.drewN q := by
  have c0 := h.c0
  have c1 := h.c1
  obtain ⟨_, t1, _, _⟩ := h.cells
  have i1 : (r.at_ : Int) < ((n + 1 : Nat) : Int) := by have := h.top; omega
  obtain ⟨q, hq, hq2⟩ := str_open (textO (next T r))
  rw [hq] at t1
  have he := eql_txt q s
  rw [hq2] at he
  obtain ⟨b, hb⟩ : ∃ b, b = decide (textO (next T r) = txt s) := ⟨_, rfl⟩
  rw [← hb] at he ⊢
  obtain ⟨k, hk⟩ : ∃ k, k = r.at_ := ⟨_, rfl⟩
  rw [← hk] at c1 t1 i1
  obtain ⟨n1, hn1⟩ : ∃ n1, n1 = n + 1 := ⟨_, rfl⟩
  rw [← hn1] at c0 i1
  clear h hq hq2 hb hk hn1
  go_enter Tryz.func66, Tryz.ntmps66
  go_upto_region 1 with fail
  go_quiet (fail)
  go_wp2_with fail
  go_ret
  exact ⟨rfl, _, rfl⟩
end
end Go.Proofs.YtfkakdpppejehaaGreat.Pp
namespace Go.Proofs.YtfkakdpppejehaaGreat
open Go.RowKit
set_option maxRecDepth 100000

theorem slc_long {α : Type} {R : Reader α} {n : Nat} {w : World} {v : Value} {L : List α} (h : Slc R n w v L) : ∃ (p : Option Addr) (l c : Nat), v = .slice p l c ∧ l = L.length := by
  obtain ⟨p, b, off, c, len, h1, _, h2⟩ := h
  exact ⟨p, len, c, h1, h2.long⟩
def longC (c : PCon) : Bool := decide (150 < c.vars.length) || (decide (150 < c.coefs.length) || decide (150 < c.nums.length))
def consB (L : List PCon) : Bool := decide (30 < L.length) || L.any longC
theorem cons_short {L : List PCon} (h : consB L = false) : L.length ≤ 30 ∧ ∀ c ∈ L, Short 150 c := by
  simp only [consB, Bool.or_eq_false_iff, decide_eq_false_iff_not, List.any_eq_false] at h
  refine ⟨by omega, fun c hc => ?_⟩
  have := h.2 c hc
  simp [longC] at this
  unfold Short
  omega
theorem any_at {α : Type} (f : α → Bool) {L : List α} {k : Nat} {a : α} (h : L[k]? = some a) : (L.drop k).any f = (f a || (L.drop (k + 1)).any f) := by
  obtain ⟨h1, e1⟩ := List.getElem?_eq_some_iff.1 h
  rw [List.drop_eq_getElem_cons h1, List.any_cons, e1]
theorem any_end {α : Type} (f : α → Bool) {L : List α} {k : Nat} (h : L.length ≤ k) : (L.drop k).any f = false := by
  rw [List.drop_of_length_le h]
  rfl

def longD (d : PDecl) : Bool := decide (100 < d.name.length) || decide (150 < d.dom.length)
def longB (b : PBlock) : Bool := decide (30 < b.vars.length) || (consB b.cons || b.vars.any longD)
def largeB (m : PModel) : Bool := decide (30 < m.blocks.length) || (consB m.goal || m.blocks.any longB)
end Go.Proofs.YtfkakdpppejehaaGreat
