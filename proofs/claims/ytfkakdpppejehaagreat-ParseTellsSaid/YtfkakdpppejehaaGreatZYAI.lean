/-
  A constraint that a reader of tokens builds, in memory: a variable of six cells, its lists of numbers. Nothing of the program.
  A number behind a list that a reader of tokens builds, as one operation. Nothing of the program.
  How far a reader of tokens has come with a constraint: its own cells, the constraint's, and what else has turned. Nothing of the program.
-/
import Derived.Test.YtfkakdpppejehaaGreatZYAH
import Derived.Deep.AppendLies
namespace Go.Proofs.YtfkakdpppejehaaGreat.Pa
open Go.RowKit
open Sc (Tok Cells str noTok)
set_option maxRecDepth 100000

def numP (cs : List Value) (z : Int) : Prop := cs = [.int .i64 z] ∧ Fit z
/-- of what was there nothing turns but blocks of F -/
structure But (F : Nat → Prop) (w w' : World) : Prop where
  os : w'.os = w.os
  tape : w'.tape = w.tape
  output : w'.output = w.output
  size : w.heap.size ≤ w'.heap.size
  block : ∀ k, k < w.heap.size → ¬ F k → w'.heap[k]? = w.heap[k]?
theorem But.refl (F : Nat → Prop) (w : World) : But F w w := ⟨rfl, rfl, rfl, Nat.le_refl _, fun _ _ _ => rfl⟩
theorem But.trans {F G : Nat → Prop} {w w' w'' : World} (h : But F w w') (k : But G w' w'') (hG : ∀ i, i < w.heap.size → G i → F i) : But F w w'' :=
  ⟨k.os.trans h.os, k.tape.trans h.tape, k.output.trans h.output, Nat.le_trans h.size k.size, fun i hi hF => (k.block i (Nat.lt_of_lt_of_le hi h.size) fun g => hF (hG i hi g)).trans (h.block i hi hF)⟩
theorem But.moves {F : Nat → Prop} {g : Nat} {w w' : World} (h : Moves g none w w') (hg : F g) : But F w w' := ⟨h.os, h.tape, h.output, h.size, fun k hk hF => h.block k hk (fun e => hF (e ▸ hg)) (by simp)⟩
theorem But.below {F : Nat → Prop} {w w' : World} (h : Below w.heap.size w w') : But F w w' := ⟨h.os, h.tape, h.output, h.size, fun k hk _ => h.block k hk⟩
theorem But.grown {F : Nat → Prop} {w w' : World} {row : Option Nat} (h : w.grownBy w' row) (hr : ∀ k, row = some k → k < w.heap.size → F k) : But F w w' := ⟨h.os, h.tape, h.output, h.size, fun k hk hF => h.block k hk (fun e => hF (hr k e.symm hk))⟩
theorem But.set {F : Nat → Prop} {w : World} (p : Addr) (x : Value) (hp : p.block < w.heap.size → F p.block) : But F w (w.setCell p x) :=
  ⟨rfl, rfl, rfl, by simp [World.setCell], fun k hk hF => Below.heap_setCell w p x k (fun e => hF (e ▸ hp (e ▸ hk)))⟩

/-- the lists of a constraint, each in a block of its own -/
structure Own3 (w : World) (base : Nat) (c : PCon) (v1 v2 v3 : Value) : Prop where
  o1 : OwnsP numP 1 3 base w v1 c.vars
  o2 : OwnsP numP 1 3 base w v2 c.coefs
  o3 : OwnsP numP 1 3 base w v3 c.nums
  p12 : ∀ k, v1.ownBlock = some k → v2.ownBlock ≠ some k
  p13 : ∀ k, v1.ownBlock = some k → v3.ownBlock ≠ some k
  p23 : ∀ k, v2.ownBlock = some k → v3.ownBlock ≠ some k
theorem own3_nil (w : World) (base : Nat) (k : Int) : Own3 w base (conOf k) (.slice none 0 0) (.slice none 0 0) (.slice none 0 0) :=
  ⟨ownsP_nil _ _ _ _ _, ownsP_nil _ _ _ _ _, ownsP_nil _ _ _ _ _, fun k h => by simp [Value.ownBlock] at h, fun k h => by simp [Value.ownBlock] at h, fun k h => by simp [Value.ownBlock] at h⟩
section
variable {w w' : World} {base : Nat} {c : PCon} {v1 v2 v3 : Value}
theorem Own3.same (h : Own3 w base c v1 v2 v3) (hk : ∀ k : Nat, (∃ cs, w.heap[k]? = some (Obj.cells cs 3 (0, 0))) → w'.heap[k]? = w.heap[k]?) : Own3 w' base c v1 v2 v3 :=
  ⟨h.o1.same fun k e => hk k (h.o1.kind e), h.o2.same fun k e => hk k (h.o2.kind e), h.o3.same fun k e => hk k (h.o3.kind e), h.p12, h.p13, h.p23⟩
theorem Own3.low {low : Nat} (h : Own3 w base c v1 v2 v3) (hl : low ≤ base) : Own3 w low c v1 v2 v3 := ⟨h.o1.low hl, h.o2.low hl, h.o3.low hl, h.p12, h.p13, h.p23⟩
theorem Own3.moved {g : Nat} (h : Own3 w base c v1 v2 v3) (hM : Moves g none w w') (hg : ∃ cs, w.heap[g]? = some (.cells cs 58)) : Own3 w' base c v1 v2 v3 :=
  h.same fun k ⟨cs, e⟩ => hM.block k (Array.getElem?_eq_some_iff.1 e).1 (fun ek => by
    obtain ⟨cs', e'⟩ := hg
    rw [ek, e'] at e
    simp at e) (by simp)
theorem Own3.set {b j : Nat} {x : Value} (h : Own3 w base c v1 v2 v3) (hb : ∃ cs, w.heap[b]? = some (.cells cs 42)) : Own3 (w.setCell ⟨b, j, none⟩ x) base c v1 v2 v3 :=
  h.same fun k ⟨cs, e⟩ => Below.heap_setCell w ⟨b, j, none⟩ x k (fun ek => by
    obtain ⟨cs', e'⟩ := hb
    simp only at ek
    rw [ek, e'] at e
    simp at e)
theorem Own3.below (h : Own3 w base c v1 v2 v3) (hB : Below w.heap.size w w') : Own3 w' base c v1 v2 v3 :=
  h.same fun k ⟨_, e⟩ => hB.block k (Array.getElem?_eq_some_iff.1 e).1
/-- a new row, where a row was, or behind all -/
theorem row_new {v v' u : Value} {M : List Int} (hu : OwnsP numP 1 3 base w u M) (hp : ∀ k, v.ownBlock = some k → u.ownBlock ≠ some k) (hat : v'.ownBlock = v.ownBlock ∨ v'.ownBlock = some w.heap.size) : ∀ k, v'.ownBlock = some k → u.ownBlock ≠ some k := fun k e hk => by
  rcases hat with q | q
  · exact hp k (q ▸ e) hk
  · rw [q] at e
    cases e
    have := (hu.lt _ hk).2
    omega
theorem row_kept {v u : Value} {M : List Int} (hu : OwnsP numP 1 3 base w u M) (hp : ∀ k, v.ownBlock = some k → u.ownBlock ≠ some k) (hg : w.grownBy w' v.ownBlock) : OwnsP numP 1 3 base w' u M :=
  hu.same fun k hk => hg.block k (hu.lt k hk).2 (fun e => hp k e.symm hk)
theorem Own3.vars {v' : Value} {z : Int} (h : Own3 w base c v1 v2 v3) (ho : OwnsP numP 1 3 base w' v' (c.vars ++ [z])) (hg : w.grownBy w' v1.ownBlock) (hat : v'.ownBlock = v1.ownBlock ∨ v'.ownBlock = some w.heap.size) : Own3 w' base { c with vars := c.vars ++ [z] } v' v2 v3 :=
  ⟨ho, row_kept h.o2 h.p12 hg, row_kept h.o3 h.p13 hg, row_new h.o2 h.p12 hat, row_new h.o3 h.p13 hat, h.p23⟩
theorem Own3.coefs {v' : Value} {z : Int} (h : Own3 w base c v1 v2 v3) (ho : OwnsP numP 1 3 base w' v' (c.coefs ++ [z])) (hg : w.grownBy w' v2.ownBlock) (hat : v'.ownBlock = v2.ownBlock ∨ v'.ownBlock = some w.heap.size) : Own3 w' base { c with coefs := c.coefs ++ [z] } v1 v' v3 :=
  ⟨row_kept h.o1 (fun k e q => h.p12 k q e) hg, ho, row_kept h.o3 h.p23 hg, fun k e q => row_new h.o1 (fun k e q => h.p12 k q e) hat k q e, h.p13, row_new h.o3 h.p23 hat⟩
theorem Own3.nums {v' : Value} {z : Int} (h : Own3 w base c v1 v2 v3) (ho : OwnsP numP 1 3 base w' v' (c.nums ++ [z])) (hg : w.grownBy w' v3.ownBlock) (hat : v'.ownBlock = v3.ownBlock ∨ v'.ownBlock = some w.heap.size) : Own3 w' base { c with nums := c.nums ++ [z] } v1 v2 v' :=
  ⟨row_kept h.o1 (fun k e q => h.p13 k q e) hg, row_kept h.o2 (fun k e q => h.p23 k q e) hg, ho, h.p12, fun k e q => row_new h.o1 (fun k e q => h.p13 k q e) hat k q e, fun k e q => row_new h.o2 (fun k e q => h.p23 k q e) hat k q e⟩
end
/-- a variable of a constraint -/
def Box6 (w : World) (b : Nat) (k : Int) (v1 v2 : Value) (r t : Int) (v3 : Value) : Prop := w.heap[b]? = some (.cells #[.int .i64 k, v1, v2, .int .i64 r, .int .i64 t, v3] 42)
section
variable {w w' : World} {b : Nat} {k r t : Int} {v1 v2 v3 : Value}
theorem Box6.new (w : World) (k : Int) (v1 v2 : Value) (r t : Int) (v3 : Value) : Box6 (w.alloc (.cells #[.int .i64 k, v1, v2, .int .i64 r, .int .i64 t, v3] 42)) w.heap.size k v1 v2 r t v3 := heap_alloc_new w _
theorem Box6.lt (h : Box6 w b k v1 v2 r t v3) : b < w.heap.size := (Array.getElem?_eq_some_iff.1 h).1
theorem Box6.kind (h : Box6 w b k v1 v2 r t v3) : ∃ cs, w.heap[b]? = some (.cells cs 42) := ⟨_, h⟩
theorem Box6.cell (h : Box6 w b k v1 v2 r t v3) (j : Nat) {x : Value} (hx : #[.int .i64 k, v1, v2, .int .i64 r, .int .i64 t, v3][j]? = some x) : w.cell? ⟨b, j, none⟩ = some x := by
  rw [cell_of_row w b j _ 42 (0, 0) h, hx]
theorem Box6.frozen (h : Box6 w b k v1 v2 r t v3) (j : Nat) : w.frozen? ⟨b, j, none⟩ = false := frozen_of_row w b j _ 42 h
theorem Box6.same (h : Box6 w b k v1 v2 r t v3) (e : w'.heap[b]? = w.heap[b]?) : Box6 w' b k v1 v2 r t v3 := e.trans h
theorem Box6.below (h : Box6 w b k v1 v2 r t v3) (hB : Below w.heap.size w w') : Box6 w' b k v1 v2 r t v3 := h.same (hB.block b h.lt)
theorem Box6.moved {g : Nat} (h : Box6 w b k v1 v2 r t v3) (hM : Moves g none w w') (hg : ∃ cs, w.heap[g]? = some (.cells cs 58)) : Box6 w' b k v1 v2 r t v3 :=
  h.same (hM.block b h.lt (fun e => by
    obtain ⟨cs, q⟩ := hg
    unfold Box6 at h
    rw [e, q] at h
    simp at h) (by simp))
theorem Box6.grown {v : Value} {base : Nat} {L : List Int} (h : Box6 w b k v1 v2 r t v3) (hv : OwnsP numP 1 3 base w v L) (hg : w.grownBy w' v.ownBlock) : Box6 w' b k v1 v2 r t v3 :=
  h.same (hg.block b h.lt (fun e => by
    obtain ⟨cs, q⟩ := hv.kind e.symm
    unfold Box6 at h
    rw [q] at h
    simp at h))
theorem Box6.set_at (h : Box6 w b k v1 v2 r t v3) (j : Nat) (x : Value) : (w.setCell ⟨b, j, none⟩ x).heap[b]? = some (.cells (#[.int .i64 k, v1, v2, .int .i64 r, .int .i64 t, v3].setIfInBounds j x) 42) := by
  unfold Box6 at h
  simp only [World.setCell, Array.getElem?_modify, h]
  rfl
theorem Box6.set0 (h : Box6 w b k v1 v2 r t v3) (x : Int) : Box6 (w.setCell ⟨b, 0, none⟩ (.int .i64 x)) b x v1 v2 r t v3 := h.set_at 0 _
theorem Box6.set1 (h : Box6 w b k v1 v2 r t v3) (x : Value) : Box6 (w.setCell ⟨b, 1, none⟩ x) b k x v2 r t v3 := h.set_at 1 _
theorem Box6.set2 (h : Box6 w b k v1 v2 r t v3) (x : Value) : Box6 (w.setCell ⟨b, 2, none⟩ x) b k v1 x r t v3 := h.set_at 2 _
theorem Box6.set3 (h : Box6 w b k v1 v2 r t v3) (x : Int) : Box6 (w.setCell ⟨b, 3, none⟩ (.int .i64 x)) b k v1 v2 x t v3 := h.set_at 3 _
theorem Box6.set4 (h : Box6 w b k v1 v2 r t v3) (x : Int) : Box6 (w.setCell ⟨b, 4, none⟩ (.int .i64 x)) b k v1 v2 r x v3 := h.set_at 4 _
theorem Box6.set5 (h : Box6 w b k v1 v2 r t v3) (x : Value) : Box6 (w.setCell ⟨b, 5, none⟩ x) b k v1 v2 r t x := h.set_at 5 _
end
section
variable {w w' : World} {g n : Nat} {pl : Option Addr} {bl ol cl : Nat} {pv : Option Addr} {bv ov m cv : Nat} {T : List Tok} {r : Rd}
/-- the reader stays where a row of numbers grows -/
theorem RdAt.grown {v : Value} {base : Nat} {L : List Int} (h : RdAt w g n pl bl ol cl pv bv ov m cv T r) (hv : OwnsP numP 1 3 base w v L) (hg : w.grownBy w' v.ownBlock) : RdAt w' g n pl bl ol cl pv bv ov m cv T r := by
  have hne : ∀ (k e : Nat), e ≠ 3 → (∃ cs, w.heap[k]? = some (.cells cs e)) → w'.heap[k]? = w.heap[k]? := fun k e he ⟨cs, q⟩ => hg.block k (Array.getElem?_eq_some_iff.1 q).1 (fun e' => by
    obtain ⟨cs', q'⟩ := hv.kind e'.symm
    rw [q] at q'
    simp at q'
    exact he q'.2)
  exact h.of_blocks (hne g 58 (by decide) h.ty) (fun h0 => hne bl 63 (by decide) (h.tt h0)) (fun h0 => hne bv 9 (by decide) (h.nt h0))
/-- and where a variable of a constraint is stored into -/
theorem RdAt.stored {b j : Nat} {x : Value} (h : RdAt w g n pl bl ol cl pv bv ov m cv T r) (hb : ∃ cs, w.heap[b]? = some (.cells cs 42)) : RdAt (w.setCell ⟨b, j, none⟩ x) g n pl bl ol cl pv bv ov m cv T r := by
  have hne : ∀ (k e : Nat), e ≠ 42 → (∃ cs, w.heap[k]? = some (.cells cs e)) → (w.setCell ⟨b, j, none⟩ x).heap[k]? = w.heap[k]? := fun k e he ⟨cs, q⟩ => Below.heap_setCell w ⟨b, j, none⟩ x k (fun e' => by
    obtain ⟨cs', q'⟩ := hb
    simp only at e'
    rw [e', q'] at q
    simp at q
    exact he q.2.symm)
  exact h.of_blocks (hne g 58 (by decide) h.ty) (fun h0 => hne bl 63 (by decide) (h.tt h0)) (fun h0 => hne bv 9 (by decide) (h.nt h0))
end
theorem info3 : (Tryz.prog.info? 3).map (fun i => (i.zero, i.size, i.bytes)) = some (some (.int .i64 0), 1, 8) := by kernel_rfl
end Go.Proofs.YtfkakdpppejehaaGreat.Pa
namespace Go.Proofs.YtfkakdpppejehaaGreat.Pa
open Go.RowKit
open Sc (Tok Cells str noTok)
set_option maxRecDepth 100000

theorem ownsP_snoc {α : Type} {R : List Value → α → Prop} {n : Nat} {e : TypeId} {base : Nat} {w' : World} {v' : Value} {L : List α} {y : α} {os cs : List Value} (o2 : os.length = L.length * n)
    (o3 : ∀ (k : Nat) (a : α), L[k]? = some a → ∃ c : List Value, c.length = n ∧ (∀ j, j < n → os[k * n + j]? = c[j]?) ∧ R c a) (hlen : cs.length = n) (hR : R cs y) (g1 : w'.ownsRow base e n v' (L.length + 1) (os ++ cs)) : OwnsP R n e base w' v' (L ++ [y]) := by
  refine ⟨os ++ cs, ?_, ?_, fun k b' hk => ?_⟩
  · rw [List.length_append]
    exact g1
  · rw [List.length_append, List.length_append, o2, hlen, Nat.add_mul]
    simp
  · by_cases hlt : k < L.length
    · rw [List.getElem?_append_left hlt] at hk
      obtain ⟨d, d1, d2, d3⟩ := o3 k b' hk
      refine ⟨d, d1, fun j hj => ?_, d3⟩
      have hl : k * n + j < os.length := by
        rw [o2]
        have := Nat.mul_le_mul_right n (Nat.succ_le_of_lt hlt)
        rw [Nat.succ_mul] at this
        omega
      rw [List.getElem?_append_left hl, d2 j hj]
    · rw [List.getElem?_append_right (by omega)] at hk
      have hk1 := (List.getElem?_eq_some_iff.1 hk).1
      obtain rfl : k = L.length := by simp at hk1; omega
      rw [Nat.sub_self] at hk
      obtain rfl : y = b' := by simpa using hk
      refine ⟨cs, hlen, fun j hj => ?_, hR⟩
      rw [List.getElem?_append_right (by rw [o2]; omega), o2, Nat.add_sub_cancel_left]
section
variable {w : World} {ops : Array Oper} {rest : List Oper} {o : Oper} {a : Act} {Q : Exit → Act → World → Prop} {base b c H : Nat} {v : Value} {L : List Int} {z : Int}
/-- what is known behind it -/
structure PutN (w w' : World) (base H : Nat) (v v' : Value) (L : List Int) (z : Int) : Prop where
  own : OwnsP numP 1 3 base w' v' (L ++ [z])
  grown : w.grownBy w' v.ownBlock
  at_ : v'.ownBlock = v.ownBlock ∨ v'.ownBlock = some H
theorem put_list (hgd : o.guard = none) (s x : Operand) (ho : o.op = .call { callee := .builtin .append, args := #[s, x], argTypes := #[40, 40] }) (hs : a.eval s = v) (hx : a.eval x = .slice (some ⟨b, 0, none⟩) 1 c) (hown : OwnsP numP 1 3 base w v L)
    (hc : w.cell? ⟨b, 0, none⟩ = some (.int .i64 z)) (hz : Fit z) (hsm : L.length ≤ 100000) (hbase : base ≤ w.heap.size) (hH : w.heap.size = H)
    (h : ∀ p cap w', PutN w w' base H v (.slice p (L.length + 1) cap) L z → wpList Tryz.prog ops Q rest (a.put o.dst (.slice p (L.length + 1) cap)) w') : wpList Tryz.prog ops Q (o :: rest) a w := by
  obtain ⟨i0, hi, hz0, hz1, hz2⟩ := info_parts info3
  obtain ⟨os, o1, o2, o3⟩ := hown
  refine wpList_append_lies w hgd s x 40 ho base 3 i0 (.int .i64 0) 1 8 Tryz.underlying40 hi hz0 hz1 hz2 rfl (by decide) v L.length os hs o1 ⟨b, 0, none⟩ 1 c [.int .i64 z] hx (by simp) (fun j u hj => ?_) (by simp [Value.oneCell']) (by decide) (by unfold maxLen; omega) (by omega) hbase H hH (fun g cap w' g1 g2 g3 _ => h _ cap w' ⟨ownsP_snoc o2 o3 rfl ⟨rfl, hz⟩ g1, g2, ?_⟩)
  · have hj0 : j = 0 := by
      have := (List.getElem?_eq_some_iff.1 hj).1
      simp at this
      omega
    subst hj0
    simp at hj
    subst hj
    rw [add_plain']
    exact hc
  · rcases g3 with q | q
    · exact .inl q.symm
    · exact .inr (by rw [← q]; rfl)
theorem put_step {K : Act → World → Prop} {E : Prop} (hgd : o.guard = none) (s x : Operand) (ho : o.op = .call { callee := .builtin .append, args := #[s, x], argTypes := #[40, 40] }) (hs : a.eval s = v) (hx : a.eval x = .slice (some ⟨b, 0, none⟩) 1 c) (hown : OwnsP numP 1 3 base w v L)
    (hc : w.cell? ⟨b, 0, none⟩ = some (.int .i64 z)) (hz : Fit z) (hsm : L.length ≤ 100000) (hbase : base ≤ w.heap.size) (hH : w.heap.size = H)
    (h : ∀ p cap w', PutN w w' base H v (.slice p (L.length + 1) cap) L z → K (a.put o.dst (.slice p (L.length + 1) cap)) w') : if Region.wanted o (yielded ops a.tmps) = true then Oper.wp Tryz.prog o a w K Q else E := by
  obtain ⟨i0, hi, hz0, hz1, hz2⟩ := info_parts info3
  obtain ⟨os, o1, o2, o3⟩ := hown
  refine step_append_lies w hgd s x 40 ho base 3 i0 (.int .i64 0) 1 8 Tryz.underlying40 hi hz0 hz1 hz2 rfl (by decide) v L.length os hs o1 ⟨b, 0, none⟩ 1 c [.int .i64 z] hx (by simp) (fun j u hj => ?_) (by simp [Value.oneCell']) (by decide) (by unfold maxLen; omega) (by omega) hbase H hH (fun g cap w' g1 g2 g3 _ => h _ cap w' ⟨ownsP_snoc o2 o3 rfl ⟨rfl, hz⟩ g1, g2, ?_⟩)
  · have hj0 : j = 0 := by
      have := (List.getElem?_eq_some_iff.1 hj).1
      simp at this
      omega
    subst hj0
    simp at hj
    subst hj
    rw [add_plain']
    exact hc
  · rcases g3 with q | q
    · exact .inl q.symm
    · exact .inr (by rw [← q]; rfl)
end
end Go.Proofs.YtfkakdpppejehaaGreat.Pa
namespace Go.Proofs.YtfkakdpppejehaaGreat.Pa
open Go.RowKit
open Sc (Tok Cells str noTok)
set_option maxRecDepth 100000

structure At (w0 w : World) (F : Nat → Prop) (g n : Nat) (pl : Option Addr) (bl ol cl : Nat) (pv : Option Addr) (bv ov m cv : Nat) (T : List Tok) (B base : Nat) (c : PCon) (r : Rd) (u1 u2 u3 : Value) : Prop where
  rd : RdAt w g n pl bl ol cl pv bv ov m cv T r
  own : Own3 w base c u1 u2 u3
  box : Box6 w B c.kind u1 u2 c.rel c.const u3
  but : But F w0 w
  fg : F g
  f1 : ∀ k, u1.ownBlock = some k → F k ∨ w0.heap.size ≤ k
  f2 : ∀ k, u2.ownBlock = some k → F k ∨ w0.heap.size ≤ k
  f3 : ∀ k, u3.ownBlock = some k → F k ∨ w0.heap.size ≤ k
  new : w0.heap.size ≤ B
  low : base ≤ w.heap.size
section
variable {w0 w : World} {F : Nat → Prop} {g n : Nat} {pl : Option Addr} {bl ol cl : Nat} {pv : Option Addr} {bv ov m cv : Nat} {T : List Tok} {B base : Nat} {c : PCon} {r : Rd} {u1 u2 u3 : Value}
theorem At.moved {w' : World} {r' : Rd} (h : At w0 w F g n pl bl ol cl pv bv ov m cv T B base c r u1 u2 u3) (hR : RdAt w' g n pl bl ol cl pv bv ov m cv T r') (hM : Moves g none w w') : At w0 w' F g n pl bl ol cl pv bv ov m cv T B base c r' u1 u2 u3 :=
  ⟨hR, h.own.moved hM h.rd.ty, h.box.moved hM h.rd.ty, h.but.trans (G := fun i => i = g) (But.moves hM rfl) (fun _ _ e => e ▸ h.fg), h.fg, h.f1, h.f2, h.f3, h.new, Nat.le_trans h.low hM.size⟩
theorem At.below {w' : World} (h : At w0 w F g n pl bl ol cl pv bv ov m cv T B base c r u1 u2 u3) (hB : Below w.heap.size w w') : At w0 w' F g n pl bl ol cl pv bv ov m cv T B base c r u1 u2 u3 :=
  ⟨h.rd.below hB, h.own.below hB, h.box.below hB, h.but.trans (G := fun _ => False) (But.below hB) (fun _ _ e => e.elim), h.fg, h.f1, h.f2, h.f3, h.new, Nat.le_trans h.low hB.size⟩
theorem At.store {j : Nat} {x : Value} (h : At w0 w F g n pl bl ol cl pv bv ov m cv T B base c r u1 u2 u3) : RdAt (w.setCell ⟨B, j, none⟩ x) g n pl bl ol cl pv bv ov m cv T r ∧ Own3 (w.setCell ⟨B, j, none⟩ x) base c u1 u2 u3 ∧ But F w0 (w.setCell ⟨B, j, none⟩ x) ∧ base ≤ (w.setCell ⟨B, j, none⟩ x).heap.size :=
  ⟨h.rd.stored h.box.kind, h.own.set h.box.kind, h.but.trans (G := fun i => i = B) (But.set ⟨B, j, none⟩ x fun _ => rfl) (fun i hi (e : i = B) => by have := h.new; omega), by have := h.low; simp [World.setCell]; exact this⟩
/-- a row grows -/
theorem At.grown {w' : World} {v v' : Value} {L : List Int} {z : Int} (h : At w0 w F g n pl bl ol cl pv bv ov m cv T B base c r u1 u2 u3) (hv : OwnsP numP 1 3 base w v L) (hf : ∀ k, v.ownBlock = some k → F k ∨ w0.heap.size ≤ k) (P : PutN w w' base w.heap.size v v' L z) :
    RdAt w' g n pl bl ol cl pv bv ov m cv T r ∧ Box6 w' B c.kind u1 u2 c.rel c.const u3 ∧ But F w0 w' ∧ base ≤ w'.heap.size ∧ (∀ k, v'.ownBlock = some k → F k ∨ w0.heap.size ≤ k) :=
  ⟨h.rd.grown hv P.grown, h.box.grown hv P.grown, h.but.trans (G := fun i => v.ownBlock = some i) (But.grown P.grown fun k e _ => e) (fun i hi e => (hf i e).resolve_right (by omega)), Nat.le_trans h.low P.grown.size, fun k e => by
    rcases P.at_ with q | q
    · exact hf k (q ▸ e)
    · rw [q] at e
      cases e
      exact .inr h.but.size⟩
theorem At.setCoefs {w' : World} {v' : Value} {z : Int} (h : At w0 w F g n pl bl ol cl pv bv ov m cv T B base c r u1 u2 u3) (P : PutN w w' base w.heap.size u2 v' c.coefs z) : At w0 (w'.setCell ⟨B, 2, none⟩ v') F g n pl bl ol cl pv bv ov m cv T B base { c with coefs := c.coefs ++ [z] } r u1 v' u3 := by
  obtain ⟨a1, a2, a3, a4, a5⟩ := h.grown h.own.o2 h.f2 P
  have ho := h.own.coefs P.own P.grown P.at_
  exact ⟨a1.stored a2.kind, ho.set a2.kind, a2.set2 v', a3.trans (G := fun i => i = B) (But.set ⟨B, 2, none⟩ v' fun _ => rfl) (fun i hi e => by have := h.new; omega), h.fg, h.f1, a5, h.f3, h.new, by simp [World.setCell]; exact a4⟩
theorem At.setVars {w' : World} {v' : Value} {z : Int} (h : At w0 w F g n pl bl ol cl pv bv ov m cv T B base c r u1 u2 u3) (P : PutN w w' base w.heap.size u1 v' c.vars z) : At w0 (w'.setCell ⟨B, 1, none⟩ v') F g n pl bl ol cl pv bv ov m cv T B base { c with vars := c.vars ++ [z] } r v' u2 u3 := by
  obtain ⟨a1, a2, a3, a4, a5⟩ := h.grown h.own.o1 h.f1 P
  have ho := h.own.vars P.own P.grown P.at_
  exact ⟨a1.stored a2.kind, ho.set a2.kind, a2.set1 v', a3.trans (G := fun i => i = B) (But.set ⟨B, 1, none⟩ v' fun _ => rfl) (fun i hi e => by have := h.new; omega), h.fg, a5, h.f2, h.f3, h.new, by simp [World.setCell]; exact a4⟩
theorem At.setNums {w' : World} {v' : Value} {z : Int} (h : At w0 w F g n pl bl ol cl pv bv ov m cv T B base c r u1 u2 u3) (P : PutN w w' base w.heap.size u3 v' c.nums z) : At w0 (w'.setCell ⟨B, 5, none⟩ v') F g n pl bl ol cl pv bv ov m cv T B base { c with nums := c.nums ++ [z] } r u1 u2 v' := by
  obtain ⟨a1, a2, a3, a4, a5⟩ := h.grown h.own.o3 h.f3 P
  have ho := h.own.nums P.own P.grown P.at_
  exact ⟨a1.stored a2.kind, ho.set a2.kind, a2.set5 v', a3.trans (G := fun i => i = B) (But.set ⟨B, 5, none⟩ v' fun _ => rfl) (fun i hi e => by have := h.new; omega), h.fg, h.f1, h.f2, a5, h.new, by simp [World.setCell]; exact a4⟩
theorem Own3.kinds {k i t : Int} (h : Own3 w base c u1 u2 u3) : Own3 w base { c with kind := k, rel := i, const := t } u1 u2 u3 := ⟨h.o1, h.o2, h.o3, h.p12, h.p13, h.p23⟩
theorem At.setKind {k : Int} (h : At w0 w F g n pl bl ol cl pv bv ov m cv T B base c r u1 u2 u3) : At w0 (w.setCell ⟨B, 0, none⟩ (.int .i64 k)) F g n pl bl ol cl pv bv ov m cv T B base { c with kind := k } r u1 u2 u3 :=
  ⟨h.store.1, h.store.2.1.kinds, h.box.set0 k, h.store.2.2.1, h.fg, h.f1, h.f2, h.f3, h.new, h.store.2.2.2⟩
theorem At.setRel {k : Int} (h : At w0 w F g n pl bl ol cl pv bv ov m cv T B base c r u1 u2 u3) : At w0 (w.setCell ⟨B, 3, none⟩ (.int .i64 k)) F g n pl bl ol cl pv bv ov m cv T B base { c with rel := k } r u1 u2 u3 :=
  ⟨h.store.1, h.store.2.1.kinds, h.box.set3 k, h.store.2.2.1, h.fg, h.f1, h.f2, h.f3, h.new, h.store.2.2.2⟩
theorem At.setConst {k : Int} (h : At w0 w F g n pl bl ol cl pv bv ov m cv T B base c r u1 u2 u3) : At w0 (w.setCell ⟨B, 4, none⟩ (.int .i64 k)) F g n pl bl ol cl pv bv ov m cv T B base { c with const := k } r u1 u2 u3 :=
  ⟨h.store.1, h.store.2.1.kinds, h.box.set4 k, h.store.2.2.1, h.fg, h.f1, h.f2, h.f3, h.new, h.store.2.2.2⟩
end
end Go.Proofs.YtfkakdpppejehaaGreat.Pa
