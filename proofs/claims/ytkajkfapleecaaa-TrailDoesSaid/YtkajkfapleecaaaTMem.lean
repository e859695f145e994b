/-
  Worlds of which a set of blocks has turned; maps from numbers that a call makes, read as functions. Nothing of the program.
-/
import Derived.Maps.RangeWalk
import Derived.Below
import Derived.Deep.Draws
import Derived.WalkKit
namespace Go.Proofs.Ytkajkfapleecaaa
open Go.RowKit Go.ChangeMaps Go.MapKept Go.WideShapes
open Go.Maps (Keyed)

/-- of the blocks that were there none has turned but those of S -/
structure Turn (S : List Nat) (w w' : World) : Prop where
  os : w'.os = w.os
  tape : w'.tape = w.tape
  output : w'.output = w.output
  size : w.heap.size ≤ w'.heap.size
  block : ∀ k, k < w.heap.size → k ∉ S → w'.heap[k]? = w.heap[k]?

theorem Turn.refl (S : List Nat) (w : World) : Turn S w w := ⟨rfl, rfl, rfl, Nat.le_refl _, fun _ _ _ => rfl⟩
theorem Turn.trans {S S' : List Nat} {a b c : World} (h : Turn S a b) (k : Turn S' b c) (hs : ∀ x, x ∈ S' → x ∈ S ∨ a.heap.size ≤ x) : Turn S a c :=
  ⟨k.os.trans h.os, k.tape.trans h.tape, k.output.trans h.output, Nat.le_trans h.size k.size, fun i hi hn => (k.block i (Nat.lt_of_lt_of_le hi h.size) (fun hm => by
    rcases hs i hm with h1 | h1
    · exact hn h1
    · omega)).trans (h.block i hi hn)⟩
theorem Turn.sub {S S' : List Nat} {a b : World} (h : Turn S a b) (hs : ∀ x, x ∈ S → x ∈ S') : Turn S' a b :=
  ⟨h.os, h.tape, h.output, h.size, fun i hi hn => h.block i hi (fun hm => hn (hs i hm))⟩
theorem turn_of_below {w w' : World} (h : Below w.heap.size w w') (S : List Nat) : Turn S w w' := ⟨h.os, h.tape, h.output, h.size, fun k hk _ => h.block k hk⟩
theorem Turn.below {S : List Nat} {B : Nat} {W a b : World} (hB : Below B W a) (h : Turn S a b) (hle : B ≤ a.heap.size) (hs : ∀ x, x ∈ S → B ≤ x) : Below B W b :=
  hB.trans ⟨h.os, h.tape, h.output, h.size, fun k hk => h.block k (by omega) (fun hm => by have := hs k hm; omega)⟩
theorem Turn.setCell {S : List Nat} {a w : World} (h : Turn S a w) {p : Addr} (hp : p.block ∈ S ∨ a.heap.size ≤ p.block) (u : Value) : Turn S a (w.setCell p u) :=
  ⟨h.os, h.tape, h.output, by simpa [World.setCell] using h.size, fun k hk hn => by
    rw [Below.heap_setCell _ _ _ _ (by
      rintro rfl
      rcases hp with h1 | h1
      · exact hn h1
      · omega)]
    exact h.block k hk hn⟩
theorem Turn.alloc {S : List Nat} {a w : World} (h : Turn S a w) (o : Obj) : Turn S a (w.alloc o) :=
  h.trans (S' := []) ⟨rfl, rfl, rfl, by simp, fun k hk _ => Below.heap_alloc _ _ _ hk⟩ (fun x hx => by cases hx)
theorem Turn.drew {S : List Nat} {a w : World} (h : Turn S a w) : Turn S a w.drew := ⟨h.os, h.tape, h.output, h.size, h.block⟩
theorem Turn.drewN {S : List Nat} {a w : World} (h : Turn S a w) (n : Nat) : Turn S a (w.drewN n) := ⟨h.os, h.tape, h.output, h.size, h.block⟩
theorem Turn.grown {S : List Nat} {a w w' : World} {row : Option Nat} (h : Turn S a w) (hg : w.grownBy w' row) (hr : ∀ k, row = some k → k ∈ S ∨ a.heap.size ≤ k) : Turn S a w' :=
  ⟨hg.os.trans h.os, hg.tape.trans h.tape, hg.output.trans h.output, Nat.le_trans h.size hg.size, fun k hk hn => (hg.block k (Nat.lt_of_lt_of_le hk h.size) (fun e => by
    rcases hr k e.symm with h1 | h1
    · exact hn h1
    · omega)).trans (h.block k hk hn)⟩
theorem Turn.cell {S : List Nat} {w w' : World} (h : Turn S w w') {p : Addr} {v : Value} (hc : w.cell? p = some v) (hn : p.block ∉ S) : w'.cell? p = some v :=
  (World.cell?_of_block (h.block _ (World.block_lt_of_cell? w p hc) hn)).trans hc

/-- how the things of a type stand in memory -/
structure Kd (α : Type) where
  enc : α → Value
  dec : Value → Option α
  dec_enc : ∀ x, dec (enc x) = some x
  enc_dec : ∀ v x, dec v = some x → v = enc x
theorem Kd.inj {α : Type} (K : Kd α) {x y : α} (h : K.enc x = K.enc y) : x = y := by
  have := K.dec_enc x
  rw [h, K.dec_enc] at this
  exact (Option.some.inj this).symm
def ints : Kd Int where
  enc := .int .i64
  dec := fun v => match v with | .int .i64 x => some x | _ => none
  dec_enc := fun _ => rfl
  enc_dec := fun v x h => by
    split at h
    · cases h; rfl
    · cases h
def texts : Kd ByteArray where
  enc := .string
  dec := fun v => match v with | .string x => some x | _ => none
  dec_enc := fun _ => rfl
  enc_dec := fun v x h => by
    split at h
    · cases h; rfl
    · cases h

/-- how an element of a map is read -/
def Kd.rd {α : Type} (K : Kd α) (v : Value) : Option (DataW α × List MemPlace) := (K.dec v).map fun x => (.held x, [])
theorem Kd.rd_enc {α : Type} (K : Kd α) (x : α) : K.rd (K.enc x) = some (.held x, []) := by simp [Kd.rd, K.dec_enc]
theorem Kd.rd_inv {α : Type} (K : Kd α) {v : Value} {y : DataW α × List MemPlace} (h : K.rd v = some y) : ∃ x, v = K.enc x ∧ y = (.held x, []) := by
  unfold Kd.rd at h
  cases hd : K.dec v with
  | none => simp [hd] at h
  | some x =>
    simp [hd] at h
    exact ⟨x, K.enc_dec v x hd, h.symm⟩

def cnt {α : Type} (g : Nat → Option α) (N : Nat) : Nat := (List.range N).countP fun i => (g i).isSome
theorem cnt_le {α : Type} (g : Nat → Option α) (N : Nat) : cnt g N ≤ N := by
  have := List.countP_le_length (p := fun i => (g i).isSome) (l := List.range N)
  simpa [cnt] using this
theorem cnt_none {α : Type} (N : Nat) : cnt (α := α) (fun _ => none) N = 0 := by
  simp [cnt]
/-- one more -/
def put {α : Type} (g : Nat → Option α) (i : Nat) (x : α) : Nat → Option α := fun j => if j = i then some x else g j
theorem cnt_put {α : Type} (g : Nat → Option α) (i : Nat) (x : α) (hi : g i = none) : ∀ N, i < N → cnt (put g i x) N = cnt g N + 1 := by
  have low : ∀ N, N ≤ i → cnt (put g i x) N = cnt g N := by
    intro N hN
    unfold cnt
    refine List.countP_congr fun j hj => ?_
    have : j < N := by simpa using hj
    rw [put, if_neg (by omega)]
  intro N
  induction N with
  | zero => intro h; omega
  | succ N ih =>
    intro h
    have e : ∀ g' : Nat → Option α, cnt g' (N + 1) = cnt g' N + (if (g' N).isSome = true then 1 else 0) := by
      intro g'
      simp only [cnt, List.range_succ, List.countP_append, List.countP_cons, List.countP_nil, Nat.zero_add]
    rw [e, e]
    by_cases hN : i = N
    · subst hN
      rw [low i (Nat.le_refl _)]
      simp [put, hi]
    · rw [ih (by omega)]
      have : put g i x N = g N := by rw [put, if_neg (by omega)]
      rw [this]
      omega

/-- the datum D holds g -/
def Says {α : Type} (D : DataW α) (g : Nat → Option α) : Prop :=
  (∀ i x, g i = some x → Maps.has D (.int .i64 (i : Int)) = true ∧ ∀ z, D.atKey (.int .i64 (i : Int)) z = .held x) ∧ ∀ kl, Maps.has D kl = true → ∃ (i : Nat) (x : α), kl = .int .i64 (i : Int) ∧ g i = some x
theorem Says.has {α : Type} {D : DataW α} {g : Nat → Option α} (h : Says D g) (i : Nat) : Maps.has D (.int .i64 (i : Int)) = (g i).isSome := by
  cases hg : g i with
  | some x => simpa using (h.1 i x hg).1
  | none =>
    cases hh : Maps.has D (.int .i64 (i : Int)) with
    | false => rfl
    | true =>
      obtain ⟨j, x, e1, e2⟩ := h.2 _ hh
      have : i = j := by
        injection e1 with _ e3
        omega
      rw [← this, hg] at e2
      cases e2

variable {α : Type} {P : Program} {kt et mt : TypeId}

/-- block b is a map that holds g, with keys below N -/
def MapAt (P : Program) (kt : TypeId) (K : Kd α) (N : Nat) (w : World) (b : Nat) (g : Nat → Option α) : Prop :=
  ∃ D, w.ownsMap P kt K.rd b (cnt g N) D ∧ Says D g ∧ ∀ i x, g i = some x → i < N

theorem ownsMap_of_block {R : Value → Option (DataW α × List MemPlace)} {w w' : World} {b n : Nat} {D : DataW α} (h : w.ownsMap P kt R b n D) (e : w'.heap[b]? = w.heap[b]?) : w'.ownsMap P kt R b n D := by
  obtain ⟨es, clock, hb, r⟩ := h
  exact ⟨es, clock, e.trans hb, r⟩
theorem MapAt.of_block {K : Kd α} {N : Nat} {w w' : World} {b : Nat} {g : Nat → Option α} (h : MapAt P kt K N w b g) (e : w'.heap[b]? = w.heap[b]?) : MapAt P kt K N w' b g := by
  obtain ⟨D, h1, h2, h3⟩ := h
  exact ⟨D, ownsMap_of_block h1 e, h2, h3⟩
theorem MapAt.lt {K : Kd α} {N : Nat} {w : World} {b : Nat} {g : Nat → Option α} (h : MapAt P kt K N w b g) : b < w.heap.size := by
  obtain ⟨D, h1, _⟩ := h
  exact h1.lt
theorem MapAt.turn {K : Kd α} {N : Nat} {w w' : World} {b : Nat} {g : Nat → Option α} {S : List Nat} (h : MapAt P kt K N w b g) (ht : Turn S w w') (hb : b ∉ S) : MapAt P kt K N w' b g :=
  h.of_block (ht.block b h.lt hb)
theorem wf_small (i : Nat) (h : i ≤ 1000) : (Lit.int .i64 (i : Int)).wf = true := WalkArith.wf_i64 (by omega)
theorem says_none : Says (.map [] : DataW α) (fun _ => none) := by
  refine ⟨fun i x h => (by cases h), fun kl h => ?_⟩
  simp [Maps.has] at h
theorem mapAt_made (P : Program) (kt : TypeId) (K : Kd α) (N : Nat) (w : World) : MapAt P kt K N (w.alloc (.map #[] 0)) w.heap.size (fun _ => none) :=
  ⟨.map [], by rw [cnt_none]; exact World.ownsMap_made w P kt K.rd, says_none, fun i x h => by cases h⟩

theorem says_put {D : DataW α} {g : Nat → Option α} (h : Says D g) (hm : Maps.IsMap D) (i : Nat) (x : α) : Says (D.put (.int .i64 (i : Int)) (.held x)) (put g i x) := by
  have hk : WideAt.IsKeyLit (.int .i64 (i : Int)) := by simp [WideAt.IsKeyLit]
  constructor
  · intro j y hj
    by_cases e : j = i
    · subst e
      rw [put, if_pos rfl] at hj
      cases hj
      exact ⟨Maps.has_put_same hm hk _, fun z => Maps.atKey_put_same hm hk _ z⟩
    · rw [put, if_neg e] at hj
      have hne : (Lit.int .i64 (j : Int)) ≠ .int .i64 (i : Int) := by
        intro h1
        injection h1 with _ h2
        omega
      obtain ⟨h1, h2⟩ := h.1 j y hj
      exact ⟨by rw [Maps.has_put_other hne]; exact h1, fun z => by rw [Maps.atKey_put_other hne]; exact h2 z⟩
  · intro kl hkl
    by_cases e : kl = .int .i64 (i : Int)
    · exact ⟨i, x, e, by rw [put, if_pos rfl]⟩
    · rw [Maps.has_put_other e] at hkl
      obtain ⟨j, y, rfl, h2⟩ := h.2 kl hkl
      refine ⟨j, y, rfl, ?_⟩
      rw [put, if_neg (fun h1 => e (by rw [h1]))]
      exact h2

/-- 'm[i] = x', where there was none -/
theorem MapAt.store {K : Kd α} {N : Nat} {w : World} {b : Nat} {g : Nat → Option α} (h : MapAt P kt K N w b g) (KK : Keyed P kt) (hk : P.underlying kt = some (.int .i64)) (ht : P.underlying mt = some (.map kt et)) (hN : N ≤ 1000) {i : Nat} (hi : i < N) (hg : g i = none) (x : α) :
    ∃ w', (Instr.mapUpdate mt (.map (some b)) (.int .i64 (i : Int)) (K.enc x)).run P w = .ok () w' ∧ MapAt P kt K N w' b (put g i x) ∧ Turn [b] w w' := by
  obtain ⟨D, h1, h2, h3⟩ := h
  have hwf : (Lit.int .i64 (i : Int)).wf = true := wf_small i (by omega)
  have hc := cnt_le g N
  obtain ⟨w', hrun, hown, hturn⟩ := h1.store KK ht (by unfold maxLen; omega) (key := .int .i64 (i : Int)) (Maps.keyOf_int_mk hk hwf) (K.rd_enc x)
  have hg' := hturn.grown
  refine ⟨w', hrun, ⟨_, by rw [cnt_put g i x hg N hi]; exact hown, says_put h2 h1.isMap i x, ?_⟩, (Turn.refl [b] w).grown hg' (fun k e => by cases e; simp)⟩
  intro j y hj
  by_cases e : j = i
  · omega
  · rw [put, if_neg e] at hj
    exact h3 j y hj

/-- '_, ok := m[i]' -/
theorem MapAt.look {K : Kd α} {N : Nat} {w : World} {b : Nat} {g : Nat → Option α} (h : MapAt P kt K N w b g) (KK : Keyed P kt) (hk : P.underlying kt = some (.int .i64)) (ht : P.underlying mt = some (.map kt et)) (hN : N ≤ 1000) {i : Nat} (hi : i < N) {z : α} (hz : (zeroValue et).run P w = .ok (K.enc z) w) :
    ∃ x, (Instr.lookup mt (.map (some b)) (.int .i64 (i : Int)) true).run P w = .ok (.tuple #[K.enc x, .bool (g i).isSome]) w := by
  obtain ⟨D, h1, h2, h3⟩ := h
  have hwf : (Lit.int .i64 (i : Int)).wf = true := wf_small i (by omega)
  obtain ⟨v, ps, hrun, hv⟩ := h1.look_ok KK ht hz (K.rd_enc z) (key := .int .i64 (i : Int)) (Maps.keyOf_int_mk hk hwf)
  obtain ⟨x, rfl, _⟩ := K.rd_inv hv
  exact ⟨x, by rw [hrun, h2.has i]⟩

/-- 'clear(m)' -/
theorem MapAt.clear {K : Kd α} {N : Nat} {w : World} {b : Nat} {g : Nat → Option α} (h : MapAt P kt K N w b g) (ht : P.underlying mt = some (.map kt et)) (ty : TypeId) :
    ∃ w', (Builtin.clear_ #[mt] ty #[.map (some b)]).run P w = .ok (.tuple #[]) w' ∧ MapAt P kt K N w' b (fun _ => none) ∧ Turn [b] w w' := by
  obtain ⟨D, h1, h2, h3⟩ := h
  obtain ⟨es, clock, hb, F, _⟩ := h1
  refine ⟨setBlock w b (.map #[] clock), ?_, ⟨.map [], ⟨#[], clock, heap_setBlock_same hb _, ⟨by simp, stamped_empty clock, by simp⟩, by rw [cnt_none]; exact Nat.le_refl _, rfl⟩, says_none, fun i x h => by cases h⟩, ?_⟩
  · simp [Builtin.clear_, run_underlying ht, MapKept.run_getObj_map hb, MapKept.run_setObj_map _ hb, Result.andThen, setBlock]
  · exact ⟨rfl, rfl, rfl, by simp [setBlock], fun i _ hi => heap_setBlock_other hb _ (fun e => hi (by rw [e]; simp))⟩
end Go.Proofs.Ytkajkfapleecaaa
