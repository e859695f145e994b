/-
  Lists of acts that came in; two trails side by side; what holds of a trail behind a mark, whatever happens there.
-/
import Derived.Test.YtkajkfapleecaaaTAwake
import Derived.Test.YtkajkfapleecaaaTNewT
namespace Go.Proofs.Ytkajkfapleecaaa
open Go.RowKit

/-- the cells of a list of acts, from an address on -/
def ActCells (w : World) (b off : Nat) (L : List (Int × Int × Int)) : Prop :=
  ∀ k, k < L.length → w.cell? ⟨b, off + k * 3, none⟩ = some (.int .i64 (L.getD k (0, 0, 0)).1) ∧ w.cell? ⟨b, off + k * 3 + 1, none⟩ = some (.int .i64 (L.getD k (0, 0, 0)).2.1) ∧ w.cell? ⟨b, off + k * 3 + 2, none⟩ = some (.int .i64 (L.getD k (0, 0, 0)).2.2)
theorem acts_below {w wr : World} {b off : Nat} {L : List (Int × Int × Int)} (h : ActCells w b off L) (hB : Below w.heap.size w wr) : ActCells wr b off L :=
  fun k hk => ⟨cell_below hB (h k hk).1, cell_below hB (h k hk).2.1, cell_below hB (h k hk).2.2⟩

theorem TrailAt.marks {α : Type} {P : Program} {tt ct mt kt : TypeId} {K : Kd α} {M : Nat} {w : World} {F : List Nat} {a : Nat} {σ : Tr α} (h : TrailAt P tt ct mt kt K M w F a σ) : w.cell? ⟨a, 2, none⟩ = some (.int .i64 (σ.top : Int)) := by
  obtain ⟨bc, bh, cap, ms, gs, hP, _⟩ := h
  exact hP.c2
theorem TrailAt.parts {α : Type} {P : Program} {tt ct mt kt : TypeId} {K : Kd α} {M : Nat} {w : World} {F : List Nat} {a : Nat} {σ : Tr α} (h : TrailAt P tt ct mt kt K M w F a σ) : ∃ bc, w.cell? ⟨a, 0, none⟩ = some (.slice (some ⟨bc, 0, none⟩) σ.n σ.n) ∧ CellsAt K ct σ.n w bc σ.cur σ.st ∧ σ.n ≤ 1000 := by
  obtain ⟨bc, bh, cap, ms, gs, hP, _⟩ := h
  exact ⟨bc, hP.c0, hP.cells, hP.small⟩
/-- two trails side by side, in blocks that are new since W -/
structure Two {α β : Type} (P : Program) (tt ct mt kt : TypeId) (K : Kd α) (tt' ct' mt' kt' : TypeId) (K' : Kd β) (M M' : Nat) (W w : World) (F : List Nat) (a : Nat) (σ : Tr α) (G : List Nat) (b : Nat) (τ : Tr β) : Prop where
  t : TrailAt P tt ct mt kt K M w F a σ
  u : TrailAt P tt' ct' mt' kt' K' M' w G b τ
  below : Below W.heap.size W w
  lowF : ∀ x, x ∈ F → W.heap.size ≤ x
  lowG : ∀ x, x ∈ G → W.heap.size ≤ x
  apart : ∀ x, x ∈ F → x ∉ G
abbrev TwoI (M M' : Nat) (W w : World) (F : List Nat) (a : Nat) (σ : Tr Int) (G : List Nat) (b : Nat) (τ : Tr Int) : Prop := Two Try.prog 60 65 62 3 ints 60 65 62 3 ints M M' W w F a σ G b τ
abbrev TwoS (M M' : Nat) (W w : World) (F : List Nat) (a : Nat) (σ : Tr Int) (G : List Nat) (b : Nat) (τ : Tr ByteArray) : Prop := Two Try.prog 60 65 62 3 ints 71 77 74 3 texts M M' W w F a σ G b τ

section
variable {α β : Type} {P : Program} {tt ct mt kt : TypeId} {K : Kd α} {tt' ct' mt' kt' : TypeId} {K' : Kd β} {M M' : Nat} {W w : World} {F : List Nat} {a : Nat} {σ : Tr α} {G : List Nat} {b : Nat} {τ : Tr β}
theorem Two.left {M1 : Nat} {w' : World} {F' : List Nat} {σ' : Tr α} (h : Two P tt ct mt kt K tt' ct' mt' kt' K' M M' W w F a σ G b τ) (hA : TrailAt P tt ct mt kt K M1 w' F' a σ') (hM : Moves F w F' w') : Two P tt ct mt kt K tt' ct' mt' kt' K' M1 M' W w' F' a σ' G b τ where
  t := hA
  u := h.u.turn hM.turn (fun x hx hy => h.apart x hy hx)
  below := hM.turn.below h.below h.below.size h.lowF
  lowF := hM.low h.lowF h.below.size
  lowG := h.lowG
  apart := fun x hx hg => by
    rcases hM.foot x hx with h1 | h1
    · exact h.apart x h1 hg
    · have := h.u.lts x hg
      omega
theorem Two.right {M1 : Nat} {w' : World} {G' : List Nat} {τ' : Tr β} (h : Two P tt ct mt kt K tt' ct' mt' kt' K' M M' W w F a σ G b τ) (hA : TrailAt P tt' ct' mt' kt' K' M1 w' G' b τ') (hM : Moves G w G' w') : Two P tt ct mt kt K tt' ct' mt' kt' K' M M1 W w' F a σ G' b τ' where
  t := h.t.turn hM.turn h.apart
  u := hA
  below := hM.turn.below h.below h.below.size h.lowG
  lowF := h.lowF
  lowG := hM.low h.lowG h.below.size
  apart := fun x hx hg => by
    rcases hM.foot x hg with h1 | h1
    · exact h.apart x hx h1
    · have := h.t.lts x hx
      omega
theorem Two.step {w' : World} (h : Two P tt ct mt kt K tt' ct' mt' kt' K' M M' W w F a σ G b τ) (hB : Below w.heap.size w w') : Two P tt ct mt kt K tt' ct' mt' kt' K' M M' W w' F a σ G b τ where
  t := h.t.below hB
  u := h.u.below hB
  below := h.below.trans (hB.mono h.below.size)
  lowF := h.lowF
  lowG := h.lowG
  apart := h.apart
theorem Two.mono {M1 M1' : Nat} (h : Two P tt ct mt kt K tt' ct' mt' kt' K' M M' W w F a σ G b τ) (h1 : M ≤ M1) (h2 : M' ≤ M1') : Two P tt ct mt kt K tt' ct' mt' kt' K' M1 M1' W w F a σ G b τ :=
  { h with t := h.t.mono h1, u := h.u.mono h2 }
end

section
variable {α : Type} [DecidableEq α]
theorem Tr.act_top (σ : Tr α) (d i : Int) (x : α) : (σ.act d i x).top ≤ σ.top + 1 := by
  unfold Tr.act
  split
  · split
    · exact Nat.le_succ _
    · exact Nat.le_succ _
  · split
    · exact Nat.le_refl _
    · split
      · split
        · exact Nat.le_succ _
        · show σ.top - 1 ≤ _; omega
      · exact Nat.le_succ _
/-- what is kept behind a mark that was set at σ -/
structure Past (σ ρ : Tr α) : Prop where
  n : ρ.n = σ.n
  top : σ.top ≤ ρ.top
  olds : ∀ k, k ≤ σ.top → ρ.old k = σ.old k
  mark : σ.top < ρ.top → ρ.old (σ.top + 1) = σ.cur
  cur : ρ.top = σ.top → ρ.cur = σ.cur
  st : ∀ j, σ.st j ≤ ρ.st j
omit [DecidableEq α] in
theorem past_save (σ : Tr α) : Past σ σ.save where
  n := rfl
  top := Nat.le_succ _
  olds := fun k hk => by show setAt σ.old (σ.top + 1) σ.cur k = _; rw [setAt, if_neg (by omega)]
  mark := fun _ => by show setAt σ.old (σ.top + 1) σ.cur (σ.top + 1) = _; rw [setAt, if_pos rfl]
  cur := fun h => by have : σ.top + 1 = σ.top := h; omega
  st := fun _ => Int.le_refl _
theorem Past.undo {σ ρ : Tr α} (h : Past σ ρ) (ht : σ.top < ρ.top) : Past σ ρ.undo where
  n := h.n
  top := by show σ.top ≤ ρ.top - 1; omega
  olds := h.olds
  mark := fun hl => h.mark ht
  cur := fun e => by
    have e1 : ρ.top - 1 = σ.top := e
    have e2 : ρ.top = σ.top + 1 := by omega
    show ρ.old ρ.top = σ.cur
    rw [e2]
    exact h.mark ht
  st := fun j => by
    show σ.st j ≤ (if ¬ ρ.cur j = ρ.old ρ.top j then ρ.st j + 1 else ρ.st j)
    have := h.st j
    split <;> omega
theorem Past.act {σ ρ : Tr α} (h : Past σ ρ) (ht : σ.top < ρ.top) (d i : Int) (x : α) (hd : d = 2 → σ.top + 1 < ρ.top) : Past σ (ρ.act d i x) ∧ σ.top < (ρ.act d i x).top := by
  unfold Tr.act
  split
  · split
    · refine ⟨{ n := h.n, top := h.top, olds := h.olds, mark := h.mark, cur := fun e => ?_, st := fun j => ?_ }, ht⟩
      · have : ρ.top = σ.top := e
        omega
      · show σ.st j ≤ (if j = i.toNat ∧ ¬ ρ.cur i.toNat = x then ρ.st j + 1 else ρ.st j)
        have := h.st j
        split <;> omega
    · exact ⟨h, ht⟩
  · split
    · refine ⟨{ n := h.n, top := Nat.le_succ_of_le h.top, olds := fun k hk => ?_, mark := fun _ => ?_, cur := fun e => ?_, st := h.st }, Nat.lt_succ_of_lt ht⟩
      · show setAt ρ.old (ρ.top + 1) ρ.cur k = _
        rw [setAt, if_neg (by omega)]
        exact h.olds k hk
      · show setAt ρ.old (ρ.top + 1) ρ.cur (σ.top + 1) = _
        rw [setAt, if_neg (by omega)]
        exact h.mark ht
      · have : ρ.top + 1 = σ.top := e
        omega
    · split
      · rename_i hd2
        have := hd hd2
        rw [if_neg (by omega)]
        exact ⟨h.undo ht, by show σ.top < ρ.top - 1; omega⟩
      · exact ⟨h, ht⟩
theorem changed_of {σ ρ : Tr α} (h : Past σ ρ) (ht : ρ.top = σ.top) : ρ.changed = σ.changed := by
  unfold Tr.changed
  rw [h.n]
  have e : ρ.diff = σ.diff := by
    funext i
    unfold Tr.diff
    rw [h.cur ht, ht, h.olds σ.top (Nat.le_refl _)]
  rw [e]
theorem changed_length (σ : Tr α) (h : σ.n ≤ 1000) : σ.changed.length ≤ 1000000 := by
  unfold Tr.changed
  rw [List.length_map]
  have := List.length_filter_le σ.diff (List.range σ.n)
  rw [List.length_range] at this
  omega
end
end Go.Proofs.Ytkajkfapleecaaa
