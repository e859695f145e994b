/-
  What each step does to a trail in memory. Nothing of the program.
-/
import Derived.Test.YtkajkfapleecaaaTPart
import Derived.Laws.OwnMore
namespace Go.Proofs.Ytkajkfapleecaaa
open Go.RowKit Go.ChangeMaps Go.MapKept Go.WideShapes

theorem grown_of_turn {b : Nat} {w w' : World} (h : Turn [b] w w') : w.grownBy w' (some b) := ⟨h.os, h.tape, h.output, h.size, fun k hk hn => h.block k hk (by simpa using fun e => hn (by rw [e]))⟩
theorem blocks_inj : ∀ {ms : List (Option Nat)}, (blocks ms).Nodup → ∀ {k k' b : Nat}, ms[k]? = some (some b) → ms[k']? = some (some b) → k = k'
  | [], _, k, k', b, h, _ => by simp at h
  | o :: r, hn, k, k', b, h, h' => by
    have hr : (blocks r).Nodup := by
      cases o with
      | none => simpa [blocks] using hn
      | some c => exact (List.nodup_cons.1 (by simpa [blocks] using hn)).2
    have hd : ∀ j : Nat, r[j]? = some (some b) → o = some b → False := by
      intro j hj e
      subst e
      exact (List.nodup_cons.1 (show (b :: blocks r).Nodup by simpa [blocks] using hn)).1 (mem_blocks hj)
    cases k with
    | zero =>
      cases k' with
      | zero => rfl
      | succ k' => exact (hd k' (by simpa using h') (by simpa using h)).elim
    | succ k =>
      cases k' with
      | zero => exact (hd k (by simpa using h) (by simpa using h')).elim
      | succ k' => rw [blocks_inj hr (k := k) (k' := k') (by simpa using h) (by simpa using h')]

theorem blocks_set : ∀ {ms : List (Option Nat)} {k B : Nat}, ms[k]? = some none → (∀ b, b ∈ blocks ms → b < B) → (blocks ms).Nodup → (blocks (ms.set k (some B))).Nodup ∧ ∀ b, b ∈ blocks (ms.set k (some B)) → b ∈ blocks ms ∨ b = B
  | [], k, B, h, _, _ => by simp at h
  | o :: r, 0, B, h, hl, hn => by
    obtain rfl : o = none := by simpa using h
    have e : blocks (none :: r) = blocks r := by simp [blocks]
    rw [e] at hl hn ⊢
    have e2 : blocks ((none :: r).set 0 (some B)) = B :: blocks r := by simp [blocks]
    rw [e2]
    refine ⟨List.nodup_cons.2 ⟨fun hm => ?_, hn⟩, fun b hb => ?_⟩
    · have := hl B hm
      omega
    · rcases List.mem_cons.1 hb with h1 | h1
      · exact .inr h1
      · exact .inl h1
  | o :: r, k + 1, B, h, hl, hn => by
    have h' : r[k]? = some none := by simpa using h
    cases o with
    | none =>
      have e : blocks (none :: r) = blocks r := by simp [blocks]
      have e2 : blocks ((none :: r).set (k + 1) (some B)) = blocks (r.set k (some B)) := by simp [blocks]
      rw [e] at hl hn ⊢
      rw [e2]
      exact blocks_set h' hl hn
    | some c =>
      have e : blocks (some c :: r) = c :: blocks r := by simp [blocks]
      have e2 : blocks ((some c :: r).set (k + 1) (some B)) = c :: blocks (r.set k (some B)) := by simp [blocks]
      rw [e] at hl hn ⊢
      rw [e2]
      obtain ⟨h1, h2⟩ := blocks_set h' (fun b hb => hl b (by simp [hb])) (List.nodup_cons.1 hn).2
      refine ⟨List.nodup_cons.2 ⟨fun hm => ?_, h1⟩, fun b hb => ?_⟩
      · rcases h2 c hm with h3 | h3
        · exact (List.nodup_cons.1 hn).1 h3
        · have := hl c (by simp)
          omega
      · rcases List.mem_cons.1 hb with h3 | h3
        · exact .inl (by simp [h3])
        · rcases h2 b h3 with h4 | h4
          · exact .inl (by simp [h4])
          · exact .inr h4

section
variable {α : Type} {P : Program} {tt ct mt kt : TypeId} {K : Kd α} {M : Nat} {w : World} {a bc bh cap : Nat} {ms : List (Option Nat)} {gs : Nat → Nat → Option α} {σ : Tr α}

theorem Parts.drewN (h : Parts P tt ct mt kt K M w a bc bh cap ms gs σ) (n : Nat) : Parts P tt ct mt kt K M (w.drewN n) a bc bh cap ms gs σ :=
  h.turn ((Turn.refl [] w).drewN n) (fun _ _ h => by cases h)

/-- a map is made where there was none -/
theorem Parts.fresh (h : Parts P tt ct mt kt K M w a bc bh cap ms gs σ) (hk : ms[σ.top]? = some none) :
    Parts P tt ct mt kt K M ((w.alloc (.map #[] 0)).setCell ⟨bh, σ.top, none⟩ (.map (some w.heap.size))) a bc bh cap (ms.set σ.top (some w.heap.size)) gs σ ∧
      Turn [bh] w ((w.alloc (.map #[] 0)).setCell ⟨bh, σ.top, none⟩ (.map (some w.heap.size))) ∧ gs σ.top = fun _ => none := by
  have hg : gs σ.top = fun _ => none := h.nils σ.top (fun b e => by rw [hk] at e; cases e)
  have hlt := h.lts
  obtain ⟨hh, h1, h2, h3⟩ := h.had
  have ht0 : Turn [bh] w (w.alloc (.map #[] 0)) := (Turn.refl _ _).alloc _
  have ht : Turn [bh] w ((w.alloc (.map #[] 0)).setCell ⟨bh, σ.top, none⟩ (.map (some w.heap.size))) := ht0.setCell (.inl (by simp)) _
  have hbl := blocks_set hk (fun b hb => hlt b (by simp [hb])) (by have := h.apart; simp only [List.nodup_cons] at this; exact this.2.2.2)
  have hne := h.ne1
  have htop := h.tops
  have hbh : (w.alloc (.map #[] 0)).heap[bh]? = some (.cells hh mt (0, 0)) := by
    rw [Below.heap_alloc _ _ _ (hlt bh (by simp))]
    exact h1
  have hnew : MapAt P kt K σ.n ((w.alloc (.map #[] 0)).setCell ⟨bh, σ.top, none⟩ (.map (some w.heap.size))) w.heap.size (fun _ => none) := by
    refine (mapAt_made P kt K σ.n w).of_block (Below.heap_setCell _ _ _ _ ?_)
    have := hlt bh (by simp)
    show w.heap.size ≠ bh
    omega
  refine ⟨?_, ht, hg⟩
  exact {
    small := h.small
    most := by simpa using h.most
    head := by
      rw [ht.block a (hlt a (by simp)) (by simpa using hne.2.1)]
      simpa using h.head
    cells := h.cells.turn ht (by simpa using hne.2.2)
    had := by
      refine ⟨_, heap_setCell_same hbh _, by simp [h2], ?_⟩
      rw [Array.toList_setIfInBounds, List.length_set, List.take_set, h3, List.map_set]
    room := by simpa using h.room
    tops := by simpa using h.tops
    maps := by
      intro k b hkb
      by_cases e : k = σ.top
      · subst e
        rw [List.getElem?_set_self htop] at hkb
        obtain rfl : w.heap.size = b := by simpa using hkb
        rw [hg]
        exact hnew
      · rw [List.getElem?_set_ne (by omega)] at hkb
        exact (h.maps k b hkb).turn ht (by simpa using (h.ne2 hkb).2.2)
    nils := by
      intro k hkb
      by_cases e : k = σ.top
      · subst e
        exact hg
      · exact h.nils k (fun b hb => hkb b (by rw [List.getElem?_set_ne (by omega)]; exact hb))
    over := h.over
    olds := h.olds
    apart := by
      have hap := h.apart
      simp only [List.nodup_cons, List.mem_cons, not_or] at hap ⊢
      have hno : ∀ x, x ∈ a :: bc :: bh :: blocks ms → x ≠ w.heap.size := fun x hx e => by have := hlt x hx; omega
      refine ⟨⟨hap.1.1, hap.1.2.1, fun hm => ?_⟩, ⟨hap.2.1.1, fun hm => ?_⟩, ⟨fun hm => ?_, hbl.1⟩⟩
      · rcases hbl.2 _ hm with h4 | h4
        · exact hap.1.2.2 h4
        · exact hno a (by simp) h4
      · rcases hbl.2 _ hm with h4 | h4
        · exact hap.2.1.2 h4
        · exact hno bc (by simp) h4
      · rcases hbl.2 _ hm with h4 | h4
        · exact hap.2.2.1 h4
        · exact hno bh (by simp) h4 }

/-- what a cell has is held -/
theorem Parts.held {w' : World} {b i : Nat} (h : Parts P tt ct mt kt K M w a bc bh cap ms gs σ) (hk : ms[σ.top]? = some (some b)) (hg : gs σ.top i = none) (hm : MapAt P kt K σ.n w' b (put (gs σ.top) i (σ.cur i))) (ht : Turn [b] w w') :
    Parts P tt ct mt kt K M w' a bc bh cap ms (setAt gs σ.top (put (gs σ.top) i (σ.cur i))) σ := by
  have hlt := h.lts
  have hne := h.ne2 hk
  have hnd : (blocks ms).Nodup := by have := h.apart; simp only [List.nodup_cons] at this; exact this.2.2.2
  exact {
    small := h.small
    most := h.most
    head := by
      rw [ht.block a (hlt a (by simp)) (by simpa using hne.1.symm)]
      exact h.head
    cells := h.cells.turn ht (by simpa using hne.2.1.symm)
    had := by
      obtain ⟨hh, h1, h2⟩ := h.had
      exact ⟨hh, by rw [ht.block bh (hlt bh (by simp)) (by simpa using hne.2.2.symm)]; exact h1, h2⟩
    room := h.room
    tops := h.tops
    maps := by
      intro k b' hkb
      by_cases e : k = σ.top
      · subst e
        obtain rfl : b = b' := by rw [hk] at hkb; simpa using hkb
        rw [setAt, if_pos rfl]
        exact hm
      · rw [setAt, if_neg e]
        refine (h.maps k b' hkb).turn ht ?_
        simp only [List.mem_singleton]
        rintro rfl
        exact e (blocks_inj hnd hkb hk)
    nils := by
      intro k hkb
      have e : k ≠ σ.top := by
        rintro rfl
        exact hkb b hk
      rw [setAt, if_neg e]
      exact h.nils k hkb
    over := by
      intro k hlt
      rw [setAt, if_neg (by omega)]
      exact h.over k hlt
    olds := by
      intro k hk' j hj
      have := h.olds k hk' j hj
      by_cases e : k = σ.top
      · subst e
        rw [if_pos rfl] at this ⊢
        rw [setAt, if_pos rfl, put]
        by_cases e2 : j = i
        · subst e2
          rw [if_pos rfl, this, hg]
          rfl
        · rw [if_neg e2]
          exact this
      · rw [if_neg e] at this ⊢
        rw [setAt, if_neg e]
        exact this
    apart := h.apart }

variable [DecidableEq α]
/-- a cell that is held gets a thing -/
theorem Parts.set {w' : World} {i : Nat} {x : α} (h : Parts P tt ct mt kt K M w a bc bh cap ms gs σ) (hg : (gs σ.top i).isSome = true) (hc : CellsAt K ct σ.n w' bc (setAt σ.cur i x) (bump σ.cur σ.st i x)) (ht : Turn [bc] w w') :
    Parts P tt ct mt kt K M w' a bc bh cap ms gs (σ.set i x) := by
  have hlt := h.lts
  have hne := h.ne1
  exact {
    small := h.small
    most := h.most
    head := by
      rw [ht.block a (hlt a (by simp)) (by simpa using hne.1)]
      exact h.head
    cells := hc
    had := by
      obtain ⟨hh, h1, h2⟩ := h.had
      exact ⟨hh, by rw [ht.block bh (hlt bh (by simp)) (by simpa using hne.2.2.symm)]; exact h1, h2⟩
    room := h.room
    tops := h.tops
    maps := fun k b hk => (h.maps k b hk).turn ht (by simpa using (h.ne2 hk).2.1)
    nils := h.nils
    over := h.over
    olds := by
      intro k hk j hj
      have := h.olds k hk j hj
      show σ.old k j = (gs k j).getD (if k = σ.top then setAt σ.cur i x j else σ.old (k + 1) j)
      by_cases e : k = σ.top
      · subst e
        rw [if_pos rfl] at this ⊢
        by_cases e2 : j = i
        · subst e2
          obtain ⟨y, hy⟩ := Option.isSome_iff_exists.1 hg
          rw [this, hy]
          rfl
        · rw [setAt, if_neg e2]
          exact this
      · rw [if_neg e] at this ⊢
        exact this
    apart := h.apart }

omit [DecidableEq α] in
/-- one mark more, where a map lies behind the last one -/
theorem Parts.save (h : Parts P tt ct mt kt K M w a bc bh cap ms gs σ) (hr : σ.top + 1 < ms.length) (t : Int) (ht : t = ((σ.top + 1 : Nat) : Int)) : Parts P tt ct mt kt K M (w.setCell ⟨a, 2, none⟩ (.int .i64 t)) a bc bh cap ms gs σ.save := by
  subst ht
  have hlt := h.lts
  have hne := h.ne1
  have ht : Turn [a] w (w.setCell ⟨a, 2, none⟩ (.int .i64 ((σ.top + 1 : Nat) : Int))) := (Turn.refl _ _).setCell (.inl (by simp)) _
  exact {
    small := h.small
    most := h.most
    head := by
      rw [heap_setCell_same h.head]
      rfl
    cells := h.cells.turn ht (by simpa using hne.1.symm)
    had := by
      obtain ⟨hh, h1, h2⟩ := h.had
      exact ⟨hh, by rw [ht.block bh (hlt bh (by simp)) (by simpa using hne.2.1.symm)]; exact h1, h2⟩
    room := h.room
    tops := hr
    maps := fun k b hk => (h.maps k b hk).turn ht (by simpa using (h.ne2 hk).1)
    nils := h.nils
    over := fun k hk => h.over k (by have : σ.top + 1 < k := hk; omega)
    olds := by
      intro k hk j hj
      show setAt σ.old (σ.top + 1) σ.cur k j = (gs k j).getD (if k = σ.top + 1 then σ.cur j else setAt σ.old (σ.top + 1) σ.cur (k + 1) j)
      have hk' : k ≤ σ.top + 1 := hk
      by_cases e : k = σ.top + 1
      · rw [if_pos e, setAt, if_pos e, h.over k (by omega)]
        rfl
      · have := h.olds k (by omega) j hj
        rw [setAt, if_neg e, if_neg e, this]
        by_cases e2 : k = σ.top
        · rw [if_pos e2, setAt, if_pos (by omega)]
        · rw [if_neg e2, setAt, if_neg (by omega)]
    apart := h.apart }

omit [DecidableEq α] in
/-- one mark more, and a nil map for it -/
theorem Parts.grow {w' : World} {bh' cap' : Nat} (h : Parts P tt ct mt kt K M w a bc bh cap ms gs σ) (ht : Turn [bh, a] w w') (hb : bh' = bh ∨ w.heap.size ≤ bh') (hr : σ.top + 1 = ms.length)
    (hhead : w'.heap[a]? = some (.cells #[.slice (some ⟨bc, 0, none⟩) σ.n σ.n, .slice (some ⟨bh', 0, none⟩) (ms.length + 1) cap', .int .i64 ((σ.top + 1 : Nat) : Int)] tt (0, 0)))
    (hhad : ∃ hh, w'.heap[bh']? = some (.cells hh mt (0, 0)) ∧ hh.size = cap' ∧ hh.toList.take (ms.length + 1) = ms.map Value.map ++ [.map none]) (hroom : ms.length + 1 ≤ cap' ∧ cap' ≤ maxLen) :
    Parts P tt ct mt kt K (M + 1) w' a bc bh' cap' (ms ++ [none]) gs σ.save := by
  have hlt := h.lts
  have hne := h.ne1
  have hbl : blocks (ms ++ [none]) = blocks ms := by simp [blocks]
  exact {
    small := h.small
    most := by simpa using h.most
    head := by
      rw [List.length_append]
      exact hhead
    cells := h.cells.turn ht (by simp [hne.1.symm, hne.2.2])
    had := by simpa using hhad
    room := by simpa using hroom
    tops := by show σ.top + 1 < _; simp; omega
    maps := by
      intro k b hk
      have hk' : ms[k]? = some (some b) := by
        by_cases e : k < ms.length
        · rwa [List.getElem?_append_left e] at hk
        · rw [List.getElem?_append_right (by omega)] at hk
          cases hd : k - ms.length with
          | zero => rw [hd] at hk; simp at hk
          | succ j => rw [hd] at hk; simp at hk
      have := h.ne2 hk'
      exact (h.maps k b hk').turn ht (by simp [this])
    nils := by
      intro k hk
      refine h.nils k (fun b hb => hk b ?_)
      rw [List.getElem?_append_left (List.getElem?_eq_some_iff.1 hb).1]
      exact hb
    over := fun k hk => h.over k (by have : σ.top + 1 < k := hk; omega)
    olds := by
      intro k hk j hj
      show setAt σ.old (σ.top + 1) σ.cur k j = (gs k j).getD (if k = σ.top + 1 then σ.cur j else setAt σ.old (σ.top + 1) σ.cur (k + 1) j)
      have hk' : k ≤ σ.top + 1 := hk
      by_cases e : k = σ.top + 1
      · rw [if_pos e, setAt, if_pos e, h.over k (by omega)]
        rfl
      · have := h.olds k (by omega) j hj
        rw [setAt, if_neg e, if_neg e, this]
        by_cases e2 : k = σ.top
        · rw [if_pos e2, setAt, if_pos (by omega)]
        · rw [if_neg e2, setAt, if_neg (by omega)]
    apart := by
      rw [hbl]
      have hap := h.apart
      rcases hb with rfl | hb
      · exact hap
      · have hno : ∀ x, x ∈ a :: bc :: bh :: blocks ms → x ≠ bh' := fun x hx e => by have := hlt x hx; omega
        simp only [List.nodup_cons, List.mem_cons, not_or] at hap ⊢
        exact ⟨⟨hap.1.1, hno a (by simp), hap.1.2.2⟩, ⟨hno bc (by simp), hap.2.1.2⟩, ⟨fun hm => hno bh' (by simp [hm]) rfl, hap.2.2.2⟩⟩ }

omit [DecidableEq α] in
theorem owns_turn {S : List Nat} {w' : World} {base e size n b off c : Nat} {xs : List Value} (h : w.ownsRow base e size (.slice (some ⟨b, off, none⟩) n c) n xs) (ht : Turn S w w') (hb : b ∉ S) : w'.ownsRow base e size (.slice (some ⟨b, off, none⟩) n c) n xs := by
  refine ⟨h.1, ?_⟩
  rcases h.2 with ⟨h1, _⟩ | ⟨g, cap, cur, h1, h2, h3, h4⟩
  · cases h1
  · obtain rfl : b = g := by injection h1 with e; injection e with e; injection e
    exact .inr ⟨b, cap, cur, h1, h2, (ht.block b (Array.getElem?_eq_some_iff.1 h3).1 hb).trans h3, h4⟩
omit [DecidableEq α] in
theorem Parts.mono {M' : Nat} (h : Parts P tt ct mt kt K M w a bc bh cap ms gs σ) (hM : M ≤ M') : Parts P tt ct mt kt K M' w a bc bh cap ms gs σ :=
  { h with most := Nat.le_trans h.most hM }
omit [DecidableEq α] in
theorem Parts.owns (h : Parts P tt ct mt kt K M w a bc bh cap ms gs σ) : w.ownsRow 0 mt 1 (.slice (some ⟨bh, 0, none⟩) ms.length cap) ms.length (ms.map Value.map) := by
  obtain ⟨hh, h1, h2, h3⟩ := h.had
  exact ⟨by simp, .inr ⟨bh, cap, hh, rfl, Nat.zero_le _, h1, h.room.1, h.room.2, by rw [Nat.mul_one]; exact h2, by rw [Nat.mul_one]; exact h3⟩⟩

/-- turned back: the cells have what they had, the last map is empty, and one mark is gone -/
theorem Parts.undo {w1 w2 : World} {g' : Nat → Nat → Option α} (h : Parts P tt ct mt kt K M w a bc bh cap ms gs σ) (ht0 : 0 < σ.top)
    (hc : CellsAt K ct σ.n w1 bc (σ.old σ.top) σ.undo.st) (ht : Turn [bc] w w1) (hg : g' = setAt gs σ.top (fun _ => none))
    (hcl : ∀ b, ms[σ.top]? = some (some b) → MapAt P kt K σ.n w2 b (fun _ => none) ∧ Turn [b] w1 w2) (hno : (∀ b, ms[σ.top]? ≠ some (some b)) → w2 = w1) (t : Int) (ht1 : t = ((σ.top - 1 : Nat) : Int)) :
    Parts P tt ct mt kt K M (w2.setCell ⟨a, 2, none⟩ (.int .i64 t)) a bc bh cap ms g' σ.undo := by
  subst ht1 hg
  have hlt := h.lts
  have hne := h.ne1
  have hnd : (blocks ms).Nodup := by have := h.apart; simp only [List.nodup_cons] at this; exact this.2.2.2
  have key : ∃ S, Turn S w1 w2 ∧ (∀ x, x ∈ S → ms[σ.top]? = some (some x)) ∧ ∀ b, ms[σ.top]? = some (some b) → MapAt P kt K σ.n w2 b (fun _ => none) := by
    cases hm : ms[σ.top]? with
    | none =>
      have e := hno (fun b e => (by rw [hm] at e; cases e))
      subst e
      exact ⟨[], Turn.refl _ _, fun x hx => (by cases hx), fun b e => (by cases e)⟩
    | some o =>
      cases o with
      | none =>
        have e := hno (fun b e => (by rw [hm] at e; cases e))
        subst e
        exact ⟨[], Turn.refl _ _, fun x hx => (by cases hx), fun b e => (by cases e)⟩
      | some b =>
        obtain ⟨h1, h2⟩ := hcl b hm
        exact ⟨[b], h2, fun x hx => (by rw [List.mem_singleton.1 hx]), fun b' e => (by cases e; exact h1)⟩
  obtain ⟨S, hS1, hS2, hS3⟩ := key
  have hSa : ∀ x, x ∈ S → x ≠ a ∧ x ≠ bc ∧ x ≠ bh := fun x hx => h.ne2 (hS2 x hx)
  have hSm : ∀ k b, ms[k]? = some (some b) → k ≠ σ.top → b ∉ S := fun k b hk e hm => e (blocks_inj hnd hk (hS2 b hm))
  have ht2 : Turn [a] w2 (w2.setCell ⟨a, 2, none⟩ (.int .i64 ((σ.top - 1 : Nat) : Int))) := (Turn.refl _ _).setCell (.inl (by simp)) _
  have hw1 : ∀ b, b ∈ a :: bc :: bh :: blocks ms → b < w1.heap.size := fun b hb => Nat.lt_of_lt_of_le (hlt b hb) ht.size
  have hw2 : ∀ b, b ∈ a :: bc :: bh :: blocks ms → b < w2.heap.size := fun b hb => Nat.lt_of_lt_of_le (hw1 b hb) hS1.size
  have hhead : w2.heap[a]? = some (.cells #[.slice (some ⟨bc, 0, none⟩) σ.n σ.n, .slice (some ⟨bh, 0, none⟩) ms.length cap, .int .i64 (σ.top : Int)] tt (0, 0)) := by
    rw [hS1.block a (hw1 a (by simp)) (fun hm => (hSa a hm).1 rfl), ht.block a (hlt a (by simp)) (by simpa using hne.1)]
    exact h.head
  exact {
    small := h.small
    most := h.most
    head := by
      rw [heap_setCell_same hhead]
      rfl
    cells := (hc.turn hS1 (fun hm => (hSa bc hm).2.1 rfl)).turn ht2 (by simpa using hne.1.symm)
    had := by
      obtain ⟨hh, h1, h2⟩ := h.had
      refine ⟨hh, ?_, h2⟩
      rw [ht2.block bh (hw2 bh (by simp)) (by simpa using hne.2.1.symm), hS1.block bh (hw1 bh (by simp)) (fun hm => (hSa bh hm).2.2 rfl), ht.block bh (hlt bh (by simp)) (by simpa using hne.2.2.symm)]
      exact h1
    room := h.room
    tops := by have := h.tops; show σ.top - 1 < _; omega
    maps := by
      intro k b hk
      have hb := h.ne2 hk
      by_cases e : k = σ.top
      · subst e
        rw [setAt, if_pos rfl]
        exact (hS3 b hk).turn ht2 (by simpa using hb.1)
      · rw [setAt, if_neg e]
        exact (((h.maps k b hk).turn ht (by simpa using hb.2.1)).turn hS1 (hSm k b hk e)).turn ht2 (by simpa using hb.1)
    nils := by
      intro k hk
      by_cases e : k = σ.top
      · rw [setAt, if_pos e]
      · rw [setAt, if_neg e]
        exact h.nils k hk
    over := by
      intro k hk
      have hk' : σ.top - 1 < k := hk
      by_cases e : k = σ.top
      · rw [setAt, if_pos e]
      · rw [setAt, if_neg e]
        exact h.over k (by omega)
    olds := by
      intro k hk j hj
      have hk' : k ≤ σ.top - 1 := hk
      have := h.olds k (by omega) j hj
      rw [if_neg (by omega)] at this
      show σ.old k j = (setAt gs σ.top (fun _ => none) k j).getD (if k = σ.top - 1 then σ.old σ.top j else σ.old (k + 1) j)
      rw [setAt, if_neg (by omega), this]
      by_cases e : k = σ.top - 1
      · rw [if_pos e]
        have e2 : k + 1 = σ.top := by omega
        rw [e2]
      · rw [if_neg e]
    apart := h.apart }

omit [DecidableEq α] in
theorem made_get (z0 z1 : Value) (n i : Nat) (hi : i < n) : (madeCells #[z0, z1] (n * 2))[i * 2]? = some z0 ∧ (madeCells #[z0, z1] (n * 2))[i * 2 + 1]? = some z1 := by
  have e : ∀ j, j < n * 2 → (madeCells #[z0, z1] (n * 2))[j]? = some (#[z0, z1][j % 2]!) := by
    intro j hj
    unfold madeCells
    rw [Array.getElem?_map, Array.getElem?_range, if_pos hj]
    rfl
  constructor
  · rw [e _ (by omega)]
    have : i * 2 % 2 = 0 := by omega
    rw [this]
    rfl
  · rw [e _ (by omega)]
    have : (i * 2 + 1) % 2 = 1 := by omega
    rw [this]
    rfl
omit [DecidableEq α] in
/-- a new trail -/
theorem Parts.made {n : Nat} {z : α} (hn : n ≤ 1000) (hne : a ≠ bc ∧ a ≠ bh ∧ bc ≠ bh)
    (ha : w.heap[a]? = some (.cells #[.slice (some ⟨bc, 0, none⟩) n n, .slice (some ⟨bh, 0, none⟩) 1 1, .int .i64 0] tt (0, 0))) (hc : w.heap[bc]? = some (.cells (madeCells #[K.enc z, .int .i64 0] (n * 2)) ct (0, 0))) (hh : w.heap[bh]? = some (.cells (madeCells #[.map none] 1) mt (0, 0))) :
    Parts P tt ct mt kt K 1 w a bc bh 1 [none] (fun _ _ => none) (Tr.new n z) where
  small := hn
  most := by simp
  head := ha
  cells := ⟨_, hc, by simp [size_madeCells, Tr.new], fun i hi => made_get _ _ n i hi⟩
  had := ⟨_, hh, by simp [size_madeCells], by rw [toList_madeCells_one]; rfl⟩
  room := ⟨by simp, by unfold maxLen; simp⟩
  tops := by simp [Tr.new]
  maps := by
    intro k b hk
    cases k with
    | zero => simp at hk
    | succ k => simp at hk
  nils := fun k _ => rfl
  over := fun k _ => rfl
  olds := by
    intro k hk i hi
    obtain rfl : k = 0 := by simpa [Tr.new] using hk
    rfl
  apart := by simp [blocks, hne]
end
end Go.Proofs.Ytkajkfapleecaaa
