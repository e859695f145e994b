/-
  The document's trail: how it lies in memory, with whole copies of what cells had.
-/
import Derived.Test.YtkajkfapleecaaaTActs
namespace Go.Proofs.Ytkajkfapleecaaa
open Go.RowKit

/-- a row of n numbers in block b -/
def NumsAt (n : Nat) (w : World) (b : Nat) (f : Nat → Int) : Prop :=
  ∃ cc, w.heap[b]? = some (.cells cc 3 (0, 0)) ∧ cc.size = n ∧ ∀ i, i < n → cc[i]? = some (.int .i64 (f i))
section
variable {n : Nat} {w : World} {b : Nat} {f : Nat → Int}
theorem NumsAt.of_block {w' : World} (h : NumsAt n w b f) (e : w'.heap[b]? = w.heap[b]?) : NumsAt n w' b f := by
  obtain ⟨cc, h1, h2⟩ := h
  exact ⟨cc, e.trans h1, h2⟩
theorem NumsAt.lt (h : NumsAt n w b f) : b < w.heap.size := by
  obtain ⟨cc, h1, h2⟩ := h
  exact (Array.getElem?_eq_some_iff.1 h1).1
theorem NumsAt.turn {w' : World} {S : List Nat} (h : NumsAt n w b f) (ht : Turn S w w') (hb : b ∉ S) : NumsAt n w' b f := h.of_block (ht.block b h.lt hb)
theorem NumsAt.cell (h : NumsAt n w b f) {i : Nat} (hi : i < n) : w.cell? ⟨b, i, none⟩ = some (.int .i64 (f i)) := by
  obtain ⟨cc, h1, h2, h3⟩ := h
  rw [cell_of_heap h1]
  exact h3 i hi
theorem NumsAt.frozen (h : NumsAt n w b f) (off : Nat) : w.frozen? ⟨b, off, none⟩ = false := by
  obtain ⟨cc, h1, h2, h3⟩ := h
  exact frozen_of_heap h1
theorem NumsAt.set (h : NumsAt n w b f) {i : Nat} (hi : i < n) (x : Int) : NumsAt n (w.setCell ⟨b, i, none⟩ (.int .i64 x)) b (setAt f i x) := by
  obtain ⟨cc, h1, h2, h3⟩ := h
  refine ⟨_, heap_setCell_same h1 _, by simp [h2], fun j hj => ?_⟩
  by_cases e : j = i
  · subst e
    simp [setAt, Array.getElem?_setIfInBounds]
    omega
  · rw [Array.getElem?_setIfInBounds, if_neg (by omega), h3 j hj, setAt, if_neg e]
theorem NumsAt.congr {g : Nat → Int} (h : NumsAt n w b f) (e : ∀ i, i < n → g i = f i) : NumsAt n w b g := by
  obtain ⟨cc, h1, h2, h3⟩ := h
  exact ⟨cc, h1, h2, fun i hi => by rw [e i hi]; exact h3 i hi⟩
end

/-- the numbers of a row -/
def rowOf (n : Nat) (f : Nat → Int) : List Int := (List.range n).map f
theorem rowOf_length (n : Nat) (f : Nat → Int) : (rowOf n f).length = n := by simp [rowOf]
theorem rowOf_get (n : Nat) (f : Nat → Int) {i : Nat} (h : i < n) : (rowOf n f).getD i 0 = f i := by simp [rowOf, h]

/-- v reads as the numbers xs, in a block of G -/
def RowIn (G : List Nat) (w : World) (v : Value) (xs : List Int) : Prop :=
  (∃ (p : Option Addr) (c : Nat), v = .slice p 0 c ∧ xs = []) ∨ ∃ (b off c : Nat), v = .slice (some ⟨b, off, none⟩) xs.length c ∧ b ∈ G ∧ ∀ k, k < xs.length → w.cell? ⟨b, off + k, none⟩ = some (.int .i64 (xs.getD k 0))
theorem RowIn.turn {G S : List Nat} {w w' : World} {v : Value} {xs : List Int} (h : RowIn G w v xs) (ht : Turn S w w') (hS : ∀ b, b ∈ G → b ∉ S) : RowIn G w' v xs := by
  rcases h with h | ⟨b, off, c, h1, h2, h3⟩
  · exact .inl h
  · exact .inr ⟨b, off, c, h1, h2, fun k hk => ht.cell (h3 k hk) (hS b h2)⟩
theorem RowIn.more {G G' : List Nat} {w : World} {v : Value} {xs : List Int} (h : RowIn G w v xs) (hG : ∀ b, b ∈ G → b ∈ G') : RowIn G' w v xs := by
  rcases h with h | ⟨b, off, c, h1, h2, h3⟩
  · exact .inl h
  · exact .inr ⟨b, off, c, h1, hG b h2, h3⟩
theorem RowIn.shape {G : List Nat} {w : World} {v : Value} {xs : List Int} (h : RowIn G w v xs) :
    ∃ (p : Option Addr) (b off c : Nat), v = .slice p xs.length c ∧ (0 < xs.length → p = some ⟨b, off, none⟩) ∧ ∀ k, k < xs.length → w.cell? ⟨b, off + k, none⟩ = some (.int .i64 (xs.getD k 0)) := by
  rcases h with ⟨p, c, rfl, rfl⟩ | ⟨b, off, c, rfl, _, hx⟩
  · exact ⟨p, 0, 0, c, rfl, fun h => by simp at h, fun k hk => by simp at hk⟩
  · exact ⟨_, b, off, c, rfl, fun _ => rfl, hx⟩

/-- the document's trail at block r: its cells in bc, their stamps in bs, its copies in bo: vs, which lie in blocks of G -/
structure RParts (M : Nat) (w : World) (r bc bs bo cap : Nat) (vs : List Value) (G : List Nat) (σ : Tr Int) : Prop where
  small : σ.n ≤ 1000
  most : σ.top < M
  head : w.heap[r]? = some (.cells #[.slice (some ⟨bc, 0, none⟩) σ.n σ.n, .slice (some ⟨bs, 0, none⟩) σ.n σ.n, .slice (some ⟨bo, 0, none⟩) (σ.top + 1) cap] 41 (0, 0))
  cur : NumsAt σ.n w bc σ.cur
  st : NumsAt σ.n w bs σ.st
  len : vs.length = σ.top + 1
  olds : ∃ oo, w.heap[bo]? = some (.cells oo 38 (0, 0)) ∧ oo.size = cap ∧ oo.toList.take (σ.top + 1) = vs
  room : σ.top + 1 ≤ cap ∧ cap ≤ maxLen
  rows : ∀ k, k ≤ σ.top → ∃ v, vs[k]? = some v ∧ RowIn G w v (rowOf σ.n (σ.old k))
  apart : (r ≠ bc ∧ r ≠ bs ∧ r ≠ bo ∧ bc ≠ bs ∧ bc ≠ bo ∧ bs ≠ bo) ∧ ∀ b, b ∈ G → b ≠ r ∧ b ≠ bc ∧ b ≠ bs
  lts : ∀ b, b ∈ G → b < w.heap.size
def RAt (M : Nat) (w : World) (F : List Nat) (r : Nat) (σ : Tr Int) : Prop :=
  ∃ bc bs bo cap vs G, RParts M w r bc bs bo cap vs G σ ∧ F = r :: bc :: bs :: bo :: G

section
variable {M : Nat} {w : World} {r bc bs bo cap : Nat} {vs : List Value} {G : List Nat} {σ : Tr Int}
theorem RParts.turn {w' : World} {S : List Nat} (h : RParts M w r bc bs bo cap vs G σ) (ht : Turn S w w') (hS : ∀ b, b ∈ r :: bc :: bs :: bo :: G → b ∉ S) : RParts M w' r bc bs bo cap vs G σ where
  small := h.small
  most := h.most
  head := (ht.block r (Array.getElem?_eq_some_iff.1 h.head).1 (hS r (by simp))).trans h.head
  cur := h.cur.turn ht (hS bc (by simp))
  st := h.st.turn ht (hS bs (by simp))
  len := h.len
  olds := by
    obtain ⟨oo, h1, h2⟩ := h.olds
    exact ⟨oo, (ht.block bo (Array.getElem?_eq_some_iff.1 h1).1 (hS bo (by simp))).trans h1, h2⟩
  room := h.room
  rows := fun k hk => by
    obtain ⟨v, h1, h2⟩ := h.rows k hk
    exact ⟨v, h1, h2.turn ht (fun b hb => hS b (by simp [hb]))⟩
  apart := h.apart
  lts := fun b hb => Nat.lt_of_lt_of_le (h.lts b hb) ht.size
theorem RAt.turn {F S : List Nat} {w' : World} (h : RAt M w F r σ) (ht : Turn S w w') (hS : ∀ b, b ∈ F → b ∉ S) : RAt M w' F r σ := by
  obtain ⟨bc, bs, bo, cap, vs, G, h1, rfl⟩ := h
  exact ⟨bc, bs, bo, cap, vs, G, h1.turn ht hS, rfl⟩
theorem RAt.below {F : List Nat} {w' : World} (h : RAt M w F r σ) (hb : Below w.heap.size w w') : RAt M w' F r σ := h.turn (turn_of_below hb []) (fun b _ h => by cases h)
theorem RParts.ltall (h : RParts M w r bc bs bo cap vs G σ) : ∀ b, b ∈ r :: bc :: bs :: bo :: G → b < w.heap.size := by
  intro b hb
  simp only [List.mem_cons] at hb
  rcases hb with rfl | rfl | rfl | rfl | hb
  · exact (Array.getElem?_eq_some_iff.1 h.head).1
  · exact h.cur.lt
  · exact h.st.lt
  · obtain ⟨oo, h1, h2⟩ := h.olds
    exact (Array.getElem?_eq_some_iff.1 h1).1
  · exact h.lts b hb
theorem RAt.ltall {F : List Nat} (h : RAt M w F r σ) : ∀ b, b ∈ F → b < w.heap.size := by
  obtain ⟨bc, bs, bo, cap, vs, G, h1, rfl⟩ := h
  exact h1.ltall
theorem RAt.mono {M' : Nat} {F : List Nat} (h : RAt M w F r σ) (hM : M ≤ M') : RAt M' w F r σ := by
  obtain ⟨bc, bs, bo, cap, vs, G, h1, h2⟩ := h
  exact ⟨bc, bs, bo, cap, vs, G, { h1 with most := Nat.lt_of_lt_of_le h1.most hM }, h2⟩
theorem RParts.c0 (h : RParts M w r bc bs bo cap vs G σ) : w.cell? ⟨r, 0, none⟩ = some (.slice (some ⟨bc, 0, none⟩) σ.n σ.n) := by rw [cell_of_heap h.head]; rfl
theorem RParts.c1 (h : RParts M w r bc bs bo cap vs G σ) : w.cell? ⟨r, 1, none⟩ = some (.slice (some ⟨bs, 0, none⟩) σ.n σ.n) := by rw [cell_of_heap h.head]; rfl
theorem RParts.c2 (h : RParts M w r bc bs bo cap vs G σ) : w.cell? ⟨r, 2, none⟩ = some (.slice (some ⟨bo, 0, none⟩) (σ.top + 1) cap) := by rw [cell_of_heap h.head]; rfl
theorem RParts.f (h : RParts M w r bc bs bo cap vs G σ) (off : Nat) : w.frozen? ⟨r, off, none⟩ = false := frozen_of_heap h.head
theorem RParts.oc (h : RParts M w r bc bs bo cap vs G σ) {k : Nat} (hk : k ≤ σ.top) : w.cell? ⟨bo, k, none⟩ = some (vs[k]?.getD undef) := by
  obtain ⟨oo, h1, h2, h3⟩ := h.olds
  rw [cell_of_heap h1, ← Array.getElem?_toList]
  have h4 : (oo.toList.take (σ.top + 1))[k]? = vs[k]? := by rw [h3]
  rw [List.getElem?_take, if_pos (by omega)] at h4
  have hl := h.len
  rw [h4, List.getElem?_eq_getElem (by omega)]
  rfl
/-- the cells, and their stamps, have turned -/
theorem RParts.put {w' : World} {S : List Nat} {cur' st' : Nat → Int} (h : RParts M w r bc bs bo cap vs G σ) (ht : Turn S w w') (hS : ∀ b, b ∈ S → b = bc ∨ b = bs) (hc : NumsAt σ.n w' bc cur') (hs : NumsAt σ.n w' bs st') : RParts M w' r bc bs bo cap vs G { σ with cur := cur', st := st' } where
  small := h.small
  most := h.most
  head := by
    rw [ht.block r (Array.getElem?_eq_some_iff.1 h.head).1 (fun hm => by rcases hS r hm with e | e; exact h.apart.1.1 e; exact h.apart.1.2.1 e)]
    exact h.head
  cur := hc
  st := hs
  len := h.len
  olds := by
    obtain ⟨oo, h1, h2⟩ := h.olds
    refine ⟨oo, ?_, h2⟩
    rw [ht.block bo (Array.getElem?_eq_some_iff.1 h1).1 (fun hm => by rcases hS bo hm with e | e; exact h.apart.1.2.2.2.2.1 e.symm; exact h.apart.1.2.2.2.2.2 e.symm)]
    exact h1
  room := h.room
  rows := fun k hk => by
    obtain ⟨v, h1, h2⟩ := h.rows k hk
    exact ⟨v, h1, h2.turn ht (fun b hb hm => by rcases hS b hm with e | e; exact (h.apart.2 b hb).2.1 e; exact (h.apart.2 b hb).2.2 e)⟩
  apart := h.apart
  lts := fun b hb => Nat.lt_of_lt_of_le (h.lts b hb) ht.size
end

section
variable {r bc bs n : Nat} {w : World} {cur st : Nat → Int}
def RPut (bc bs n : Nat) (cur st : Nat → Int) (i : Nat) (x : Int) (w : World) (e : Ending) (w' : World) : Prop :=
  e = .returned (.tuple #[]) ∧ NumsAt n w' bc (setAt cur i x) ∧ NumsAt n w' bs (bump cur st i x) ∧ Turn [bc, bs] w w'

set_option maxHeartbeats 800000 in
theorem rput_any (h0 : w.cell? ⟨r, 0, none⟩ = some (.slice (some ⟨bc, 0, none⟩) n n)) (h1 : w.cell? ⟨r, 1, none⟩ = some (.slice (some ⟨bs, 0, none⟩) n n)) (hc : NumsAt n w bc cur) (hs : NumsAt n w bs st)
    (ne1 : r ≠ bc) (ne2 : r ≠ bs) (ne3 : bc ≠ bs) {i : Nat} (hi : i < n) (hst : 0 ≤ st i ∧ st i ≤ 1000000) (x : Int) :
    Calls Try.prog 30 #[.pointer (some ⟨r, 0, none⟩), .int .i64 (i : Int), .int .i64 x] w (RPut bc bs n cur st i x w) := by
  have k1 := hc.cell hi
  have k2 := hs.cell hi
  have k3 := hc.frozen i
  have k4 := hs.frozen i
  obtain ⟨y, hy⟩ : ∃ y, y = cur i := ⟨_, rfl⟩
  obtain ⟨s, hss⟩ : ∃ s, s = st i := ⟨_, rfl⟩
  rw [← hy] at k1
  rw [← hss] at k2 hst
  have H := Lib.hid hc
  have HS := Lib.hid hs
  have HY := Lib.hid hy
  have HSS := Lib.hid hss
  obtain ⟨hs1, hs2⟩ := hst
  have a1 : ¬ bc = r := fun e => ne1 e.symm
  have a2 : ¬ bs = r := fun e => ne2 e.symm
  have a3 : ¬ bs = bc := fun e => ne3 e.symm
  have i0 : (0 : Int) ≤ (i : Int) := by omega
  have i1 : (i : Int) < (n : Int) := by omega
  clear hc hs hy hss
  by_cases hxy : y = x
  · have HX := Lib.hid hxy
    have e1 : (y == x) = true := by simpa using hxy
    subst hxy
    clear e1
    go_enter Try.func30, Try.ntmps30
    go_wp2_with fail
    go_end0
    refine ⟨rfl, H.out.set hi _, ?_, (Turn.refl _ _).setCell (.inl (by simp)) _⟩
    have e : bump cur st i y = st := by
      funext j
      unfold bump
      rw [if_neg]
      rintro ⟨_, h6⟩
      exact h6 HY.out.symm
    rw [e]
    exact HS.out.turn (S := [bc]) ((Turn.refl _ _).setCell (.inl (by simp)) _) (by simpa using a3)
  · have HX := Lib.hid hxy
    have e1 : (y == x) = false := by simpa using hxy
    clear hxy
    go_enter Try.func30, Try.ntmps30
    go_wp2_with fail
    go_end0
    have t1 : Turn [bs] w (w.setCell ⟨bs, i, none⟩ (.int .i64 (s + 1))) := (Turn.refl _ _).setCell (.inl (by simp)) _
    refine ⟨rfl, (H.out.turn t1 (by simpa using ne3)).set hi x, ?_, ((Turn.refl _ _).setCell (.inl (by simp)) _).setCell (.inl (by simp)) _⟩
    have e : bump cur st i x = setAt st i (s + 1) := by
      funext j
      unfold bump setAt
      by_cases e1 : j = i
      · rw [if_pos ⟨e1, fun h6 => HX.out (HY.out.trans h6)⟩, if_pos e1, HSS.out, e1]
      · rw [if_neg e1, if_neg (fun h => e1 h.1)]
    rw [e]
    exact (HS.out.set hi (s + 1)).turn (S := [bc]) ((Turn.refl _ _).setCell (.inl (by simp)) _) (by simpa using a3)
end

/-- the document's trail is at σ; e is what comes back -/
def RDoes (M : Nat) (w : World) (F : List Nat) (r : Nat) (σ : Tr Int) (q e : Ending) (w' : World) : Prop :=
  e = q ∧ ∃ F', RAt M w' F' r σ ∧ Moves F w F' w'

theorem rset_no {M : Nat} {w : World} {F : List Nat} {r : Nat} {σ : Tr Int} (h : RAt M w F r σ) {i : Int} (hi : ¬ (0 ≤ i ∧ i < σ.n)) (x : Int) :
    Calls Try.prog 10 #[.pointer (some ⟨r, 0, none⟩), .int .i64 i, .int .i64 x] w fun e w' => e = .returned (.int .i64 1) ∧ w = w' := by
  obtain ⟨bc, bs, bo, cap, vs, G, hP, rfl⟩ := h
  have c0 := hP.c0
  obtain ⟨n, hn⟩ : ∃ n, n = σ.n := ⟨_, rfl⟩
  rw [← hn] at c0 hi
  have HP := Lib.hid hP
  have HH := Lib.hid hi
  clear hP hn
  by_cases h0 : i < 0
  · clear hi
    go_enter Try.func10, Try.ntmps10
    go_wp2_with fail
    go_ret
    exact ⟨rfl, rfl⟩
  · have h1 : 0 ≤ i := by omega
    have h2 : (n : Int) ≤ i := by omega
    clear hi h0
    go_enter Try.func10, Try.ntmps10
    go_wp2_with fail
    go_ret
    exact ⟨rfl, rfl⟩

set_option maxHeartbeats 800000 in
theorem rset_yes {M : Nat} {w : World} {F : List Nat} {r : Nat} {σ : Tr Int} (h : RAt M w F r σ) {i : Nat} (hi : i < σ.n) (hst : ∀ j, 0 ≤ σ.st j ∧ σ.st j ≤ 1000000) (x : Int) :
    Calls Try.prog 10 #[.pointer (some ⟨r, 0, none⟩), .int .i64 (i : Int), .int .i64 x] w (RDoes M w F r (σ.set i x) (.returned (.int .i64 0))) := by
  obtain ⟨bc, bs, bo, cap, vs, G, hP, rfl⟩ := h
  have c0 := hP.c0
  obtain ⟨n, hn⟩ : ∃ n, n = σ.n := ⟨_, rfl⟩
  rw [← hn] at c0
  have i0 : (0 : Int) ≤ (i : Int) := by omega
  have i1 : (i : Int) < (n : Int) := by omega
  have HP := Lib.hid hP
  have HI := Lib.hid hi
  have HS := Lib.hid hst
  clear hP hn hi hst
  go_enter Try.func10, Try.ntmps10
  go_wp2_with fail
  go_at_call 30
  refine (rput_any HP.out.c0 HP.out.c1 HP.out.cur HP.out.st HP.out.apart.1.1 HP.out.apart.1.2.1 HP.out.apart.1.2.2.2.1 HI.out (HS.out i) x).mono ?_
  rintro e w1 ⟨rfl, hc, hs, ht⟩
  have HQ := Lib.hid (HP.out.put ht (by simp) hc hs)
  have HT := Lib.hid ht
  clear hc hs ht
  go_wp2_with fail
  go_ret
  exact ⟨rfl, _, ⟨bc, bs, bo, cap, vs, G, HQ.out, rfl⟩, HT.out.sub (by simp), fun b hb => .inl hb⟩
end Go.Proofs.Ytkajkfapleecaaa
