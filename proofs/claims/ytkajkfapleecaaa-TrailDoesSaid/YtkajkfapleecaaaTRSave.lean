/-
  The document's trail: Save.
-/
import Derived.Test.YtkajkfapleecaaaTRNew
import Derived.Test.YtkajkfapleecaaaRInv
import Derived.Deep.RegionLawGrows
import Derived.Deep.AppendLies
namespace Go.Proofs.Ytkajkfapleecaaa
open Go.RowKit

/-- a copy of the numbers xs, in new memory -/
def Fresh (w : World) (base : Nat) (v : Value) (xs : List Int) : Prop :=
  (xs = [] ∧ ∃ p c, v = .slice p 0 c) ∨ w.ownsRow base 3 1 v xs.length (xs.map (Value.int .i64))
theorem owns_below {w wr : World} {base : Nat} {e : TypeId} {size n : Nat} {v : Value} {xs : List Value} (h : w.ownsRow base e size v n xs) (hb : Below w.heap.size w wr) : wr.ownsRow base e size v n xs := by
  refine ⟨h.1, ?_⟩
  rcases h.2 with h1 | ⟨g, cap, cur, h1, h2, h3, h4⟩
  · exact .inl h1
  · exact .inr ⟨g, cap, cur, h1, h2, (hb.block g (Array.getElem?_eq_some_iff.1 h3).1).trans h3, h4⟩
theorem Fresh.below {w wr : World} {base : Nat} {v : Value} {xs : List Int} (h : Fresh w base v xs) (hb : Below w.heap.size w wr) : Fresh wr base v xs := by
  rcases h with h | h
  · exact .inl h
  · exact .inr (owns_below h hb)
theorem Fresh.low {w : World} {base low : Nat} {v : Value} {xs : List Int} (h : Fresh w base v xs) (hl : low ≤ base) : Fresh w low v xs := by
  rcases h with h | h
  · exact .inl h
  · exact .inr (owns_low h hl)

theorem step_fresh {ops : Array Oper} {o : Oper} {a : Act} {w : World} {K : Act → World → Prop} {Q : Exit → Act → World → Prop} {E : Prop}
    (hg : o.guard = none) (s x : Operand) (hop : o.op = Op.call { callee := Callee.builtin Builtin.append, args := #[s, x], argTypes := #[38, 38] })
    (gb : Nat) (hs : a.eval s = .slice (some ⟨gb, 0, none⟩) 0 0) (b n c : Nat) (xs : List Int) (hl : xs.length = n) (hx : a.eval x = .slice (some ⟨b, 0, none⟩) n c)
    (hc : ∀ k, k < n → w.cell? ⟨b, k, none⟩ = some (.int .i64 (xs.getD k 0))) (hn : n ≤ 1000)
    (hK : ∀ v' w', Fresh w' w.heap.size v' xs → Below w.heap.size w w' → K (a.put o.dst v') w') :
    if Region.wanted o (yielded ops a.tmps) = true then Oper.wp Try.prog o a w K Q else E := by
  have hw : Region.wanted o (yielded ops a.tmps) = true := by simp [Region.wanted, hg]
  rw [if_pos hw]
  obtain ⟨i0, hi, hz0, hz1, hz2⟩ := info_parts info3
  have hnews : ∀ j u, (xs.map (Value.int .i64))[j]? = some u → w.cell? ((⟨b, 0, none⟩ : Addr).add j) = some u := by
    intro j u hj
    rw [List.getElem?_map] at hj
    have hj' : j < xs.length := by
      rcases Nat.lt_or_ge j xs.length with h | h
      · exact h
      · rw [List.getElem?_eq_none h] at hj
        simp at hj
    have e : (⟨b, 0, none⟩ : Addr).add j = ⟨b, j, none⟩ := by
      rw [Addr.add_lit, Nat.zero_add]
    rw [e, hc j (by omega)]
    rw [List.getElem?_eq_getElem hj'] at hj
    simp only [Option.map_some, Option.some.injEq] at hj
    rw [← hj]
    simp [hj']
  by_cases h0 : n = 0
  · subst h0
    obtain rfl : xs = [] := List.eq_nil_of_length_eq_zero hl
    have hrun := run_append_room_cells (P := Try.prog) w 38 o.type 3 i0 Try.underlying38 hi gb 0 0 0 ⟨b, 0, none⟩ 0 c [] (by simp) (by simp) (by simp) (by omega) (by simp) (by simp)
    unfold Oper.wp
    simp [execOp, hop, resolve, invoke, builtin, hs, hx, hrun, Result.andThen]
    exact hK _ _ (.inl ⟨rfl, _, _, rfl⟩) (Below.refl _ _)
  · obtain ⟨v', w', hrun, r1, r2⟩ := run_append_arg_grows (P := Try.prog) w 38 o.type 3 i0 (.int .i64 0) 1 8 Try.underlying38 hi hz0 hz1 hz2 rfl (by decide) ⟨gb, 0, none⟩ 0 0 [] (by simp) (by simp) ⟨b, 0, none⟩ n c (xs.map (Value.int .i64)) (by simp [hl]) hnews (by omega) (by unfold maxLen; omega) (by omega)
    unfold Oper.wp
    simp [execOp, hop, resolve, invoke, builtin, hs, hx, hrun, Result.andThen]
    rw [Nat.zero_add, List.nil_append, ← hl] at r1
    exact hK v' w' (.inr r1) ((Below.refl _ w).grown r2 (Nat.le_refl _) (by simp))

theorem info38 : (Try.prog.info? 38).map (fun i => (i.zero, i.size, i.bytes)) = some (some (.slice none 0 0), 1, 24) := by kernel_rfl

def RSt (w : World) (u : World) : Prop := Below w.heap.size w u
theorem rheld {r : Nat} {w u : World} {C O : Value} (h0 : w.cell? ⟨r, 0, none⟩ = some C) (h2 : w.cell? ⟨r, 2, none⟩ = some O) (h : RSt w u) : u.cell? ⟨r, 0, none⟩ = some C ∧ u.cell? ⟨r, 2, none⟩ = some O ∧ RSt w u := ⟨cell_below h h0, cell_below h h2, h⟩
theorem RSt.alloc {w u : World} (h : RSt w u) (o : Obj) : RSt w (u.alloc o) := Below.alloc h (Below.size h) o

theorem RSt.drew {w u : World} (h : RSt w u) : RSt w u.drew := Below.drew h
theorem RParts.olds_at {M : Nat} {w u : World} {r bc bs bo cap : Nat} {vs : List Value} {G : List Nat} {σ : Tr Int} (h : RParts M w r bc bs bo cap vs G σ) (hu : RSt w u) : ∀ (j : Nat) (x : Value), vs[j]? = some x → u.cell? ((⟨bo, 0, none⟩ : Addr).add j) = some x := by
  intro j x hj
  have hl := h.len
  have hj' : j < vs.length := (List.getElem?_eq_some_iff.1 hj).1
  have := cell_below hu (h.oc (k := j) (by omega))
  rw [hj] at this
  rw [Addr.add_lit, Nat.zero_add]
  exact this
theorem RParts.one {M : Nat} {w : World} {r bc bs bo cap : Nat} {vs : List Value} {G : List Nat} {σ : Tr Int} (h : RParts M w r bc bs bo cap vs G σ) : ∀ x, x ∈ vs → x.oneCell' = true := by
  intro x hx
  obtain ⟨k, hk⟩ := List.getElem?_of_mem hx
  have hl := h.len
  have hk' : k < vs.length := (List.getElem?_eq_some_iff.1 hk).1
  obtain ⟨v, h1, h2⟩ := h.rows k (by omega)
  rw [hk] at h1
  obtain rfl : x = v := by simpa using h1
  obtain ⟨p, b, off, c, rfl, _⟩ := h2.shape
  rfl
theorem RParts.cur_at {M : Nat} {w u : World} {r bc bs bo cap : Nat} {vs : List Value} {G : List Nat} {σ : Tr Int} (h : RParts M w r bc bs bo cap vs G σ) (hu : RSt w u) : ∀ k, k < σ.n → u.cell? ⟨bc, k, none⟩ = some (.int .i64 ((rowOf σ.n σ.cur).getD k 0)) := by
  intro k hk
  rw [rowOf_get _ _ hk]
  exact cell_below hu (h.cur.cell hk)

theorem rgrown {w u u1 : World} (h : RSt w u) (hg : u.grownBy u1 none) : RSt w u1 := Below.grown h hg (Below.size h) (by simp)
theorem rbelow {w u u1 : World} (h : RSt w u) (hg : Below u.heap.size u u1) : RSt w u1 := Below.trans h (hg.mono (Below.size h))
theorem rown {w u u1 : World} {v : Value} {m : Nat} {vs : List Value} (h : RSt w u) (ho : u1.ownsRow u.heap.size 38 1 v (0 + m) ([] ++ vs)) : u1.ownsRow w.heap.size 38 1 v m vs := by
  rw [Nat.zero_add, List.nil_append] at ho
  exact owns_low ho (Below.size h)
theorem Fresh.slice {w : World} {base : Nat} {v : Value} {xs : List Int} (h : Fresh w base v xs) : ∃ p l c, v = .slice p l c := by
  rcases h with ⟨_, p, c, rfl⟩ | h
  · exact ⟨_, _, _, rfl⟩
  · rcases h.2 with ⟨rfl, _⟩ | ⟨g, cap, cur, rfl, _⟩
    · exact ⟨_, _, _, rfl⟩
    · exact ⟨_, _, _, rfl⟩
theorem Fresh.grown {w u : World} {base base' m : Nat} {v v9 : Value} {xs : List Int} {vs : List Value} (h : Fresh w base v xs) (hg : w.grownBy u v9.ownBlock) (ho : w.ownsRow base' 38 1 v9 m vs) : Fresh u base v xs := by
  rcases h with h | h
  · exact .inl h
  · refine .inr (h.kept hg ?_)
    rcases h.2 with ⟨rfl, _⟩ | ⟨b, c, cur, rfl, _, h3, _⟩
    · exact .inl rfl
    · right
      rcases ho.2 with ⟨rfl, _⟩ | ⟨b', c', cur', rfl, _, h3', _⟩
      · simp [Value.ownBlock]
      · intro e
        have e1 : b = b' := by simpa [Value.ownBlock] using e
        subst e1
        rw [h3] at h3'
        injection h3' with h3'
        injection h3' with _ h4
        exact absurd h4 (by decide)

/-- one mark more -/
theorem RParts.save {M m : Nat} {w u : World} {r bc bs bo cap g cap' : Nat} {vs : List Value} {G : List Nat} {σ : Tr Int} {v : Value} (h : RParts M w r bc bs bo cap vs G σ) (hm : m = σ.top + 1) (hu : RSt w u)
    (ho : u.ownsRow w.heap.size 38 1 (.slice (some ⟨g, 0, none⟩) (m + 1) cap') (m + 1) (vs ++ [v])) (hf : Fresh u w.heap.size v (rowOf σ.n σ.cur)) :
    ∃ G', RParts (M + 1) (u.setCell ⟨r, 2, none⟩ (.slice (some ⟨g, 0, none⟩) (m + 1) cap')) r bc bs g cap' (vs ++ [v]) G' σ.save ∧ w.heap.size ≤ g ∧ ∀ b, b ∈ G' → b ∈ G ∨ w.heap.size ≤ b := by
  subst hm
  have hlt := h.ltall
  obtain ⟨oo, k0, k1, k2, k3, k4, k5⟩ : ∃ oo, w.heap.size ≤ g ∧ u.heap[g]? = some (.cells oo 38 (0, 0)) ∧ oo.size = cap' ∧ oo.toList.take (σ.top + 1 + 1) = vs ++ [v] ∧ σ.top + 1 + 1 ≤ cap' ∧ cap' ≤ maxLen := by
    rcases ho.2 with ⟨e, _⟩ | ⟨g', c', cur', e, q1, q2, q3, q4, q5, q6⟩
    · cases e
    · obtain ⟨rfl, rfl⟩ : g = g' ∧ cap' = c' := by
        injection e with e1 _ e2
        injection e1 with e1
        injection e1 with e1
        exact ⟨e1, e2⟩
      exact ⟨cur', q1, q2, by rw [Nat.mul_one] at q5; exact q5, by rw [Nat.mul_one] at q6; exact q6, q3, q4⟩
  obtain ⟨G', hG1, hG2, hG3, hG4⟩ : ∃ G', (∀ b, b ∈ G → b ∈ G') ∧ (∀ b, b ∈ G' → b ∈ G ∨ w.heap.size ≤ b) ∧ (∀ b, b ∈ G' → b < u.heap.size) ∧ RowIn G' u v (rowOf σ.n σ.cur) := by
    have hlu : ∀ b, b ∈ G → b < u.heap.size := fun b hb => Nat.lt_of_lt_of_le (h.lts b hb) (Below.size hu)
    rcases hf with ⟨hx, p, c, rfl⟩ | hf
    · exact ⟨G, fun b hb => hb, fun b hb => .inl hb, hlu, .inl ⟨p, c, rfl, hx⟩⟩
    · have hf0 := hf
      rcases hf.2 with ⟨rfl, hx⟩ | ⟨b, c, cur, rfl, q1, q2, _⟩
      · exact ⟨G, fun b hb => hb, fun b hb => .inl hb, hlu, .inl ⟨none, 0, rfl, List.eq_nil_of_length_eq_zero hx⟩⟩
      · refine ⟨b :: G, fun x hx => by simp [hx], fun x hx => ?_, fun x hx => ?_, .inr ⟨b, 0, c, rfl, by simp, fun k hk => ?_⟩⟩
        · rcases List.mem_cons.1 hx with e | e
          · exact .inr (e ▸ q1)
          · exact .inl e
        · rcases List.mem_cons.1 hx with e | e
          · exact e ▸ (Array.getElem?_eq_some_iff.1 q2).1
          · exact hlu x e
        · have c0 := hf0.cellAt k (by omega)
          rw [Nat.zero_add, c0]
          simp [hk]
  have hr : r < w.heap.size := hlt r (by simp)
  have hT : Turn [r] w (u.setCell ⟨r, 2, none⟩ (.slice (some ⟨g, 0, none⟩) (σ.top + 1 + 1) cap')) := (turn_of_below hu [r]).setCell (.inl (by simp)) _
  have hTu : Turn [r] u (u.setCell ⟨r, 2, none⟩ (.slice (some ⟨g, 0, none⟩) (σ.top + 1 + 1) cap')) := (Turn.refl _ _).setCell (.inl (by simp)) _
  have ha := h.apart
  refine ⟨G', ?_, k0, hG2⟩
  exact {
    small := h.small
    most := Nat.succ_lt_succ h.most
    head := by
      have e1 : u.heap[r]? = _ := (Below.block hu r hr).trans h.head
      rw [heap_setCell_same e1]
      rfl
    cur := h.cur.turn hT (by simpa using ha.1.1.symm)
    st := h.st.turn hT (by simpa using ha.1.2.1.symm)
    len := by rw [List.length_append, h.len]; rfl
    olds := ⟨oo, by rw [hTu.block g (Array.getElem?_eq_some_iff.1 k1).1 (by simp; omega)]; exact k1, k2, k3⟩
    room := ⟨k4, k5⟩
    rows := fun k hk => by
      have hk' : k ≤ σ.top + 1 := hk
      by_cases e : k = σ.top + 1
      · refine ⟨v, ?_, ?_⟩
        · rw [e, List.getElem?_append_right (by rw [h.len]; exact Nat.le_refl _), h.len]
          simp
        · have e2 : σ.save.old k = σ.cur := by
            show setAt σ.old (σ.top + 1) σ.cur k = _
            rw [setAt, if_pos e]
          rw [e2]
          refine hG4.turn hTu (fun b hb => ?_)
          simp only [List.mem_singleton]
          rintro rfl
          rcases hG2 b hb with h1 | h1
          · exact (ha.2 b h1).1 rfl
          · omega
      · obtain ⟨x, h1, h2⟩ := h.rows k (by omega)
        refine ⟨x, by rw [List.getElem?_append_left (by rw [h.len]; omega)]; exact h1, ?_⟩
        have e2 : σ.save.old k = σ.old k := by
          show setAt σ.old (σ.top + 1) σ.cur k = _
          rw [setAt, if_neg e]
        rw [e2]
        exact (h2.turn hT (fun b hb => by simpa using (ha.2 b hb).1)).more hG1
    apart := by
      have b1 : bc < w.heap.size := hlt bc (by simp)
      have b2 : bs < w.heap.size := hlt bs (by simp)
      refine ⟨⟨ha.1.1, ha.1.2.1, by omega, ha.1.2.2.2.1, by omega, by omega⟩, fun b hb => ?_⟩
      rcases hG2 b hb with h1 | h1
      · exact ha.2 b h1
      · exact ⟨by omega, by omega, by omega⟩
    lts := fun b hb => by
      have := hG3 b hb
      simpa [World.setCell] using this }

theorem news_at {u : World} {b : Nat} {v : Value} (h : u.cell? ⟨b, 0, none⟩ = some v) : ∀ (j : Nat) (x : Value), [v][j]? = some x → u.cell? ((⟨b, 0, none⟩ : Addr).add j) = some x := by
  intro j x hj
  cases j with
  | zero =>
    obtain rfl : v = x := by simpa using hj
    exact h
  | succ j => simp at hj

structure SvS (w : World) (r bc bo cap n m : Nat) (vs : List Value) (xs : List Int) (v3 v4 v5 v6 v7 v8 v9 v10 v11 v12 v13 v14 v15 v16 v17 v18 v19 : Value) (l : Nat → Bool) (u : World) : Prop where
  base : RSt w u
  f0 : l 0 = true → v3 = (.pointer (some ⟨r, 0, none⟩))
  f1 : l 1 = true → ∃ b : Nat, v4 = .slice (some ⟨b, 0, none⟩) 0 0
  f2 : l 2 = true → v5 = (.pointer (some ⟨r, 0, none⟩))
  f3 : l 3 = true → v6 = (.pointer (some ⟨r, 0, none⟩))
  f4 : l 4 = true → v7 = (.pointer (some ⟨r, 2, none⟩))
  f5 : l 5 = true → v8 = (.slice (some ⟨bo, 0, none⟩) m cap)
  f6 : l 6 = true → l 14 = false → u.ownsRow w.heap.size 38 1 v9 m vs
  f7 : l 7 = true → ∃ b : Nat, v10 = .slice (some ⟨b, 0, none⟩) 0 0
  f8 : l 8 = true → v11 = (.pointer (some ⟨r, 0, none⟩))
  f9 : l 9 = true → v12 = (.pointer (some ⟨r, 0, none⟩))
  f10 : l 10 = true → v13 = (.pointer (some ⟨r, 0, none⟩))
  f11 : l 11 = true → v14 = (.slice (some ⟨bc, 0, none⟩) n n)
  f12 : l 12 = true → Fresh u w.heap.size v15 xs
  f13 : l 13 = true → l 14 = false → ∃ b : Nat, v16 = .slice (some ⟨b, 0, none⟩) 1 1 ∧ u.cell? ⟨b, 0, none⟩ = some v15
  f14 : l 14 = true → ∃ (g cap1 : Nat), v17 = .slice (some ⟨g, 0, none⟩) (m + 1) cap1 ∧ u.ownsRow w.heap.size 38 1 v17 (m + 1) (vs ++ [v15])
  f15 : l 15 = true → v18 = (.pointer (some ⟨r, 0, none⟩))
  f16 : l 16 = true → v19 = (.pointer (some ⟨r, 2, none⟩))
  o13 : l 13 = true → l 12 = true
  o14 : l 14 = true → l 12 = true
  o16 : l 16 = true → l 15 = true

theorem up {l : Nat → Bool} {i j : Nat} (h : l j = true) : upd l i j = true := by
  unfold upd
  split
  · rfl
  · exact h

theorem SvS.s0 {w : World} {r bc bo cap n m : Nat} {vs : List Value} {xs : List Int} {v3 v4 v5 v6 v7 v8 v9 v10 v11 v12 v13 v14 v15 v16 v17 v18 v19 : Value} {l : Nat → Bool} {u : World} (S : SvS w r bc bo cap n m vs xs v3 v4 v5 v6 v7 v8 v9 v10 v11 v12 v13 v14 v15 v16 v17 v18 v19 l u) : SvS w r bc bo cap n m vs xs (.pointer (some ⟨r, 0, none⟩)) v4 v5 v6 v7 v8 v9 v10 v11 v12 v13 v14 v15 v16 v17 v18 v19 (upd l 0) u := by
  exact ⟨S.base, fun _ => rfl, fun h => S.f1 (upd_old (by decide) h), fun h => S.f2 (upd_old (by decide) h), fun h => S.f3 (upd_old (by decide) h), fun h => S.f4 (upd_old (by decide) h), fun h => S.f5 (upd_old (by decide) h), fun h h2 => S.f6 (upd_old (by decide) h) ((upd_ne (by decide)).symm.trans h2), fun h => S.f7 (upd_old (by decide) h), fun h => S.f8 (upd_old (by decide) h), fun h => S.f9 (upd_old (by decide) h), fun h => S.f10 (upd_old (by decide) h), fun h => S.f11 (upd_old (by decide) h), fun h => S.f12 (upd_old (by decide) h), fun h h2 => S.f13 (upd_old (by decide) h) ((upd_ne (by decide)).symm.trans h2), fun h => S.f14 (upd_old (by decide) h), fun h => S.f15 (upd_old (by decide) h), fun h => S.f16 (upd_old (by decide) h), fun h => up (S.o13 (upd_old (by decide) h)), fun h => up (S.o14 (upd_old (by decide) h)), fun h => up (S.o16 (upd_old (by decide) h))⟩
theorem SvS.s1 {w : World} {r bc bo cap n m : Nat} {vs : List Value} {xs : List Int} {v3 v4 v5 v6 v7 v8 v9 v10 v11 v12 v13 v14 v15 v16 v17 v18 v19 : Value} {l : Nat → Bool} {u : World} (S : SvS w r bc bo cap n m vs xs v3 v4 v5 v6 v7 v8 v9 v10 v11 v12 v13 v14 v15 v16 v17 v18 v19 l u) (_ : l 1 = false) {u2 : World} {z : Value} (hB : Below u.heap.size u u2) (hz : ∃ b : Nat, z = .slice (some ⟨b, 0, none⟩) 0 0) : SvS w r bc bo cap n m vs xs v3 z v5 v6 v7 v8 v9 v10 v11 v12 v13 v14 v15 v16 v17 v18 v19 (upd l 1) u2 := by
  exact ⟨rbelow S.base hB, fun h => S.f0 (upd_old (by decide) h), fun _ => hz, fun h => S.f2 (upd_old (by decide) h), fun h => S.f3 (upd_old (by decide) h), fun h => S.f4 (upd_old (by decide) h), fun h => S.f5 (upd_old (by decide) h), fun h h2 => owns_below (S.f6 (upd_old (by decide) h) ((upd_ne (by decide)).symm.trans h2)) hB, fun h => S.f7 (upd_old (by decide) h), fun h => S.f8 (upd_old (by decide) h), fun h => S.f9 (upd_old (by decide) h), fun h => S.f10 (upd_old (by decide) h), fun h => S.f11 (upd_old (by decide) h), fun h => (S.f12 (upd_old (by decide) h)).below hB, fun h h2 => (S.f13 (upd_old (by decide) h) ((upd_ne (by decide)).symm.trans h2)).imp fun _ q => ⟨q.1, cell_below hB q.2⟩, fun h => (S.f14 (upd_old (by decide) h)).imp fun _ q => q.imp fun _ q => ⟨q.1, owns_below q.2 hB⟩, fun h => S.f15 (upd_old (by decide) h), fun h => S.f16 (upd_old (by decide) h), fun h => up (S.o13 (upd_old (by decide) h)), fun h => up (S.o14 (upd_old (by decide) h)), fun h => up (S.o16 (upd_old (by decide) h))⟩
theorem SvS.s2 {w : World} {r bc bo cap n m : Nat} {vs : List Value} {xs : List Int} {v3 v4 v5 v6 v7 v8 v9 v10 v11 v12 v13 v14 v15 v16 v17 v18 v19 : Value} {l : Nat → Bool} {u : World} (S : SvS w r bc bo cap n m vs xs v3 v4 v5 v6 v7 v8 v9 v10 v11 v12 v13 v14 v15 v16 v17 v18 v19 l u) : SvS w r bc bo cap n m vs xs v3 v4 (.pointer (some ⟨r, 0, none⟩)) v6 v7 v8 v9 v10 v11 v12 v13 v14 v15 v16 v17 v18 v19 (upd l 2) u := by
  exact ⟨S.base, fun h => S.f0 (upd_old (by decide) h), fun h => S.f1 (upd_old (by decide) h), fun _ => rfl, fun h => S.f3 (upd_old (by decide) h), fun h => S.f4 (upd_old (by decide) h), fun h => S.f5 (upd_old (by decide) h), fun h h2 => S.f6 (upd_old (by decide) h) ((upd_ne (by decide)).symm.trans h2), fun h => S.f7 (upd_old (by decide) h), fun h => S.f8 (upd_old (by decide) h), fun h => S.f9 (upd_old (by decide) h), fun h => S.f10 (upd_old (by decide) h), fun h => S.f11 (upd_old (by decide) h), fun h => S.f12 (upd_old (by decide) h), fun h h2 => S.f13 (upd_old (by decide) h) ((upd_ne (by decide)).symm.trans h2), fun h => S.f14 (upd_old (by decide) h), fun h => S.f15 (upd_old (by decide) h), fun h => S.f16 (upd_old (by decide) h), fun h => up (S.o13 (upd_old (by decide) h)), fun h => up (S.o14 (upd_old (by decide) h)), fun h => up (S.o16 (upd_old (by decide) h))⟩
theorem SvS.s3 {w : World} {r bc bo cap n m : Nat} {vs : List Value} {xs : List Int} {v3 v4 v5 v6 v7 v8 v9 v10 v11 v12 v13 v14 v15 v16 v17 v18 v19 : Value} {l : Nat → Bool} {u : World} (S : SvS w r bc bo cap n m vs xs v3 v4 v5 v6 v7 v8 v9 v10 v11 v12 v13 v14 v15 v16 v17 v18 v19 l u) : SvS w r bc bo cap n m vs xs v3 v4 v5 (.pointer (some ⟨r, 0, none⟩)) v7 v8 v9 v10 v11 v12 v13 v14 v15 v16 v17 v18 v19 (upd l 3) u := by
  exact ⟨S.base, fun h => S.f0 (upd_old (by decide) h), fun h => S.f1 (upd_old (by decide) h), fun h => S.f2 (upd_old (by decide) h), fun _ => rfl, fun h => S.f4 (upd_old (by decide) h), fun h => S.f5 (upd_old (by decide) h), fun h h2 => S.f6 (upd_old (by decide) h) ((upd_ne (by decide)).symm.trans h2), fun h => S.f7 (upd_old (by decide) h), fun h => S.f8 (upd_old (by decide) h), fun h => S.f9 (upd_old (by decide) h), fun h => S.f10 (upd_old (by decide) h), fun h => S.f11 (upd_old (by decide) h), fun h => S.f12 (upd_old (by decide) h), fun h h2 => S.f13 (upd_old (by decide) h) ((upd_ne (by decide)).symm.trans h2), fun h => S.f14 (upd_old (by decide) h), fun h => S.f15 (upd_old (by decide) h), fun h => S.f16 (upd_old (by decide) h), fun h => up (S.o13 (upd_old (by decide) h)), fun h => up (S.o14 (upd_old (by decide) h)), fun h => up (S.o16 (upd_old (by decide) h))⟩
theorem SvS.s4 {w : World} {r bc bo cap n m : Nat} {vs : List Value} {xs : List Int} {v3 v4 v5 v6 v7 v8 v9 v10 v11 v12 v13 v14 v15 v16 v17 v18 v19 : Value} {l : Nat → Bool} {u : World} (S : SvS w r bc bo cap n m vs xs v3 v4 v5 v6 v7 v8 v9 v10 v11 v12 v13 v14 v15 v16 v17 v18 v19 l u) : SvS w r bc bo cap n m vs xs v3 v4 v5 v6 (.pointer (some ⟨r, 2, none⟩)) v8 v9 v10 v11 v12 v13 v14 v15 v16 v17 v18 v19 (upd l 4) u := by
  exact ⟨S.base, fun h => S.f0 (upd_old (by decide) h), fun h => S.f1 (upd_old (by decide) h), fun h => S.f2 (upd_old (by decide) h), fun h => S.f3 (upd_old (by decide) h), fun _ => rfl, fun h => S.f5 (upd_old (by decide) h), fun h h2 => S.f6 (upd_old (by decide) h) ((upd_ne (by decide)).symm.trans h2), fun h => S.f7 (upd_old (by decide) h), fun h => S.f8 (upd_old (by decide) h), fun h => S.f9 (upd_old (by decide) h), fun h => S.f10 (upd_old (by decide) h), fun h => S.f11 (upd_old (by decide) h), fun h => S.f12 (upd_old (by decide) h), fun h h2 => S.f13 (upd_old (by decide) h) ((upd_ne (by decide)).symm.trans h2), fun h => S.f14 (upd_old (by decide) h), fun h => S.f15 (upd_old (by decide) h), fun h => S.f16 (upd_old (by decide) h), fun h => up (S.o13 (upd_old (by decide) h)), fun h => up (S.o14 (upd_old (by decide) h)), fun h => up (S.o16 (upd_old (by decide) h))⟩
theorem SvS.s5 {w : World} {r bc bo cap n m : Nat} {vs : List Value} {xs : List Int} {v3 v4 v5 v6 v7 v8 v9 v10 v11 v12 v13 v14 v15 v16 v17 v18 v19 : Value} {l : Nat → Bool} {u : World} (S : SvS w r bc bo cap n m vs xs v3 v4 v5 v6 v7 v8 v9 v10 v11 v12 v13 v14 v15 v16 v17 v18 v19 l u) : SvS w r bc bo cap n m vs xs v3 v4 v5 v6 v7 (.slice (some ⟨bo, 0, none⟩) m cap) v9 v10 v11 v12 v13 v14 v15 v16 v17 v18 v19 (upd l 5) u := by
  exact ⟨S.base, fun h => S.f0 (upd_old (by decide) h), fun h => S.f1 (upd_old (by decide) h), fun h => S.f2 (upd_old (by decide) h), fun h => S.f3 (upd_old (by decide) h), fun h => S.f4 (upd_old (by decide) h), fun _ => rfl, fun h h2 => S.f6 (upd_old (by decide) h) ((upd_ne (by decide)).symm.trans h2), fun h => S.f7 (upd_old (by decide) h), fun h => S.f8 (upd_old (by decide) h), fun h => S.f9 (upd_old (by decide) h), fun h => S.f10 (upd_old (by decide) h), fun h => S.f11 (upd_old (by decide) h), fun h => S.f12 (upd_old (by decide) h), fun h h2 => S.f13 (upd_old (by decide) h) ((upd_ne (by decide)).symm.trans h2), fun h => S.f14 (upd_old (by decide) h), fun h => S.f15 (upd_old (by decide) h), fun h => S.f16 (upd_old (by decide) h), fun h => up (S.o13 (upd_old (by decide) h)), fun h => up (S.o14 (upd_old (by decide) h)), fun h => up (S.o16 (upd_old (by decide) h))⟩
theorem SvS.s6 {w : World} {r bc bo cap n m : Nat} {vs : List Value} {xs : List Int} {v3 v4 v5 v6 v7 v8 v9 v10 v11 v12 v13 v14 v15 v16 v17 v18 v19 : Value} {l : Nat → Bool} {u : World} (S : SvS w r bc bo cap n m vs xs v3 v4 v5 v6 v7 v8 v9 v10 v11 v12 v13 v14 v15 v16 v17 v18 v19 l u) (_ : l 6 = false) {u2 : World} {z : Value} (hB : Below u.heap.size u u2) (hz : u2.ownsRow w.heap.size 38 1 z m vs) : SvS w r bc bo cap n m vs xs v3 v4 v5 v6 v7 v8 z v10 v11 v12 v13 v14 v15 v16 v17 v18 v19 (upd l 6) u2 := by
  exact ⟨rbelow S.base hB, fun h => S.f0 (upd_old (by decide) h), fun h => S.f1 (upd_old (by decide) h), fun h => S.f2 (upd_old (by decide) h), fun h => S.f3 (upd_old (by decide) h), fun h => S.f4 (upd_old (by decide) h), fun h => S.f5 (upd_old (by decide) h), fun _ _ => hz, fun h => S.f7 (upd_old (by decide) h), fun h => S.f8 (upd_old (by decide) h), fun h => S.f9 (upd_old (by decide) h), fun h => S.f10 (upd_old (by decide) h), fun h => S.f11 (upd_old (by decide) h), fun h => (S.f12 (upd_old (by decide) h)).below hB, fun h h2 => (S.f13 (upd_old (by decide) h) ((upd_ne (by decide)).symm.trans h2)).imp fun _ q => ⟨q.1, cell_below hB q.2⟩, fun h => (S.f14 (upd_old (by decide) h)).imp fun _ q => q.imp fun _ q => ⟨q.1, owns_below q.2 hB⟩, fun h => S.f15 (upd_old (by decide) h), fun h => S.f16 (upd_old (by decide) h), fun h => up (S.o13 (upd_old (by decide) h)), fun h => up (S.o14 (upd_old (by decide) h)), fun h => up (S.o16 (upd_old (by decide) h))⟩
theorem SvS.s7 {w : World} {r bc bo cap n m : Nat} {vs : List Value} {xs : List Int} {v3 v4 v5 v6 v7 v8 v9 v10 v11 v12 v13 v14 v15 v16 v17 v18 v19 : Value} {l : Nat → Bool} {u : World} (S : SvS w r bc bo cap n m vs xs v3 v4 v5 v6 v7 v8 v9 v10 v11 v12 v13 v14 v15 v16 v17 v18 v19 l u) (_ : l 7 = false) {u2 : World} {z : Value} (hB : Below u.heap.size u u2) (hz : ∃ b : Nat, z = .slice (some ⟨b, 0, none⟩) 0 0) : SvS w r bc bo cap n m vs xs v3 v4 v5 v6 v7 v8 v9 z v11 v12 v13 v14 v15 v16 v17 v18 v19 (upd l 7) u2 := by
  exact ⟨rbelow S.base hB, fun h => S.f0 (upd_old (by decide) h), fun h => S.f1 (upd_old (by decide) h), fun h => S.f2 (upd_old (by decide) h), fun h => S.f3 (upd_old (by decide) h), fun h => S.f4 (upd_old (by decide) h), fun h => S.f5 (upd_old (by decide) h), fun h h2 => owns_below (S.f6 (upd_old (by decide) h) ((upd_ne (by decide)).symm.trans h2)) hB, fun _ => hz, fun h => S.f8 (upd_old (by decide) h), fun h => S.f9 (upd_old (by decide) h), fun h => S.f10 (upd_old (by decide) h), fun h => S.f11 (upd_old (by decide) h), fun h => (S.f12 (upd_old (by decide) h)).below hB, fun h h2 => (S.f13 (upd_old (by decide) h) ((upd_ne (by decide)).symm.trans h2)).imp fun _ q => ⟨q.1, cell_below hB q.2⟩, fun h => (S.f14 (upd_old (by decide) h)).imp fun _ q => q.imp fun _ q => ⟨q.1, owns_below q.2 hB⟩, fun h => S.f15 (upd_old (by decide) h), fun h => S.f16 (upd_old (by decide) h), fun h => up (S.o13 (upd_old (by decide) h)), fun h => up (S.o14 (upd_old (by decide) h)), fun h => up (S.o16 (upd_old (by decide) h))⟩
theorem SvS.s8 {w : World} {r bc bo cap n m : Nat} {vs : List Value} {xs : List Int} {v3 v4 v5 v6 v7 v8 v9 v10 v11 v12 v13 v14 v15 v16 v17 v18 v19 : Value} {l : Nat → Bool} {u : World} (S : SvS w r bc bo cap n m vs xs v3 v4 v5 v6 v7 v8 v9 v10 v11 v12 v13 v14 v15 v16 v17 v18 v19 l u) : SvS w r bc bo cap n m vs xs v3 v4 v5 v6 v7 v8 v9 v10 (.pointer (some ⟨r, 0, none⟩)) v12 v13 v14 v15 v16 v17 v18 v19 (upd l 8) u := by
  exact ⟨S.base, fun h => S.f0 (upd_old (by decide) h), fun h => S.f1 (upd_old (by decide) h), fun h => S.f2 (upd_old (by decide) h), fun h => S.f3 (upd_old (by decide) h), fun h => S.f4 (upd_old (by decide) h), fun h => S.f5 (upd_old (by decide) h), fun h h2 => S.f6 (upd_old (by decide) h) ((upd_ne (by decide)).symm.trans h2), fun h => S.f7 (upd_old (by decide) h), fun _ => rfl, fun h => S.f9 (upd_old (by decide) h), fun h => S.f10 (upd_old (by decide) h), fun h => S.f11 (upd_old (by decide) h), fun h => S.f12 (upd_old (by decide) h), fun h h2 => S.f13 (upd_old (by decide) h) ((upd_ne (by decide)).symm.trans h2), fun h => S.f14 (upd_old (by decide) h), fun h => S.f15 (upd_old (by decide) h), fun h => S.f16 (upd_old (by decide) h), fun h => up (S.o13 (upd_old (by decide) h)), fun h => up (S.o14 (upd_old (by decide) h)), fun h => up (S.o16 (upd_old (by decide) h))⟩
theorem SvS.s9 {w : World} {r bc bo cap n m : Nat} {vs : List Value} {xs : List Int} {v3 v4 v5 v6 v7 v8 v9 v10 v11 v12 v13 v14 v15 v16 v17 v18 v19 : Value} {l : Nat → Bool} {u : World} (S : SvS w r bc bo cap n m vs xs v3 v4 v5 v6 v7 v8 v9 v10 v11 v12 v13 v14 v15 v16 v17 v18 v19 l u) : SvS w r bc bo cap n m vs xs v3 v4 v5 v6 v7 v8 v9 v10 v11 (.pointer (some ⟨r, 0, none⟩)) v13 v14 v15 v16 v17 v18 v19 (upd l 9) u := by
  exact ⟨S.base, fun h => S.f0 (upd_old (by decide) h), fun h => S.f1 (upd_old (by decide) h), fun h => S.f2 (upd_old (by decide) h), fun h => S.f3 (upd_old (by decide) h), fun h => S.f4 (upd_old (by decide) h), fun h => S.f5 (upd_old (by decide) h), fun h h2 => S.f6 (upd_old (by decide) h) ((upd_ne (by decide)).symm.trans h2), fun h => S.f7 (upd_old (by decide) h), fun h => S.f8 (upd_old (by decide) h), fun _ => rfl, fun h => S.f10 (upd_old (by decide) h), fun h => S.f11 (upd_old (by decide) h), fun h => S.f12 (upd_old (by decide) h), fun h h2 => S.f13 (upd_old (by decide) h) ((upd_ne (by decide)).symm.trans h2), fun h => S.f14 (upd_old (by decide) h), fun h => S.f15 (upd_old (by decide) h), fun h => S.f16 (upd_old (by decide) h), fun h => up (S.o13 (upd_old (by decide) h)), fun h => up (S.o14 (upd_old (by decide) h)), fun h => up (S.o16 (upd_old (by decide) h))⟩
theorem SvS.s10 {w : World} {r bc bo cap n m : Nat} {vs : List Value} {xs : List Int} {v3 v4 v5 v6 v7 v8 v9 v10 v11 v12 v13 v14 v15 v16 v17 v18 v19 : Value} {l : Nat → Bool} {u : World} (S : SvS w r bc bo cap n m vs xs v3 v4 v5 v6 v7 v8 v9 v10 v11 v12 v13 v14 v15 v16 v17 v18 v19 l u) : SvS w r bc bo cap n m vs xs v3 v4 v5 v6 v7 v8 v9 v10 v11 v12 (.pointer (some ⟨r, 0, none⟩)) v14 v15 v16 v17 v18 v19 (upd l 10) u := by
  exact ⟨S.base, fun h => S.f0 (upd_old (by decide) h), fun h => S.f1 (upd_old (by decide) h), fun h => S.f2 (upd_old (by decide) h), fun h => S.f3 (upd_old (by decide) h), fun h => S.f4 (upd_old (by decide) h), fun h => S.f5 (upd_old (by decide) h), fun h h2 => S.f6 (upd_old (by decide) h) ((upd_ne (by decide)).symm.trans h2), fun h => S.f7 (upd_old (by decide) h), fun h => S.f8 (upd_old (by decide) h), fun h => S.f9 (upd_old (by decide) h), fun _ => rfl, fun h => S.f11 (upd_old (by decide) h), fun h => S.f12 (upd_old (by decide) h), fun h h2 => S.f13 (upd_old (by decide) h) ((upd_ne (by decide)).symm.trans h2), fun h => S.f14 (upd_old (by decide) h), fun h => S.f15 (upd_old (by decide) h), fun h => S.f16 (upd_old (by decide) h), fun h => up (S.o13 (upd_old (by decide) h)), fun h => up (S.o14 (upd_old (by decide) h)), fun h => up (S.o16 (upd_old (by decide) h))⟩
theorem SvS.s11 {w : World} {r bc bo cap n m : Nat} {vs : List Value} {xs : List Int} {v3 v4 v5 v6 v7 v8 v9 v10 v11 v12 v13 v14 v15 v16 v17 v18 v19 : Value} {l : Nat → Bool} {u : World} (S : SvS w r bc bo cap n m vs xs v3 v4 v5 v6 v7 v8 v9 v10 v11 v12 v13 v14 v15 v16 v17 v18 v19 l u) : SvS w r bc bo cap n m vs xs v3 v4 v5 v6 v7 v8 v9 v10 v11 v12 v13 (.slice (some ⟨bc, 0, none⟩) n n) v15 v16 v17 v18 v19 (upd l 11) u := by
  exact ⟨S.base, fun h => S.f0 (upd_old (by decide) h), fun h => S.f1 (upd_old (by decide) h), fun h => S.f2 (upd_old (by decide) h), fun h => S.f3 (upd_old (by decide) h), fun h => S.f4 (upd_old (by decide) h), fun h => S.f5 (upd_old (by decide) h), fun h h2 => S.f6 (upd_old (by decide) h) ((upd_ne (by decide)).symm.trans h2), fun h => S.f7 (upd_old (by decide) h), fun h => S.f8 (upd_old (by decide) h), fun h => S.f9 (upd_old (by decide) h), fun h => S.f10 (upd_old (by decide) h), fun _ => rfl, fun h => S.f12 (upd_old (by decide) h), fun h h2 => S.f13 (upd_old (by decide) h) ((upd_ne (by decide)).symm.trans h2), fun h => S.f14 (upd_old (by decide) h), fun h => S.f15 (upd_old (by decide) h), fun h => S.f16 (upd_old (by decide) h), fun h => up (S.o13 (upd_old (by decide) h)), fun h => up (S.o14 (upd_old (by decide) h)), fun h => up (S.o16 (upd_old (by decide) h))⟩
theorem SvS.s12 {w : World} {r bc bo cap n m : Nat} {vs : List Value} {xs : List Int} {v3 v4 v5 v6 v7 v8 v9 v10 v11 v12 v13 v14 v15 v16 v17 v18 v19 : Value} {l : Nat → Bool} {u : World} (S : SvS w r bc bo cap n m vs xs v3 v4 v5 v6 v7 v8 v9 v10 v11 v12 v13 v14 v15 v16 v17 v18 v19 l u) (hn : l 12 = false) {u2 : World} {z : Value} (hB : Below u.heap.size u u2) (hz : Fresh u2 w.heap.size z xs) : SvS w r bc bo cap n m vs xs v3 v4 v5 v6 v7 v8 v9 v10 v11 v12 v13 v14 z v16 v17 v18 v19 (upd l 12) u2 := by
  exact ⟨rbelow S.base hB, fun h => S.f0 (upd_old (by decide) h), fun h => S.f1 (upd_old (by decide) h), fun h => S.f2 (upd_old (by decide) h), fun h => S.f3 (upd_old (by decide) h), fun h => S.f4 (upd_old (by decide) h), fun h => S.f5 (upd_old (by decide) h), fun h h2 => owns_below (S.f6 (upd_old (by decide) h) ((upd_ne (by decide)).symm.trans h2)) hB, fun h => S.f7 (upd_old (by decide) h), fun h => S.f8 (upd_old (by decide) h), fun h => S.f9 (upd_old (by decide) h), fun h => S.f10 (upd_old (by decide) h), fun h => S.f11 (upd_old (by decide) h), fun _ => hz, fun h _ => absurd (S.o13 (upd_old (by decide) h)) (by rw [hn]; decide), fun h => absurd (S.o14 (upd_old (by decide) h)) (by rw [hn]; decide), fun h => S.f15 (upd_old (by decide) h), fun h => S.f16 (upd_old (by decide) h), fun h => up (S.o13 (upd_old (by decide) h)), fun h => up (S.o14 (upd_old (by decide) h)), fun h => up (S.o16 (upd_old (by decide) h))⟩
theorem SvS.s13 {w : World} {r bc bo cap n m : Nat} {vs : List Value} {xs : List Int} {v3 v4 v5 v6 v7 v8 v9 v10 v11 v12 v13 v14 v15 v16 v17 v18 v19 : Value} {l : Nat → Bool} {u : World} (S : SvS w r bc bo cap n m vs xs v3 v4 v5 v6 v7 v8 v9 v10 v11 v12 v13 v14 v15 v16 v17 v18 v19 l u) (_ : l 13 = false) (h12 : l 12 = true) {u2 : World} {z : Value} (hB : Below u.heap.size u u2) (hz : ∃ b : Nat, z = .slice (some ⟨b, 0, none⟩) 1 1 ∧ u2.cell? ⟨b, 0, none⟩ = some v15) : SvS w r bc bo cap n m vs xs v3 v4 v5 v6 v7 v8 v9 v10 v11 v12 v13 v14 v15 z v17 v18 v19 (upd l 13) u2 := by
  exact ⟨rbelow S.base hB, fun h => S.f0 (upd_old (by decide) h), fun h => S.f1 (upd_old (by decide) h), fun h => S.f2 (upd_old (by decide) h), fun h => S.f3 (upd_old (by decide) h), fun h => S.f4 (upd_old (by decide) h), fun h => S.f5 (upd_old (by decide) h), fun h h2 => owns_below (S.f6 (upd_old (by decide) h) ((upd_ne (by decide)).symm.trans h2)) hB, fun h => S.f7 (upd_old (by decide) h), fun h => S.f8 (upd_old (by decide) h), fun h => S.f9 (upd_old (by decide) h), fun h => S.f10 (upd_old (by decide) h), fun h => S.f11 (upd_old (by decide) h), fun h => (S.f12 (upd_old (by decide) h)).below hB, fun _ _ => hz, fun h => (S.f14 (upd_old (by decide) h)).imp fun _ q => q.imp fun _ q => ⟨q.1, owns_below q.2 hB⟩, fun h => S.f15 (upd_old (by decide) h), fun h => S.f16 (upd_old (by decide) h), fun _ => up h12, fun h => up (S.o14 (upd_old (by decide) h)), fun h => up (S.o16 (upd_old (by decide) h))⟩
theorem SvS.s14 {w : World} {r bc bo cap n m : Nat} {vs : List Value} {xs : List Int} {v3 v4 v5 v6 v7 v8 v9 v10 v11 v12 v13 v14 v15 v16 v17 v18 v19 : Value} {l : Nat → Bool} {u : World} (S : SvS w r bc bo cap n m vs xs v3 v4 v5 v6 v7 v8 v9 v10 v11 v12 v13 v14 v15 v16 v17 v18 v19 l u) (_ : l 14 = false) (h12 : l 12 = true) {u2 : World} {z : Value} (hB : RSt w u2) (hF : Fresh u2 w.heap.size v15 xs) (hz : ∃ (g cap1 : Nat), z = .slice (some ⟨g, 0, none⟩) (m + 1) cap1 ∧ u2.ownsRow w.heap.size 38 1 z (m + 1) (vs ++ [v15])) : SvS w r bc bo cap n m vs xs v3 v4 v5 v6 v7 v8 v9 v10 v11 v12 v13 v14 v15 v16 z v18 v19 (upd l 14) u2 := by
  exact ⟨hB, fun h => S.f0 (upd_old (by decide) h), fun h => S.f1 (upd_old (by decide) h), fun h => S.f2 (upd_old (by decide) h), fun h => S.f3 (upd_old (by decide) h), fun h => S.f4 (upd_old (by decide) h), fun h => S.f5 (upd_old (by decide) h), fun _ h => absurd h (by rw [upd_same]; decide), fun h => S.f7 (upd_old (by decide) h), fun h => S.f8 (upd_old (by decide) h), fun h => S.f9 (upd_old (by decide) h), fun h => S.f10 (upd_old (by decide) h), fun h => S.f11 (upd_old (by decide) h), fun _ => hF, fun _ h => absurd h (by rw [upd_same]; decide), fun _ => hz, fun h => S.f15 (upd_old (by decide) h), fun h => S.f16 (upd_old (by decide) h), fun h => up (S.o13 (upd_old (by decide) h)), fun _ => up h12, fun h => up (S.o16 (upd_old (by decide) h))⟩
theorem SvS.s15 {w : World} {r bc bo cap n m : Nat} {vs : List Value} {xs : List Int} {v3 v4 v5 v6 v7 v8 v9 v10 v11 v12 v13 v14 v15 v16 v17 v18 v19 : Value} {l : Nat → Bool} {u : World} (S : SvS w r bc bo cap n m vs xs v3 v4 v5 v6 v7 v8 v9 v10 v11 v12 v13 v14 v15 v16 v17 v18 v19 l u) : SvS w r bc bo cap n m vs xs v3 v4 v5 v6 v7 v8 v9 v10 v11 v12 v13 v14 v15 v16 v17 (.pointer (some ⟨r, 0, none⟩)) v19 (upd l 15) u := by
  exact ⟨S.base, fun h => S.f0 (upd_old (by decide) h), fun h => S.f1 (upd_old (by decide) h), fun h => S.f2 (upd_old (by decide) h), fun h => S.f3 (upd_old (by decide) h), fun h => S.f4 (upd_old (by decide) h), fun h => S.f5 (upd_old (by decide) h), fun h h2 => S.f6 (upd_old (by decide) h) ((upd_ne (by decide)).symm.trans h2), fun h => S.f7 (upd_old (by decide) h), fun h => S.f8 (upd_old (by decide) h), fun h => S.f9 (upd_old (by decide) h), fun h => S.f10 (upd_old (by decide) h), fun h => S.f11 (upd_old (by decide) h), fun h => S.f12 (upd_old (by decide) h), fun h h2 => S.f13 (upd_old (by decide) h) ((upd_ne (by decide)).symm.trans h2), fun h => S.f14 (upd_old (by decide) h), fun _ => rfl, fun h => S.f16 (upd_old (by decide) h), fun h => up (S.o13 (upd_old (by decide) h)), fun h => up (S.o14 (upd_old (by decide) h)), fun h => up (S.o16 (upd_old (by decide) h))⟩
theorem SvS.s16 {w : World} {r bc bo cap n m : Nat} {vs : List Value} {xs : List Int} {v3 v4 v5 v6 v7 v8 v9 v10 v11 v12 v13 v14 v15 v16 v17 v18 v19 : Value} {l : Nat → Bool} {u : World} (S : SvS w r bc bo cap n m vs xs v3 v4 v5 v6 v7 v8 v9 v10 v11 v12 v13 v14 v15 v16 v17 v18 v19 l u) (h15 : l 15 = true) : SvS w r bc bo cap n m vs xs v3 v4 v5 v6 v7 v8 v9 v10 v11 v12 v13 v14 v15 v16 v17 v18 (.pointer (some ⟨r, 2, none⟩)) (upd l 16) u := by
  exact ⟨S.base, fun h => S.f0 (upd_old (by decide) h), fun h => S.f1 (upd_old (by decide) h), fun h => S.f2 (upd_old (by decide) h), fun h => S.f3 (upd_old (by decide) h), fun h => S.f4 (upd_old (by decide) h), fun h => S.f5 (upd_old (by decide) h), fun h h2 => S.f6 (upd_old (by decide) h) ((upd_ne (by decide)).symm.trans h2), fun h => S.f7 (upd_old (by decide) h), fun h => S.f8 (upd_old (by decide) h), fun h => S.f9 (upd_old (by decide) h), fun h => S.f10 (upd_old (by decide) h), fun h => S.f11 (upd_old (by decide) h), fun h => S.f12 (upd_old (by decide) h), fun h h2 => S.f13 (upd_old (by decide) h) ((upd_ne (by decide)).symm.trans h2), fun h => S.f14 (upd_old (by decide) h), fun h => S.f15 (upd_old (by decide) h), fun _ => rfl, fun h => up (S.o13 (upd_old (by decide) h)), fun h => up (S.o14 (upd_old (by decide) h)), fun _ => up h15⟩

/-- what the region's slots have become -/
structure GS where
  (v3 v4 v5 v6 v7 v8 v9 v10 v11 v12 v13 v14 v15 v16 v17 v18 v19 : Value)
def putS (g : GS) (tm : Array Value) : Array Value := (((((((((((((((((tm).setIfInBounds 3 g.v3).setIfInBounds 4 g.v4).setIfInBounds 5 g.v5).setIfInBounds 6 g.v6).setIfInBounds 7 g.v7).setIfInBounds 8 g.v8).setIfInBounds 9 g.v9).setIfInBounds 10 g.v10).setIfInBounds 11 g.v11).setIfInBounds 12 g.v12).setIfInBounds 13 g.v13).setIfInBounds 14 g.v14).setIfInBounds 15 g.v15).setIfInBounds 16 g.v16).setIfInBounds 17 g.v17).setIfInBounds 18 g.v18).setIfInBounds 19 g.v19
def SvDone (w : World) (r m : Nat) (vs : List Value) (xs : List Int) (u : World) : Prop :=
  ∃ (u0 : World) (g cap1 : Nat) (v : Value), u = u0.setCell ⟨r, 2, none⟩ (.slice (some ⟨g, 0, none⟩) (m + 1) cap1) ∧ RSt w u0 ∧ u0.ownsRow w.heap.size 38 1 (.slice (some ⟨g, 0, none⟩) (m + 1) cap1) (m + 1) (vs ++ [v]) ∧ Fresh u0 w.heap.size v xs
def JS (w : World) (r bc bo cap n m : Nat) (vs : List Value) (xs : List Int) (g : GS) (l : Nat → Bool) (u : World) : Prop :=
  (l 17 = false ∧ SvS w r bc bo cap n m vs xs g.v3 g.v4 g.v5 g.v6 g.v7 g.v8 g.v9 g.v10 g.v11 g.v12 g.v13 g.v14 g.v15 g.v16 g.v17 g.v18 g.v19 l u) ∨ (l 17 = true ∧ (∀ i, i < 17 → l i = true) ∧ SvDone w r m vs xs u)
theorem JS.get {w : World} {r bc bo cap n m : Nat} {vs : List Value} {xs : List Int} {l : Nat → Bool} {u : World} {g : GS} {i : Nat} (hi : i < 17) (hl : l i = false) (h : JS w r bc bo cap n m vs xs g l u) : l 17 = false ∧ SvS w r bc bo cap n m vs xs g.v3 g.v4 g.v5 g.v6 g.v7 g.v8 g.v9 g.v10 g.v11 g.v12 g.v13 g.v14 g.v15 g.v16 g.v17 g.v18 g.v19 l u := by
  rcases h with h | ⟨_, h, _⟩
  · exact h
  · rw [h i hi] at hl
    cases hl
theorem JS.mk {w : World} {r bc bo cap n m : Nat} {vs : List Value} {xs : List Int} {l : Nat → Bool} {u : World} {g : GS} {i : Nat} (hi : i < 17) (hl : l 17 = false) (h : SvS w r bc bo cap n m vs xs g.v3 g.v4 g.v5 g.v6 g.v7 g.v8 g.v9 g.v10 g.v11 g.v12 g.v13 g.v14 g.v15 g.v16 g.v17 g.v18 g.v19 (upd l i) u) : JS w r bc bo cap n m vs xs g (upd l i) u :=
  .inl ⟨(upd_ne (by omega)).trans hl, h⟩

set_option maxRecDepth 100000 in
set_option maxHeartbeats 4000000 in
theorem rsave_any {M : Nat} {w : World} {F : List Nat} {r : Nat} {σ : Tr Int} (h : RAt M w F r σ) (hM : M ≤ 100000) :
    Calls Try.prog 11 #[.pointer (some ⟨r, 0, none⟩)] w (RDoes (M + 1) w F r σ.save (.returned (.int .i64 ((σ.top + 1 : Nat) : Int)))) := by
  obtain ⟨bc, bs, bo, cap, vs, G, hP, rfl⟩ := h
  have c0 := hP.c0
  have c2 := hP.c2
  have hroom := hP.room
  have hmost := hP.most
  have hlen := hP.len
  obtain ⟨n, hn⟩ : ∃ n, n = σ.n := ⟨_, rfl⟩
  obtain ⟨t, ht⟩ : ∃ t, t = σ.top := ⟨_, rfl⟩
  rw [← hn] at c0
  rw [← ht] at c2 hroom hmost hlen ⊢
  have n0 : n ≤ 1000 := by rw [hn]; exact hP.small
  obtain ⟨m, hm⟩ : ∃ m, m = t + 1 := ⟨_, rfl⟩
  rw [← hm] at c2 hroom hlen
  obtain ⟨i1, hi1, hy0, hy1, hy2⟩ := info_parts info38
  have HP := Lib.hid hP
  have HN := Lib.hid hn
  have HT := Lib.hid ht
  have HM := Lib.hid hm
  have HR := Lib.hid hroom
  have HMO := Lib.hid (show m ≤ 100001 by omega)
  have HLE := Lib.hid hlen
  have HI1 := Lib.hid hi1
  have HY0 := Lib.hid hy0
  have HY1 := Lib.hid hy1
  have HY2 := Lib.hid hy2
  have HN0 := Lib.hid n0
  have C0 := Lib.hid c0
  have C2 := Lib.hid c2
  have hB : RSt w w := Below.refl _ w
  have HCU : Hid (∀ u, RSt w u → ∀ k, k < n → u.cell? ⟨bc, k, none⟩ = some (.int .i64 ((rowOf n σ.cur).getD k 0))) := by
    rw [hn]
    exact fun u hu k hk => hP.cur_at hu k hk
  have hrlt := HP.out.ltall r (by simp)
  have HRL := Lib.hid hrlt
  clear hP hn ht hroom hmost hlen hi1 hy0 hy1 hy2 n0 hM hrlt hm
  go_enter Try.func11, Try.ntmps11
  go_wp2_with fail
  refine wp_region_at (γ := GS) (JS w r bc bo cap n m vs (rowOf n σ.cur)) putS ⟨undef, undef, undef, undef, undef, undef, undef, undef, undef, undef, undef, undef, undef, undef, undef, undef, undef⟩ ?hm ?ho ?hput ?h0 ?hs ?hd
  case hm => kernel_rfl
  case ho => kernel_rfl
  case hput => (simp only [putS, List.setIfInBounds_toArray, List.set_cons_zero, List.set_cons_succ])
  case h0 => exact .inl ⟨rfl, Below.drew hB, nofun, nofun, nofun, nofun, nofun, nofun, nofun, nofun, nofun, nofun, nofun, nofun, nofun, nofun, nofun, nofun, nofun, nofun, nofun, nofun⟩
  case hs =>
    as_aux_lemma =>
    refine ⟨?s0, ?s1, ?s2, ?s3, ?s4, ?s5, ?s6, ?s7, ?s8, ?s9, ?s10, ?s11, ?s12, ?s13, ?s14, ?s15, ?s16, ?s17, trivial⟩
    case s0 =>
      rintro l ⟨v3, v4, v5, v6, v7, v8, v9, v10, v11, v12, v13, v14, v15, v16, v17, v18, v19⟩ u hl haf S K hK
      obtain ⟨h17, S⟩ := JS.get (by decide) hl S
      dsimp only at S
      refine ⟨?_⟩
      simp only [putS, List.setIfInBounds_toArray, List.set_cons_zero, List.set_cons_succ]
      go_simp
      have nx := hK.out ⟨(.pointer (some ⟨r, 0, none⟩)), v4, v5, v6, v7, v8, v9, v10, v11, v12, v13, v14, v15, v16, v17, v18, v19⟩ u (JS.mk (by decide) h17 (S.s0))
      clear hK
      simp only [putS, List.setIfInBounds_toArray, List.set_cons_zero, List.set_cons_succ] at nx
      exact nx
    case s1 =>
      rintro l ⟨v3, v4, v5, v6, v7, v8, v9, v10, v11, v12, v13, v14, v15, v16, v17, v18, v19⟩ u hl haf S K hK
      obtain ⟨h17, S⟩ := JS.get (by decide) hl S
      dsimp only at S
      refine ⟨?_⟩
      simp only [putS, List.setIfInBounds_toArray, List.set_cons_zero, List.set_cons_succ]
      go_simp
      have nx := hK.out ⟨v3, (.slice (some ⟨u.heap.size, 0, none⟩) 0 0), v5, v6, v7, v8, v9, v10, v11, v12, v13, v14, v15, v16, v17, v18, v19⟩ _ (JS.mk (by decide) h17 (S.s1 hl ((Below.refl _ u).alloc (Nat.le_refl _) (.cells #[] 38)) ⟨_, rfl⟩))
      clear hK
      simp only [putS, List.setIfInBounds_toArray, List.set_cons_zero, List.set_cons_succ] at nx
      exact nx
    case s2 =>
      rintro l ⟨v3, v4, v5, v6, v7, v8, v9, v10, v11, v12, v13, v14, v15, v16, v17, v18, v19⟩ u hl haf S K hK
      obtain ⟨h17, S⟩ := JS.get (by decide) hl S
      dsimp only at S
      refine ⟨?_⟩
      simp only [putS, List.setIfInBounds_toArray, List.set_cons_zero, List.set_cons_succ]
      go_simp
      have nx := hK.out ⟨v3, v4, (.pointer (some ⟨r, 0, none⟩)), v6, v7, v8, v9, v10, v11, v12, v13, v14, v15, v16, v17, v18, v19⟩ u (JS.mk (by decide) h17 (S.s2))
      clear hK
      simp only [putS, List.setIfInBounds_toArray, List.set_cons_zero, List.set_cons_succ] at nx
      exact nx
    case s3 =>
      rintro l ⟨v3, v4, v5, v6, v7, v8, v9, v10, v11, v12, v13, v14, v15, v16, v17, v18, v19⟩ u hl haf S K hK
      obtain ⟨h17, S⟩ := JS.get (by decide) hl S
      dsimp only at S
      obtain rfl := S.f2 (haf 2 (by kernel_rfl))
      refine ⟨?_⟩
      simp only [putS, List.setIfInBounds_toArray, List.set_cons_zero, List.set_cons_succ]
      go_simp
      have nx := hK.out ⟨v3, v4, (.pointer (some ⟨r, 0, none⟩)), (.pointer (some ⟨r, 0, none⟩)), v7, v8, v9, v10, v11, v12, v13, v14, v15, v16, v17, v18, v19⟩ u (JS.mk (by decide) h17 (S.s3))
      clear hK
      simp only [putS, List.setIfInBounds_toArray, List.set_cons_zero, List.set_cons_succ] at nx
      exact nx
    case s4 =>
      rintro l ⟨v3, v4, v5, v6, v7, v8, v9, v10, v11, v12, v13, v14, v15, v16, v17, v18, v19⟩ u hl haf S K hK
      obtain ⟨h17, S⟩ := JS.get (by decide) hl S
      dsimp only at S
      obtain rfl := S.f3 (haf 3 (by kernel_rfl))
      refine ⟨?_⟩
      simp only [putS, List.setIfInBounds_toArray, List.set_cons_zero, List.set_cons_succ]
      go_simp
      have nx := hK.out ⟨v3, v4, v5, (.pointer (some ⟨r, 0, none⟩)), (.pointer (some ⟨r, 2, none⟩)), v8, v9, v10, v11, v12, v13, v14, v15, v16, v17, v18, v19⟩ u (JS.mk (by decide) h17 (S.s4))
      clear hK
      simp only [putS, List.setIfInBounds_toArray, List.set_cons_zero, List.set_cons_succ] at nx
      exact nx
    case s5 =>
      rintro l ⟨v3, v4, v5, v6, v7, v8, v9, v10, v11, v12, v13, v14, v15, v16, v17, v18, v19⟩ u hl haf S K hK
      obtain ⟨h17, S⟩ := JS.get (by decide) hl S
      dsimp only at S
      obtain rfl := S.f4 (haf 4 (by kernel_rfl))
      obtain ⟨d0, d2, _⟩ := rheld (u := u) C0.out C2.out S.base
      refine ⟨?_⟩
      simp only [putS, List.setIfInBounds_toArray, List.set_cons_zero, List.set_cons_succ]
      go_simp
      have nx := hK.out ⟨v3, v4, v5, v6, (.pointer (some ⟨r, 2, none⟩)), (.slice (some ⟨bo, 0, none⟩) m cap), v9, v10, v11, v12, v13, v14, v15, v16, v17, v18, v19⟩ u (JS.mk (by decide) h17 (S.s5))
      clear hK
      simp only [putS, List.setIfInBounds_toArray, List.set_cons_zero, List.set_cons_succ] at nx
      exact nx
    case s6 =>
      rintro l ⟨v3, v4, v5, v6, v7, v8, v9, v10, v11, v12, v13, v14, v15, v16, v17, v18, v19⟩ u hl haf S K hK
      obtain ⟨h17, S⟩ := JS.get (by decide) hl S
      dsimp only at S
      obtain ⟨b4, rfl⟩ := S.f1 (haf 1 (by kernel_rfl))
      obtain rfl := S.f5 (haf 5 (by kernel_rfl))
      refine ⟨?_⟩
      simp only [putS, List.setIfInBounds_toArray, List.set_cons_zero, List.set_cons_succ]
      refine step_append_grows (a := ⟨_, _⟩) (by rfl) _ _ 39 (by rfl) 38 i1 (.slice none 0 0) 1 24 Try.underlying39 HI1.out HY0.out HY1.out HY2.out rfl (by decide) (some ⟨b4, 0, none⟩) 0 0 [] (by rfl) (by simp) rfl (by simp) ⟨bo, 0, none⟩ m cap vs (by rfl) (by rw [HLE.out]; omega) (HP.out.olds_at S.base) HP.out.one (by have := HM.out; omega) (by have := HMO.out; unfold maxLen; omega) (by have := HMO.out; omega) ?_
      intro z u1 hown hgrow
      simp only [Act.put, List.setIfInBounds_toArray, List.set_cons_zero, List.set_cons_succ]
      have hB : Below u.heap.size u u1 := (Below.refl _ u).grown hgrow (Nat.le_refl _) (by simp)
      have nx := hK.out ⟨v3, (.slice (some ⟨b4, 0, none⟩) 0 0), v5, v6, v7, (.slice (some ⟨bo, 0, none⟩) m cap), z, v10, v11, v12, v13, v14, v15, v16, v17, v18, v19⟩ u1 (JS.mk (by decide) h17 (S.s6 hl hB (rown S.base hown)))
      clear hK
      simp only [putS, List.setIfInBounds_toArray, List.set_cons_zero, List.set_cons_succ] at nx
      exact nx
    case s7 =>
      rintro l ⟨v3, v4, v5, v6, v7, v8, v9, v10, v11, v12, v13, v14, v15, v16, v17, v18, v19⟩ u hl haf S K hK
      obtain ⟨h17, S⟩ := JS.get (by decide) hl S
      dsimp only at S
      refine ⟨?_⟩
      simp only [putS, List.setIfInBounds_toArray, List.set_cons_zero, List.set_cons_succ]
      go_simp
      have nx := hK.out ⟨v3, v4, v5, v6, v7, v8, v9, (.slice (some ⟨u.heap.size, 0, none⟩) 0 0), v11, v12, v13, v14, v15, v16, v17, v18, v19⟩ _ (JS.mk (by decide) h17 (S.s7 hl ((Below.refl _ u).alloc (Nat.le_refl _) (.cells #[] 3)) ⟨_, rfl⟩))
      clear hK
      simp only [putS, List.setIfInBounds_toArray, List.set_cons_zero, List.set_cons_succ] at nx
      exact nx
    case s8 =>
      rintro l ⟨v3, v4, v5, v6, v7, v8, v9, v10, v11, v12, v13, v14, v15, v16, v17, v18, v19⟩ u hl haf S K hK
      obtain ⟨h17, S⟩ := JS.get (by decide) hl S
      dsimp only at S
      refine ⟨?_⟩
      simp only [putS, List.setIfInBounds_toArray, List.set_cons_zero, List.set_cons_succ]
      go_simp
      have nx := hK.out ⟨v3, v4, v5, v6, v7, v8, v9, v10, (.pointer (some ⟨r, 0, none⟩)), v12, v13, v14, v15, v16, v17, v18, v19⟩ u (JS.mk (by decide) h17 (S.s8))
      clear hK
      simp only [putS, List.setIfInBounds_toArray, List.set_cons_zero, List.set_cons_succ] at nx
      exact nx
    case s9 =>
      rintro l ⟨v3, v4, v5, v6, v7, v8, v9, v10, v11, v12, v13, v14, v15, v16, v17, v18, v19⟩ u hl haf S K hK
      obtain ⟨h17, S⟩ := JS.get (by decide) hl S
      dsimp only at S
      obtain rfl := S.f8 (haf 8 (by kernel_rfl))
      refine ⟨?_⟩
      simp only [putS, List.setIfInBounds_toArray, List.set_cons_zero, List.set_cons_succ]
      go_simp
      have nx := hK.out ⟨v3, v4, v5, v6, v7, v8, v9, v10, (.pointer (some ⟨r, 0, none⟩)), (.pointer (some ⟨r, 0, none⟩)), v13, v14, v15, v16, v17, v18, v19⟩ u (JS.mk (by decide) h17 (S.s9))
      clear hK
      simp only [putS, List.setIfInBounds_toArray, List.set_cons_zero, List.set_cons_succ] at nx
      exact nx
    case s10 =>
      rintro l ⟨v3, v4, v5, v6, v7, v8, v9, v10, v11, v12, v13, v14, v15, v16, v17, v18, v19⟩ u hl haf S K hK
      obtain ⟨h17, S⟩ := JS.get (by decide) hl S
      dsimp only at S
      obtain rfl := S.f9 (haf 9 (by kernel_rfl))
      refine ⟨?_⟩
      simp only [putS, List.setIfInBounds_toArray, List.set_cons_zero, List.set_cons_succ]
      go_simp
      have nx := hK.out ⟨v3, v4, v5, v6, v7, v8, v9, v10, v11, (.pointer (some ⟨r, 0, none⟩)), (.pointer (some ⟨r, 0, none⟩)), v14, v15, v16, v17, v18, v19⟩ u (JS.mk (by decide) h17 (S.s10))
      clear hK
      simp only [putS, List.setIfInBounds_toArray, List.set_cons_zero, List.set_cons_succ] at nx
      exact nx
    case s11 =>
      rintro l ⟨v3, v4, v5, v6, v7, v8, v9, v10, v11, v12, v13, v14, v15, v16, v17, v18, v19⟩ u hl haf S K hK
      obtain ⟨h17, S⟩ := JS.get (by decide) hl S
      dsimp only at S
      obtain rfl := S.f10 (haf 10 (by kernel_rfl))
      obtain ⟨d0, d2, _⟩ := rheld (u := u) C0.out C2.out S.base
      refine ⟨?_⟩
      simp only [putS, List.setIfInBounds_toArray, List.set_cons_zero, List.set_cons_succ]
      go_simp
      have nx := hK.out ⟨v3, v4, v5, v6, v7, v8, v9, v10, v11, v12, (.pointer (some ⟨r, 0, none⟩)), (.slice (some ⟨bc, 0, none⟩) n n), v15, v16, v17, v18, v19⟩ u (JS.mk (by decide) h17 (S.s11))
      clear hK
      simp only [putS, List.setIfInBounds_toArray, List.set_cons_zero, List.set_cons_succ] at nx
      exact nx
    case s12 =>
      rintro l ⟨v3, v4, v5, v6, v7, v8, v9, v10, v11, v12, v13, v14, v15, v16, v17, v18, v19⟩ u hl haf S K hK
      obtain ⟨h17, S⟩ := JS.get (by decide) hl S
      dsimp only at S
      obtain ⟨b10, rfl⟩ := S.f7 (haf 7 (by kernel_rfl))
      obtain rfl := S.f11 (haf 11 (by kernel_rfl))
      refine ⟨?_⟩
      simp only [putS, List.setIfInBounds_toArray, List.set_cons_zero, List.set_cons_succ]
      refine step_fresh (a := ⟨_, _⟩) (by rfl) _ _ (by rfl) b10 (by rfl) bc n n (rowOf n σ.cur) (rowOf_length _ _) (by rfl) (HCU.out _ S.base) HN0.out ?_
      intro z u1 hf hB
      simp only [Act.put, List.setIfInBounds_toArray, List.set_cons_zero, List.set_cons_succ]
      have nx := hK.out ⟨v3, v4, v5, v6, v7, v8, v9, (.slice (some ⟨b10, 0, none⟩) 0 0), v11, v12, v13, (.slice (some ⟨bc, 0, none⟩) n n), z, v16, v17, v18, v19⟩ u1 (JS.mk (by decide) h17 (S.s12 hl hB (hf.low (Below.size S.base))))
      clear hK
      simp only [putS, List.setIfInBounds_toArray, List.set_cons_zero, List.set_cons_succ] at nx
      exact nx
    case s13 =>
      rintro l ⟨v3, v4, v5, v6, v7, v8, v9, v10, v11, v12, v13, v14, v15, v16, v17, v18, v19⟩ u hl haf S K hK
      obtain ⟨h17, S⟩ := JS.get (by decide) hl S
      dsimp only at S
      have h12 := haf 12 (by kernel_rfl)
      obtain ⟨p15, l15, c15, rfl⟩ := (S.f12 h12).slice
      refine ⟨?_⟩
      simp only [putS, List.setIfInBounds_toArray, List.set_cons_zero, List.set_cons_succ]
      go_simp
      have nx := hK.out ⟨v3, v4, v5, v6, v7, v8, v9, v10, v11, v12, v13, v14, (.slice p15 l15 c15), (.slice (some ⟨u.heap.size, 0, none⟩) 1 1), v17, v18, v19⟩ _ (JS.mk (by decide) h17 (S.s13 hl h12 ((Below.refl _ u).alloc (Nat.le_refl _) (.cells #[.slice p15 l15 c15] 38)) ⟨_, rfl, by rw [cell_of_heap (heap_alloc_new u _)]; rfl⟩))
      clear hK
      simp only [putS, List.setIfInBounds_toArray, List.set_cons_zero, List.set_cons_succ] at nx
      exact nx
    case s14 =>
      rintro l ⟨v3, v4, v5, v6, v7, v8, v9, v10, v11, v12, v13, v14, v15, v16, v17, v18, v19⟩ u hl haf S K hK
      obtain ⟨h17, S⟩ := JS.get (by decide) hl S
      dsimp only at S
      have h12 := haf 12 (by kernel_rfl)
      have ho := S.f6 (haf 6 (by kernel_rfl)) hl
      obtain ⟨b16, rfl, hc16⟩ := S.f13 (haf 13 (by kernel_rfl)) hl
      have hF := S.f12 h12
      obtain ⟨p15, l15, c15, rfl⟩ := hF.slice
      refine ⟨?_⟩
      simp only [putS, List.setIfInBounds_toArray, List.set_cons_zero, List.set_cons_succ]
      refine step_append_lies (a := ⟨_, _⟩) _ (by rfl) _ _ 39 (by rfl) w.heap.size 38 i1 (.slice none 0 0) 1 24 Try.underlying39 HI1.out HY0.out HY1.out HY2.out rfl (by decide) v9 m vs (by rfl) ho ⟨b16, 0, none⟩ 1 1 [.slice p15 l15 c15] (by rfl) rfl (news_at hc16) (by simp [Value.oneCell']) (by omega) (by have := HMO.out; unfold maxLen; omega) (by have := HMO.out; omega) (Below.size S.base) u.heap.size rfl ?_
      intro g1 cap1 u1 hown hgrow _ _
      simp only [Act.put, List.setIfInBounds_toArray, List.set_cons_zero, List.set_cons_succ]
      have hB : RSt w u1 := Below.grown S.base hgrow (Below.size S.base) (fun j e => (World.ownsRow.lt ho j e).1)
      have nx := hK.out ⟨v3, v4, v5, v6, v7, v8, v9, v10, v11, v12, v13, v14, (.slice p15 l15 c15), (.slice (some ⟨b16, 0, none⟩) 1 1), (.slice (some ⟨g1, 0, none⟩) (m + 1) cap1), v18, v19⟩ u1 (JS.mk (by decide) h17 (S.s14 hl h12 hB (hF.grown hgrow ho) ⟨_, _, rfl, hown⟩))
      clear hK
      simp only [putS, List.setIfInBounds_toArray, List.set_cons_zero, List.set_cons_succ] at nx
      exact nx
    case s15 =>
      rintro l ⟨v3, v4, v5, v6, v7, v8, v9, v10, v11, v12, v13, v14, v15, v16, v17, v18, v19⟩ u hl haf S K hK
      obtain ⟨h17, S⟩ := JS.get (by decide) hl S
      dsimp only at S
      obtain rfl := S.f0 (haf 0 (by kernel_rfl))
      refine ⟨?_⟩
      simp only [putS, List.setIfInBounds_toArray, List.set_cons_zero, List.set_cons_succ]
      go_simp
      have nx := hK.out ⟨(.pointer (some ⟨r, 0, none⟩)), v4, v5, v6, v7, v8, v9, v10, v11, v12, v13, v14, v15, v16, v17, (.pointer (some ⟨r, 0, none⟩)), v19⟩ u (JS.mk (by decide) h17 (S.s15))
      clear hK
      simp only [putS, List.setIfInBounds_toArray, List.set_cons_zero, List.set_cons_succ] at nx
      exact nx
    case s16 =>
      rintro l ⟨v3, v4, v5, v6, v7, v8, v9, v10, v11, v12, v13, v14, v15, v16, v17, v18, v19⟩ u hl haf S K hK
      obtain ⟨h17, S⟩ := JS.get (by decide) hl S
      dsimp only at S
      obtain rfl := S.f15 (haf 15 (by kernel_rfl))
      refine ⟨?_⟩
      simp only [putS, List.setIfInBounds_toArray, List.set_cons_zero, List.set_cons_succ]
      go_simp
      have nx := hK.out ⟨v3, v4, v5, v6, v7, v8, v9, v10, v11, v12, v13, v14, v15, v16, v17, (.pointer (some ⟨r, 0, none⟩)), (.pointer (some ⟨r, 2, none⟩))⟩ u (JS.mk (by decide) h17 (S.s16 (haf 15 (by kernel_rfl))))
      clear hK
      simp only [putS, List.setIfInBounds_toArray, List.set_cons_zero, List.set_cons_succ] at nx
      exact nx
    case s17 =>
      rintro l ⟨v3, v4, v5, v6, v7, v8, v9, v10, v11, v12, v13, v14, v15, v16, v17, v18, v19⟩ u hl haf S K hK
      have S : l 17 = false ∧ SvS w r bc bo cap n m vs (rowOf n σ.cur) v3 v4 v5 v6 v7 v8 v9 v10 v11 v12 v13 v14 v15 v16 v17 v18 v19 l u := by
        rcases S with h | ⟨h, _⟩
        · exact h
        · rw [h] at hl
          cases hl
      obtain ⟨h17, S⟩ := S
      have h14 := haf 14 (by kernel_rfl)
      have h16 := haf 16 (by kernel_rfl)
      obtain ⟨g1, cap1, hv17, hown⟩ := S.f14 h14
      subst hv17
      obtain rfl := S.f16 h16
      have hF := S.f12 (S.o14 h14)
      obtain ⟨d0, d2, _⟩ := rheld (u := u) C0.out C2.out S.base
      have hz : u.frozen? ⟨r, 2, none⟩ = false := (Below.frozen S.base (p := ⟨r, 2, none⟩) HRL.out).trans (HP.out.f 2)
      have hall : ∀ i, i < 17 → l i = true := by
        intro i hi
        match i, hi with
        | 0, _ => exact haf 0 (by kernel_rfl)
        | 1, _ => exact haf 1 (by kernel_rfl)
        | 2, _ => exact haf 2 (by kernel_rfl)
        | 3, _ => exact haf 3 (by kernel_rfl)
        | 4, _ => exact haf 4 (by kernel_rfl)
        | 5, _ => exact haf 5 (by kernel_rfl)
        | 6, _ => exact haf 6 (by kernel_rfl)
        | 7, _ => exact haf 7 (by kernel_rfl)
        | 8, _ => exact haf 8 (by kernel_rfl)
        | 9, _ => exact haf 9 (by kernel_rfl)
        | 10, _ => exact haf 10 (by kernel_rfl)
        | 11, _ => exact haf 11 (by kernel_rfl)
        | 12, _ => exact haf 12 (by kernel_rfl)
        | 13, _ => exact haf 13 (by kernel_rfl)
        | 14, _ => exact haf 14 (by kernel_rfl)
        | 15, _ => exact S.o16 h16
        | 16, _ => exact haf 16 (by kernel_rfl)
        | k + 17, hi => omega
      refine ⟨?_⟩
      simp only [putS, List.setIfInBounds_toArray, List.set_cons_zero, List.set_cons_succ]
      go_simp
      have nx := hK.out ⟨v3, v4, v5, v6, v7, v8, v9, v10, v11, v12, v13, v14, v15, v16, (.slice (some ⟨g1, 0, none⟩) (m + 1) cap1), v18, (.pointer (some ⟨r, 2, none⟩))⟩ _ (.inr ⟨upd_same _ _, fun i hi => up (hall i hi), u, g1, cap1, v15, rfl, S.base, hown, hF⟩)
      clear hK
      simp only [putS, List.setIfInBounds_toArray, List.set_cons_zero, List.set_cons_succ] at nx
      exact nx
  case hd =>
    rintro g u l hall hJ
    have h17 := hall 17 (by decide)
    have hD : SvDone w r m vs (rowOf n σ.cur) u := by
      rcases hJ with ⟨h, _⟩ | ⟨_, _, h⟩
      · rw [h] at h17
        cases h17
      · exact h
    refine ⟨?_⟩
    simp only [putS, List.setIfInBounds_toArray, List.set_cons_zero, List.set_cons_succ]
    obtain ⟨u0, g1, cap1, v, rfl, hu, hown, hf⟩ := hD
    rw [HN.out] at hf
    obtain ⟨G', hQ, hg, hG⟩ := HP.out.save (by rw [HM.out, HT.out]) hu hown hf
    have c3 := hQ.c2
    have htop : σ.save.top + 1 = m + 1 := by show σ.top + 1 + 1 = m + 1; rw [HM.out, HT.out]
    rw [htop] at c3
    have HF := Lib.hid (show RDoes (M + 1) w (r :: bc :: bs :: bo :: G) r σ.save (.returned (.int .i64 ((t + 1 : Nat) : Int))) (.returned (.int .i64 (m : Int))) (u0.setCell ⟨r, 2, none⟩ (.slice (some ⟨g1, 0, none⟩) (m + 1) cap1)) from by
      refine ⟨by rw [HM.out], _, ⟨bc, bs, g1, cap1, _, G', hQ, rfl⟩, (turn_of_below hu _).setCell (.inl (by simp)) _, fun b hb => ?_⟩
      simp only [List.mem_cons] at hb ⊢
      rcases hb with h1 | h1 | h1 | h1 | h1
      · exact .inl (.inl h1)
      · exact .inl (.inr (.inl h1))
      · exact .inl (.inr (.inr (.inl h1)))
      · exact .inr (by omega)
      · rcases hG b h1 with h2 | h2
        · exact .inl (.inr (.inr (.inr (.inr h2))))
        · exact .inr h2)
    have HC3 := Lib.hid c3
    have hmb := HMO.out
    clear hall hJ h17 hu hown hf hQ hg hG htop
    go_wp2
    go_ret
    exact HF.out
end Go.Proofs.Ytkajkfapleecaaa
