/-
  OctetReads: the call answers true, and leaves what was there as it was.
-/
import Derived.Test.YtamhajeighdjeaaOOpen
namespace Go.Proofs.Ytamhajeighdjeaa
open Go.RowKit

/-- where a reader has no bytes left, its bytes may be said to lie anywhere -/
theorem RAt.far {t : TypeId} {w : World} {a b : Nat} {ys : List Nat} {e : Nat} (h : RAt t w a b ys e) : ∃ b', RAt t w a b' ys e ∧ (b' < w.heap.size ∨ w.heap.size + 100 < b') := by
  by_cases h0 : ys = []
  · subst h0
    obtain ⟨p, off, c, h1, h2, h3, h4⟩ := h.ex
    have hlt := h.lt
    exact ⟨w.heap.size + 101, ⟨⟨p, off, c, h1, ⟨fun h => by simp at h, fun k hk => by simp at hk⟩, h3, h4⟩, by omega, h.bytes, h.len⟩, .inr (by omega)⟩
  · obtain ⟨p, off, c, h1, h2, h3, h4⟩ := h.ex
    refine ⟨b, h, .inl ?_⟩
    exact World.block_lt_of_cell? w ⟨b, off + 0, none⟩ (h2.cell 0 (List.length_pos_iff.2 h0))

/-- what both readers are, over the rounds -/
structure Two (W : World) (a g r b : Nat) (w : World) (ys : List Nat) (e : Nat) : Prop where
  left : RAt 54 w a g (view ys e) e
  right : RAt 39 w r b ys e
  low : Below W.heap.size W w
/-- the blocks lie apart -/
structure Apart (W : World) (a g r b : Nat) : Prop where
  ar : a ≠ r
  ba : b ≠ a
  gr : g ≠ r
  al : W.heap.size ≤ a
  rl : W.heap.size ≤ r
theorem Two.stepL {W w w' : World} {a g r b : Nat} {ys : List Nat} {e : Nat} {R : Nat × List Nat × Nat} {q : Ending} (hA : Apart W a g r b) (h : Two W a g r b w ys e) (hd : Did w a g R q w') :
    q = .returned (.int .u64 (R.1 : Int)) ∧ RAt 54 w' a g (view R.2.1 R.2.2) R.2.2 ∧ RAt 39 w' r b ys e ∧ Below W.heap.size W w' := by
  obtain ⟨h1, h2, h3⟩ := hd
  refine ⟨h1, h2, h.right.turn h3 (by simpa using hA.ar.symm) (by simpa using hA.ba), Turn.below h.low h3 h.low.size (fun x hx => ?_)⟩
  obtain rfl := List.mem_singleton.1 hx
  exact hA.al
theorem Two.stepR {W w w' : World} {a g r b : Nat} {R : Nat × List Nat × Nat} {q : Ending} (hA : Apart W a g r b) (hl : RAt 54 w a g (view R.2.1 R.2.2) R.2.2) (hB : Below W.heap.size W w) (hd : RDid w r b R q w') :
    q = .returned (.int .u64 (R.1 : Int)) ∧ Two W a g r b w' R.2.1 R.2.2 := by
  obtain ⟨h1, h2, h3⟩ := hd
  refine ⟨h1, hl.turn h3 (by simpa using hA.ar) (by simpa using hA.gr), h2, Turn.below hB h3 hB.size (fun x hx => ?_)⟩
  obtain rfl := List.mem_singleton.1 hx
  exact hA.rl

theorem reads_skip (p q : Option Addr) (c d len len' : Nat) (W : World) (hm : 400 < len ∨ 60 < len') :
    Calls Try.prog 4 #[.slice p len c, .slice q len' d] W fun e w' => e = .returned (.bool true) ∧ Below W.heap.size W w' := by
  by_cases h1 : 400 < len
  · have hm2 : (400 : Int) < len := by omega
    clear hm
    go_enter Try.func4, Try.ntmps4
    go_wp2_with fail
    go_at_call 7
    refine (awake_any _).mono ?_
    rintro e w1 ⟨rfl, hB1⟩
    have B1 := Lib.hid hB1
    clear hB1
    go_wp2_with fail
    go_ret
    exact ⟨rfl, B1.out⟩
  · have hm1 : (len : Int) ≤ 400 := by omega
    have hm2 : (60 : Int) < len' := by omega
    clear hm
    go_enter Try.func4, Try.ntmps4
    go_wp2_with fail
    go_at_call 7
    refine (awake_any _).mono ?_
    rintro e w1 ⟨rfl, hB1⟩
    have B1 := Lib.hid hB1
    clear hB1
    go_wp2_with fail
    go_ret
    exact ⟨rfl, B1.out⟩

set_option maxRecDepth 100000 in
set_option maxHeartbeats 4000000 in
theorem reads_walk (p : Option Addr) (b off c len : Nat) (xs : List Nat) (q : Option Addr) (d offq lenq dq : Nat) (ns : List Nat) (W : World) (hI : In W p b off c len xs) (hN : InN W q d offq lenq ns) (hm : len ≤ 400) (hm' : lenq ≤ 60) :
    Calls Try.prog 4 #[.slice p len c, .slice q lenq dq] W fun e w' => e = .returned (.bool true) ∧ Below W.heap.size W w' := by
  have hm1 : (len : Int) ≤ 400 := by omega
  have hm2 : (lenq : Int) ≤ 60 := by omega
  have HI := Lib.hid hI
  have HN := Lib.hid hN
  have hq := hN.at_
  clear hI hN
  go_enter Try.func4, Try.ntmps4
  go_wp2_with fail
  go_at_call 7
  refine (awake_any _).mono ?_
  rintro e w1 ⟨rfl, hB1⟩
  have B1 := Lib.hid hB1
  clear hB1
  go_wp2_with fail
  go_at_call 17
  refine (new_at p b off c len xs HI.out.long _ (by omega) (HI.out.lies.below B1.out) HI.out.nil HI.out.bytes).mono ?_
  rintro z w2 ⟨a, g0, rfl, hr, hB, ha, _⟩
  obtain ⟨g, hr, hg⟩ := hr.far
  have HR := Lib.hid hr
  have HG := Lib.hid hg
  have HA := Lib.hid (Nat.le_trans B1.out.size ha)
  have B2 := Lib.hid (below_on B1.out B1.out.size hB)
  clear hr hg hB ha B1
  go_wp2
  obtain ⟨u, hu⟩ : ∃ u, u = w2.alloc (.cells #[.slice p len c, .int .i64 0] 39) := ⟨_, rfl⟩
  rw [← hu]
  have hbu : Below w2.heap.size w2 u := by rw [hu]; exact below_one w2 _
  have hru : ∃ b', RAt 39 u w2.heap.size b' xs 0 ∧ (b' < W.heap.size ∨ W.heap.size + 100 + w2.heap.size + a < b') := by
    have hh : u.heap[w2.heap.size]? = some (.cells #[.slice p xs.length c, .int .i64 ((0 : Nat) : Int)] 39 (0, 0)) := by rw [hu, ← HI.out.long]; exact new_block w2 _
    have hl : Lies u p b off xs := (HI.out.lies.below B2.out).below hbu
    have hp : p = none → c = 0 := fun h => (HI.out.nil h).2
    have hc : xs.length ≤ c := by rw [← HI.out.long]; exact HI.out.cap
    have h1000 : xs.length ≤ 1000 := by rw [← HI.out.long]; omega
    have hsz := B2.out.size
    by_cases h0 : xs = []
    · subst h0
      exact ⟨W.heap.size + 101 + w2.heap.size + a, ⟨⟨p, 0, c, hh, ⟨fun h => by simp at h, fun k hk => by simp at hk⟩, hc, hp⟩, by omega, HI.out.bytes, h1000⟩, .inr (by omega)⟩
    · have hlt := World.block_lt_of_cell? W ⟨b, off + 0, none⟩ (HI.out.lies.cell 0 (List.length_pos_iff.2 h0))
      exact ⟨b, ⟨⟨p, off, c, hh, hl, hc, hp⟩, by simp only at hlt; omega, HI.out.bytes, h1000⟩, .inl hlt⟩
  obtain ⟨b', hru, hb'⟩ := hru
  have HAP := Lib.hid (show Apart W a g w2.heap.size b' from by
    have h1 := HR.out.lt
    have h2 := B2.out.size
    have h3 := HG.out
    have h4 := HA.out
    exact ⟨by omega, by omega, by omega, h4, h2⟩)
  have HT0 := Lib.hid (show Two W a g w2.heap.size b' u xs 0 from ⟨HR.out.below hbu, hru, below_on B2.out B2.out.size hbu⟩)
  clear hu hbu hru hb' HR HG HA B2
  generalize w2.heap.size = r at HAP HT0 ⊢
  go_loopw [26] (fun i wr => ∃ (k : Nat) (ys : List Nat) (e : Nat), k ≤ lenq ∧ i = .int .i64 k ∧ Two W a g r b' wr ys e) (fun i _ => lenq - (intOf i).toNat)
  case atStart => exact ⟨0, xs, 0, by omega, rfl, HT0.out⟩
  case round =>
    obtain ⟨k, ys, e, hk, rfl, hT⟩ := hrel
    have HT := Lib.hid hT
    clear hT HT0
    by_cases hlt : k < lenq
    · obtain rfl := hq (by omega)
      have k0 := cell_below HT.out.low (HN.out.cell k hlt)
      obtain ⟨n, hn⟩ : ∃ n, n = ns.getD k 0 := ⟨_, rfl⟩
      rw [← hn] at k0
      clear hn
      by_cases h0 : n = 0
      · subst h0
        have k0 : wr.cell? ⟨d, offq + k, none⟩ = some (.int .u64 0) := k0
        obtain ⟨R, hR⟩ : ∃ R, R = reight ys e := ⟨_, rfl⟩
        have CL := Lib.hid (show Calls Try.prog 18 #[.pointer (some ⟨a, 0, none⟩)] wr (Did wr a g R) by rw [hR]; exact eight_at a g ys e wr HT.out.left)
        have CR := Lib.hid (fun w' (h : RAt 39 w' r b' ys e) => (show Calls Try.prog 19 #[.pointer (some ⟨r, 0, none⟩)] w' (RDid w' r b' R) by rw [hR]; exact reight_at r b' ys e w' h))
        clear hR
        obtain ⟨v, ys', e'⟩ := R
        have q1 : ((v : Int) == (v : Int)) = true := beq_self_eq_true _
        go_wp2_with fail
        go_at_call 18
        refine CL.out.mono ?_
        rintro z w1 hd
        obtain ⟨rfl, l1, r1, b1⟩ := HT.out.stepL HAP.out hd
        have L1 := Lib.hid l1
        have R1 := Lib.hid r1
        have B1 := Lib.hid b1
        clear hd l1 r1 b1 CL
        go_wp2_with fail
        go_at_call 19
        refine (CR.out _ R1.out).mono ?_
        rintro z w2 hd
        obtain ⟨rfl, ht⟩ := Two.stepR HAP.out L1.out B1.out hd
        have HT2 := Lib.hid ht
        clear hd ht CR L1 R1 B1
        obtain ⟨pp, off', cc, h1, _⟩ := HT2.out.left.ex
        have EN := end_any a pp _ cc e' _ h1
        rw [ends_view] at EN
        have LE := Lib.hid (left_any a pp _ cc _ _ h1)
        have RL := Lib.hid (rleft_any r b' ys' e' _ HT2.out.right)
        have RE := Lib.hid (rend_any r b' ys' e' _ HT2.out.right)
        obtain ⟨m, em⟩ : ∃ m, m = (view ys' e').length := ⟨_, rfl⟩
        obtain ⟨n', en⟩ : ∃ n', n' = ends ys'.length e' := ⟨_, rfl⟩
        have c0 : w2.cell? ⟨a, 0, none⟩ = some (.slice pp (view ys' e').length cc) := by rw [cell_of_heap h1]; rfl
        rw [← em] at LE RL
        rw [← en] at EN RE
        have EN := Lib.hid EN
        have q2 : ((m : Int) == (m : Int)) = true := beq_self_eq_true _
        have q3 : ((n' : Int) == (n' : Int)) = true := beq_self_eq_true _
        clear h1 c0 em en
        go_wp2_with fail
        go_at_call 22
        refine LE.out.mono ?_
        rintro z w' ⟨rfl, rfl⟩
        go_wp2_with fail
        go_at_call 23
        refine RL.out.mono ?_
        rintro z w' ⟨rfl, rfl⟩
        go_wp2_with fail
        go_at_call 24
        refine EN.out.mono ?_
        rintro z w' ⟨rfl, rfl⟩
        go_wp2_with fail
        go_at_call 25
        refine RE.out.mono ?_
        rintro z w' ⟨rfl, rfl⟩
        go_wp2_with fail
        go_roundw
        case rel => exact ⟨k + 1, ys', e', by omega, by go_num, HT2.out⟩
        case measure => simp [intOf]; omega
      · have h02 : ((n : Int) == 0) = false := beq_eq_false_iff_ne.2 (by omega)
        obtain ⟨R, hR⟩ : ∃ R, R = rnum n ys e := ⟨_, rfl⟩
        have CL := Lib.hid (show Calls Try.prog 20 #[.pointer (some ⟨a, 0, none⟩), .int .u64 (n : Int)] wr (Did wr a g R) by rw [hR]; exact num_at a g n ys e wr HT.out.left)
        have CR := Lib.hid (fun w' (h : RAt 39 w' r b' ys e) => (show Calls Try.prog 21 #[.pointer (some ⟨r, 0, none⟩), .int .u64 (n : Int)] w' (RDid w' r b' R) by rw [hR]; exact rnum_at r b' n ys e w' h))
        clear hR
        obtain ⟨v, ys', e'⟩ := R
        have q1 : ((v : Int) == (v : Int)) = true := beq_self_eq_true _
        go_wp2_with fail
        go_at_call 20
        refine CL.out.mono ?_
        rintro z w1 hd
        obtain ⟨rfl, l1, r1, b1⟩ := HT.out.stepL HAP.out hd
        have L1 := Lib.hid l1
        have R1 := Lib.hid r1
        have B1 := Lib.hid b1
        clear hd l1 r1 b1 CL
        go_wp2_with fail
        go_at_call 21
        refine (CR.out _ R1.out).mono ?_
        rintro z w2 hd
        obtain ⟨rfl, ht⟩ := Two.stepR HAP.out L1.out B1.out hd
        have HT2 := Lib.hid ht
        clear hd ht CR L1 R1 B1
        obtain ⟨pp, off', cc, h1, _⟩ := HT2.out.left.ex
        have EN := end_any a pp _ cc e' _ h1
        rw [ends_view] at EN
        have LE := Lib.hid (left_any a pp _ cc _ _ h1)
        have RL := Lib.hid (rleft_any r b' ys' e' _ HT2.out.right)
        have RE := Lib.hid (rend_any r b' ys' e' _ HT2.out.right)
        obtain ⟨m, em⟩ : ∃ m, m = (view ys' e').length := ⟨_, rfl⟩
        obtain ⟨n', en⟩ : ∃ n', n' = ends ys'.length e' := ⟨_, rfl⟩
        have c0 : w2.cell? ⟨a, 0, none⟩ = some (.slice pp (view ys' e').length cc) := by rw [cell_of_heap h1]; rfl
        rw [← em] at LE RL
        rw [← en] at EN RE
        have EN := Lib.hid EN
        have q2 : ((m : Int) == (m : Int)) = true := beq_self_eq_true _
        have q3 : ((n' : Int) == (n' : Int)) = true := beq_self_eq_true _
        clear h1 c0 em en
        go_wp2_with fail
        go_at_call 22
        refine LE.out.mono ?_
        rintro z w' ⟨rfl, rfl⟩
        go_wp2_with fail
        go_at_call 23
        refine RL.out.mono ?_
        rintro z w' ⟨rfl, rfl⟩
        go_wp2_with fail
        go_at_call 24
        refine EN.out.mono ?_
        rintro z w' ⟨rfl, rfl⟩
        go_wp2_with fail
        go_at_call 25
        refine RE.out.mono ?_
        rintro z w' ⟨rfl, rfl⟩
        go_wp2_with fail
        go_roundw
        case rel => exact ⟨k + 1, ys', e', by omega, by go_num, HT2.out⟩
        case measure => simp [intOf]; omega
    · go_wp2
      go_ret
      exact ⟨rfl, HT.out.low⟩

theorem reads_law (p : Option Addr) (b off c len : Nat) (xs : List Nat) (q : Option Addr) (d offq lenq dq : Nat) (ns : List Nat) (W : World) (hI : In W p b off c len xs) (hN : InN W q d offq lenq ns) :
    Calls Try.prog 4 #[.slice p len c, .slice q lenq dq] W fun e w' => e = .returned (.bool true) ∧ Below W.heap.size W w' := by
  by_cases h : 400 < len ∨ 60 < lenq
  · exact reads_skip p q c dq len lenq W h
  · exact reads_walk p b off c len xs q d offq lenq dq ns W hI hN (by omega) (by omega)
end Go.Proofs.Ytamhajeighdjeaa
