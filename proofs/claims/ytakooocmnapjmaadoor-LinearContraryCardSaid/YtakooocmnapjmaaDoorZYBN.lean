/-
  What awake asks of a linear step: plain data. Nothing of the program but what a step leaves, as lists.
  What awake of the laws of layer 12 answers: true.
-/
import Derived.Test.YtakooocmnapjmaaDoorZZStep
namespace Go.Proofs.YtakooocmnapjmaaDoor.St
open Go.RowKit
set_option maxRecDepth 100000

def conA : PCon := ⟨1, [0, 1], [1, 1], 0, 5, []⟩
def conI : PCon := ⟨3, [0, 1], [1], 5, 2, []⟩
def domA : List Int × Nat := ([0, 1, 2, 3], 15)
def domI : List Int × Nat := ([0, 1, 2], 6)
theorem rightC_A : rightC conA 2 = true := (Gr.lin_on (by decide)).2 ⟨Gr.varsTo_iff.2 ⟨by decide, by decide⟩, by decide⟩
theorem rightC_A1 : rightC conA 1 = false := right_bad fun h => by
  have := (Gr.varsTo_iff.1 h).1 1 (by decide)
  omega
theorem rightC_I : rightC conI 2 = true := by
  rw [right_on (Gr.varsTo_iff.2 ⟨by decide, by decide⟩)]
  decide
theorem step_A : stepP conA [domA, domA] = ([([0, 1, 2, 3], 12), ([0, 1, 2, 3], 12)], 0) := by
  unfold stepP
  have h : rightP conA [domA, domA] = true := by
    unfold rightP
    rw [show ((([domA, domA] : List (List Int × Nat)).length : Nat) : Int) = 2 from rfl, rightC_A]
    decide
  rw [if_pos h]
  decide +kernel
theorem step_A1 : stepP conA [domA] = ([], 1) := by
  unfold stepP
  have h : rightP conA [domA] = false := by
    unfold rightP
    rw [show ((([domA] : List (List Int × Nat)).length : Nat) : Int) = 1 from rfl, rightC_A1]
    decide
  rw [h, if_neg Bool.false_ne_true]
theorem step_I : stepP conI [domI, domA] = ([([0, 1, 2], 2), ([0, 1, 2, 3], 12)], 0) := by
  unfold stepP
  have h : rightP conI [domI, domA] = true := by
    unfold rightP
    rw [show ((([domI, domA] : List (List Int × Nat)).length : Nat) : Int) = 2 from rfl, rightC_I]
    decide
  rw [if_pos h]
  decide +kernel

/- literals in memory -/
theorem blk_new (w : World) (o : Obj) : (w.alloc o).heap[w.heap.size]? = some o := by unfold World.alloc; simp
theorem blk_in {w : World} {b : Nat} {cc : Array Value} {t : TypeId} {fz : Nat × Nat} (h : w.heap[b]? = some (.cells cc t fz)) (off : Nat) : w.cell? ⟨b, off, none⟩ = cc[off]? := by simp [World.cell?, h]
theorem blk_below {w u : World} {k : Nat} {x : Obj} (h : w.heap[k]? = some x) (hB : Below w.heap.size w u) : u.heap[k]? = some x := (hB.block k (Array.getElem?_eq_some_iff.1 h).1).trans h
theorem lit_slc {w : World} {b : Nat} {t : TypeId} (xs : List Int) (h : w.heap[b]? = some (.cells (xs.map (Value.int .i64)).toArray t)) (hf : ∀ x ∈ xs, Fit x) : Slc rNum 1 w (.slice (some ⟨b, 0, none⟩) xs.length xs.length) xs :=
  ⟨_, b, 0, xs.length, xs.length, rfl, ⟨fun h => (by cases h), Nat.le_refl _⟩, rfl, fun _ => rfl, fun k a hk => by
    refine ⟨[.int .i64 a], rfl, fun j hj => ?_, rfl, hf a (List.mem_of_getElem? hk)⟩
    obtain rfl : j = 0 := by omega
    rw [Nat.mul_one, Nat.add_zero, Nat.zero_add, blk_in h]
    simp [hk]⟩
theorem lit_reads {w : World} {b : Nat} {t : TypeId} (xs : List Int) (h : w.heap[b]? = some (.cells (xs.map (Value.int .i64)).toArray t)) : Dm.ReadsN w (.slice (some ⟨b, 0, none⟩) xs.length xs.length) xs :=
  .inr (.inr ⟨b, 0, xs.length, rfl, fun k hk => by
    rw [Nat.zero_add, blk_in h]
    simp [hk]⟩)
theorem nil_slc (w : World) : Slc rNum 1 w (.slice none 0 0) [] := ⟨none, 0, 0, 0, 0, rfl, ⟨fun _ => rfl, Nat.le_refl _⟩, rfl, fun h => by omega, fun k a h => by simp at h⟩
theorem fit_small {n : Int} (h : -2000000000000 ≤ n ∧ n ≤ 2000000000000) : Fit n := by unfold Fit; omega
theorem lit_con {w : World} {c : PCon} {v1 v2 v3 : Value} (hf : Fit c.kind ∧ Fit c.rel ∧ Fit c.const) (h1 : Slc rNum 1 w v1 c.vars) (h2 : Slc rNum 1 w v2 c.coefs) (h3 : Slc rNum 1 w v3 c.nums) : rCon w [.int .i64 c.kind, v1, v2, .int .i64 c.rel, .int .i64 c.const, v3] c :=
  ⟨v1, v2, v3, rfl, hf, h1, h2, h3⟩
theorem lit_dom {w : World} {v : Value} {d : List Int × Nat} (h : Dm.ReadsN w v d.1) (h2 : d.2 < 18446744073709551616) (hl : d.1.length ≤ maxLen) : rDom w [v, .int .u64 d.2] d := ⟨v, rfl, h, h2, hl⟩
theorem lit_doms2 {w : World} {b : Nat} {t : TypeId} {v0 v1 : Value} {d0 d1 : List Int × Nat} (h : w.heap[b]? = some (.cells #[v0, .int .u64 d0.2, v1, .int .u64 d1.2] t)) (r0 : rDom w [v0, .int .u64 d0.2] d0) (r1 : rDom w [v1, .int .u64 d1.2] d1) : Slc rDom 2 w (.slice (some ⟨b, 0, none⟩) 2 2) [d0, d1] :=
  ⟨_, b, 0, 2, 2, rfl, ⟨fun h => (by cases h), Nat.le_refl _⟩, rfl, fun _ => rfl, fun k a hk => by
    match k, hk with
    | 0, hk =>
      obtain rfl : d0 = a := by simpa using hk
      refine ⟨_, rfl, fun j hj => ?_, r0⟩
      rw [blk_in h]
      match j, hj with
      | 0, _ => rfl
      | 1, _ => rfl
    | 1, hk =>
      obtain rfl : d1 = a := by simpa using hk
      refine ⟨_, rfl, fun j hj => ?_, r1⟩
      rw [blk_in h]
      match j, hj with
      | 0, _ => rfl
      | 1, _ => rfl
    | k + 2, hk => simp at hk⟩
theorem lit_doms1 {w : World} {b : Nat} {t : TypeId} {v0 : Value} {d0 : List Int × Nat} (h : w.heap[b]? = some (.cells #[v0, .int .u64 d0.2] t)) (r0 : rDom w [v0, .int .u64 d0.2] d0) : Slc rDom 2 w (.slice (some ⟨b, 0, none⟩) 1 1) [d0] :=
  ⟨_, b, 0, 1, 1, rfl, ⟨fun h => (by cases h), Nat.le_refl _⟩, rfl, fun _ => rfl, fun k a hk => by
    match k, hk with
    | 0, hk =>
      obtain rfl : d0 = a := by simpa using hk
      refine ⟨_, rfl, fun j hj => ?_, r0⟩
      rw [blk_in h]
      match j, hj with
      | 0, _ => rfl
      | 1, _ => rfl
    | k + 1, hk => simp at hk⟩
end Go.Proofs.YtakooocmnapjmaaDoor.St
namespace Go.Proofs.YtakooocmnapjmaaDoor.St
open Go.RowKit
set_option maxRecDepth 100000

theorem four_reads (x0 x1 x2 x3 : Int) : #[Value.int .i64 x0, .int .i64 x1, .int .i64 x2, .int .i64 x3] = (([x0, x1, x2, x3] : List Int).map (Value.int .i64)).toArray := rfl
theorem two_at {w : World} {x : Value} {d0 d1 : List Int × Nat} (h : Slc rDom 2 w x [d0, d1]) : ∃ b off c, x = .slice (some ⟨b, off, none⟩) 2 c ∧ w.cell? ⟨b, off + 1, none⟩ = some (.int .u64 d0.2) ∧ w.cell? ⟨b, off + 2 + 1, none⟩ = some (.int .u64 d1.2) := by
  obtain ⟨p, b, off, c, len, rfl, _, hs⟩ := h
  have hl := hs.long
  obtain rfl : len = 2 := by simpa using hl
  obtain rfl := hs.at_ (by omega)
  obtain ⟨y0, u0, e0, ⟨_, c0⟩, _⟩ := dom_at2 hs (k := 0) (by omega)
  obtain ⟨y1, u1, e1, ⟨_, c1⟩, _⟩ := dom_at2 hs (k := 1) (by omega)
  obtain rfl : d0 = y0 := by simpa using e0
  obtain rfl : d1 = y1 := by simpa using e1
  refine ⟨b, off, c, rfl, ?_, ?_⟩
  · rw [Nat.zero_mul, Nat.add_zero] at c0; exact c0
  · rw [Nat.one_mul] at c1; exact c1

set_option maxHeartbeats 8000000 in
theorem awake_any {w : World} (hT : B.Tab w) (h0 : 0 < w.heap.size) : Calls Tryd.prog 8 #[] w fun e w' => e = .returned (.bool true) ∧ Below w.heap.size w w' := by
  have SA := Lib.hid (fun (u : World) (hb : Below w.heap.size w u) (v1 v2 v3 v : Value) (c : PCon) (L : List (List Int × Nat)) (hc : rCon u [.int .i64 c.kind, v1, v2, .int .i64 c.rel, .int .i64 c.const, v3] c) (hs : Short 1000 c) (h : Slc rDom 2 u v L) (hn : L.length ≤ 1000) (hm : ∀ d ∈ L, d.1.length ≤ 1000) => step_any (B.Tab.below hT h0 hb) (Nat.lt_of_lt_of_le h0 hb.size) hc hs h hn hm)
  -- the worlds ahead of the first call
  obtain ⟨W1, hW1⟩ : ∃ z, z = w.alloc (.cells #[.int .i64 0, .int .i64 1, .int .i64 2, .int .i64 3] 3) := ⟨_, rfl⟩
  obtain ⟨W2, hW2⟩ : ∃ z, z = W1.alloc (.cells #[.slice (some ⟨w.heap.size, 0, none⟩) 4 4, .int .u64 15] 47) := ⟨_, rfl⟩
  obtain ⟨W3, hW3⟩ : ∃ z, z = W2.alloc (.cells #[.int .i64 0, .int .i64 1] 3) := ⟨_, rfl⟩
  obtain ⟨W4, hW4⟩ : ∃ z, z = W3.alloc (.cells #[.int .i64 1, .int .i64 1] 3) := ⟨_, rfl⟩
  obtain ⟨W5, hW5⟩ : ∃ z, z = W4.alloc (.cells #[.int .i64 1, .slice (some ⟨w.heap.size + 2, 0, none⟩) 2 2, .slice (some ⟨w.heap.size + 3, 0, none⟩) 2 2, .int .i64 0, .int .i64 5, .slice none 0 0] 24) := ⟨_, rfl⟩
  obtain ⟨W6, hW6⟩ : ∃ z, z = W5.alloc (.cells #[.slice (some ⟨w.heap.size, 0, none⟩) 4 4, .int .u64 15, .slice (some ⟨w.heap.size, 0, none⟩) 4 4, .int .u64 15] 47) := ⟨_, rfl⟩
  have s1 : W1.heap.size = w.heap.size + 1 := by rw [hW1, World.size_alloc]
  have s2 : W2.heap.size = w.heap.size + 2 := by rw [hW2, World.size_alloc, s1]
  have s3 : W3.heap.size = w.heap.size + 3 := by rw [hW3, World.size_alloc, s2]
  have s4 : W4.heap.size = w.heap.size + 4 := by rw [hW4, World.size_alloc, s3]
  have s5 : W5.heap.size = w.heap.size + 5 := by rw [hW5, World.size_alloc, s4]
  have b1 : Below w.heap.size w W1 := by rw [hW1]; exact new_below _ _
  have b2 : Below W1.heap.size W1 W2 := by rw [hW2]; exact new_below _ _
  have b3 : Below W2.heap.size W2 W3 := by rw [hW3]; exact new_below _ _
  have b4 : Below W3.heap.size W3 W4 := by rw [hW4]; exact new_below _ _
  have b5 : Below W4.heap.size W4 W5 := by rw [hW5]; exact new_below _ _
  have b6 : Below W5.heap.size W5 W6 := by rw [hW6]; exact new_below _ _
  have b26 : Below W2.heap.size W2 W6 := below_two b3 (below_two b4 (below_two b5 b6))
  have k1 : W1.heap[w.heap.size]? = some (.cells ((domA.1).map (Value.int .i64)).toArray 3) := by rw [hW1]; exact blk_new _ _
  have k2 : W2.heap[w.heap.size + 1]? = some (.cells #[.slice (some ⟨w.heap.size, 0, none⟩) 4 4, .int .u64 15] 47) := by rw [hW2, ← s1]; exact blk_new _ _
  have k3 : W3.heap[w.heap.size + 2]? = some (.cells (([0, 1] : List Int).map (Value.int .i64)).toArray 3) := by rw [hW3, ← s2]; exact blk_new _ _
  have k4 : W4.heap[w.heap.size + 3]? = some (.cells (([1, 1] : List Int).map (Value.int .i64)).toArray 3) := by rw [hW4, ← s3]; exact blk_new _ _
  have k5 : W5.heap[w.heap.size + 4]? = some (.cells #[.int .i64 1, .slice (some ⟨w.heap.size + 2, 0, none⟩) 2 2, .slice (some ⟨w.heap.size + 3, 0, none⟩) 2 2, .int .i64 0, .int .i64 5, .slice none 0 0] 24) := by rw [hW5, ← s4]; exact blk_new _ _
  have k6 : W6.heap[w.heap.size + 5]? = some (.cells #[.slice (some ⟨w.heap.size, 0, none⟩) 4 4, .int .u64 (domA.2 : Nat), .slice (some ⟨w.heap.size, 0, none⟩) 4 4, .int .u64 (domA.2 : Nat)] 47) := by rw [hW6, ← s5]; exact blk_new _ _
  have rA : ∀ u, Below W1.heap.size W1 u → rDom u [.slice (some ⟨w.heap.size, 0, none⟩) 4 4, .int .u64 (domA.2 : Nat)] domA := fun u hu => lit_dom (lit_reads domA.1 (blk_below k1 hu)) (by decide) (by decide)
  have cA : ∀ u, Below W5.heap.size W5 u → rCon u [.int .i64 conA.kind, .slice (some ⟨w.heap.size + 2, 0, none⟩) 2 2, .slice (some ⟨w.heap.size + 3, 0, none⟩) 2 2, .int .i64 conA.rel, .int .i64 conA.const, .slice none 0 0] conA := fun u hu =>
    lit_con ⟨fit_small (by decide), fit_small (by decide), fit_small (by decide)⟩ (lit_slc conA.vars (blk_below k3 (below_two b4 (below_two b5 hu))) (by intro x hx; exact fit_small (by simp [conA] at hx; omega))) (lit_slc conA.coefs (blk_below k4 (below_two b5 hu)) (by intro x hx; exact fit_small (by simp [conA] at hx; omega))) (nil_slc _)
  have S1 := Lib.hid (SA.out W6 (below_two b1 (below_two b2 b26)) _ _ _ _ conA [domA, domA] (cA W6 b6) ⟨by decide, by decide, by decide⟩ (lit_doms2 k6 (rA _ (below_two b2 b26)) (rA _ (below_two b2 b26))) (by decide) (by decide))
  rw [step_A] at S1
  have RA := Lib.hid rA
  have CA := Lib.hid cA
  have K2 := Lib.hid (fun u (hu : Below W2.heap.size W2 u) => And.intro (cell_below hu (blk_in k2 0)) (cell_below hu (blk_in k2 1)))
  have K5 := Lib.hid (fun u (hu : Below W5.heap.size W5 u) => And.intro (cell_below hu (blk_in k5 0)) (And.intro (cell_below hu (blk_in k5 1)) (And.intro (cell_below hu (blk_in k5 2)) (And.intro (cell_below hu (blk_in k5 3)) (And.intro (cell_below hu (blk_in k5 4)) (cell_below hu (blk_in k5 5)))))))
  have BB := Lib.hid (And.intro (below_two b1 (below_two b2 b26)) (And.intro b26 b6))
  have HW := Lib.hid (show (((((w.alloc (.cells #[.int .i64 0, .int .i64 1, .int .i64 2, .int .i64 3] 3)).alloc (.cells #[.slice (some ⟨w.heap.size, 0, none⟩) 4 4, .int .u64 15] 47)).alloc (.cells #[.int .i64 0, .int .i64 1] 3)).alloc (.cells #[.int .i64 1, .int .i64 1] 3)).alloc (.cells #[.int .i64 1, .slice (some ⟨w.heap.size + 2, 0, none⟩) 2 2, .slice (some ⟨w.heap.size + 3, 0, none⟩) 2 2, .int .i64 0, .int .i64 5, .slice none 0 0] 24)).alloc (.cells #[.slice (some ⟨w.heap.size, 0, none⟩) 4 4, .int .u64 15, .slice (some ⟨w.heap.size, 0, none⟩) 4 4, .int .u64 15] 47) = W6 by rw [hW6, hW5, hW4, hW3, hW2, hW1])
  have B25 := Lib.hid (And.intro (below_two b2 (below_two b3 (below_two b4 b5))) (below_two b3 (below_two b4 b5)))
  clear s1 s2 s3 s4 s5 b1 b2 b3 b4 b5 b6 b26 k1 k2 k3 k4 k5 k6 rA cA hW1 hW2 hW3 hW4 hW5 hW6 hT h0
  go_enter Tryd.func8, Tryd.ntmps8
  go_wp2_with fail
  rw [HW.out]
  refine S1.out.mono ?_
  rintro e w7 ⟨x1, rfl, hx1, hB7⟩
  have X1 := Lib.hid hx1
  have HB7 := Lib.hid hB7
  obtain ⟨a0, a1⟩ := K2.out w7 (below_two BB.out.2.1 hB7)
  obtain ⟨q0, q1, q2, q3, q4, q5⟩ := K5.out w7 (below_two BB.out.2.2 hB7)
  clear hx1 hB7
  go_wp2_with fail
  obtain ⟨W8, hW8⟩ : ∃ z, z = w7.alloc (.cells #[.slice (some ⟨w.heap.size, 0, none⟩) 4 4, .int .u64 15] 47) := ⟨_, rfl⟩
  have b8 : Below w7.heap.size w7 W8 := by rw [hW8]; exact new_below _ _
  have k8 : W8.heap[w7.heap.size]? = some (.cells #[.slice (some ⟨w.heap.size, 0, none⟩) 4 4, .int .u64 (domA.2 : Nat)] 47) := by rw [hW8]; exact blk_new _ _
  have S2 := Lib.hid (SA.out W8 (below_two BB.out.1 (below_two HB7.out b8)) _ _ _ _ conA [domA] (CA.out W8 (below_two BB.out.2.2 (below_two HB7.out b8))) ⟨by decide, by decide, by decide⟩ (lit_doms1 k8 (RA.out _ (below_two B25.out.1 (below_two BB.out.2.2 (below_two HB7.out b8))))) (by decide) (by decide))
  rw [step_A1] at S2
  have HB8 := Lib.hid b8
  have HW8 := Lib.hid hW8
  clear b8 k8 hW8
  rw [← HW8.out]
  refine S2.out.mono ?_
  rintro e w9 ⟨x2, rfl, hx2, hB9⟩
  have HB9 := Lib.hid (below_two HB7.out (below_two HB8.out hB9))
  have B69 := Lib.hid (below_two BB.out.2.1 HB9.out)
  have X1b := Lib.hid (X1.out.below rDom_stays (below_two HB8.out hB9))
  clear hx2 hB9 q0 q1 q2 q3 q4 q5 a0 a1
  obtain ⟨a0, a1⟩ := K2.out w9 B69.out
  -- the worlds ahead of the third call
  obtain ⟨V1, hV1⟩ : ∃ z, z = w9.alloc (.cells #[.int .i64 0, .int .i64 1] 3) := ⟨_, rfl⟩
  obtain ⟨V2, hV2⟩ : ∃ z, z = V1.alloc (.cells #[.int .i64 1] 3) := ⟨_, rfl⟩
  obtain ⟨V3, hV3⟩ : ∃ z, z = V2.alloc (.cells #[.int .i64 3, .slice (some ⟨w9.heap.size, 0, none⟩) 2 2, .slice (some ⟨w9.heap.size + 1, 0, none⟩) 1 1, .int .i64 5, .int .i64 2, .slice none 0 0] 24) := ⟨_, rfl⟩
  obtain ⟨V4, hV4⟩ : ∃ z, z = V3.alloc (.cells #[.int .i64 0, .int .i64 1, .int .i64 2] 3) := ⟨_, rfl⟩
  obtain ⟨V5, hV5⟩ : ∃ z, z = V4.alloc (.cells #[.slice (some ⟨w9.heap.size + 3, 0, none⟩) 3 3, .int .u64 6, .slice (some ⟨w.heap.size, 0, none⟩) 4 4, .int .u64 15] 47) := ⟨_, rfl⟩
  have s1 : V1.heap.size = w9.heap.size + 1 := by rw [hV1, World.size_alloc]
  have s2 : V2.heap.size = w9.heap.size + 2 := by rw [hV2, World.size_alloc, s1]
  have s3 : V3.heap.size = w9.heap.size + 3 := by rw [hV3, World.size_alloc, s2]
  have s4 : V4.heap.size = w9.heap.size + 4 := by rw [hV4, World.size_alloc, s3]
  have b1 : Below w9.heap.size w9 V1 := by rw [hV1]; exact new_below _ _
  have b2 : Below V1.heap.size V1 V2 := by rw [hV2]; exact new_below _ _
  have b3 : Below V2.heap.size V2 V3 := by rw [hV3]; exact new_below _ _
  have b4 : Below V3.heap.size V3 V4 := by rw [hV4]; exact new_below _ _
  have b5 : Below V4.heap.size V4 V5 := by rw [hV5]; exact new_below _ _
  have b15 : Below w9.heap.size w9 V5 := below_two b1 (below_two b2 (below_two b3 (below_two b4 b5)))
  have k1 : V1.heap[w9.heap.size]? = some (.cells (([0, 1] : List Int).map (Value.int .i64)).toArray 3) := by rw [hV1]; exact blk_new _ _
  have k2 : V2.heap[w9.heap.size + 1]? = some (.cells (([1] : List Int).map (Value.int .i64)).toArray 3) := by rw [hV2, ← s1]; exact blk_new _ _
  have k4 : V4.heap[w9.heap.size + 3]? = some (.cells ((domI.1).map (Value.int .i64)).toArray 3) := by rw [hV4, ← s3]; exact blk_new _ _
  have k5 : V5.heap[w9.heap.size + 4]? = some (.cells #[.slice (some ⟨w9.heap.size + 3, 0, none⟩) 3 3, .int .u64 (domI.2 : Nat), .slice (some ⟨w.heap.size, 0, none⟩) 4 4, .int .u64 (domA.2 : Nat)] 47) := by rw [hV5, ← s4]; exact blk_new _ _
  have rI : rDom V5 [.slice (some ⟨w9.heap.size + 3, 0, none⟩) 3 3, .int .u64 (domI.2 : Nat)] domI := lit_dom (lit_reads domI.1 (blk_below k4 b5)) (by decide) (by decide)
  have cI : rCon V5 [.int .i64 conI.kind, .slice (some ⟨w9.heap.size, 0, none⟩) 2 2, .slice (some ⟨w9.heap.size + 1, 0, none⟩) 1 1, .int .i64 conI.rel, .int .i64 conI.const, .slice none 0 0] conI :=
    lit_con ⟨fit_small (by decide), fit_small (by decide), fit_small (by decide)⟩ (lit_slc conI.vars (blk_below k1 (below_two b2 (below_two b3 (below_two b4 b5)))) (by intro x hx; exact fit_small (by simp [conI] at hx; omega))) (lit_slc conI.coefs (blk_below k2 (below_two b3 (below_two b4 b5))) (by intro x hx; exact fit_small (by simp [conI] at hx; omega))) (nil_slc _)
  have S3 := Lib.hid (SA.out V5 (below_two BB.out.1 (below_two HB9.out b15)) _ _ _ _ conI [domI, domA] cI ⟨by decide, by decide, by decide⟩ (lit_doms2 k5 rI (RA.out _ (below_two B25.out.1 (below_two BB.out.2.2 (below_two HB9.out b15))))) (by decide) (by decide))
  rw [step_I] at S3
  have HB15 := Lib.hid b15
  have HV := Lib.hid (show ((((w9.alloc (.cells #[.int .i64 0, .int .i64 1] 3)).alloc (.cells #[.int .i64 1] 3)).alloc (.cells #[.int .i64 3, .slice (some ⟨w9.heap.size, 0, none⟩) 2 2, .slice (some ⟨w9.heap.size + 1, 0, none⟩) 1 1, .int .i64 5, .int .i64 2, .slice none 0 0] 24)).alloc (.cells #[.int .i64 0, .int .i64 1, .int .i64 2] 3)).alloc (.cells #[.slice (some ⟨w9.heap.size + 3, 0, none⟩) 3 3, .int .u64 6, .slice (some ⟨w.heap.size, 0, none⟩) 4 4, .int .u64 15] 47) = V5 by rw [hV5, hV4, hV3, hV2, hV1])
  have lw : w.heap.size + 1 < w9.heap.size := Dm.cell_lt a0
  have lw1 : w.heap.size + 1 < w9.heap.size + 1 := by omega
  have lw2 : w.heap.size + 1 < w9.heap.size + 1 + 1 := by omega
  have lw3 : w.heap.size + 1 < w9.heap.size + 1 + 1 + 1 := by omega
  have lw4 : w.heap.size + 1 < w9.heap.size + 1 + 1 + 1 + 1 := by omega
  clear s1 s2 s3 s4 b1 b2 b3 b4 b5 b15 k1 k2 k4 k5 rI cI hV1 hV2 hV3 hV4 hV5
  go_wp2_with fail
  rw [HV.out]
  refine S3.out.mono ?_
  rintro e w10 ⟨x3, rfl, hx3, hB10⟩
  obtain ⟨bx, ox, cx, rfl, c0, c1⟩ := two_at (X1b.out.below rDom_stays (below_two HB15.out hB10))
  obtain ⟨by_, oy, cy, rfl, d0, d1⟩ := two_at hx3
  have HB10 := Lib.hid (below_two BB.out.1 (below_two HB9.out (below_two HB15.out hB10)))
  have HCD := Lib.hid (And.intro c0 (And.intro c1 (And.intro d0 d1)))
  have C1 := Lib.hid (fun u => pcontrary_any 2 u)
  have C2 := Lib.hid (fun u => pcontrary_any 9 u)
  rw [show contrary 2 = 5 by decide] at C1
  rw [show contrary 9 = 9 by decide] at C2
  clear hx3 hB10 a0 a1 lw lw1 lw2 lw3 lw4
  go_wp2_with fail
  refine (C1.out _).mono ?_
  rintro e w11 ⟨rfl, hB11⟩
  have HB11 := Lib.hid (below_two HB10.out hB11)
  clear hB11
  go_wp2_with fail
  refine (C2.out _).mono ?_
  rintro e w12 ⟨rfl, hB12⟩
  have HB12 := Lib.hid (below_two HB11.out hB12)
  clear hB12
  go_wp2_with fail
  go_ret
  exact ⟨rfl, HB12.out⟩
end Go.Proofs.YtakooocmnapjmaaDoor.St
