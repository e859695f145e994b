/-
  What awake asks of an element's step: plain data.
  What awake of the laws of layer 14 answers: true.
-/
import Derived.Test.YtomcgmeekmfdhaaDoorZYCD
import Derived.Test.YtomcgmeekmfdhaaDoorZYBN
namespace Go.Proofs.YtomcgmeekmfdhaaDoor.Ge
open Go.RowKit St
set_option maxRecDepth 100000

def conP : PCon := ⟨4, [0, 1], [], 0, 0, [5, 5, 7]⟩
def domA : List Int × Nat := ([0, 1, 2, 3], 15)
def domB : List Int × Nat := ([5, 6], 3)
theorem right_P : rightC conP 2 = true := by
  rw [right_on (Gr.varsTo_iff.2 ⟨by decide, by decide⟩)]
  decide
theorem right_P2 : rightC conP 1 = false := right_bad fun h => by
  have := (Gr.varsTo_iff.1 h).1 1 (by decide)
  omega
theorem step_P : stepG conP [domA, domB] = ([([0, 1, 2, 3], 3), ([5, 6], 1)], 0) := by
  have h : rightK [4] conP [domA, domB] = true := by
    unfold rightK
    rw [show ((([domA, domB] : List (List Int × Nat)).length : Nat) : Int) = 2 from rfl, right_P]
    decide
  have k0 : elemK conP (domsOf [domA, domB] conP.vars) 0 = _ := funext fun v => elem0 (c := conP) (D := domsOf [domA, domB] conP.vars) (y := v)
  have k1 : elemK conP (domsOf [domA, domB] conP.vars) 1 = _ := funext fun v => elem1 (c := conP) (D := domsOf [domA, domB] conP.vars) (y := v)
  show stepK [4] elemK conP [domA, domB] = _
  rw [stepK_on h, show conP.vars.length = 2 from rfl, stepTo_succ, stepTo_succ, k0, k1]
  decide +kernel
theorem step_P2 : stepG conP [domA] = ([], 1) := by
  have h : rightK [4] conP [domA] = false := by
    unfold rightK
    rw [show ((([domA] : List (List Int × Nat)).length : Nat) : Int) = 1 from rfl, right_P2]
    decide
  exact stepK_off h
theorem two_at {w : World} {x : Value} {d0 d1 : List Int × Nat} (h : Slc rDom 2 w x [d0, d1]) : ∃ b off c, x = .slice (some ⟨b, off, none⟩) 2 c ∧ w.cell? ⟨b, off + 1, none⟩ = some (.int .u64 d0.2) ∧ w.cell? ⟨b, off + 2 + 1, none⟩ = some (.int .u64 d1.2) := by
  obtain ⟨p, b, off, c, len, rfl, _, hs⟩ := h
  have hl := hs.long
  obtain rfl : len = 2 := by simpa using hl
  obtain rfl := hs.at_ (by omega)
  obtain ⟨y0, u0, e0, ⟨_, c0⟩, _⟩ := dom_at2 hs (k := 0) (by omega)
  obtain ⟨y1, u1, e1, ⟨_, c1⟩, _⟩ := dom_at2 hs (k := 1) (by omega)
  obtain rfl : d0 = y0 := by simpa using e0
  obtain rfl : d1 = y1 := by simpa using e1
  refine ⟨b, off, c, rfl, ?_, ?_⟩
  · rw [Nat.zero_mul, Nat.add_zero] at c0; exact c0
  · rw [Nat.one_mul] at c1; exact c1
end Go.Proofs.YtomcgmeekmfdhaaDoor.Ge
namespace Go.Proofs.YtomcgmeekmfdhaaDoor.Ge
open Go.RowKit St
set_option maxRecDepth 100000

set_option maxHeartbeats 8000000 in
theorem awake_any {w : World} (hT : B.Tab w) (h0 : 0 < w.heap.size) : Calls Tryd.prog 7 #[] w fun e w' => e = .returned (.bool true) ∧ Below w.heap.size w w' := by
  have SA := Lib.hid (fun (u : World) (hb : Below w.heap.size w u) (v1 v2 v3 v : Value) (c : PCon) (L : List (List Int × Nat)) (hc : rCon u [.int .i64 c.kind, v1, v2, .int .i64 c.rel, .int .i64 c.const, v3] c) (hs : Short 1000 c) (h : Slc rDom 2 u v L) (hn : L.length ≤ 1000) (hm : ∀ d ∈ L, d.1.length ≤ 1000) => step_any (B.Tab.below hT h0 hb) (Nat.lt_of_lt_of_le h0 hb.size) hc hs h hn hm)
  obtain ⟨W1, hW1⟩ : ∃ z, z = w.alloc (.cells #[.int .i64 0, .int .i64 1, .int .i64 2, .int .i64 3] 3) := ⟨_, rfl⟩
  obtain ⟨W2, hW2⟩ : ∃ z, z = W1.alloc (.cells #[.int .i64 5, .int .i64 6] 3) := ⟨_, rfl⟩
  obtain ⟨W3, hW3⟩ : ∃ z, z = W2.alloc (.cells #[.slice (some ⟨w.heap.size, 0, none⟩) 4 4, .int .u64 15] 47) := ⟨_, rfl⟩
  obtain ⟨W4, hW4⟩ : ∃ z, z = W3.alloc (.cells #[.slice (some ⟨w.heap.size + 1, 0, none⟩) 2 2, .int .u64 3] 47) := ⟨_, rfl⟩
  obtain ⟨W5, hW5⟩ : ∃ z, z = W4.alloc (.cells #[.int .i64 0, .int .i64 1] 3) := ⟨_, rfl⟩
  obtain ⟨W6, hW6⟩ : ∃ z, z = W5.alloc (.cells #[.int .i64 5, .int .i64 5, .int .i64 7] 3) := ⟨_, rfl⟩
  obtain ⟨W7, hW7⟩ : ∃ z, z = W6.alloc (.cells #[.int .i64 4, .slice (some ⟨w.heap.size + 1 + 1 + 1 + 1, 0, none⟩) 2 2, .slice none 0 0, .int .i64 0, .int .i64 0, .slice (some ⟨w.heap.size + 1 + 1 + 1 + 1 + 1, 0, none⟩) 3 3] 24) := ⟨_, rfl⟩
  obtain ⟨W8, hW8⟩ : ∃ z, z = W7.alloc (.cells #[.slice (some ⟨w.heap.size, 0, none⟩) 4 4, .int .u64 15, .slice (some ⟨w.heap.size + 1, 0, none⟩) 2 2, .int .u64 3] 47) := ⟨_, rfl⟩
  have s1 : W1.heap.size = w.heap.size + 1 := by rw [hW1, World.size_alloc]
  have s2 : W2.heap.size = w.heap.size + 1 + 1 := by rw [hW2, World.size_alloc, s1]
  have s3 : W3.heap.size = w.heap.size + 1 + 1 + 1 := by rw [hW3, World.size_alloc, s2]
  have s4 : W4.heap.size = w.heap.size + 1 + 1 + 1 + 1 := by rw [hW4, World.size_alloc, s3]
  have s5 : W5.heap.size = w.heap.size + 1 + 1 + 1 + 1 + 1 := by rw [hW5, World.size_alloc, s4]
  have s6 : W6.heap.size = w.heap.size + 1 + 1 + 1 + 1 + 1 + 1 := by rw [hW6, World.size_alloc, s5]
  have s7 : W7.heap.size = w.heap.size + 1 + 1 + 1 + 1 + 1 + 1 + 1 := by rw [hW7, World.size_alloc, s6]
  have s8 : W8.heap.size = w.heap.size + 1 + 1 + 1 + 1 + 1 + 1 + 1 + 1 := by rw [hW8, World.size_alloc, s7]
  have b1 : Below w.heap.size w W1 := by rw [hW1]; exact new_below _ _
  have b2 : Below W1.heap.size W1 W2 := by rw [hW2]; exact new_below _ _
  have b3 : Below W2.heap.size W2 W3 := by rw [hW3]; exact new_below _ _
  have b4 : Below W3.heap.size W3 W4 := by rw [hW4]; exact new_below _ _
  have b5 : Below W4.heap.size W4 W5 := by rw [hW5]; exact new_below _ _
  have b6 : Below W5.heap.size W5 W6 := by rw [hW6]; exact new_below _ _
  have b7 : Below W6.heap.size W6 W7 := by rw [hW7]; exact new_below _ _
  have b8 : Below W7.heap.size W7 W8 := by rw [hW8]; exact new_below _ _
  have t8 : Below W8.heap.size W8 W8 := Below.refl _ _
  have t7 : Below W7.heap.size W7 W8 := below_two b8 t8
  have t6 : Below W6.heap.size W6 W8 := below_two b7 t7
  have t5 : Below W5.heap.size W5 W8 := below_two b6 t6
  have t4 : Below W4.heap.size W4 W8 := below_two b5 t5
  have t3 : Below W3.heap.size W3 W8 := below_two b4 t4
  have t2 : Below W2.heap.size W2 W8 := below_two b3 t3
  have t1 : Below W1.heap.size W1 W8 := below_two b2 t2
  have t0 : Below w.heap.size w W8 := below_two b1 t1
  have k1 : W1.heap[w.heap.size]? = some (.cells #[.int .i64 0, .int .i64 1, .int .i64 2, .int .i64 3] 3) := by rw [hW1]; exact blk_new _ _
  have k2 : W2.heap[w.heap.size + 1]? = some (.cells #[.int .i64 5, .int .i64 6] 3) := by rw [hW2, ← s1]; exact blk_new _ _
  have k3 : W3.heap[w.heap.size + 1 + 1]? = some (.cells #[.slice (some ⟨w.heap.size, 0, none⟩) 4 4, .int .u64 15] 47) := by rw [hW3, ← s2]; exact blk_new _ _
  have k4 : W4.heap[w.heap.size + 1 + 1 + 1]? = some (.cells #[.slice (some ⟨w.heap.size + 1, 0, none⟩) 2 2, .int .u64 3] 47) := by rw [hW4, ← s3]; exact blk_new _ _
  have k5 : W5.heap[w.heap.size + 1 + 1 + 1 + 1]? = some (.cells #[.int .i64 0, .int .i64 1] 3) := by rw [hW5, ← s4]; exact blk_new _ _
  have k6 : W6.heap[w.heap.size + 1 + 1 + 1 + 1 + 1]? = some (.cells #[.int .i64 5, .int .i64 5, .int .i64 7] 3) := by rw [hW6, ← s5]; exact blk_new _ _
  have k7 : W7.heap[w.heap.size + 1 + 1 + 1 + 1 + 1 + 1]? = some (.cells #[.int .i64 4, .slice (some ⟨w.heap.size + 1 + 1 + 1 + 1, 0, none⟩) 2 2, .slice none 0 0, .int .i64 0, .int .i64 0, .slice (some ⟨w.heap.size + 1 + 1 + 1 + 1 + 1, 0, none⟩) 3 3] 24) := by rw [hW7, ← s6]; exact blk_new _ _
  have k8 : W8.heap[w.heap.size + 1 + 1 + 1 + 1 + 1 + 1 + 1]? = some (.cells #[.slice (some ⟨w.heap.size, 0, none⟩) 4 4, .int .u64 15, .slice (some ⟨w.heap.size + 1, 0, none⟩) 2 2, .int .u64 3] 47) := by rw [hW8, ← s7]; exact blk_new _ _
  have rdomA : ∀ u, Below W1.heap.size W1 u → rDom u [.slice (some ⟨w.heap.size, 0, none⟩) 4 4, .int .u64 (domA.2 : Nat)] domA := fun u hu => lit_dom (lit_reads domA.1 (blk_below k1 hu)) (by decide) (by decide)
  have rdomB : ∀ u, Below W2.heap.size W2 u → rDom u [.slice (some ⟨w.heap.size + 1, 0, none⟩) 2 2, .int .u64 (domB.2 : Nat)] domB := fun u hu => lit_dom (lit_reads domB.1 (blk_below k2 hu)) (by decide) (by decide)
  have cP : ∀ u, Below W7.heap.size W7 u → rCon u [.int .i64 conP.kind, .slice (some ⟨w.heap.size + 1 + 1 + 1 + 1, 0, none⟩) 2 2, .slice none 0 0, .int .i64 conP.rel, .int .i64 conP.const, .slice (some ⟨w.heap.size + 1 + 1 + 1 + 1 + 1, 0, none⟩) 3 3] conP := fun u hu =>
    lit_con ⟨fit_small (by decide), fit_small (by decide), fit_small (by decide)⟩ (lit_slc conP.vars (blk_below k5 (below_two b6 (below_two b7 hu))) (by intro x hx; exact fit_small (by simp [conP] at hx; omega))) (nil_slc _) (lit_slc conP.nums (blk_below k6 (below_two b7 hu)) (by intro x hx; exact fit_small (by simp [conP] at hx; omega)))
  have S1 := Lib.hid (SA.out W8 t0 _ _ _ _ conP [domA, domB] (cP W8 b8) ⟨by decide, by decide, by decide⟩ (lit_doms2 k8 (rdomA _ t1) (rdomB _ t2)) (by decide) (by decide))
  rw [step_P] at S1
  have RD := Lib.hid rdomA
  have CP := Lib.hid cP
  have KA := Lib.hid (fun u (hu : Below W8.heap.size W8 u) => And.intro (cell_below hu (cell_below t3 (blk_in k3 0))) (cell_below hu (cell_below t3 (blk_in k3 1))))
  have KC := Lib.hid (fun u (hu : Below W8.heap.size W8 u) => And.intro (cell_below hu (cell_below t7 (blk_in k7 0))) (And.intro (cell_below hu (cell_below t7 (blk_in k7 1))) (And.intro (cell_below hu (cell_below t7 (blk_in k7 2))) (And.intro (cell_below hu (cell_below t7 (blk_in k7 3))) (And.intro (cell_below hu (cell_below t7 (blk_in k7 4))) (cell_below hu (cell_below t7 (blk_in k7 5))))))))
  have BB := Lib.hid (And.intro t0 (And.intro t1 t7))
  have HW := Lib.hid (show ((((((((w.alloc (.cells #[.int .i64 0, .int .i64 1, .int .i64 2, .int .i64 3] 3)).alloc (.cells #[.int .i64 5, .int .i64 6] 3)).alloc (.cells #[.slice (some ⟨w.heap.size, 0, none⟩) 4 4, .int .u64 15] 47)).alloc (.cells #[.slice (some ⟨w.heap.size + 1, 0, none⟩) 2 2, .int .u64 3] 47)).alloc (.cells #[.int .i64 0, .int .i64 1] 3)).alloc (.cells #[.int .i64 5, .int .i64 5, .int .i64 7] 3)).alloc (.cells #[.int .i64 4, .slice (some ⟨w.heap.size + 1 + 1 + 1 + 1, 0, none⟩) 2 2, .slice none 0 0, .int .i64 0, .int .i64 0, .slice (some ⟨w.heap.size + 1 + 1 + 1 + 1 + 1, 0, none⟩) 3 3] 24)).alloc (.cells #[.slice (some ⟨w.heap.size, 0, none⟩) 4 4, .int .u64 15, .slice (some ⟨w.heap.size + 1, 0, none⟩) 2 2, .int .u64 3] 47)) = W8 by rw [hW8, hW7, hW6, hW5, hW4, hW3, hW2, hW1])
  clear s1 s2 s3 s4 s5 s6 s7 s8 b1 b2 b3 b4 b5 b6 b7 b8 t0 t1 t2 t3 t4 t5 t6 t7 t8 k1 k2 k3 k4 k5 k6 k7 k8 rdomA rdomB cP hW1 hW2 hW3 hW4 hW5 hW6 hW7 hW8 hT h0
  go_enter Tryd.func7, Tryd.ntmps7
  go_wp2_with fail
  rw [HW.out]
  refine S1.out.mono ?_
  rintro e w7 ⟨x1, rfl, hx1, hB7⟩
  have X1 := Lib.hid hx1
  have HB7 := Lib.hid hB7
  obtain ⟨a0, a1⟩ := KA.out w7 hB7
  obtain ⟨q0, q1, q2, q3, q4, q5⟩ := KC.out w7 hB7
  clear hx1 hB7
  go_wp2_with fail
  obtain ⟨V8, hV8⟩ : ∃ z, z = w7.alloc (.cells #[.slice (some ⟨w.heap.size, 0, none⟩) 4 4, .int .u64 15] 47) := ⟨_, rfl⟩
  have b8 : Below w7.heap.size w7 V8 := by rw [hV8]; exact new_below _ _
  have k8 : V8.heap[w7.heap.size]? = some (.cells #[.slice (some ⟨w.heap.size, 0, none⟩) 4 4, .int .u64 15] 47) := by rw [hV8]; exact blk_new _ _
  have b98 := below_two HB7.out b8
  have S2 := Lib.hid (SA.out V8 (below_two BB.out.1 b98) _ _ _ _ conP [domA] (CP.out V8 (below_two BB.out.2.2 b98)) ⟨by decide, by decide, by decide⟩ (lit_doms1 k8 (RD.out _ (below_two BB.out.2.1 b98))) (by decide) (by decide))
  rw [step_P2] at S2
  have HB8 := Lib.hid b8
  have HV8 := Lib.hid hV8
  clear b8 k8 hV8 b98
  rw [← HV8.out]
  refine S2.out.mono ?_
  rintro e w9 ⟨x2, rfl, hx2, hB9⟩
  have HB9 := Lib.hid (below_two BB.out.1 (below_two HB7.out (below_two HB8.out hB9)))
  obtain ⟨bx, ox, cx, rfl, c0, c1⟩ := two_at (X1.out.below rDom_stays (below_two HB8.out hB9))
  clear hx2 hB9 q0 q1 q2 q3 q4 q5 a0 a1
  go_wp2_with fail
  go_ret
  exact ⟨rfl, HB9.out⟩
end Go.Proofs.YtomcgmeekmfdhaaDoor.Ge
