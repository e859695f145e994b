/-
  The program's parser reads all tokens, or tells where it gave up.
  What within, noSum, nums, sum and row of package model answer, and slices.Contains of numbers, at every constraint that can be read.
  What row and sum of package model answer, at every constraint that can be read.
-/
import Derived.Test.YtfkakdpppejehaaGreatZYAY
import Derived.Test.YtfkakdpppejehaaGreatZYAO
namespace Go.Proofs.YtfkakdpppejehaaGreat.Pp
open Go.RowKit
open Sc (Tok Cells str noTok)
open Pa
set_option maxRecDepth 100000

section
variable {w0 w w' : World} {g n bl ol cl nb base : Nat} {pv : Option Addr} {m cv : Nat} {T : List Tok} {len : Nat} {r : Rd} {v : Value}
theorem owns_from {α : Type} {R : List Value → α → Prop} {k e : Nat} {M : List α} (h : OwnsP R k e base w v M) (hs : ∀ i, base ≤ i → w'.heap[i]? = w.heap[i]?) : OwnsP R k e base w' v M := h.same fun i hi => hs i (h.lt i hi).1
theorem decls_from {M : List PDecl} (h : DeclsAt w base v M) (hs : ∀ i, base ≤ i → w'.heap[i]? = w.heap[i]?) : DeclsAt w' base v M := owns_from (OwnsP.imp h (fun _ _ _ ⟨s, u, e, t, o⟩ => ⟨s, u, e, t, owns_from o hs⟩)) hs
theorem cons_from {M : List PCon} (h : ConsAt w base v M) (hs : ∀ i, base ≤ i → w'.heap[i]? = w.heap[i]?) : ConsAt w' base v M := owns_from (OwnsP.imp h (fun _ _ _ ⟨u1, u2, u3, e, o⟩ => ⟨u1, u2, u3, e, ⟨owns_from o.o1 hs, owns_from o.o2 hs, owns_from o.o3 hs, o.p12, o.p13, o.p23⟩⟩)) hs
theorem blocks_from {M : List PBlock} (h : BlocksAt w base v M) (hs : ∀ i, base ≤ i → w'.heap[i]? = w.heap[i]?) : BlocksAt w' base v M := owns_from (OwnsP.imp h (fun _ _ _ ⟨v1, v2, e, d, c⟩ => ⟨v1, v2, e, decls_from d hs, cons_from c hs⟩)) hs
/-- what is said of reading all -/
def ReadE (w : World) (g n bl ol cl nb : Nat) (v0 : Value) (T : List Tok) (len : Nat) (X : PModel × Rd) (e : Ending) (w' : World) : Prop :=
  But (NF g v0) w w' ∧ ((X.2.wrong = false ∧ (∃ (pv : Option Addr) (m cv : Nat), PAt w' g n bl ol cl nb pv m cv T len X.2) ∧ ∃ (p1 : Option Addr) (c1 : Nat) (p2 : Option Addr) (c2 : Nat), e = .returned (.tuple #[.agg #[.slice p1 X.1.blocks.length c1, .slice p2 X.1.goal.length c2], .int .i64 0, .int .i64 0]) ∧
      BlocksAt w' w.heap.size (.slice p1 X.1.blocks.length c1) X.1.blocks ∧ ConsAt w' w.heap.size (.slice p2 X.1.goal.length c2) X.1.goal) ∨
    (X.2.wrong = true ∧ e = .returned (.tuple #[.agg #[.slice none 0 0, .slice none 0 0], .int .i64 ((tokP T len X.2.at_).at_ : Nat), .int .i64 2])))
def reads3 (w : World) : World := ((w.alloc (.cells #[.slice none 0 0, .slice none 0 0] 26)).alloc (.cells #[.int .i64 0] 3)).alloc (.cells #[.int .i64 0] 27)
theorem reads_facts (w : World) : (reads3 w).heap.size = w.heap.size + 3 ∧ Below w.heap.size w (reads3 w) ∧ (reads3 w).heap[w.heap.size]? = some (.cells #[.slice none 0 0, .slice none 0 0] 26) ∧ (reads3 w).heap[w.heap.size + 1]? = some (.cells #[.int .i64 0] 3) ∧ (reads3 w).heap[w.heap.size + 2]? = some (.cells #[.int .i64 0] 27) := by
  have b1 := (Below.refl _ w).alloc (Nat.le_refl _) (.cells #[.slice none 0 0, .slice none 0 0] 26)
  have n1 := heap_alloc_new w (.cells #[.slice none 0 0, .slice none 0 0] 26)
  obtain ⟨w1, h1⟩ : ∃ w1, w1 = w.alloc (.cells #[.slice none 0 0, .slice none 0 0] 26) := ⟨_, rfl⟩
  have s1 : w1.heap.size = w.heap.size + 1 := by rw [h1]; simp
  rw [← h1] at b1 n1
  have b2 := (Below.refl _ w1).alloc (Nat.le_refl _) (.cells #[.int .i64 0] 3)
  have n2 := heap_alloc_new w1 (.cells #[.int .i64 0] 3)
  obtain ⟨w2, h2⟩ : ∃ w2, w2 = w1.alloc (.cells #[.int .i64 0] 3) := ⟨_, rfl⟩
  have s2 : w2.heap.size = w.heap.size + 2 := by rw [h2]; simp [s1]
  rw [← h2] at b2 n2
  have b3 := (Below.refl _ w2).alloc (Nat.le_refl _) (.cells #[.int .i64 0] 27)
  have n3 := heap_alloc_new w2 (.cells #[.int .i64 0] 27)
  have s3 : (w2.alloc (.cells #[.int .i64 0] 27)).heap.size = w.heap.size + 3 := by simp [s2]
  have e : reads3 w = w2.alloc (.cells #[.int .i64 0] 27) := by rw [h2, h1]; rfl
  rw [e]
  rw [s1] at n2
  rw [s2] at n3
  refine ⟨s3, (b1.trans (b2.mono b1.size)).trans (b3.mono (Nat.le_trans b1.size b2.size)), ?_, ?_, n3⟩
  · exact (b3.block _ (by omega)).trans ((b2.block _ (by omega)).trans n1)
  · exact (b3.block _ (by omega)).trans n2
theorem one_set {F : Nat → Prop} {b j f lo : Nat} {x : Value} {w1 : World} (hb : ∃ cs, w.heap[b]? = some (.cells cs f)) (h1 : 50 ≠ f) (h2 : 47 ≠ f) (h3 : 9 ≠ f) (hlo : b < lo) (hw : w0.heap.size ≤ b)
    (h : PAt w g n bl ol cl nb pv m cv T len r ∧ (∀ i, lo ≤ i → w.heap[i]? = w1.heap[i]?) ∧ But F w0 w) : PAt (w.setCell ⟨b, j, none⟩ x) g n bl ol cl nb pv m cv T len r ∧ (∀ i, lo ≤ i → (w.setCell ⟨b, j, none⟩ x).heap[i]? = w1.heap[i]?) ∧ But F w0 (w.setCell ⟨b, j, none⟩ x) :=
  ⟨h.1.put hb h1 h2 h3, fun i hi => (Below.heap_setCell w ⟨b, j, none⟩ x i (show i ≠ b by omega)).trans (h.2.1 i hi), h.2.2.trans (G := fun i => i = b) (But.set ⟨b, j, none⟩ x fun _ => rfl) (fun i hi e => by omega)⟩
theorem other_kind {b c j f : Nat} {x : Value} (hb : ∃ cs, w.heap[b]? = some (.cells cs f)) (hne : b ≠ c) : ∃ cs, (w.setCell ⟨c, j, none⟩ x).heap[b]? = some (.cells cs f) := by
  obtain ⟨cs, e⟩ := hb
  exact ⟨cs, (Below.heap_setCell w ⟨c, j, none⟩ x b hne).trans e⟩
theorem reads_set {F : Nat → Prop} {b : Nat} {a1 a2 a3 a4 : Value} (y0 : ∃ cs, w.heap[b]? = some (.cells cs 26)) (y1 : ∃ cs, w.heap[b + 1]? = some (.cells cs 3)) (y2 : ∃ cs, w.heap[b + 1 + 1]? = some (.cells cs 27)) (hw : w0.heap.size ≤ b) (hP : PAt w g n bl ol cl nb pv m cv T len r) (hB : But F w0 w) :
    PAt ((((w.setCell ⟨b, 0, none⟩ a1).setCell ⟨b, 1, none⟩ a2).setCell ⟨b + 1, 0, none⟩ a3).setCell ⟨b + 1 + 1, 0, none⟩ a4) g n bl ol cl nb pv m cv T len r ∧ (∀ i, b + 3 ≤ i → ((((w.setCell ⟨b, 0, none⟩ a1).setCell ⟨b, 1, none⟩ a2).setCell ⟨b + 1, 0, none⟩ a3).setCell ⟨b + 1 + 1, 0, none⟩ a4).heap[i]? = w.heap[i]?) ∧ But F w0 ((((w.setCell ⟨b, 0, none⟩ a1).setCell ⟨b, 1, none⟩ a2).setCell ⟨b + 1, 0, none⟩ a3).setCell ⟨b + 1 + 1, 0, none⟩ a4) :=
  one_set (other_kind (other_kind (other_kind y2 (by omega)) (by omega)) (by omega)) (by decide) (by decide) (by decide) (by omega) (by omega)
    (one_set (other_kind (other_kind y1 (by omega)) (by omega)) (by decide) (by decide) (by decide) (by omega) (by omega)
      (one_set (span_kind y0) (by decide) (by decide) (by decide) (by omega) (by omega)
        (one_set y0 (by decide) (by decide) (by decide) (by omega) (by omega) ⟨hP, fun _ _ => rfl, hB⟩)))
set_option maxHeartbeats 8000000 in
theorem read_any (K : Nat) (h : PAt w g n bl ol cl nb pv m cv T len r) (hv : ∀ t ∈ T, t.value ≤ 2000000000000) (hm : m ≤ r.at_) (hnb : nb ≤ w.heap.size) (hK : n < K) (hn : n ≤ 9000) :
    Calls Tryz.prog 9 #[.pointer (some ⟨g, 0, none⟩)] w (ReadE w g n bl ol cl nb (.slice pv m cv) T len (modelQ K T r)) := by
  have hmf : ∀ (fn : Fn) (first cap : Array Value) (w : World), (Instr.makeFunc fn first cap).run Tryz.prog w = .ok (.func fn first cap) w := fun _ _ _ _ => rfl
  obtain ⟨s3, b3, x0, x1, x2⟩ := reads_facts w
  obtain ⟨W, hW⟩ : ∃ W, W = reads3 w := ⟨_, rfl⟩
  rw [← hW] at s3 b3 x0 x1 x2
  have H := Lib.hid (h.below b3)
  have MX := Lib.hid (modelP_any K H.out hv hm (Nat.le_trans hnb b3.size) hK hn)
  obtain ⟨X, hX⟩ : ∃ X, X = modelQ K T r := ⟨_, rfl⟩
  rw [← hX] at MX ⊢
  have HF := Lib.hid (And.intro s3 (And.intro b3 (And.intro x0 (And.intro x1 x2))))
  have HW := Lib.hid hW
  clear h hX hW s3 b3 x0 x1 x2
  go_enter_defers Tryz.func9, Tryz.ntmps9
  go_wp2_with fail
  rw [show ((w.alloc (Obj.cells #[.slice none 0 0, .slice none 0 0] 26)).alloc (.cells #[.int .i64 0] 3)).alloc (.cells #[.int .i64 0] 27) = W from HW.out.symm]
  refine MX.out.mono ?_
  rintro e w4 ⟨hB, ⟨hw, ⟨pv4, m4, cv4, hP, hf, hm4⟩, p1, c1, p2, c2, rfl, ho1, ho2⟩ | ⟨hw, rfl⟩⟩
  · obtain ⟨s3, b3, x0, x1, x2⟩ := HF.out
    have y0 := (stays_nf H.out hB (by decide) (by decide) ⟨_, x0⟩).trans x0
    have y1 := (stays_nf H.out hB (by decide) (by decide) ⟨_, x1⟩).trans x1
    have y2 := (stays_nf H.out hB (by decide) (by decide) ⟨_, x2⟩).trans x2
    have d00 := cell_of_row w4 w.heap.size 0 _ 26 (0, 0) y0
    have f00 := frozen_of_row w4 w.heap.size 0 _ 26 y0
    have d01 := cell_of_row w4 w.heap.size 1 _ 26 (0, 0) y0
    have f01 := frozen_of_row w4 w.heap.size 1 _ 26 y0
    have d1 := cell_of_row w4 (w.heap.size + 1) 0 _ 3 (0, 0) y1
    have f1 := frozen_of_row w4 (w.heap.size + 1) 0 _ 3 y1
    have d2 := cell_of_row w4 (w.heap.size + 1 + 1) 0 _ 27 (0, 0) y2
    have f2 := frozen_of_row w4 (w.heap.size + 1 + 1) 0 _ 27 y2
    have HZ := Lib.hid (And.intro hB (And.intro hw (And.intro hP (And.intro ho1 (And.intro ho2 (And.intro y0 (And.intro y1 y2)))))))
    clear hB hw hP hf hm4 ho1 ho2 y0 y1 y2 s3 b3 x0 x1 x2
    go_wp2_with fail
    obtain ⟨Wz, hWz⟩ : ∃ Wz, Wz = (((w4.setCell ⟨w.heap.size, 0, none⟩ (.slice p1 X.1.blocks.length c1)).setCell ⟨w.heap.size, 1, none⟩ (.slice p2 X.1.goal.length c2)).setCell ⟨w.heap.size + 1, 0, none⟩ (.int .i64 0)).setCell ⟨w.heap.size + 1 + 1, 0, none⟩ (.int .i64 0) := ⟨_, rfl⟩
    have z00 : Wz.cell? ⟨w.heap.size, 0, none⟩ = some (.slice p1 X.1.blocks.length c1) := by rw [hWz]; go_simp
    have z01 : Wz.cell? ⟨w.heap.size, 1, none⟩ = some (.slice p2 X.1.goal.length c2) := by rw [hWz]; go_simp
    have z1 : Wz.cell? ⟨w.heap.size + 1, 0, none⟩ = some (.int .i64 0) := by rw [hWz]; go_simp
    have z2 : Wz.cell? ⟨w.heap.size + 1 + 1, 0, none⟩ = some (.int .i64 0) := by rw [hWz]; go_simp
    rw [← hWz]
    refine leaves_cons (f := 21) (args := #[.pointer (some ⟨w.heap.size + 1, 0, none⟩), .pointer (some ⟨w.heap.size + 1 + 1, 0, none⟩)]) (by simp) (by simp [go_sem]) ?_
    refine (catch_idle _ _ _).mono ?_
    rintro e u' w'' ⟨rfl, rfl, rfl⟩
    simp [Leaves, settle, results, Tryz.results9, go_sem, z00, z01, z1, z2]
    obtain ⟨hB, hw, hP, ho1, ho2, y0, y1, y2⟩ := HZ.out
    obtain ⟨s3, b3, _⟩ := HF.out
    obtain ⟨r1, r2, r3⟩ := reads_set (w0 := w) (a1 := .slice p1 X.1.blocks.length c1) (a2 := .slice p2 X.1.goal.length c2) (a3 := .int .i64 0) (a4 := .int .i64 0) ⟨_, y0⟩ ⟨_, y1⟩ ⟨_, y2⟩ (Nat.le_refl _) hP ((But.below b3).trans (G := NF g (.slice pv m cv)) (F := NF g (.slice pv m cv)) hB (fun _ _ e => e))
    rw [← hWz] at r1 r2 r3
    rw [s3] at ho1 ho2
    exact ⟨r3, .inl ⟨hw, ⟨pv4, m4, cv4, r1⟩, p1, c1, p2, c2, rfl, blocks_low (blocks_from ho1 r2) (by omega), cons_low (cons_from ho2 r2) (by omega)⟩⟩
  · obtain ⟨s3, b3, x0, x1, x2⟩ := HF.out
    have y0 := (stays_nf H.out hB (by decide) (by decide) ⟨_, x0⟩).trans x0
    have y1 := (stays_nf H.out hB (by decide) (by decide) ⟨_, x1⟩).trans x1
    have y2 := (stays_nf H.out hB (by decide) (by decide) ⟨_, x2⟩).trans x2
    have d00 : w4.cell? ⟨w.heap.size, 0, none⟩ = some (.slice none 0 0) := cell_of_row w4 w.heap.size 0 _ 26 (0, 0) y0
    have d01 : w4.cell? ⟨w.heap.size, 1, none⟩ = some (.slice none 0 0) := cell_of_row w4 w.heap.size 1 _ 26 (0, 0) y0
    have d1 : w4.cell? ⟨w.heap.size + 1, 0, none⟩ = some (.int .i64 0) := cell_of_row w4 (w.heap.size + 1) 0 _ 3 (0, 0) y1
    have f1 : w4.frozen? ⟨w.heap.size + 1, 0, none⟩ = false := frozen_of_row w4 (w.heap.size + 1) 0 _ 3 y1
    have d2 : w4.cell? ⟨w.heap.size + 1 + 1, 0, none⟩ = some (.int .i64 0) := cell_of_row w4 (w.heap.size + 1 + 1) 0 _ 27 (0, 0) y2
    have f2 : w4.frozen? ⟨w.heap.size + 1 + 1, 0, none⟩ = false := frozen_of_row w4 (w.heap.size + 1 + 1) 0 _ 27 y2
    have HZ := Lib.hid (((But.below b3).trans (G := NF g (.slice pv m cv)) (F := NF g (.slice pv m cv)) hB (fun _ _ e => e)))
    have HWR := Lib.hid hw
    obtain ⟨pp, hpp⟩ : ∃ pp, pp = (tokP T len X.2.at_).at_ := ⟨_, rfl⟩
    rw [← hpp]
    have HPP := Lib.hid hpp
    clear hB hw y0 y1 y2 s3 b3 x0 x1 x2 hpp
    unfold gone
    go_wp2_with fail
    refine leaves_cons (f := 21) (args := #[.pointer (some ⟨w.heap.size + 1, 0, none⟩), .pointer (some ⟨w.heap.size + 1 + 1, 0, none⟩)]) (by simp) (by simp [go_sem]) ?_
    refine (catch_gone _ _ 0 0 pp [] _ d1 f1 (by go_simp) (by go_simp)).mono ?_
    rintro e u' w'' ⟨rfl, rfl, hw2⟩
    have z00 : w''.cell? ⟨w.heap.size, 0, none⟩ = some (.slice none 0 0) := by rw [hw2]; go_simp
    have z01 : w''.cell? ⟨w.heap.size, 1, none⟩ = some (.slice none 0 0) := by rw [hw2]; go_simp
    have z1 : w''.cell? ⟨w.heap.size + 1, 0, none⟩ = some (.int .i64 (pp : Int)) := by rw [hw2]; go_simp
    have z2 : w''.cell? ⟨w.heap.size + 1 + 1, 0, none⟩ = some (.int .i64 2) := by rw [hw2]; go_simp
    simp [Leaves, settle, results, Tryz.results9, go_sem, z00, z01, z1, z2]
    rw [hw2]
    exact ⟨(HZ.out.trans (G := fun i => i = w.heap.size + 1) (But.set ⟨w.heap.size + 1, 0, none⟩ _ fun _ => rfl) (fun i hi e => by omega)).trans (G := fun i => i = w.heap.size + 1 + 1) (But.set ⟨w.heap.size + 1 + 1, 0, none⟩ _ fun _ => rfl) (fun i hi e => by omega), .inr ⟨HWR.out, by rw [HPP.out]⟩⟩
end
end Go.Proofs.YtfkakdpppejehaaGreat.Pp
namespace Go.Proofs.YtfkakdpppejehaaGreat
open Go.RowKit
set_option maxRecDepth 100000

def inM (m n : Int) : Bool := decide (-m ≤ n) && decide (n ≤ m)
set_option maxHeartbeats 400000 in
theorem within_any (n m : Int) (w : World) (h0 : 0 ≤ m) (h1 : m ≤ 2000000000000) : Calls Tryz.prog 109 #[.int .i64 n, .int .i64 m] w fun e w' => e = .returned (.bool (inM m n)) ∧ w' = w := by
  unfold inM
  by_cases g1 : -m ≤ n
  · have d1 : decide (-m ≤ n) = true := decide_eq_true g1
    by_cases g2 : n ≤ m
    · have d2 : decide (n ≤ m) = true := decide_eq_true g2
      rw [d1, d2]
      go_enter Tryz.func109, Tryz.ntmps109
      go_wp2_with fail
      go_ret
      exact ⟨rfl, rfl⟩
    · have d2 : decide (n ≤ m) = false := decide_eq_false g2
      rw [d1, d2]
      go_enter Tryz.func109, Tryz.ntmps109
      go_wp2_with fail
      go_ret
      exact ⟨rfl, rfl⟩
  · have d1 : decide (-m ≤ n) = false := decide_eq_false g1
    rw [d1, Bool.false_and]
    go_enter Tryz.func109, Tryz.ntmps109
    go_wp2_with fail
    go_ret
    exact ⟨rfl, rfl⟩

def noSumB (rl ct : Int) (l2 : Nat) : Bool := decide (l2 = 0) && (decide (rl = 0) && decide (ct = 0))
set_option maxHeartbeats 400000 in
theorem nosum_any (kd rl ct : Int) (p1 p2 p3 : Option Addr) (l1 c1 l2 c2 l3 c3 : Nat) (w : World) :
    Calls Tryz.prog 105 #[.agg #[.int .i64 kd, .slice p1 l1 c1, .slice p2 l2 c2, .int .i64 rl, .int .i64 ct, .slice p3 l3 c3]] w fun e w' => e = .returned (.bool (noSumB rl ct l2)) ∧ Below w.heap.size w w' := by
  have HB := Lib.hid ((Below.refl _ w).alloc (Nat.le_refl _) (.cells #[.int .i64 kd, .slice p1 l1 c1, .slice p2 l2 c2, .int .i64 rl, .int .i64 ct, .slice p3 l3 c3] 42))
  unfold noSumB
  by_cases g1 : l2 = 0
  · have d1 : ((l2 : Int) == 0) = true := beq_iff_eq.2 (by omega)
    rw [decide_eq_true g1]
    clear g1
    by_cases g2 : rl = 0
    · have d2 : (rl == 0) = true := beq_iff_eq.2 g2
      rw [decide_eq_true g2]
      clear g2
      by_cases g3 : ct = 0
      · have d3 : (ct == 0) = true := beq_iff_eq.2 g3
        rw [decide_eq_true g3]
        clear g3
        go_enter Tryz.func105, Tryz.ntmps105
        go_wp2_with fail
        go_ret
        exact ⟨rfl, HB.out⟩
      · have d3 : (ct == 0) = false := beq_eq_false_iff_ne.2 g3
        rw [decide_eq_false g3]
        go_enter Tryz.func105, Tryz.ntmps105
        go_wp2_with fail
        go_ret
        exact ⟨rfl, HB.out⟩
    · have d2 : (rl == 0) = false := beq_eq_false_iff_ne.2 g2
      rw [decide_eq_false g2]
      go_enter Tryz.func105, Tryz.ntmps105
      go_wp2_with fail
      go_ret
      exact ⟨rfl, HB.out⟩
  · have d1 : ((l2 : Int) == 0) = false := beq_eq_false_iff_ne.2 (by omega)
    rw [decide_eq_false g1]
    go_enter Tryz.func105, Tryz.ntmps105
    go_wp2_with fail
    go_ret
    exact ⟨rfl, HB.out⟩

theorem all_bad {xs : List Int} {m x : Int} {k : Nat} (h : k < xs.length) (e : x = xs.getD k 0) (hx : inM m x = false) : allN xs m = false := by
  unfold inM at hx
  simp at hx
  exact all_not h e (by omega)
theorem in_of {m x : Int} (h : inM m x = true) : -m ≤ x ∧ x ≤ m := by
  unfold inM at h
  simpa using h

def numsB (xs : List Int) : Bool := decide (xs.length ≤ 96) && allN xs 1048576
set_option maxHeartbeats 1000000 in
theorem pnums_any (kd rl ct : Int) (p1 p2 p3 : Option Addr) (l1 c1 l2 c2 b3 o3 l3 c3 : Nat) (xs : List Int) (w : World) (hx : SliceOf rNum 1 w p3 b3 o3 l3 xs) :
    Calls Tryz.prog 106 #[.agg #[.int .i64 kd, .slice p1 l1 c1, .slice p2 l2 c2, .int .i64 rl, .int .i64 ct, .slice p3 l3 c3]] w fun e w' => e = .returned (.bool (numsB xs)) ∧ Below w.heap.size w w' := by
  obtain ⟨W0, hW0⟩ : ∃ W0, W0 = w.alloc (.cells #[.int .i64 kd, .slice p1 l1 c1, .slice p2 l2 c2, .int .i64 rl, .int .i64 ct, .slice p3 l3 c3] 42) := ⟨_, rfl⟩
  have hB0 : Below w.heap.size w W0 := by rw [hW0]; exact (Below.refl _ w).alloc (Nat.le_refl _) _
  have m5 : W0.cell? ⟨w.heap.size, 5, none⟩ = some (.slice p3 l3 c3) := by rw [hW0]; go_simp
  have HX := Lib.hid (nums_of (hx.below rNum_stays hB0))
  have HB := Lib.hid hB0
  have HW := Lib.hid hW0
  have hp := hx.at_
  have hl := hx.long
  obtain ⟨R, hR⟩ : ∃ R, R = numsB xs := ⟨_, rfl⟩
  rw [← hR]
  have hR2 : R = (decide (l3 ≤ 96) && allN xs 1048576) := by rw [hR, numsB, ← hl]
  have HN := Lib.hid hl
  clear hR hx hl hB0 hW0
  by_cases g1 : 96 < l3
  · rw [decide_eq_false (show ¬ l3 ≤ 96 by omega), Bool.false_and] at hR2
    subst hR2
    have d1 : decide ((96 : Int) < (l3 : Int)) = true := decide_eq_true (by omega)
    clear g1
    go_enter Tryz.func106, Tryz.ntmps106
    go_upto_region 1 with fail
    rw [← HW.out]
    go_wp2_with fail
    go_ret
    exact ⟨rfl, HB.out⟩
  · rw [decide_eq_true (show l3 ≤ 96 by omega), Bool.true_and] at hR2
    have HR := Lib.hid hR2
    have d1 : decide ((96 : Int) < (l3 : Int)) = false := decide_eq_false (by omega)
    have HZ := Lib.hid (show ∀ j, j < 0 → -1048576 ≤ xs.getD j 0 ∧ xs.getD j 0 ≤ 1048576 from fun j h => by omega)
    clear hR2
    go_enter Tryz.func106, Tryz.ntmps106
    go_upto_region 1 with fail
    rw [← HW.out]
    go_wp2_with fail
    go_loopw [12] (fun i wr => (∃ k : Nat, k ≤ l3 ∧ i = .int .i64 k ∧ ∀ j, j < k → -1048576 ≤ xs.getD j 0 ∧ xs.getD j 0 ≤ 1048576) ∧ wr = W0) (fun i _ => l3 - (intOf i).toNat)
    case atStart => exact ⟨⟨0, by omega, rfl, HZ.out⟩, rfl⟩
    case round =>
      obtain ⟨⟨k, hk, rfl, hrel⟩, rfl⟩ := hrel
      have HK := Lib.hid hrel
      by_cases hlt : k < l3
      · obtain rfl := hp (by omega)
        have c0 := HX.out.cell k hlt
        obtain ⟨x, ex⟩ : ∃ x, x = xs.getD k 0 := ⟨_, rfl⟩
        rw [← ex] at c0
        have HE := Lib.hid ex
        have C := Lib.hid (within_any x 1048576 wr (by omega) (by omega))
        clear hrel ex
        cases hi : inM 1048576 x
        · rw [hi] at C
          have key : R = false := by rw [HR.out]; exact all_bad (by rw [← HX.out.long]; exact hlt) HE.out hi
          subst key
          clear hi
          go_wp2_with fail
          refine C.out.mono ?_
          rintro e w2 ⟨rfl, rfl⟩
          go_wp2_with fail
          go_ret
          exact ⟨rfl, HB.out⟩
        · rw [hi] at C
          have NX := Lib.hid (show ∀ j, j < k + 1 → -1048576 ≤ xs.getD j 0 ∧ xs.getD j 0 ≤ 1048576 from fun j hj => by
            by_cases h : j < k
            · exact HK.out j h
            · obtain rfl : j = k := by omega
              rw [← HE.out]; exact in_of hi)
          clear hi
          go_wp2_with fail
          refine C.out.mono ?_
          rintro e w2 ⟨rfl, rfl⟩
          go_wp2_with fail
          go_roundw
          case rel => exact ⟨⟨k + 1, by omega, by go_num, NX.out⟩, trivial⟩
          case measure => simp [intOf]; omega
      · have key : R = true := by
          rw [HR.out]
          exact all_end fun j hj => HK.out j (by have := HX.out.long; omega)
        subst key
        clear hrel
        go_wp2_with fail
        go_ret
        exact ⟨rfl, HB.out⟩

open Classical in
/-- does x stand at one of the first n places? -/
noncomputable def hasB (xs : List Int) (n : Nat) (x : Int) : Bool := decide (∃ j, j < n ∧ xs.getD j 0 = x)
theorem has_yes {xs : List Int} {n k : Nat} {x : Int} (h : k < n) (e : xs.getD k 0 = x) : hasB xs n x = true := by
  unfold hasB
  exact decide_eq_true ⟨k, h, e⟩
theorem has_no {xs : List Int} {n : Nat} {x : Int} (h : ∀ j, j < n → xs.getD j 0 ≠ x) : hasB xs n x = false := by
  unfold hasB
  exact decide_eq_false fun ⟨j, h1, h2⟩ => h j h1 h2
theorem has_false {xs : List Int} {n : Nat} {x : Int} (h : hasB xs n x = false) : ∀ j, j < n → xs.getD j 0 ≠ x := by
  unfold hasB at h
  have := of_decide_eq_false h
  exact fun j h1 h2 => this ⟨j, h1, h2⟩
theorem has_true {xs : List Int} {n : Nat} {x : Int} (h : hasB xs n x = true) : ∃ j, j < n ∧ xs.getD j 0 = x := by
  unfold hasB at h
  exact of_decide_eq_true h

set_option maxHeartbeats 400000 in
theorem index_cells (p : Option Addr) (b off c len : Nat) (xs : List Int) (x : Int) (w : World) (hp : 0 < len → p = some ⟨b, off, none⟩) (hc : ∀ k, k < len → w.cell? ⟨b, off + k, none⟩ = some (.int .i64 (xs.getD k 0))) (hl : len ≤ 1000000) :
    Calls Tryz.prog 110 #[.slice p len c, .int .i64 x] w fun e w' => ∃ z : Int, e = .returned (.int .i64 z) ∧ decide (0 ≤ z) = hasB xs len x ∧ -1 ≤ z ∧ w' = w := by
  have HC := Lib.hid hc
  obtain ⟨R, hR⟩ : ∃ R, R = hasB xs len x := ⟨_, rfl⟩
  rw [← hR]
  have HR := Lib.hid hR
  have HZ := Lib.hid (show ∀ j, j < 0 → xs.getD j 0 ≠ x from fun j h => by omega)
  clear hc hR
  go_enter Tryz.func110, Tryz.ntmps110
  go_wp2
  go_loopw [8] (fun i wr => (∃ k : Nat, k ≤ len ∧ i = .int .i64 k ∧ ∀ j, j < k → xs.getD j 0 ≠ x) ∧ wr = w) (fun i _ => len - (intOf i).toNat)
  case atStart => exact ⟨⟨0, by omega, rfl, HZ.out⟩, rfl⟩
  case round =>
    obtain ⟨⟨k, hk, rfl, hrel⟩, rfl⟩ := hrel
    have HK := Lib.hid hrel
    clear hrel
    by_cases hlt : k < len
    · obtain rfl := hp (by omega)
      have c0 := HC.out k hlt
      obtain ⟨y, ey⟩ : ∃ y, y = xs.getD k 0 := ⟨_, rfl⟩
      rw [← ey] at c0
      by_cases hy : x = y
      · have key : R = true := by rw [HR.out]; exact has_yes hlt (by rw [← ey, hy])
        subst key
        have d1 : (x == y) = true := beq_iff_eq.2 hy
        clear hy ey
        go_wp2_with fail
        all_goals try (exfalso; have e96 := beq_iff_eq.1 d1; omega)
        go_ret
        exact ⟨_, rfl, by simp, by omega, rfl⟩
      · have d1 : (x == y) = false := beq_eq_false_iff_ne.2 hy
        have NX := Lib.hid (show ∀ j, j < k + 1 → xs.getD j 0 ≠ x from fun j hj => by
          by_cases h : j < k
          · exact HK.out j h
          · obtain rfl : j = k := by omega
            rw [← ey]; exact fun h => hy h.symm)
        clear ey
        go_wp2_with fail
        go_roundw
        case rel => exact ⟨⟨k + 1, by omega, by go_num, NX.out⟩, trivial⟩
        case measure => simp [intOf]; omega
    · have key : R = false := by rw [HR.out]; exact has_no fun j hj => HK.out j (by omega)
      subst key
      go_wp2_with fail
      go_ret
      exact ⟨_, rfl, by simp, by omega, rfl⟩
set_option maxHeartbeats 400000 in
theorem contains_cells (p : Option Addr) (b off c len : Nat) (xs : List Int) (x : Int) (w : World) (hp : 0 < len → p = some ⟨b, off, none⟩) (hc : ∀ k, k < len → w.cell? ⟨b, off + k, none⟩ = some (.int .i64 (xs.getD k 0))) (hl : len ≤ 1000000) :
    Calls Tryz.prog 108 #[.slice p len c, .int .i64 x] w fun e w' => e = .returned (.bool (hasB xs len x)) ∧ w' = w := by
  have C := Lib.hid (index_cells p b off c len xs x w hp hc hl)
  obtain ⟨R, hR⟩ : ∃ R, R = hasB xs len x := ⟨_, rfl⟩
  rw [← hR] at C ⊢
  clear hR hp hc hl
  go_enter Tryz.func108, Tryz.ntmps108
  go_wp2_with fail
  refine C.out.mono ?_
  rintro e w2 ⟨z, rfl, hz, hz1, rfl⟩
  have HZ := Lib.hid hz
  clear hz
  cases R
  · have d : decide (0 ≤ z) = false := HZ.out
    go_wp2_with fail
    go_ret
    exact ⟨rfl, rfl⟩
  · have d : decide (0 ≤ z) = true := HZ.out
    go_wp2_with fail
    go_ret
    exact ⟨rfl, rfl⟩
end Go.Proofs.YtfkakdpppejehaaGreat
namespace Go.Proofs.YtfkakdpppejehaaGreat
open Go.RowKit
set_option maxRecDepth 100000

def okC (x : Int) : Bool := !decide (x = 0) && inM 1048576 x
def sumB (xs : List Int) (terms rl ct : Int) : Bool := decide ((xs.length : Int) = terms) && (decide (0 ≤ rl) && (decide (rl ≤ 5) && (inM 1099511627776 ct && xs.all okC)))
theorem nums_get {w : World} {p : Option Addr} {b off len : Nat} {xs : List Int} (h : Nums w p b off len xs) {k : Nat} (hk : k < len) : xs[k]? = some (xs.getD k 0) := by
  have hx : k < xs.length := by rw [← h.long]; exact hk
  simp [hx]

set_option maxRecDepth 100000 in
set_option maxHeartbeats 1000000 in
theorem psum_any (kd rl ct tm : Int) (p1 p2 p3 : Option Addr) (l1 c1 b2 o2 l2 c2 l3 c3 : Nat) (xs : List Int) (w : World) (hx : SliceOf rNum 1 w p2 b2 o2 l2 xs) (hmo : l2 ≤ 1000000) :
    Calls Tryz.prog 104 #[.agg #[.int .i64 kd, .slice p1 l1 c1, .slice p2 l2 c2, .int .i64 rl, .int .i64 ct, .slice p3 l3 c3], .int .i64 tm] w fun e w' => e = .returned (.bool (sumB xs tm rl ct)) ∧ Below w.heap.size w w' := by
  obtain ⟨W0, hW0⟩ : ∃ W0, W0 = w.alloc (.cells #[.int .i64 kd, .slice p1 l1 c1, .slice p2 l2 c2, .int .i64 rl, .int .i64 ct, .slice p3 l3 c3] 42) := ⟨_, rfl⟩
  have hB0 : Below w.heap.size w W0 := by rw [hW0]; exact (Below.refl _ w).alloc (Nat.le_refl _) _
  have m2 : W0.cell? ⟨w.heap.size, 2, none⟩ = some (.slice p2 l2 c2) := by rw [hW0]; go_simp
  have m3 : W0.cell? ⟨w.heap.size, 3, none⟩ = some (.int .i64 rl) := by rw [hW0]; go_simp
  have m4 : W0.cell? ⟨w.heap.size, 4, none⟩ = some (.int .i64 ct) := by rw [hW0]; go_simp
  have HX := Lib.hid (nums_of (hx.below rNum_stays hB0))
  have HB := Lib.hid hB0
  have HW := Lib.hid hW0
  have hp := hx.at_
  have hl := hx.long
  obtain ⟨R, hR⟩ : ∃ R, R = sumB xs tm rl ct := ⟨_, rfl⟩
  rw [← hR]
  have hR2 : R = (decide ((l2 : Int) = tm) && (decide (0 ≤ rl) && (decide (rl ≤ 5) && (inM 1099511627776 ct && xs.all okC)))) := by rw [hR, sumB, ← hl]
  have HN := Lib.hid hl
  have CW := Lib.hid (within_any ct 1099511627776 W0 (by omega) (by omega))
  clear hR hx hl hB0 hW0
  by_cases g1 : (l2 : Int) = tm
  · rw [decide_eq_true g1, Bool.true_and] at hR2
    subst g1
    by_cases g2 : 0 ≤ rl
    · rw [decide_eq_true g2, Bool.true_and] at hR2
      have e2 : decide (rl < 0) = false := decide_eq_false (by omega)
      by_cases g3 : rl ≤ 5
      · rw [decide_eq_true g3, Bool.true_and] at hR2
        have e3 : decide ((5 : Int) < rl) = false := decide_eq_false (by omega)
        cases g4 : inM 1099511627776 ct
        · rw [g4] at CW hR2
          rw [Bool.false_and] at hR2
          subst hR2
          clear g4
          go_enter Tryz.func104, Tryz.ntmps104
          go_upto_region 1 with fail
          rw [← HW.out]
          go_wp2_with fail
          refine CW.out.mono ?_
          rintro e w2 ⟨rfl, rfl⟩
          go_wp2_with fail
          go_ret
          exact ⟨rfl, HB.out⟩
        · rw [g4] at CW hR2
          rw [Bool.true_and] at hR2
          have HR := Lib.hid hR2
          have HS := Lib.hid (show R = (xs.drop 0).all okC by rw [hR2]; simp)
          clear g4 hR2
          go_enter Tryz.func104, Tryz.ntmps104
          go_upto_region 1 with fail
          rw [← HW.out]
          go_wp2_with fail
          refine CW.out.mono ?_
          rintro e w2 ⟨rfl, rfl⟩
          go_wp2_with fail
          go_loopw [31] (fun i wr => (∃ k : Nat, k ≤ l2 ∧ i = .int .i64 k ∧ R = (xs.drop k).all okC) ∧ wr = w2) (fun i _ => l2 - (intOf i).toNat)
          case atStart => exact ⟨⟨0, by omega, rfl, HS.out⟩, rfl⟩
          case round =>
            obtain ⟨⟨k, hk, rfl, hrel⟩, rfl⟩ := hrel
            by_cases hlt : k < l2
            · obtain rfl := hp (by omega)
              have c0 := HX.out.cell k hlt
              have hstep := hrel.trans (all_at okC (nums_get HX.out hlt))
              obtain ⟨x, ex⟩ : ∃ x, x = xs.getD k 0 := ⟨_, rfl⟩
              rw [← ex] at c0 hstep
              have C := Lib.hid (within_any x 1048576 wr (by omega) (by omega))
              have hok : okC x = (!decide (x = 0) && inM 1048576 x) := rfl
              clear hrel ex
              by_cases h0 : x = 0
              · rw [decide_eq_true h0] at hok
                rw [hok] at hstep
                have key : R = false := hstep
                subst key
                have e0 : (x == 0) = true := beq_iff_eq.2 h0
                clear h0 hok hstep
                go_wp2_with fail
                go_ret
                exact ⟨rfl, HB.out⟩
              · rw [decide_eq_false h0] at hok
                have e0 : (x == 0) = false := beq_eq_false_iff_ne.2 h0
                cases hi : inM 1048576 x
                · rw [hi] at C hok
                  rw [hok] at hstep
                  have key : R = false := hstep
                  subst key
                  clear hi hok hstep
                  go_wp2_with fail
                  refine C.out.mono ?_
                  rintro e w3 ⟨rfl, rfl⟩
                  go_wp2_with fail
                  go_ret
                  exact ⟨rfl, HB.out⟩
                · rw [hi] at C hok
                  rw [hok] at hstep
                  have NX := Lib.hid (show R = (xs.drop (k + 1)).all okC from hstep)
                  clear hi hok hstep
                  go_wp2_with fail
                  refine C.out.mono ?_
                  rintro e w3 ⟨rfl, rfl⟩
                  go_wp2_with fail
                  go_roundw
                  case rel => exact ⟨⟨k + 1, by omega, by go_num, NX.out⟩, trivial⟩
                  case measure => simp [intOf]; omega
            · have key : R = true := hrel.trans (all_done okC (by rw [← HN.out]; omega))
              subst key
              clear hrel
              go_wp2_with fail
              go_ret
              exact ⟨rfl, HB.out⟩
      · rw [decide_eq_false g3, Bool.false_and] at hR2
        have e3 : decide ((5 : Int) < rl) = true := decide_eq_true (by omega)
        subst hR2
        go_enter Tryz.func104, Tryz.ntmps104
        go_upto_region 1 with fail
        rw [← HW.out]
        go_wp2_with fail
        go_ret
        exact ⟨rfl, HB.out⟩
    · rw [decide_eq_false g2, Bool.false_and] at hR2
      have e2 : decide (rl < 0) = true := decide_eq_true (by omega)
      subst hR2
      go_enter Tryz.func104, Tryz.ntmps104
      go_upto_region 1 with fail
      rw [← HW.out]
      go_wp2_with fail
      go_ret
      exact ⟨rfl, HB.out⟩
  · rw [decide_eq_false g1, Bool.false_and] at hR2
    have e1 : ((l2 : Int) == tm) = false := beq_eq_false_iff_ne.2 g1
    subst hR2
    go_enter Tryz.func104, Tryz.ntmps104
    go_upto_region 1 with fail
    rw [← HW.out]
    go_wp2_with fail
    go_ret
    exact ⟨rfl, HB.out⟩

/-- are the first k numbers of variables, none twice? -/
def VarsTo (xs : List Int) (vars : Int) (k : Nat) : Prop := ∀ i, i < k → (0 ≤ xs.getD i 0 ∧ xs.getD i 0 < vars) ∧ ∀ j, j < i → xs.getD j 0 ≠ xs.getD i 0
theorem vars_next {xs : List Int} {vars : Int} {k : Nat} {x : Int} (h : VarsTo xs vars k) (ex : x = xs.getD k 0) (h0 : 0 ≤ x) (h1 : x < vars) (h2 : hasB xs k x = false) : VarsTo xs vars (k + 1) := fun i hi => by
  by_cases hik : i < k
  · exact h i hik
  · obtain rfl : i = k := by omega
    rw [← ex]
    exact ⟨⟨h0, h1⟩, has_false h2⟩
open Classical in
noncomputable def rowB (xs : List Int) (vars least most : Int) : Bool := decide (least ≤ (xs.length : Int)) && (decide ((xs.length : Int) ≤ most) && decide (VarsTo xs vars xs.length))

open Classical in
set_option maxRecDepth 100000 in
set_option maxHeartbeats 1000000 in
theorem prow_any (kd rl ct vs la mo : Int) (p1 p2 p3 : Option Addr) (b1 o1 l1 c1 l2 c2 l3 c3 : Nat) (xs : List Int) (w : World) (hx : SliceOf rNum 1 w p1 b1 o1 l1 xs) (hcap : l1 ≤ c1) (hmo : l1 ≤ 1000000) :
    Calls Tryz.prog 103 #[.agg #[.int .i64 kd, .slice p1 l1 c1, .slice p2 l2 c2, .int .i64 rl, .int .i64 ct, .slice p3 l3 c3], .int .i64 vs, .int .i64 la, .int .i64 mo] w fun e w' => e = .returned (.bool (rowB xs vs la mo)) ∧ Below w.heap.size w w' := by
  obtain ⟨W0, hW0⟩ : ∃ W0, W0 = w.alloc (.cells #[.int .i64 kd, .slice p1 l1 c1, .slice p2 l2 c2, .int .i64 rl, .int .i64 ct, .slice p3 l3 c3] 42) := ⟨_, rfl⟩
  have hB0 : Below w.heap.size w W0 := by rw [hW0]; exact (Below.refl _ w).alloc (Nat.le_refl _) _
  have m1 : W0.cell? ⟨w.heap.size, 1, none⟩ = some (.slice p1 l1 c1) := by rw [hW0]; go_simp
  have HX := Lib.hid (nums_of (hx.below rNum_stays hB0))
  have HB := Lib.hid hB0
  have HW := Lib.hid hW0
  have hp := hx.at_
  have hl := hx.long
  obtain ⟨R, hR⟩ : ∃ R, R = rowB xs vs la mo := ⟨_, rfl⟩
  rw [← hR]
  have hR2 : R = (decide (la ≤ (l1 : Int)) && (decide ((l1 : Int) ≤ mo) && decide (VarsTo xs vs l1))) := by rw [hR, rowB, ← hl]
  have HN := Lib.hid hl
  clear hR hx hl hB0 hW0
  by_cases g1 : la ≤ (l1 : Int)
  · rw [decide_eq_true g1, Bool.true_and] at hR2
    have e1 : decide ((l1 : Int) < la) = false := decide_eq_false (by omega)
    by_cases g2 : (l1 : Int) ≤ mo
    · rw [decide_eq_true g2, Bool.true_and] at hR2
      have e2 : decide (mo < (l1 : Int)) = false := decide_eq_false (by omega)
      have HR := Lib.hid hR2
      have HZ := Lib.hid (show VarsTo xs vs 0 from fun i h => by omega)
      clear hR2
      go_enter Tryz.func103, Tryz.ntmps103
      go_upto_region 1 with fail
      rw [← HW.out]
      go_wp2_with fail
      go_loopw [26] (fun i wr => (∃ k : Nat, k ≤ l1 ∧ i = .int .i64 k ∧ VarsTo xs vs k) ∧ wr = W0) (fun i _ => l1 - (intOf i).toNat)
      case atStart => exact ⟨⟨0, by omega, rfl, HZ.out⟩, rfl⟩
      case round =>
        obtain ⟨⟨k, hk, rfl, hrel⟩, rfl⟩ := hrel
        have HK := Lib.hid hrel
        clear hrel
        by_cases hlt : k < l1
        · obtain rfl := hp (by omega)
          have c0 := HX.out.cell k hlt
          have hkc : k ≤ c1 := by omega
          have hkc2 : (k : Int) ≤ (c1 : Int) := by omega
          have C := Lib.hid (contains_cells (some ⟨b1, o1, none⟩) b1 o1 c1 k xs (xs.getD k 0) wr (fun _ => rfl) (fun j hj => HX.out.cell j (by omega)) (by omega))
          obtain ⟨x, ex⟩ : ∃ x, x = xs.getD k 0 := ⟨_, rfl⟩
          rw [← ex] at c0 C
          have HE := Lib.hid ex
          have bad : ¬ (0 ≤ x ∧ x < vs) → R = false := fun h => by
            rw [HR.out]
            refine decide_eq_false fun hv => h ?_
            have := (hv k hlt).1
            rw [← HE.out] at this
            exact this
          have HBD := Lib.hid bad
          clear ex bad
          by_cases h1 : x < 0
          · have key : R = false := HBD.out (by omega)
            subst key
            have d1 : decide (x < (0 : Int)) = true := decide_eq_true h1
            go_wp2_with fail
            go_ret
            exact ⟨rfl, HB.out⟩
          · have d1 : decide (x < (0 : Int)) = false := decide_eq_false h1
            by_cases h2 : vs ≤ x
            · have key : R = false := HBD.out (by omega)
              subst key
              have d2 : decide (vs ≤ x) = true := decide_eq_true h2
              go_wp2_with fail
              go_ret
              exact ⟨rfl, HB.out⟩
            · have d2 : decide (vs ≤ x) = false := decide_eq_false h2
              cases hh : hasB xs k x
              · rw [hh] at C
                have NX := Lib.hid (vars_next HK.out HE.out (by omega) (by omega) hh)
                clear hh
                go_wp2_with fail
                refine C.out.mono ?_
                rintro e w3 ⟨rfl, rfl⟩
                go_wp2_with fail
                go_roundw
                case rel => exact ⟨⟨k + 1, by omega, by go_num, NX.out⟩, trivial⟩
                case measure => simp [intOf]; omega
              · rw [hh] at C
                have key : R = false := by
                  rw [HR.out]
                  obtain ⟨j, j1, j2⟩ := has_true hh
                  refine decide_eq_false fun hv => ?_
                  have := (hv k hlt).2 j j1
                  rw [← HE.out] at this
                  exact this j2
                subst key
                clear hh
                go_wp2_with fail
                refine C.out.mono ?_
                rintro e w3 ⟨rfl, rfl⟩
                go_wp2_with fail
                go_ret
                exact ⟨rfl, HB.out⟩
        · obtain rfl : k = l1 := by omega
          have key : R = true := by rw [HR.out]; exact decide_eq_true HK.out
          subst key
          go_wp2_with fail
          go_ret
          exact ⟨rfl, HB.out⟩
    · rw [decide_eq_false g2, Bool.false_and] at hR2
      have e2 : decide (mo < (l1 : Int)) = true := decide_eq_true (by omega)
      subst hR2
      go_enter Tryz.func103, Tryz.ntmps103
      go_upto_region 1 with fail
      rw [← HW.out]
      go_wp2_with fail
      go_ret
      exact ⟨rfl, HB.out⟩
  · rw [decide_eq_false g1, Bool.false_and] at hR2
    have e1 : decide ((l1 : Int) < la) = true := decide_eq_true (by omega)
    subst hR2
    go_enter Tryz.func103, Tryz.ntmps103
    go_upto_region 1 with fail
    rw [← HW.out]
    go_wp2_with fail
    go_ret
    exact ⟨rfl, HB.out⟩
end Go.Proofs.YtfkakdpppejehaaGreat
