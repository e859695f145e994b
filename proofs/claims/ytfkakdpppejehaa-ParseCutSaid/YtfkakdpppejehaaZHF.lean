/-
  What the program's parser does once it has given up: the deferred call that takes the place over.
  The program's parser reads all tokens, or tells where it gave up.
-/
import Derived.Test.YtfkakdpppejehaaZHE
import Derived.Defers
import Derived.Recover
import Derived.Laws.Pointers
namespace Go.Proofs.Ytfkakdpppejehaa.Pp
open Go.RowKit
open Sc (Tok Cells str noTok)
open Pa
set_option maxRecDepth 100000

theorem catch_gone (pa pe : Addr) (x z : Int) (p : Nat) (older : List PanicEntry) (w : World) (ca : w.cell? pa = some (.int .i64 x)) (za : w.frozen? pa = false) (ce : (w.setCell pa (.int .i64 (p : Int))).cell? pe = some (.int .i64 z)) (ze : (w.setCell pa (.int .i64 (p : Int))).frozen? pe = false) :
    CallsD Try.prog 22 #[.pointer (some pa), .pointer (some pe)] (.panicking ({ v := .iface 73 (.int .i64 (p : Int)), recovered := false } :: older)) w fun e u' w' =>
      e = .returned (.tuple #[]) ∧ u' = .panicking ({ v := .iface 73 (.int .i64 (p : Int)), recovered := true } :: older) ∧ w' = (w.setCell pa (.int .i64 (p : Int))).setCell pe (.int .i64 2) := by
  have hta : ∀ W : World, (Instr.typeAssert (.iface 73 (.int .i64 (p : Int))) 20 73 false).run Try.prog W = .ok (.int .i64 (p : Int)) W := fun W => by kernel_rfl
  refine callsD_of_wpS Try.func22 rfl fun c₀ cs hu => ?_
  apply wpS_seq
  apply wpS_region
  simp [wpOpsS, go_sem, recoverD, hu, Try.ntmps22, Exit.thenS]
  apply wpS_seq
  apply wpS_region
  simp [wpOpsS, go_sem, Exit.thenS, Array.replicate]
  refine wpS_cond (t := true) (by simp [Act.eval]) ?_
  simp only [if_true]
  apply wpS_region
  simp [wpOpsS, go_sem, hta, ca, za, ce, ze, bodyPostS, results, Try.results22]
theorem catch_idle (pa pe : Addr) (w : World) :
    CallsD Try.prog 22 #[.pointer (some pa), .pointer (some pe)] .returning w fun e u' w' => e = .returned (.tuple #[]) ∧ u' = .returning ∧ w' = w := by
  refine callsD_of_wpS Try.func22 rfl fun c₀ cs hu => ?_
  apply wpS_seq
  apply wpS_region
  simp [wpOpsS, go_sem, recoverD, hu, Try.ntmps22, Exit.thenS]
  apply wpS_seq
  apply wpS_region
  simp [wpOpsS, go_sem, Exit.thenS, Array.replicate]
  refine wpS_cond (t := false) (by simp [Act.eval]) ?_
  simp only [Bool.false_eq_true, if_false]
  refine wpS_of_wp (wp_skip ?_)
  cases c₀
  simp_all [bodyPostS, results, Try.results22]
end Go.Proofs.Ytfkakdpppejehaa.Pp
namespace Go.Proofs.Ytfkakdpppejehaa.Pp
open Go.RowKit
open Sc (Tok Cells str noTok)
open Pa
set_option maxRecDepth 100000

section
variable {w0 w w' : World} {g n bl ol cl nb base : Nat} {pv : Option Addr} {m cv : Nat} {T : List Tok} {len : Nat} {r : Rd} {v : Value}
theorem owns_from {α : Type} {R : List Value → α → Prop} {k e : Nat} {M : List α} (h : OwnsP R k e base w v M) (hs : ∀ i, base ≤ i → w'.heap[i]? = w.heap[i]?) : OwnsP R k e base w' v M := h.same fun i hi => hs i (h.lt i hi).1
theorem decls_from {M : List PDecl} (h : DeclsAt w base v M) (hs : ∀ i, base ≤ i → w'.heap[i]? = w.heap[i]?) : DeclsAt w' base v M := owns_from (OwnsP.imp h (fun _ _ _ ⟨s, u, e, t, o⟩ => ⟨s, u, e, t, owns_from o hs⟩)) hs
theorem cons_from {M : List PCon} (h : ConsAt w base v M) (hs : ∀ i, base ≤ i → w'.heap[i]? = w.heap[i]?) : ConsAt w' base v M := owns_from (OwnsP.imp h (fun _ _ _ ⟨u1, u2, u3, e, o⟩ => ⟨u1, u2, u3, e, ⟨owns_from o.o1 hs, owns_from o.o2 hs, owns_from o.o3 hs, o.p12, o.p13, o.p23⟩⟩)) hs
theorem blocks_from {M : List PBlock} (h : BlocksAt w base v M) (hs : ∀ i, base ≤ i → w'.heap[i]? = w.heap[i]?) : BlocksAt w' base v M := owns_from (OwnsP.imp h (fun _ _ _ ⟨v1, v2, e, d, c⟩ => ⟨v1, v2, e, decls_from d hs, cons_from c hs⟩)) hs
/-- what is said of reading all -/
def ReadE (w : World) (g n bl ol cl nb : Nat) (v0 : Value) (T : List Tok) (len : Nat) (X : PModel × Rd) (e : Ending) (w' : World) : Prop :=
  But (NF g v0) w w' ∧ ((X.2.wrong = false ∧ (∃ (pv : Option Addr) (m cv : Nat), PAt w' g n bl ol cl nb pv m cv T len X.2) ∧ ∃ (p1 : Option Addr) (c1 : Nat) (p2 : Option Addr) (c2 : Nat), e = .returned (.tuple #[.agg #[.slice p1 X.1.blocks.length c1, .slice p2 X.1.goal.length c2], .int .i64 0, .int .i64 0]) ∧
      BlocksAt w' w.heap.size (.slice p1 X.1.blocks.length c1) X.1.blocks ∧ ConsAt w' w.heap.size (.slice p2 X.1.goal.length c2) X.1.goal) ∨
    (X.2.wrong = true ∧ e = .returned (.tuple #[.agg #[.slice none 0 0, .slice none 0 0], .int .i64 ((tokP T len X.2.at_).at_ : Nat), .int .i64 2])))
def reads3 (w : World) : World := ((w.alloc (.cells #[.slice none 0 0, .slice none 0 0] 26)).alloc (.cells #[.int .i64 0] 3)).alloc (.cells #[.int .i64 0] 27)
theorem reads_facts (w : World) : (reads3 w).heap.size = w.heap.size + 3 ∧ Below w.heap.size w (reads3 w) ∧ (reads3 w).heap[w.heap.size]? = some (.cells #[.slice none 0 0, .slice none 0 0] 26) ∧ (reads3 w).heap[w.heap.size + 1]? = some (.cells #[.int .i64 0] 3) ∧ (reads3 w).heap[w.heap.size + 2]? = some (.cells #[.int .i64 0] 27) := by
  have b1 := (Below.refl _ w).alloc (Nat.le_refl _) (.cells #[.slice none 0 0, .slice none 0 0] 26)
  have n1 := heap_alloc_new w (.cells #[.slice none 0 0, .slice none 0 0] 26)
  obtain ⟨w1, h1⟩ : ∃ w1, w1 = w.alloc (.cells #[.slice none 0 0, .slice none 0 0] 26) := ⟨_, rfl⟩
  have s1 : w1.heap.size = w.heap.size + 1 := by rw [h1]; simp
  rw [← h1] at b1 n1
  have b2 := (Below.refl _ w1).alloc (Nat.le_refl _) (.cells #[.int .i64 0] 3)
  have n2 := heap_alloc_new w1 (.cells #[.int .i64 0] 3)
  obtain ⟨w2, h2⟩ : ∃ w2, w2 = w1.alloc (.cells #[.int .i64 0] 3) := ⟨_, rfl⟩
  have s2 : w2.heap.size = w.heap.size + 2 := by rw [h2]; simp [s1]
  rw [← h2] at b2 n2
  have b3 := (Below.refl _ w2).alloc (Nat.le_refl _) (.cells #[.int .i64 0] 27)
  have n3 := heap_alloc_new w2 (.cells #[.int .i64 0] 27)
  have s3 : (w2.alloc (.cells #[.int .i64 0] 27)).heap.size = w.heap.size + 3 := by simp [s2]
  have e : reads3 w = w2.alloc (.cells #[.int .i64 0] 27) := by rw [h2, h1]; rfl
  rw [e]
  rw [s1] at n2
  rw [s2] at n3
  refine ⟨s3, (b1.trans (b2.mono b1.size)).trans (b3.mono (Nat.le_trans b1.size b2.size)), ?_, ?_, n3⟩
  · exact (b3.block _ (by omega)).trans ((b2.block _ (by omega)).trans n1)
  · exact (b3.block _ (by omega)).trans n2
theorem one_set {F : Nat → Prop} {b j f lo : Nat} {x : Value} {w1 : World} (hb : ∃ cs, w.heap[b]? = some (.cells cs f)) (h1 : 57 ≠ f) (h2 : 54 ≠ f) (h3 : 9 ≠ f) (hlo : b < lo) (hw : w0.heap.size ≤ b)
    (h : PAt w g n bl ol cl nb pv m cv T len r ∧ (∀ i, lo ≤ i → w.heap[i]? = w1.heap[i]?) ∧ But F w0 w) : PAt (w.setCell ⟨b, j, none⟩ x) g n bl ol cl nb pv m cv T len r ∧ (∀ i, lo ≤ i → (w.setCell ⟨b, j, none⟩ x).heap[i]? = w1.heap[i]?) ∧ But F w0 (w.setCell ⟨b, j, none⟩ x) :=
  ⟨h.1.put hb h1 h2 h3, fun i hi => (Below.heap_setCell w ⟨b, j, none⟩ x i (show i ≠ b by omega)).trans (h.2.1 i hi), h.2.2.trans (G := fun i => i = b) (But.set ⟨b, j, none⟩ x fun _ => rfl) (fun i hi e => by omega)⟩
theorem other_kind {b c j f : Nat} {x : Value} (hb : ∃ cs, w.heap[b]? = some (.cells cs f)) (hne : b ≠ c) : ∃ cs, (w.setCell ⟨c, j, none⟩ x).heap[b]? = some (.cells cs f) := by
  obtain ⟨cs, e⟩ := hb
  exact ⟨cs, (Below.heap_setCell w ⟨c, j, none⟩ x b hne).trans e⟩
theorem reads_set {F : Nat → Prop} {b : Nat} {a1 a2 a3 a4 : Value} (y0 : ∃ cs, w.heap[b]? = some (.cells cs 26)) (y1 : ∃ cs, w.heap[b + 1]? = some (.cells cs 3)) (y2 : ∃ cs, w.heap[b + 1 + 1]? = some (.cells cs 27)) (hw : w0.heap.size ≤ b) (hP : PAt w g n bl ol cl nb pv m cv T len r) (hB : But F w0 w) :
    PAt ((((w.setCell ⟨b, 0, none⟩ a1).setCell ⟨b, 1, none⟩ a2).setCell ⟨b + 1, 0, none⟩ a3).setCell ⟨b + 1 + 1, 0, none⟩ a4) g n bl ol cl nb pv m cv T len r ∧ (∀ i, b + 3 ≤ i → ((((w.setCell ⟨b, 0, none⟩ a1).setCell ⟨b, 1, none⟩ a2).setCell ⟨b + 1, 0, none⟩ a3).setCell ⟨b + 1 + 1, 0, none⟩ a4).heap[i]? = w.heap[i]?) ∧ But F w0 ((((w.setCell ⟨b, 0, none⟩ a1).setCell ⟨b, 1, none⟩ a2).setCell ⟨b + 1, 0, none⟩ a3).setCell ⟨b + 1 + 1, 0, none⟩ a4) :=
  one_set (other_kind (other_kind (other_kind y2 (by omega)) (by omega)) (by omega)) (by decide) (by decide) (by decide) (by omega) (by omega)
    (one_set (other_kind (other_kind y1 (by omega)) (by omega)) (by decide) (by decide) (by decide) (by omega) (by omega)
      (one_set (span_kind y0) (by decide) (by decide) (by decide) (by omega) (by omega)
        (one_set y0 (by decide) (by decide) (by decide) (by omega) (by omega) ⟨hP, fun _ _ => rfl, hB⟩)))
set_option maxHeartbeats 8000000 in
theorem read_any (K : Nat) (h : PAt w g n bl ol cl nb pv m cv T len r) (hv : ∀ t ∈ T, t.value ≤ 2000000000000) (hm : m ≤ r.at_) (hnb : nb ≤ w.heap.size) (hK : n < K) (hn : n ≤ 9000) :
    Calls Try.prog 12 #[.pointer (some ⟨g, 0, none⟩)] w (ReadE w g n bl ol cl nb (.slice pv m cv) T len (modelQ K T r)) := by
  have hmf : ∀ (fn : Fn) (first cap : Array Value) (w : World), (Instr.makeFunc fn first cap).run Try.prog w = .ok (.func fn first cap) w := fun _ _ _ _ => rfl
  obtain ⟨s3, b3, x0, x1, x2⟩ := reads_facts w
  obtain ⟨W, hW⟩ : ∃ W, W = reads3 w := ⟨_, rfl⟩
  rw [← hW] at s3 b3 x0 x1 x2
  have H := Lib.hid (h.below b3)
  have MX := Lib.hid (modelP_any K H.out hv hm (Nat.le_trans hnb b3.size) hK hn)
  obtain ⟨X, hX⟩ : ∃ X, X = modelQ K T r := ⟨_, rfl⟩
  rw [← hX] at MX ⊢
  have HF := Lib.hid (And.intro s3 (And.intro b3 (And.intro x0 (And.intro x1 x2))))
  have HW := Lib.hid hW
  clear h hX hW s3 b3 x0 x1 x2
  go_enter_defers Try.func12, Try.ntmps12
  go_wp2_with fail
  rw [show ((w.alloc (Obj.cells #[.slice none 0 0, .slice none 0 0] 26)).alloc (.cells #[.int .i64 0] 3)).alloc (.cells #[.int .i64 0] 27) = W from HW.out.symm]
  refine MX.out.mono ?_
  rintro e w4 ⟨hB, ⟨hw, ⟨pv4, m4, cv4, hP, hf, hm4⟩, p1, c1, p2, c2, rfl, ho1, ho2⟩ | ⟨hw, rfl⟩⟩
  · obtain ⟨s3, b3, x0, x1, x2⟩ := HF.out
    have y0 := (stays_nf H.out hB (by decide) (by decide) ⟨_, x0⟩).trans x0
    have y1 := (stays_nf H.out hB (by decide) (by decide) ⟨_, x1⟩).trans x1
    have y2 := (stays_nf H.out hB (by decide) (by decide) ⟨_, x2⟩).trans x2
    have d00 := cell_of_row w4 w.heap.size 0 _ 26 (0, 0) y0
    have f00 := frozen_of_row w4 w.heap.size 0 _ 26 y0
    have d01 := cell_of_row w4 w.heap.size 1 _ 26 (0, 0) y0
    have f01 := frozen_of_row w4 w.heap.size 1 _ 26 y0
    have d1 := cell_of_row w4 (w.heap.size + 1) 0 _ 3 (0, 0) y1
    have f1 := frozen_of_row w4 (w.heap.size + 1) 0 _ 3 y1
    have d2 := cell_of_row w4 (w.heap.size + 1 + 1) 0 _ 27 (0, 0) y2
    have f2 := frozen_of_row w4 (w.heap.size + 1 + 1) 0 _ 27 y2
    have HZ := Lib.hid (And.intro hB (And.intro hw (And.intro hP (And.intro ho1 (And.intro ho2 (And.intro y0 (And.intro y1 y2)))))))
    clear hB hw hP hf hm4 ho1 ho2 y0 y1 y2 s3 b3 x0 x1 x2
    go_wp2_with fail
    obtain ⟨Wz, hWz⟩ : ∃ Wz, Wz = (((w4.setCell ⟨w.heap.size, 0, none⟩ (.slice p1 X.1.blocks.length c1)).setCell ⟨w.heap.size, 1, none⟩ (.slice p2 X.1.goal.length c2)).setCell ⟨w.heap.size + 1, 0, none⟩ (.int .i64 0)).setCell ⟨w.heap.size + 1 + 1, 0, none⟩ (.int .i64 0) := ⟨_, rfl⟩
    have z00 : Wz.cell? ⟨w.heap.size, 0, none⟩ = some (.slice p1 X.1.blocks.length c1) := by rw [hWz]; go_simp
    have z01 : Wz.cell? ⟨w.heap.size, 1, none⟩ = some (.slice p2 X.1.goal.length c2) := by rw [hWz]; go_simp
    have z1 : Wz.cell? ⟨w.heap.size + 1, 0, none⟩ = some (.int .i64 0) := by rw [hWz]; go_simp
    have z2 : Wz.cell? ⟨w.heap.size + 1 + 1, 0, none⟩ = some (.int .i64 0) := by rw [hWz]; go_simp
    rw [← hWz]
    refine leaves_cons (f := 22) (args := #[.pointer (some ⟨w.heap.size + 1, 0, none⟩), .pointer (some ⟨w.heap.size + 1 + 1, 0, none⟩)]) (by simp) (by simp [go_sem]) ?_
    refine (catch_idle _ _ _).mono ?_
    rintro e u' w'' ⟨rfl, rfl, rfl⟩
    simp [Leaves, settle, results, Try.results12, go_sem, z00, z01, z1, z2]
    obtain ⟨hB, hw, hP, ho1, ho2, y0, y1, y2⟩ := HZ.out
    obtain ⟨s3, b3, _⟩ := HF.out
    obtain ⟨r1, r2, r3⟩ := reads_set (w0 := w) (a1 := .slice p1 X.1.blocks.length c1) (a2 := .slice p2 X.1.goal.length c2) (a3 := .int .i64 0) (a4 := .int .i64 0) ⟨_, y0⟩ ⟨_, y1⟩ ⟨_, y2⟩ (Nat.le_refl _) hP ((But.below b3).trans (G := NF g (.slice pv m cv)) (F := NF g (.slice pv m cv)) hB (fun _ _ e => e))
    rw [← hWz] at r1 r2 r3
    rw [s3] at ho1 ho2
    exact ⟨r3, .inl ⟨hw, ⟨pv4, m4, cv4, r1⟩, p1, c1, p2, c2, rfl, blocks_low (blocks_from ho1 r2) (by omega), cons_low (cons_from ho2 r2) (by omega)⟩⟩
  · obtain ⟨s3, b3, x0, x1, x2⟩ := HF.out
    have y0 := (stays_nf H.out hB (by decide) (by decide) ⟨_, x0⟩).trans x0
    have y1 := (stays_nf H.out hB (by decide) (by decide) ⟨_, x1⟩).trans x1
    have y2 := (stays_nf H.out hB (by decide) (by decide) ⟨_, x2⟩).trans x2
    have d00 : w4.cell? ⟨w.heap.size, 0, none⟩ = some (.slice none 0 0) := cell_of_row w4 w.heap.size 0 _ 26 (0, 0) y0
    have d01 : w4.cell? ⟨w.heap.size, 1, none⟩ = some (.slice none 0 0) := cell_of_row w4 w.heap.size 1 _ 26 (0, 0) y0
    have d1 : w4.cell? ⟨w.heap.size + 1, 0, none⟩ = some (.int .i64 0) := cell_of_row w4 (w.heap.size + 1) 0 _ 3 (0, 0) y1
    have f1 : w4.frozen? ⟨w.heap.size + 1, 0, none⟩ = false := frozen_of_row w4 (w.heap.size + 1) 0 _ 3 y1
    have d2 : w4.cell? ⟨w.heap.size + 1 + 1, 0, none⟩ = some (.int .i64 0) := cell_of_row w4 (w.heap.size + 1 + 1) 0 _ 27 (0, 0) y2
    have f2 : w4.frozen? ⟨w.heap.size + 1 + 1, 0, none⟩ = false := frozen_of_row w4 (w.heap.size + 1 + 1) 0 _ 27 y2
    have HZ := Lib.hid (((But.below b3).trans (G := NF g (.slice pv m cv)) (F := NF g (.slice pv m cv)) hB (fun _ _ e => e)))
    have HWR := Lib.hid hw
    obtain ⟨pp, hpp⟩ : ∃ pp, pp = (tokP T len X.2.at_).at_ := ⟨_, rfl⟩
    rw [← hpp]
    have HPP := Lib.hid hpp
    clear hB hw y0 y1 y2 s3 b3 x0 x1 x2 hpp
    unfold gone
    go_wp2_with fail
    refine leaves_cons (f := 22) (args := #[.pointer (some ⟨w.heap.size + 1, 0, none⟩), .pointer (some ⟨w.heap.size + 1 + 1, 0, none⟩)]) (by simp) (by simp [go_sem]) ?_
    refine (catch_gone _ _ 0 0 pp [] _ d1 f1 (by go_simp) (by go_simp)).mono ?_
    rintro e u' w'' ⟨rfl, rfl, hw2⟩
    have z00 : w''.cell? ⟨w.heap.size, 0, none⟩ = some (.slice none 0 0) := by rw [hw2]; go_simp
    have z01 : w''.cell? ⟨w.heap.size, 1, none⟩ = some (.slice none 0 0) := by rw [hw2]; go_simp
    have z1 : w''.cell? ⟨w.heap.size + 1, 0, none⟩ = some (.int .i64 (pp : Int)) := by rw [hw2]; go_simp
    have z2 : w''.cell? ⟨w.heap.size + 1 + 1, 0, none⟩ = some (.int .i64 2) := by rw [hw2]; go_simp
    simp [Leaves, settle, results, Try.results12, go_sem, z00, z01, z1, z2]
    rw [hw2]
    exact ⟨(HZ.out.trans (G := fun i => i = w.heap.size + 1) (But.set ⟨w.heap.size + 1, 0, none⟩ _ fun _ => rfl) (fun i hi e => by omega)).trans (G := fun i => i = w.heap.size + 1 + 1) (But.set ⟨w.heap.size + 1 + 1, 0, none⟩ _ fun _ => rfl) (fun i hi e => by omega), .inr ⟨HWR.out, by rw [HPP.out]⟩⟩
end
end Go.Proofs.Ytfkakdpppejehaa.Pp
