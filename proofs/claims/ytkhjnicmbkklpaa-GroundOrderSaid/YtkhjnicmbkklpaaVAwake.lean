/-
  What awake of the laws answers.
-/
import Derived.Test.YtkhjnicmbkklpaaVSmall
import Derived.Deep.RegionWith
namespace Go.Proofs.Ytkhjnicmbkklpaa.Gr
open Go.RowKit
set_option maxRecDepth 100000

/-- the blocks that awake lays first -/
structure AwAt (w u : World) : Prop where
  low : Below w.heap.size w u
  r0 : u.heap[w.heap.size]? = some (.cells #[.int .i64 2, .int .i64 (-3), .int .i64 (-6)] 3)
  r1 : u.heap[w.heap.size + 1]? = some (.cells #[.int .i64 0, .int .i64 1, .int .i64 2] 3)
  r2 : u.heap[w.heap.size + 1 + 1]? = some (.cells #[.int .i64 2, .slice (some ⟨w.heap.size + 1, 0, none⟩) 3 3, .slice none 0 0, .int .i64 0, .int .i64 0, .slice none 0 0] 27)
  r3 : u.heap[w.heap.size + 1 + 1 + 1]? = some (.cells #[.int .i64 0, .int .i64 1] 3)
  r4 : u.heap[w.heap.size + 1 + 1 + 1 + 1]? = some (.cells #[.int .i64 5, .int .i64 5, .int .i64 (-3)] 3)
  r5 : u.heap[w.heap.size + 1 + 1 + 1 + 1 + 1]? = some (.cells #[.int .i64 4, .slice (some ⟨w.heap.size + 1 + 1 + 1, 0, none⟩) 2 2, .slice none 0 0, .int .i64 0, .int .i64 0, .slice (some ⟨w.heap.size + 1 + 1 + 1 + 1, 0, none⟩) 3 3] 27)
  r6 : u.heap[w.heap.size + 1 + 1 + 1 + 1 + 1 + 1]? = some (.cells #[.int .i64 0, .int .i64 2] 3)
  r7 : u.heap[w.heap.size + 1 + 1 + 1 + 1 + 1 + 1 + 1]? = some (.cells #[.int .i64 3, .int .i64 1] 3)
  r8 : u.heap[w.heap.size + 1 + 1 + 1 + 1 + 1 + 1 + 1 + 1]? = some (.cells #[.int .i64 1, .slice (some ⟨w.heap.size + 1 + 1 + 1 + 1 + 1 + 1, 0, none⟩) 2 2, .slice (some ⟨w.heap.size + 1 + 1 + 1 + 1 + 1 + 1 + 1, 0, none⟩) 2 2, .int .i64 0, .int .i64 0, .slice none 0 0] 27)
theorem aw_new (w : World) : AwAt w (((((((((w.alloc (.cells #[.int .i64 2, .int .i64 (-3), .int .i64 (-6)] 3)).alloc (.cells #[.int .i64 0, .int .i64 1, .int .i64 2] 3)).alloc (.cells #[.int .i64 2, .slice (some ⟨w.heap.size + 1, 0, none⟩) 3 3, .slice none 0 0, .int .i64 0, .int .i64 0, .slice none 0 0] 27)).alloc (.cells #[.int .i64 0, .int .i64 1] 3)).alloc (.cells #[.int .i64 5, .int .i64 5, .int .i64 (-3)] 3)).alloc (.cells #[.int .i64 4, .slice (some ⟨w.heap.size + 1 + 1 + 1, 0, none⟩) 2 2, .slice none 0 0, .int .i64 0, .int .i64 0, .slice (some ⟨w.heap.size + 1 + 1 + 1 + 1, 0, none⟩) 3 3] 27)).alloc (.cells #[.int .i64 0, .int .i64 2] 3)).alloc (.cells #[.int .i64 3, .int .i64 1] 3)).alloc (.cells #[.int .i64 1, .slice (some ⟨w.heap.size + 1 + 1 + 1 + 1 + 1 + 1, 0, none⟩) 2 2, .slice (some ⟨w.heap.size + 1 + 1 + 1 + 1 + 1 + 1 + 1, 0, none⟩) 2 2, .int .i64 0, .int .i64 0, .slice none 0 0] 27)) := by
  have h0 := heap_new w (.cells #[.int .i64 2, .int .i64 (-3), .int .i64 (-6)] 3)
  have h1 := heap_new (w.alloc (.cells #[.int .i64 2, .int .i64 (-3), .int .i64 (-6)] 3)) (.cells #[.int .i64 0, .int .i64 1, .int .i64 2] 3)
  have h2 := heap_new ((w.alloc (.cells #[.int .i64 2, .int .i64 (-3), .int .i64 (-6)] 3)).alloc (.cells #[.int .i64 0, .int .i64 1, .int .i64 2] 3)) (.cells #[.int .i64 2, .slice (some ⟨w.heap.size + 1, 0, none⟩) 3 3, .slice none 0 0, .int .i64 0, .int .i64 0, .slice none 0 0] 27)
  have h3 := heap_new (((w.alloc (.cells #[.int .i64 2, .int .i64 (-3), .int .i64 (-6)] 3)).alloc (.cells #[.int .i64 0, .int .i64 1, .int .i64 2] 3)).alloc (.cells #[.int .i64 2, .slice (some ⟨w.heap.size + 1, 0, none⟩) 3 3, .slice none 0 0, .int .i64 0, .int .i64 0, .slice none 0 0] 27)) (.cells #[.int .i64 0, .int .i64 1] 3)
  have h4 := heap_new ((((w.alloc (.cells #[.int .i64 2, .int .i64 (-3), .int .i64 (-6)] 3)).alloc (.cells #[.int .i64 0, .int .i64 1, .int .i64 2] 3)).alloc (.cells #[.int .i64 2, .slice (some ⟨w.heap.size + 1, 0, none⟩) 3 3, .slice none 0 0, .int .i64 0, .int .i64 0, .slice none 0 0] 27)).alloc (.cells #[.int .i64 0, .int .i64 1] 3)) (.cells #[.int .i64 5, .int .i64 5, .int .i64 (-3)] 3)
  have h5 := heap_new (((((w.alloc (.cells #[.int .i64 2, .int .i64 (-3), .int .i64 (-6)] 3)).alloc (.cells #[.int .i64 0, .int .i64 1, .int .i64 2] 3)).alloc (.cells #[.int .i64 2, .slice (some ⟨w.heap.size + 1, 0, none⟩) 3 3, .slice none 0 0, .int .i64 0, .int .i64 0, .slice none 0 0] 27)).alloc (.cells #[.int .i64 0, .int .i64 1] 3)).alloc (.cells #[.int .i64 5, .int .i64 5, .int .i64 (-3)] 3)) (.cells #[.int .i64 4, .slice (some ⟨w.heap.size + 1 + 1 + 1, 0, none⟩) 2 2, .slice none 0 0, .int .i64 0, .int .i64 0, .slice (some ⟨w.heap.size + 1 + 1 + 1 + 1, 0, none⟩) 3 3] 27)
  have h6 := heap_new ((((((w.alloc (.cells #[.int .i64 2, .int .i64 (-3), .int .i64 (-6)] 3)).alloc (.cells #[.int .i64 0, .int .i64 1, .int .i64 2] 3)).alloc (.cells #[.int .i64 2, .slice (some ⟨w.heap.size + 1, 0, none⟩) 3 3, .slice none 0 0, .int .i64 0, .int .i64 0, .slice none 0 0] 27)).alloc (.cells #[.int .i64 0, .int .i64 1] 3)).alloc (.cells #[.int .i64 5, .int .i64 5, .int .i64 (-3)] 3)).alloc (.cells #[.int .i64 4, .slice (some ⟨w.heap.size + 1 + 1 + 1, 0, none⟩) 2 2, .slice none 0 0, .int .i64 0, .int .i64 0, .slice (some ⟨w.heap.size + 1 + 1 + 1 + 1, 0, none⟩) 3 3] 27)) (.cells #[.int .i64 0, .int .i64 2] 3)
  have h7 := heap_new (((((((w.alloc (.cells #[.int .i64 2, .int .i64 (-3), .int .i64 (-6)] 3)).alloc (.cells #[.int .i64 0, .int .i64 1, .int .i64 2] 3)).alloc (.cells #[.int .i64 2, .slice (some ⟨w.heap.size + 1, 0, none⟩) 3 3, .slice none 0 0, .int .i64 0, .int .i64 0, .slice none 0 0] 27)).alloc (.cells #[.int .i64 0, .int .i64 1] 3)).alloc (.cells #[.int .i64 5, .int .i64 5, .int .i64 (-3)] 3)).alloc (.cells #[.int .i64 4, .slice (some ⟨w.heap.size + 1 + 1 + 1, 0, none⟩) 2 2, .slice none 0 0, .int .i64 0, .int .i64 0, .slice (some ⟨w.heap.size + 1 + 1 + 1 + 1, 0, none⟩) 3 3] 27)).alloc (.cells #[.int .i64 0, .int .i64 2] 3)) (.cells #[.int .i64 3, .int .i64 1] 3)
  have h8 := heap_new ((((((((w.alloc (.cells #[.int .i64 2, .int .i64 (-3), .int .i64 (-6)] 3)).alloc (.cells #[.int .i64 0, .int .i64 1, .int .i64 2] 3)).alloc (.cells #[.int .i64 2, .slice (some ⟨w.heap.size + 1, 0, none⟩) 3 3, .slice none 0 0, .int .i64 0, .int .i64 0, .slice none 0 0] 27)).alloc (.cells #[.int .i64 0, .int .i64 1] 3)).alloc (.cells #[.int .i64 5, .int .i64 5, .int .i64 (-3)] 3)).alloc (.cells #[.int .i64 4, .slice (some ⟨w.heap.size + 1 + 1 + 1, 0, none⟩) 2 2, .slice none 0 0, .int .i64 0, .int .i64 0, .slice (some ⟨w.heap.size + 1 + 1 + 1 + 1, 0, none⟩) 3 3] 27)).alloc (.cells #[.int .i64 0, .int .i64 2] 3)).alloc (.cells #[.int .i64 3, .int .i64 1] 3)) (.cells #[.int .i64 1, .slice (some ⟨w.heap.size + 1 + 1 + 1 + 1 + 1 + 1, 0, none⟩) 2 2, .slice (some ⟨w.heap.size + 1 + 1 + 1 + 1 + 1 + 1 + 1, 0, none⟩) 2 2, .int .i64 0, .int .i64 0, .slice none 0 0] 27)
  simp only [World.size_alloc] at h1 h2 h3 h4 h5 h6 h7 h8
  refine ⟨?_, ?_, ?_, ?_, ?_, ?_, ?_, ?_, ?_, h8⟩
  · exact (((((((((Below.refl w.heap.size w).alloc (Nat.le_refl _) _).alloc (by simp) _).alloc (by simp; omega) _).alloc (by simp; omega) _).alloc (by simp; omega) _).alloc (by simp; omega) _).alloc (by simp; omega) _).alloc (by simp; omega) _).alloc (by simp; omega) _
  · exact (heap_old _ (heap_old _ (heap_old _ (heap_old _ (heap_old _ (heap_old _ (heap_old _ (heap_old _ h0))))))))
  · exact (heap_old _ (heap_old _ (heap_old _ (heap_old _ (heap_old _ (heap_old _ (heap_old _ h1)))))))
  · exact (heap_old _ (heap_old _ (heap_old _ (heap_old _ (heap_old _ (heap_old _ h2))))))
  · exact (heap_old _ (heap_old _ (heap_old _ (heap_old _ (heap_old _ h3)))))
  · exact (heap_old _ (heap_old _ (heap_old _ (heap_old _ h4))))
  · exact (heap_old _ (heap_old _ (heap_old _ h5)))
  · exact (heap_old _ (heap_old _ h6))
  · exact (heap_old _ h7)

/-- the cells of the three constraints that are read -/
def AwS (w W0 w' : World) : Prop := w'.cell? ⟨w.heap.size + 1 + 1, 0, none⟩ = some (.int .i64 2) ∧ w'.cell? ⟨w.heap.size + 1 + 1, 1, none⟩ = some (.slice (some ⟨w.heap.size + 1, 0, none⟩) 3 3) ∧ w'.cell? ⟨w.heap.size + 1 + 1, 2, none⟩ = some (.slice none 0 0) ∧ w'.cell? ⟨w.heap.size + 1 + 1, 3, none⟩ = some (.int .i64 0) ∧ w'.cell? ⟨w.heap.size + 1 + 1, 4, none⟩ = some (.int .i64 0) ∧ w'.cell? ⟨w.heap.size + 1 + 1, 5, none⟩ = some (.slice none 0 0) ∧ w'.cell? ⟨w.heap.size + 1 + 1 + 1 + 1 + 1, 0, none⟩ = some (.int .i64 4) ∧ w'.cell? ⟨w.heap.size + 1 + 1 + 1 + 1 + 1, 1, none⟩ = some (.slice (some ⟨w.heap.size + 1 + 1 + 1, 0, none⟩) 2 2) ∧ w'.cell? ⟨w.heap.size + 1 + 1 + 1 + 1 + 1, 2, none⟩ = some (.slice none 0 0) ∧ w'.cell? ⟨w.heap.size + 1 + 1 + 1 + 1 + 1, 3, none⟩ = some (.int .i64 0) ∧ w'.cell? ⟨w.heap.size + 1 + 1 + 1 + 1 + 1, 4, none⟩ = some (.int .i64 0) ∧ w'.cell? ⟨w.heap.size + 1 + 1 + 1 + 1 + 1, 5, none⟩ = some (.slice (some ⟨w.heap.size + 1 + 1 + 1 + 1, 0, none⟩) 3 3) ∧ w'.cell? ⟨w.heap.size + 1 + 1 + 1 + 1 + 1 + 1 + 1 + 1, 0, none⟩ = some (.int .i64 1) ∧ w'.cell? ⟨w.heap.size + 1 + 1 + 1 + 1 + 1 + 1 + 1 + 1, 1, none⟩ = some (.slice (some ⟨w.heap.size + 1 + 1 + 1 + 1 + 1 + 1, 0, none⟩) 2 2) ∧ w'.cell? ⟨w.heap.size + 1 + 1 + 1 + 1 + 1 + 1 + 1 + 1, 2, none⟩ = some (.slice (some ⟨w.heap.size + 1 + 1 + 1 + 1 + 1 + 1 + 1, 0, none⟩) 2 2) ∧ w'.cell? ⟨w.heap.size + 1 + 1 + 1 + 1 + 1 + 1 + 1 + 1, 3, none⟩ = some (.int .i64 0) ∧ w'.cell? ⟨w.heap.size + 1 + 1 + 1 + 1 + 1 + 1 + 1 + 1, 4, none⟩ = some (.int .i64 0) ∧ w'.cell? ⟨w.heap.size + 1 + 1 + 1 + 1 + 1 + 1 + 1 + 1, 5, none⟩ = some (.slice none 0 0) ∧ Below W0.heap.size W0 w'
theorem aws_keep {w W0 u u' : World} (h : AwS w W0 u) (hb : Below u.heap.size u u') : AwS w W0 u' := by
  obtain ⟨a0, a1, a2, a3, a4, a5, a6, a7, a8, a9, a10, a11, a12, a13, a14, a15, a16, a17, hB⟩ := h
  exact ⟨cell_stays hb a0, cell_stays hb a1, cell_stays hb a2, cell_stays hb a3, cell_stays hb a4, cell_stays hb a5, cell_stays hb a6, cell_stays hb a7, cell_stays hb a8, cell_stays hb a9, cell_stays hb a10, cell_stays hb a11, cell_stays hb a12, cell_stays hb a13, cell_stays hb a14, cell_stays hb a15, cell_stays hb a16, cell_stays hb a17, hB.trans (hb.mono hB.size)⟩
theorem aws_low {w W0 u : World} (h : AwS w W0 u) : Below W0.heap.size W0 u := by
  obtain ⟨_, _, _, _, _, _, _, _, _, _, _, _, _, _, _, _, _, _, hB⟩ := h
  exact hB
theorem aws_new {w u : World} (h : AwAt w u) : AwS w u u :=
  ⟨cell_in h.r2 0, cell_in h.r2 1, cell_in h.r2 2, cell_in h.r2 3, cell_in h.r2 4, cell_in h.r2 5, cell_in h.r5 0, cell_in h.r5 1, cell_in h.r5 2, cell_in h.r5 3, cell_in h.r5 4, cell_in h.r5 5, cell_in h.r8 0, cell_in h.r8 1, cell_in h.r8 2, cell_in h.r8 3, cell_in h.r8 4, cell_in h.r8 5, Below.refl _ _⟩

section
variable {w u W : World} (h : AwAt w u) (hB : Below u.heap.size u W)
include h hB
theorem aw_row : Nums W (some ⟨w.heap.size, 0, none⟩) w.heap.size 0 3 rowA :=
  nums_of (by
    obtain ⟨p, b, off, c, len, e, _, hs⟩ := slc_nums [2, -3, -6] (heap_below h.r0 hB) (fun x hx => fit_of_small (by simp at hx; omega))
    simp only [Value.slice.injEq] at e
    obtain ⟨rfl, rfl, rfl⟩ := e
    have h0 := hs.at_ (by decide)
    simp only [Option.some.injEq, Addr.mk.injEq, and_true] at h0
    obtain ⟨rfl, rfl⟩ := h0
    exact hs)
theorem aw_row2 : Nums W (some ⟨w.heap.size, 0, none⟩) w.heap.size 0 2 [2, -3] :=
  ⟨rfl, fun _ => rfl, fun k hk => by
    rw [Nat.zero_add, cell_in (heap_below h.r0 hB)]
    match k, hk with
    | 0, _ => rfl
    | 1, _ => rfl, fun k hk => by
    match k, hk with
    | 0, _ => exact fit_of_small (by decide)
    | 1, _ => exact fit_of_small (by decide)⟩
theorem aw_C : rCon W [.int .i64 2, .slice (some ⟨w.heap.size + 1, 0, none⟩) 3 3, .slice none 0 0, .int .i64 0, .int .i64 0, .slice none 0 0] conC := rcon_mk (c := conC) ⟨fit_of_small (by decide), fit_of_small (by decide), fit_of_small (by decide)⟩ (slc_nums [0, 1, 2] (heap_below h.r1 hB) (fun x hx => fit_of_small (by simp at hx; omega))) (none_slcN _) (none_slcN _)
theorem aw_D : rCon W [.int .i64 4, .slice (some ⟨w.heap.size + 1 + 1 + 1, 0, none⟩) 2 2, .slice none 0 0, .int .i64 0, .int .i64 0, .slice (some ⟨w.heap.size + 1 + 1 + 1 + 1, 0, none⟩) 3 3] conD := rcon_mk (c := conD) ⟨fit_of_small (by decide), fit_of_small (by decide), fit_of_small (by decide)⟩ (slc_nums [0, 1] (heap_below h.r3 hB) (fun x hx => fit_of_small (by simp at hx; omega))) (none_slcN _) (slc_nums [5, 5, -3] (heap_below h.r4 hB) (fun x hx => fit_of_small (by simp at hx; omega)))
theorem aw_E : rCon W [.int .i64 1, .slice (some ⟨w.heap.size + 1 + 1 + 1 + 1 + 1 + 1, 0, none⟩) 2 2, .slice (some ⟨w.heap.size + 1 + 1 + 1 + 1 + 1 + 1 + 1, 0, none⟩) 2 2, .int .i64 0, .int .i64 0, .slice none 0 0] conE := rcon_mk (c := conE) ⟨fit_of_small (by decide), fit_of_small (by decide), fit_of_small (by decide)⟩ (slc_nums [0, 2] (heap_below h.r6 hB) (fun x hx => fit_of_small (by simp at hx; omega))) (slc_nums [3, 1] (heap_below h.r7 hB) (fun x hx => fit_of_small (by simp at hx; omega))) (none_slcN _)
end

theorem below_new (w : World) (o : Obj) : Below w.heap.size w (w.alloc o) := (Below.refl _ w).alloc (Nat.le_refl _) _
theorem heap_0 {W : World} (a : Obj) : (W.alloc a).heap[W.heap.size]? = some a := heap_new _ _
theorem heap_00 {W : World} (a b c : Obj) : (((W.alloc a).alloc b).alloc c).heap[W.heap.size]? = some a := heap_old _ (heap_old _ (heap_new _ _))
theorem heap_01 {W : World} (a b c : Obj) : (((W.alloc a).alloc b).alloc c).heap[W.heap.size + 1]? = some b := by
  have := heap_new (W.alloc a) b
  rw [World.size_alloc] at this
  exact heap_old _ this
theorem heap_02 {W : World} (a b c : Obj) : (((W.alloc a).alloc b).alloc c).heap[W.heap.size + 1 + 1]? = some c := by
  have := heap_new ((W.alloc a).alloc b) c
  rwa [World.size_alloc, World.size_alloc] at this

set_option maxHeartbeats 8000000 in
theorem awake_any (w : World) : Calls Try.prog 6 #[] w fun e w' => e = .returned (.bool true) ∧ Below w.heap.size w w' := by
  obtain ⟨u, hu⟩ : ∃ u, u = (((((((((w.alloc (.cells #[.int .i64 2, .int .i64 (-3), .int .i64 (-6)] 3)).alloc (.cells #[.int .i64 0, .int .i64 1, .int .i64 2] 3)).alloc (.cells #[.int .i64 2, .slice (some ⟨w.heap.size + 1, 0, none⟩) 3 3, .slice none 0 0, .int .i64 0, .int .i64 0, .slice none 0 0] 27)).alloc (.cells #[.int .i64 0, .int .i64 1] 3)).alloc (.cells #[.int .i64 5, .int .i64 5, .int .i64 (-3)] 3)).alloc (.cells #[.int .i64 4, .slice (some ⟨w.heap.size + 1 + 1 + 1, 0, none⟩) 2 2, .slice none 0 0, .int .i64 0, .int .i64 0, .slice (some ⟨w.heap.size + 1 + 1 + 1 + 1, 0, none⟩) 3 3] 27)).alloc (.cells #[.int .i64 0, .int .i64 2] 3)).alloc (.cells #[.int .i64 3, .int .i64 1] 3)).alloc (.cells #[.int .i64 1, .slice (some ⟨w.heap.size + 1 + 1 + 1 + 1 + 1 + 1, 0, none⟩) 2 2, .slice (some ⟨w.heap.size + 1 + 1 + 1 + 1 + 1 + 1 + 1, 0, none⟩) 2 2, .int .i64 0, .int .i64 0, .slice none 0 0] 27)) := ⟨_, rfl⟩
  have ha : AwAt w u := by rw [hu]; exact aw_new w
  have A1 := Lib.hid (fun (W : World) (hB : Below u.heap.size u W) => gholds_any (c := conC) (some ⟨w.heap.size, 0, none⟩) w.heap.size 0 3 3 rowA W (aw_C ha hB) (short_few (by decide)) (aw_row ha hB) (by decide))
  have A2 := Lib.hid (fun (W : World) (hB : Below u.heap.size u W) => gholds_any (c := conD) (some ⟨w.heap.size, 0, none⟩) w.heap.size 0 3 3 rowA W (aw_D ha hB) (short_few (by decide)) (aw_row ha hB) (by decide))
  have A3 := Lib.hid (fun (W : World) (hB : Below u.heap.size u W) => gholds_any (c := conE) (some ⟨w.heap.size, 0, none⟩) w.heap.size 0 3 3 rowA W (aw_E ha hB) (short_few (by decide)) (aw_row ha hB) (by decide))
  have A4 := Lib.hid (fun (W : World) (hB : Below u.heap.size u W) (z : Nat) (hz : W.heap[z]? = some (.cells #[.int .i64 2, .slice (some ⟨w.heap.size + 1, 0, none⟩) 3 3, .slice none 0 0, .int .i64 0, .int .i64 0, .slice none 0 0, .int .i64 4, .slice (some ⟨w.heap.size + 1 + 1 + 1, 0, none⟩) 2 2, .slice none 0 0, .int .i64 0, .int .i64 0, .slice (some ⟨w.heap.size + 1 + 1 + 1 + 1, 0, none⟩) 3 3, .int .i64 1, .slice (some ⟨w.heap.size + 1 + 1 + 1 + 1 + 1 + 1, 0, none⟩) 2 2, .slice (some ⟨w.heap.size + 1 + 1 + 1 + 1 + 1 + 1 + 1, 0, none⟩) 2 2, .int .i64 0, .int .i64 0, .slice none 0 0] 27)) => gall_cells (some ⟨w.heap.size, 0, none⟩) w.heap.size 0 3 3 [conC, conD, conE] rowA (.slice (some ⟨z, 0, none⟩) 3 3) W (slc_con3 hz (aw_C ha hB) (aw_D ha hB) (aw_E ha hB)) (aw_row ha hB) (by decide) (by decide) (fun c hc => short_few (by simp at hc; rcases hc with rfl | rfl | rfl <;> decide)))
  have A5 := Lib.hid (fun (W : World) (hB : Below u.heap.size u W) (x y z : Nat) (hx : W.heap[x]? = some (.cells #[.int .i64 0] 3)) (hy : W.heap[y]? = some (.cells #[.int .i64 1] 3)) (hz : W.heap[z]? = some (.cells #[.int .i64 2, .slice (some ⟨w.heap.size + 1, 0, none⟩) 3 3, .slice none 0 0, .int .i64 0, .int .i64 0, .slice none 0 0, .int .i64 1, .slice (some ⟨x, 0, none⟩) 1 1, .slice (some ⟨y, 0, none⟩) 1 1, .int .i64 0, .int .i64 0, .slice none 0 0] 27)) => gall_cells (some ⟨w.heap.size, 0, none⟩) w.heap.size 0 3 3 [conC, conF] rowA (.slice (some ⟨z, 0, none⟩) 2 2) W (slc_con2 hz (aw_C ha hB) (rcon_mk (c := conF) ⟨fit_of_small (by decide), fit_of_small (by decide), fit_of_small (by decide)⟩ (slc_nums [0] hx (fun x hx => fit_of_small (by simp at hx; omega))) (slc_nums [1] hy (fun x hx => fit_of_small (by simp at hx; omega))) (none_slcN _))) (aw_row ha hB) (by decide) (by decide) (fun c hc => short_few (by simp at hc; rcases hc with rfl | rfl <;> decide)))
  have A6 := Lib.hid (fun (W : World) (hB : Below u.heap.size u W) => gall_cells (some ⟨w.heap.size, 0, none⟩) w.heap.size 0 3 3 [] rowA (.slice none 0 0) W (none_slcC _) (aw_row ha hB) (by decide) (by decide) (fun c hc => by simp at hc))
  have A7 := Lib.hid (fun (W : World) (hB : Below u.heap.size u W) => gholds_any (c := conZ) (some ⟨w.heap.size, 0, none⟩) w.heap.size 0 3 3 rowA W (rcon_mk (c := conZ) ⟨fit_of_small (by decide), fit_of_small (by decide), fit_of_small (by decide)⟩ (none_slcN _) (none_slcN _) (none_slcN _)) (short_few (by decide)) (aw_row ha hB) (by decide))
  have A8 := Lib.hid (fun (W : World) (hB : Below u.heap.size u W) (z : Nat) (hz : W.heap[z]? = some (.cells #[.int .i64 2, .slice (some ⟨w.heap.size + 1, 0, none⟩) 3 3, .slice none 0 0, .int .i64 0, .int .i64 0, .slice none 0 0] 27)) => gright_cells (some ⟨w.heap.size, 0, none⟩) w.heap.size 0 3 3 [conC] rowA (.slice (some ⟨z, 0, none⟩) 1 1) W (slc_con1 hz (aw_C ha hB)) (aw_row ha hB) (by decide) (by decide) (fun c hc => short_few (by simp at hc; subst hc; decide)))
  have A9 := Lib.hid (fun (W : World) (hB : Below u.heap.size u W) (z : Nat) (hz : W.heap[z]? = some (.cells #[.int .i64 2, .slice (some ⟨w.heap.size + 1, 0, none⟩) 3 3, .slice none 0 0, .int .i64 0, .int .i64 0, .slice none 0 0] 27)) => gright_cells (some ⟨w.heap.size, 0, none⟩) w.heap.size 0 2 3 [conC] [2, -3] (.slice (some ⟨z, 0, none⟩) 1 1) W (slc_con1 hz (aw_C ha hB)) (aw_row2 ha hB) (by decide) (by decide) (fun c hc => short_few (by simp at hc; subst hc; decide)))
  have A10 := Lib.hid (fun (W : World) (hB : Below u.heap.size u W) (x : Nat) (hx : W.heap[x]? = some (.cells #[.int .i64 0] 3)) => gholds_any (c := conG) (some ⟨w.heap.size, 0, none⟩) w.heap.size 0 3 3 rowA W (rcon_mk (c := conG) ⟨fit_of_small (by decide), fit_of_small (by decide), fit_of_small (by decide)⟩ (slc_nums [0] hx (fun x hx => fit_of_small (by simp at hx; omega))) (none_slcN _) (none_slcN _)) (short_few (by decide)) (aw_row ha hB) (by decide))
  rw [all_C] at A1
  rw [all_D] at A2
  rw [all_E] at A3
  rw [all_CDE] at A4
  rw [all_CF] at A5
  rw [all_none_row] at A6
  rw [all_Z] at A7
  rw [rightG_C] at A8
  rw [rightG_C2] at A9
  rw [all_G] at A10
  have HA := Lib.hid ha
  have H0 := Lib.hid (aws_new ha)
  have HU := Lib.hid hu
  clear ha hu
  go_enter Try.func6, Try.ntmps6
  go_upto_region 5 with fail
  rw [← HU.out]
  have hlow : ∀ W, AwS w u W → Below u.heap.size u W := fun W h => aws_low h
  have HLO := Lib.hid hlow
  clear hlow
  go_region_held3 (fun w' => w'.cell? ⟨w.heap.size + 1 + 1, 0, none⟩ = some (.int .i64 2) ∧ w'.cell? ⟨w.heap.size + 1 + 1, 1, none⟩ = some (.slice (some ⟨w.heap.size + 1, 0, none⟩) 3 3) ∧ w'.cell? ⟨w.heap.size + 1 + 1, 2, none⟩ = some (.slice none 0 0) ∧ w'.cell? ⟨w.heap.size + 1 + 1, 3, none⟩ = some (.int .i64 0) ∧ w'.cell? ⟨w.heap.size + 1 + 1, 4, none⟩ = some (.int .i64 0) ∧ w'.cell? ⟨w.heap.size + 1 + 1, 5, none⟩ = some (.slice none 0 0) ∧ w'.cell? ⟨w.heap.size + 1 + 1 + 1 + 1 + 1, 0, none⟩ = some (.int .i64 4) ∧ w'.cell? ⟨w.heap.size + 1 + 1 + 1 + 1 + 1, 1, none⟩ = some (.slice (some ⟨w.heap.size + 1 + 1 + 1, 0, none⟩) 2 2) ∧ w'.cell? ⟨w.heap.size + 1 + 1 + 1 + 1 + 1, 2, none⟩ = some (.slice none 0 0) ∧ w'.cell? ⟨w.heap.size + 1 + 1 + 1 + 1 + 1, 3, none⟩ = some (.int .i64 0) ∧ w'.cell? ⟨w.heap.size + 1 + 1 + 1 + 1 + 1, 4, none⟩ = some (.int .i64 0) ∧ w'.cell? ⟨w.heap.size + 1 + 1 + 1 + 1 + 1, 5, none⟩ = some (.slice (some ⟨w.heap.size + 1 + 1 + 1 + 1, 0, none⟩) 3 3) ∧ w'.cell? ⟨w.heap.size + 1 + 1 + 1 + 1 + 1 + 1 + 1 + 1, 0, none⟩ = some (.int .i64 1) ∧ w'.cell? ⟨w.heap.size + 1 + 1 + 1 + 1 + 1 + 1 + 1 + 1, 1, none⟩ = some (.slice (some ⟨w.heap.size + 1 + 1 + 1 + 1 + 1 + 1, 0, none⟩) 2 2) ∧ w'.cell? ⟨w.heap.size + 1 + 1 + 1 + 1 + 1 + 1 + 1 + 1, 2, none⟩ = some (.slice (some ⟨w.heap.size + 1 + 1 + 1 + 1 + 1 + 1 + 1, 0, none⟩) 2 2) ∧ w'.cell? ⟨w.heap.size + 1 + 1 + 1 + 1 + 1 + 1 + 1 + 1, 3, none⟩ = some (.int .i64 0) ∧ w'.cell? ⟨w.heap.size + 1 + 1 + 1 + 1 + 1 + 1 + 1 + 1, 4, none⟩ = some (.int .i64 0) ∧ w'.cell? ⟨w.heap.size + 1 + 1 + 1 + 1 + 1 + 1 + 1 + 1, 5, none⟩ = some (.slice none 0 0) ∧ Below u.heap.size u w')
    (first | exact aws_keep (by assumption) (by assumption) | exact aws_keep (by assumption) (below_new _ _) | exact aws_keep H0.out (below_drewN (n := 1) (Below.refl _ _)))
    (first
      | (go_at_call_of 8 (Value.int .i64 2); refine Calls.mono (A1.out _ (HLO.out _ (by assumption))) ?_; rintro e w' ⟨rfl, hB⟩)
      | (go_at_call_of 8 (Value.int .i64 4); refine Calls.mono (A2.out _ (HLO.out _ (by assumption))) ?_; rintro e w' ⟨rfl, hB⟩)
      | (go_at_call_of 8 (Value.int .i64 1); refine Calls.mono (A3.out _ (HLO.out _ (by assumption))) ?_; rintro e w' ⟨rfl, hB⟩)
      | (go_at_call_of 8 (Value.int .i64 6); refine Calls.mono (A10.out _ (HLO.out _ (by assumption)) _ (heap_0 _)) ?_; rintro e w' ⟨rfl, hB⟩)
      | (go_at_call 8; refine Calls.mono (A7.out _ (HLO.out _ (by assumption))) ?_; rintro e w' ⟨rfl, hB⟩)
      | (go_at_call_of 12 (2 : Nat); refine Calls.mono (A5.out _ (HLO.out _ (by assumption)) _ _ _ ?_ ?_ (heap_02 _ _ _)) ?_; (first | exact heap_00 _ _ _ | exact heap_01 _ _ _); (first | exact heap_01 _ _ _ | exact heap_00 _ _ _); rintro e w' ⟨rfl, hB⟩)
      | (go_at_call_of 12 (Value.slice none 0 0); refine Calls.mono (A6.out _ (HLO.out _ (by assumption))) ?_; rintro e w' ⟨rfl, hB⟩)
      | (go_at_call 12; refine Calls.mono (A4.out _ (HLO.out _ (by assumption)) _ (heap_0 _)) ?_; rintro e w' ⟨rfl, hB⟩)
      | (go_at_call_of 10 (2 : Nat); refine Calls.mono (A9.out _ (HLO.out _ (by assumption)) _ (heap_0 _)) ?_; rintro e w' ⟨rfl, hB⟩)
      | (go_at_call 10; refine Calls.mono (A8.out _ (HLO.out _ (by assumption)) _ (heap_0 _)) ?_; rintro e w' ⟨rfl, hB⟩))
  all_goals
    have hb := aws_low (w := w) (W0 := u) (by assumption)
    have HH := Lib.hid (HA.out.low.trans (hb.mono HA.out.low.size))
    clear hb
    go_wp2_with fail
    go_ret
    exact ⟨rfl, HH.out⟩
end Go.Proofs.Ytkhjnicmbkklpaa.Gr
