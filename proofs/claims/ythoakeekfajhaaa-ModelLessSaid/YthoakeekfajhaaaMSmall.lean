/-
  The small model of the law: what stands in memory once it is made; what the contracts say of it.
-/
import Derived.Test.YthoakeekfajhaaaPNodes
namespace Go.Proofs.Ythoakeekfajhaaa
open Go.RowKit

def conS : PCon := ⟨1, [0, 1], [1, -1], 0, 0, []⟩
def smallP (nm : List UInt8) : PModel := ⟨[⟨true, [⟨[121], [(0, 1)]⟩], []⟩, ⟨false, [⟨nm, [(0, 1)]⟩], []⟩], [conS]⟩

/-- the small model from block n on, its second variable's name q -/
structure SmallAt (w : World) (n : Nat) (q : ByteArray) : Prop where
  s0 : w.cell? ⟨n, 0, none⟩ = some (.int .i64 0)
  s1 : w.cell? ⟨n, 1, none⟩ = some (.int .i64 1)
  y0 : w.cell? ⟨n + 1, 0, none⟩ = some (.string ⟨#[121]⟩)
  y1 : w.cell? ⟨n + 1, 1, none⟩ = some (.slice (some ⟨n, 0, none⟩) 1 1)
  x0 : w.cell? ⟨n + 2, 0, none⟩ = some (.string q)
  x1 : w.cell? ⟨n + 2, 1, none⟩ = some (.slice (some ⟨n, 0, none⟩) 1 1)
  xf : w.frozen? ⟨n + 2, 0, none⟩ = false
  b0 : w.cell? ⟨n + 3, 0, none⟩ = some (.bool true)
  b1 : w.cell? ⟨n + 3, 1, none⟩ = some (.slice (some ⟨n + 1, 0, none⟩) 1 1)
  b2 : w.cell? ⟨n + 3, 2, none⟩ = some (.slice none 0 0)
  b3 : w.cell? ⟨n + 3, 3, none⟩ = some (.bool false)
  b4 : w.cell? ⟨n + 3, 4, none⟩ = some (.slice (some ⟨n + 2, 0, none⟩) 1 1)
  b5 : w.cell? ⟨n + 3, 5, none⟩ = some (.slice none 0 0)
  i0 : w.cell? ⟨n + 4, 0, none⟩ = some (.int .i64 0)
  i1 : w.cell? ⟨n + 4, 1, none⟩ = some (.int .i64 1)
  j0 : w.cell? ⟨n + 5, 0, none⟩ = some (.int .i64 1)
  j1 : w.cell? ⟨n + 5, 1, none⟩ = some (.int .i64 (-1))
  c0 : w.cell? ⟨n + 6, 0, none⟩ = some (.int .i64 1)
  c1 : w.cell? ⟨n + 6, 1, none⟩ = some (.slice (some ⟨n + 4, 0, none⟩) 2 2)
  c2 : w.cell? ⟨n + 6, 2, none⟩ = some (.slice (some ⟨n + 5, 0, none⟩) 2 2)
  c3 : w.cell? ⟨n + 6, 3, none⟩ = some (.int .i64 0)
  c4 : w.cell? ⟨n + 6, 4, none⟩ = some (.int .i64 0)
  c5 : w.cell? ⟨n + 6, 5, none⟩ = some (.slice none 0 0)
theorem SmallAt.below {w w' : World} {n : Nat} {q : ByteArray} (h : SmallAt w n q) (hB : Below w.heap.size w w') : SmallAt w' n q :=
  ⟨cell_stays hB h.s0, cell_stays hB h.s1, cell_stays hB h.y0, cell_stays hB h.y1, cell_stays hB h.x0, cell_stays hB h.x1, frozen_below hB h.x0 h.xf, cell_stays hB h.b0, cell_stays hB h.b1, cell_stays hB h.b2, cell_stays hB h.b3, cell_stays hB h.b4, cell_stays hB h.b5,
    cell_stays hB h.i0, cell_stays hB h.i1, cell_stays hB h.j0, cell_stays hB h.j1, cell_stays hB h.c0, cell_stays hB h.c1, cell_stays hB h.c2, cell_stays hB h.c3, cell_stays hB h.c4, cell_stays hB h.c5⟩

theorem one_slc {α : Type} {R : Reader α} {n : Nat} {w : World} {b c : Nat} {a : α} {cs : List Value} (hl : cs.length = n) (hc : ∀ j, j < n → w.cell? ⟨b, j, none⟩ = cs[j]?) (hR : R w cs a) (h1 : 1 ≤ c) : Slc R n w (.slice (some ⟨b, 0, none⟩) 1 c) [a] := by
  refine ⟨_, b, 0, c, 1, rfl, ⟨(fun h => by cases h), h1⟩, rfl, fun _ => rfl, fun k x hx => ?_⟩
  have hk := (List.getElem?_eq_some_iff.1 hx).1
  obtain rfl : k = 0 := by simp at hk; omega
  cases hx
  refine ⟨cs, hl, fun j hj => ?_, hR⟩
  simpa using hc j hj
theorem two_slc {α : Type} {R : Reader α} {n : Nat} {w : World} {b c : Nat} {a a' : α} {cs cs' : List Value} (hl : cs.length = n) (hl' : cs'.length = n) (hc : ∀ j, j < n → w.cell? ⟨b, j, none⟩ = cs[j]?) (hc' : ∀ j, j < n → w.cell? ⟨b, n + j, none⟩ = cs'[j]?) (hR : R w cs a) (hR' : R w cs' a') (h1 : 2 ≤ c) : Slc R n w (.slice (some ⟨b, 0, none⟩) 2 c) [a, a'] := by
  refine ⟨_, b, 0, c, 2, rfl, ⟨(fun h => by cases h), h1⟩, rfl, fun _ => rfl, fun k x hx => ?_⟩
  have hk := (List.getElem?_eq_some_iff.1 hx).1
  match k, hk with
  | 0, _ =>
    cases hx
    refine ⟨cs, hl, fun j hj => ?_, hR⟩
    simpa using hc j hj
  | 1, _ =>
    cases hx
    refine ⟨cs', hl', fun j hj => ?_, hR'⟩
    rw [Nat.one_mul, Nat.zero_add]
    exact hc' j hj
theorem none_slc {α : Type} (R : Reader α) (n : Nat) (w : World) : Slc R n w (.slice none 0 0) ([] : List α) := ⟨none, 0, 0, 0, 0, rfl, ⟨fun _ => rfl, Nat.le_refl _⟩, rfl, fun h => by omega, fun k a h => by simp at h⟩

theorem SmallAt.con {w : World} {n : Nat} {q : ByteArray} (h : SmallAt w n q) : rCon w [.int .i64 1, .slice (some ⟨n + 4, 0, none⟩) 2 2, .slice (some ⟨n + 5, 0, none⟩) 2 2, .int .i64 0, .int .i64 0, .slice none 0 0] conS := by
  refine ⟨_, _, _, rfl, ⟨by simp [Fit, conS], by simp [Fit, conS], by simp [Fit, conS]⟩, ?_, ?_, none_slc _ _ _⟩
  · exact two_slc (cs := [.int .i64 0]) (cs' := [.int .i64 1]) rfl rfl (fun j hj => match j, hj with | 0, _ => h.i0) (fun j hj => match j, hj with | 0, _ => h.i1) ⟨rfl, by unfold Fit; omega⟩ ⟨rfl, by unfold Fit; omega⟩ (by omega)
  · exact two_slc (cs := [.int .i64 1]) (cs' := [.int .i64 (-1)]) rfl rfl (fun j hj => match j, hj with | 0, _ => h.j0) (fun j hj => match j, hj with | 0, _ => h.j1) ⟨rfl, by unfold Fit; omega⟩ ⟨rfl, by unfold Fit; omega⟩ (by omega)
theorem SmallAt.model {w : World} {n : Nat} {q : ByteArray} (h : SmallAt w n q) : rModel w [.slice (some ⟨n + 3, 0, none⟩) 2 2, .slice (some ⟨n + 6, 0, none⟩) 1 1] (smallP (txt q)) := by
  have hd : Slc rSpan 2 w (.slice (some ⟨n, 0, none⟩) 1 1) [((0 : Int), (1 : Int))] := one_slc (cs := [.int .i64 0, .int .i64 1]) rfl (fun j hj => match j, hj with
    | 0, _ => h.s0
    | 1, _ => h.s1) ⟨rfl, by unfold Fit; simp, by unfold Fit; simp⟩ (by omega)
  have hy : Slc rDecl 2 w (.slice (some ⟨n + 1, 0, none⟩) 1 1) [⟨[121], [(0, 1)]⟩] := one_slc (cs := [.string ⟨#[121]⟩, .slice (some ⟨n, 0, none⟩) 1 1]) rfl (fun j hj => match j, hj with
    | 0, _ => h.y0
    | 1, _ => h.y1) ⟨_, _, rfl, rfl, hd⟩ (by omega)
  have hx : Slc rDecl 2 w (.slice (some ⟨n + 2, 0, none⟩) 1 1) [⟨txt q, [(0, 1)]⟩] := one_slc (cs := [.string q, .slice (some ⟨n, 0, none⟩) 1 1]) rfl (fun j hj => match j, hj with
    | 0, _ => h.x0
    | 1, _ => h.x1) ⟨_, _, rfl, rfl, hd⟩ (by omega)
  refine ⟨_, _, rfl, ?_, ?_⟩
  · exact two_slc (cs := [.bool true, .slice (some ⟨n + 1, 0, none⟩) 1 1, .slice none 0 0]) (cs' := [.bool false, .slice (some ⟨n + 2, 0, none⟩) 1 1, .slice none 0 0]) rfl rfl (fun j hj => match j, hj with
      | 0, _ => h.b0
      | 1, _ => h.b1
      | 2, _ => h.b2) (fun j hj => match j, hj with
      | 0, _ => h.b3
      | 1, _ => h.b4
      | 2, _ => h.b5) ⟨_, _, rfl, hy, none_slc _ _ _⟩ ⟨_, _, rfl, hx, none_slc _ _ _⟩ (by omega)
  · exact one_slc (cs := [.int .i64 1, .slice (some ⟨n + 4, 0, none⟩) 2 2, .slice (some ⟨n + 5, 0, none⟩) 2 2, .int .i64 0, .int .i64 0, .slice none 0 0]) rfl (fun j hj => match j, hj with
      | 0, _ => h.c0
      | 1, _ => h.c1
      | 2, _ => h.c2
      | 3, _ => h.c3
      | 4, _ => h.c4
      | 5, _ => h.c5) h.con (by omega)
/-- another name for the second variable -/
theorem SmallAt.name {w : World} {n : Nat} {q : ByteArray} (h : SmallAt w n q) (r : ByteArray) : SmallAt (w.setCell ⟨n + 2, 0, none⟩ (.string r)) n r := by
  have hs : ∀ {p : Addr} {v : Value}, w.cell? p = some v → p.block ≠ n + 2 → (w.setCell ⟨n + 2, 0, none⟩ (.string r)).cell? p = some v := fun hc hne => cell_set hc hne
  refine ⟨hs h.s0 (by simp), hs h.s1 (by simp), hs h.y0 (by simp), hs h.y1 (by simp), ?_, ?_, ?_, hs h.b0 (by simp), hs h.b1 (by simp), hs h.b2 (by simp), hs h.b3 (by simp), hs h.b4 (by simp), hs h.b5 (by simp),
    hs h.i0 (by simp), hs h.i1 (by simp), hs h.j0 (by simp), hs h.j1 (by simp), hs h.c0 (by simp), hs h.c1 (by simp), hs h.c2 (by simp), hs h.c3 (by simp), hs h.c4 (by simp), hs h.c5 (by simp)⟩
  · have := h.x0
    have f := h.xf
    go_simp
  · have := h.x1
    have h0 := h.x0
    go_simp
  · have := h.x0
    have f := h.xf
    go_simp

theorem results_mod {fn : Func} {p : Tmp} (h : fn.results = #[.cell p 25]) (tmps : Array Value) (w : World) (b : Nat) (v0 v1 : Value) (hp : tmps.getD p undef = .pointer (some ⟨b, 0, none⟩)) (c0 : w.cell? ⟨b, 0, none⟩ = some v0) (c1 : w.cell? ⟨b, 1, none⟩ = some v1) :
    (results fn tmps).run Try.prog w = .ok (.agg #[v0, v1]) w := by
  have hp' : tmps[p]?.getD undef = .pointer (some ⟨b, 0, none⟩) := by simpa using hp
  simp only [results, h]
  simp [hp', asAddr]
  go_simp
theorem cell_in {w : World} {g : Nat} {cur : Array Value} {e : TypeId} (h : w.heap[g]? = some (.cells cur e)) (j : Nat) {v : Value} (hv : cur[j]? = some v) : w.cell? ⟨g, j, none⟩ = some v := by
  rw [cell_of_row w g j cur e (0, 0) h, hv]
theorem frozen_in {w : World} {g : Nat} {cur : Array Value} {e : TypeId} (h : w.heap[g]? = some (.cells cur e)) (j : Nat) : w.frozen? ⟨g, j, none⟩ = false := frozen_of_row w g j cur e h
theorem heap_at (w : World) (o : Obj) (k : Nat) : (w.alloc o).heap[k]? = if k = w.heap.size then some o else w.heap[k]? := by
  show (w.heap.push o)[k]? = _
  rw [Array.getElem?_push]
theorem size_at (w : World) (o : Obj) : (w.alloc o).heap.size = w.heap.size + 1 := by simp
theorem eight_new (w : World) (o0 o1 o2 o3 o4 o5 o6 o7 : Obj) : (((((((((w.alloc o0).alloc o1).alloc o2).alloc o3).alloc o4).alloc o5).alloc o6).alloc o7).heap[w.heap.size + 1]? = some o1) ∧
    (((((((((w.alloc o0).alloc o1).alloc o2).alloc o3).alloc o4).alloc o5).alloc o6).alloc o7).heap[w.heap.size + 1 + 1]? = some o2) ∧ (((((((((w.alloc o0).alloc o1).alloc o2).alloc o3).alloc o4).alloc o5).alloc o6).alloc o7).heap[w.heap.size + 1 + 2]? = some o3) ∧
    (((((((((w.alloc o0).alloc o1).alloc o2).alloc o3).alloc o4).alloc o5).alloc o6).alloc o7).heap[w.heap.size + 1 + 3]? = some o4) ∧ (((((((((w.alloc o0).alloc o1).alloc o2).alloc o3).alloc o4).alloc o5).alloc o6).alloc o7).heap[w.heap.size + 1 + 4]? = some o5) ∧
    (((((((((w.alloc o0).alloc o1).alloc o2).alloc o3).alloc o4).alloc o5).alloc o6).alloc o7).heap[w.heap.size + 1 + 5]? = some o6) ∧ (((((((((w.alloc o0).alloc o1).alloc o2).alloc o3).alloc o4).alloc o5).alloc o6).alloc o7).heap[w.heap.size + 1 + 6]? = some o7) := by
  refine ⟨?_, ?_, ?_, ?_, ?_, ?_, ?_⟩ <;> simp only [heap_at, size_at] <;> repeat (first | rw [if_pos trivial] | rw [if_pos rfl] | rw [if_neg (by omega)])
theorem eight_below (w : World) (o0 o1 o2 o3 o4 o5 o6 o7 : Obj) : Below w.heap.size w ((((((((w.alloc o0).alloc o1).alloc o2).alloc o3).alloc o4).alloc o5).alloc o6).alloc o7) :=
  (((((((((Below.refl _ w).alloc (Nat.le_refl _) _).alloc (by simp) _).alloc (by simp; omega) _).alloc (by simp; omega) _).alloc (by simp; omega) _).alloc (by simp; omega) _).alloc (by simp; omega) _).alloc (by simp; omega) _)
set_option maxRecDepth 100000 in
set_option maxHeartbeats 2000000 in
theorem small_any (w : World) : Calls Try.prog 25 #[] w fun e w' => ∃ n : Nat, e = .returned (.agg #[.slice (some ⟨n + 3, 0, none⟩) 2 2, .slice (some ⟨n + 6, 0, none⟩) 1 1]) ∧ SmallAt w' n ⟨#[120]⟩ ∧ w.heap.size ≤ n ∧ Below w.heap.size w w' := by
  go_enter Try.func25, Try.ntmps25
  go_wp2_with fail
  refine bodyPost_ret (results_mod rfl _ _ w.heap.size (.slice (some ⟨w.heap.size + 1 + 1 + 1 + 1, 0, none⟩) 2 2) (.slice (some ⟨w.heap.size + 1 + 1 + 1 + 1 + 1 + 1 + 1, 0, none⟩) 1 1) rfl ?c0 ?c1) rfl ?rest
  case c0 => go_simp
  case c1 => go_simp
  refine ⟨w.heap.size + 1, rfl, ?_, by omega, eight_below _ _ _ _ _ _ _ _ _⟩
  obtain ⟨h1, h2, h3, h4, h5, h6, h7⟩ := eight_new w (.cells #[.slice (some ⟨w.heap.size + 1 + 1 + 1 + 1, 0, none⟩) 2 2, .slice (some ⟨w.heap.size + 1 + 1 + 1 + 1 + 1 + 1 + 1, 0, none⟩) 1 1] 25) (.cells #[.int .i64 0, .int .i64 1] 52) (.cells #[.string ⟨#[121]⟩, .slice (some ⟨w.heap.size + 1, 0, none⟩) 1 1] 48) (.cells #[.string ⟨#[120]⟩, .slice (some ⟨w.heap.size + 1, 0, none⟩) 1 1] 48)
    (.cells #[.bool true, .slice (some ⟨w.heap.size + 1 + 1, 0, none⟩) 1 1, .slice none 0 0, .bool false, .slice (some ⟨w.heap.size + 1 + 1 + 1, 0, none⟩) 1 1, .slice none 0 0] 45) (.cells #[.int .i64 0, .int .i64 1] 3) (.cells #[.int .i64 1, .int .i64 (-1)] 3) (.cells #[.int .i64 1, .slice (some ⟨w.heap.size + 1 + 1 + 1 + 1 + 1, 0, none⟩) 2 2, .slice (some ⟨w.heap.size + 1 + 1 + 1 + 1 + 1 + 1, 0, none⟩) 2 2, .int .i64 0, .int .i64 0, .slice none 0 0] 28)
  exact ⟨cell_in h1 0 rfl, cell_in h1 1 rfl, cell_in h2 0 rfl, cell_in h2 1 rfl, cell_in h3 0 rfl, cell_in h3 1 rfl, frozen_in h3 0, cell_in h4 0 rfl, cell_in h4 1 rfl, cell_in h4 2 rfl, cell_in h4 3 rfl, cell_in h4 4 rfl, cell_in h4 5 rfl, cell_in h5 0 rfl, cell_in h5 1 rfl, cell_in h6 0 rfl, cell_in h6 1 rfl, cell_in h7 0 rfl, cell_in h7 1 rfl, cell_in h7 2 rfl, cell_in h7 3 rfl, cell_in h7 4 rfl, cell_in h7 5 rfl⟩
end Go.Proofs.Ythoakeekfajhaaa
