/-
  The small model of awake: what stands in memory once it is made, and what its text is.
  What awake of the laws answers.
  What cons and Large of the law answer, at every list of constraints and every model that can be read.
-/
import Derived.Test.YtkgieaoahijheaaGreatDoorZYAR
import Derived.Test.YtkgieaoahijheaaGreatDoorZYAO
import Derived.Test.YtkgieaoahijheaaGreatDoorZYAE
namespace Go.Proofs.YtkgieaoahijheaaGreatDoor.Wt
open Go.RowKit
open Sc (Tok)
open Pa
set_option maxRecDepth 100000

theorem results_mod {fn : Func} {p : Tmp} (h : fn.results = #[.cell p 25]) (tmps : Array Value) (w : World) (b : Nat) (v0 v1 : Value) (hp : tmps.getD p undef = .pointer (some ⟨b, 0, none⟩)) (c0 : w.cell? ⟨b, 0, none⟩ = some v0) (c1 : w.cell? ⟨b, 1, none⟩ = some v1) :
    (results fn tmps).run Tryz.prog w = .ok (.agg #[v0, v1]) w := by
  have hp' : tmps[p]?.getD undef = .pointer (some ⟨b, 0, none⟩) := by simpa using hp
  simp only [results, h]
  simp [hp', asAddr]
  go_simp
theorem one_slc {α : Type} {R : Reader α} {n : Nat} {w : World} {b c : Nat} {a : α} {cs : List Value} (hl : cs.length = n) (hc : ∀ j, j < n → w.cell? ⟨b, j, none⟩ = cs[j]?) (hR : R w cs a) (h1 : 1 ≤ c) : Slc R n w (.slice (some ⟨b, 0, none⟩) 1 c) [a] := by
  refine ⟨_, b, 0, c, 1, rfl, ⟨(fun h => by cases h), h1⟩, rfl, fun _ => rfl, fun k x hx => ?_⟩
  have hk := (List.getElem?_eq_some_iff.1 hx).1
  obtain rfl : k = 0 := by simp at hk; omega
  cases hx
  refine ⟨cs, hl, fun j hj => ?_, hR⟩
  simpa using hc j hj
theorem two_slc {α : Type} {R : Reader α} {n : Nat} {w : World} {b c : Nat} {a a' : α} {cs cs' : List Value} (hl : cs.length = n) (hl' : cs'.length = n) (hc : ∀ j, j < n → w.cell? ⟨b, j, none⟩ = cs[j]?) (hc' : ∀ j, j < n → w.cell? ⟨b, n + j, none⟩ = cs'[j]?) (hR : R w cs a) (hR' : R w cs' a') (h1 : 2 ≤ c) : Slc R n w (.slice (some ⟨b, 0, none⟩) 2 c) [a, a'] := by
  refine ⟨_, b, 0, c, 2, rfl, ⟨(fun h => by cases h), h1⟩, rfl, fun _ => rfl, fun k x hx => ?_⟩
  have hk := (List.getElem?_eq_some_iff.1 hx).1
  match k, hk with
  | 0, _ =>
    cases hx
    refine ⟨cs, hl, fun j hj => ?_, hR⟩
    simpa using hc j hj
  | 1, _ =>
    cases hx
    refine ⟨cs', hl', fun j hj => ?_, hR'⟩
    rw [Nat.one_mul, Nat.zero_add]
    exact hc' j hj
theorem none_slc {α : Type} (R : Reader α) (n : Nat) (w : World) : Slc R n w (.slice none 0 0) ([] : List α) := ⟨none, 0, 0, 0, 0, rfl, ⟨fun _ => rfl, Nat.le_refl _⟩, rfl, fun h => by omega, fun k a h => by simp at h⟩
def smallM : PModel := ⟨[⟨true, [⟨[121], [(0, 1)]⟩], []⟩, ⟨false, [⟨[120], [(-2, -2), (0, 0)]⟩], [⟨5, [0, 1], [], 0, 0, []⟩]⟩], [⟨1, [0, 1], [1, -2], 3, -3, []⟩]⟩
/-- its blocks, from block n on -/
structure SmallAt (w : World) (n : Nat) : Prop where
  h0 : w.heap[n]? = some (.cells #[.slice (some ⟨n + 7, 0, none⟩) 2 2, .slice (some ⟨n + 10, 0, none⟩) 1 1] 25)
  h1 : w.heap[n + 1]? = some (.cells #[.int .i64 0, .int .i64 1] 71)
  h2 : w.heap[n + 2]? = some (.cells #[.string ⟨#[121]⟩, .slice (some ⟨n + 1, 0, none⟩) 1 1] 45)
  h3 : w.heap[n + 3]? = some (.cells #[.int .i64 (-2), .int .i64 (-2), .int .i64 0, .int .i64 0] 71)
  h4 : w.heap[n + 4]? = some (.cells #[.string ⟨#[120]⟩, .slice (some ⟨n + 3, 0, none⟩) 2 2] 45)
  h5 : w.heap[n + 5]? = some (.cells #[.int .i64 0, .int .i64 1] 3)
  h6 : w.heap[n + 6]? = some (.cells #[.int .i64 5, .slice (some ⟨n + 5, 0, none⟩) 2 2, .slice none 0 0, .int .i64 0, .int .i64 0, .slice none 0 0] 38)
  h7 : w.heap[n + 7]? = some (.cells #[.bool true, .slice (some ⟨n + 2, 0, none⟩) 1 1, .slice none 0 0, .bool false, .slice (some ⟨n + 4, 0, none⟩) 1 1, .slice (some ⟨n + 6, 0, none⟩) 1 1] 42)
  h8 : w.heap[n + 8]? = some (.cells #[.int .i64 0, .int .i64 1] 3)
  h9 : w.heap[n + 9]? = some (.cells #[.int .i64 1, .int .i64 (-2)] 3)
  h10 : w.heap[n + 10]? = some (.cells #[.int .i64 1, .slice (some ⟨n + 8, 0, none⟩) 2 2, .slice (some ⟨n + 9, 0, none⟩) 2 2, .int .i64 3, .int .i64 (-3), .slice none 0 0] 38)
section
variable {w w' : World} {n : Nat}
theorem row_cell {b e : Nat} {cs : Array Value} (h : w.heap[b]? = some (.cells cs e)) (j : Nat) : w.cell? ⟨b, j, none⟩ = cs[j]? := cell_of_row w b j cs e (0, 0) h
theorem nums_two {b : Nat} {x y : Int} (h : w.heap[b]? = some (.cells #[.int .i64 x, .int .i64 y] 3)) (hx : Fit x) (hy : Fit y) : Slc rNum 1 w (.slice (some ⟨b, 0, none⟩) 2 2) [x, y] :=
  two_slc (cs := [.int .i64 x]) (cs' := [.int .i64 y]) rfl rfl (fun j hj => by obtain rfl : j = 0 := by omega
                                                                               rw [row_cell h]; rfl) (fun j hj => by obtain rfl : j = 0 := by omega
                                                                                                                     rw [row_cell h]; rfl) ⟨rfl, hx⟩ ⟨rfl, hy⟩ (Nat.le_refl _)
theorem nums_single {b : Nat} {x : Int} (h : w.heap[b]? = some (.cells #[.int .i64 x] 3)) (hx : Fit x) : Slc rNum 1 w (.slice (some ⟨b, 0, none⟩) 1 1) [x] :=
  one_slc (cs := [.int .i64 x]) rfl (fun j hj => by obtain rfl : j = 0 := by omega
                                                    rw [row_cell h]; rfl) ⟨rfl, hx⟩ (Nat.le_refl _)
theorem spans_one {b : Nat} {x y : Int} (h : w.heap[b]? = some (.cells #[.int .i64 x, .int .i64 y] 71)) (hx : Fit x) (hy : Fit y) : Slc rSpan 2 w (.slice (some ⟨b, 0, none⟩) 1 1) [(x, y)] :=
  one_slc (cs := [.int .i64 x, .int .i64 y]) rfl (fun j hj => by
    rw [row_cell h]
    match j, hj with
    | 0, _ => rfl
    | 1, _ => rfl) ⟨rfl, hx, hy⟩ (Nat.le_refl _)
theorem spans_two {b : Nat} {x y x2 y2 : Int} (h : w.heap[b]? = some (.cells #[.int .i64 x, .int .i64 y, .int .i64 x2, .int .i64 y2] 71)) (hx : Fit x) (hy : Fit y) (hx2 : Fit x2) (hy2 : Fit y2) : Slc rSpan 2 w (.slice (some ⟨b, 0, none⟩) 2 2) [(x, y), (x2, y2)] :=
  two_slc (cs := [.int .i64 x, .int .i64 y]) (cs' := [.int .i64 x2, .int .i64 y2]) rfl rfl (fun j hj => by
    rw [row_cell h]
    match j, hj with
    | 0, _ => rfl
    | 1, _ => rfl) (fun j hj => by
    rw [row_cell h]
    match j, hj with
    | 0, _ => rfl
    | 1, _ => rfl) ⟨rfl, hx, hy⟩ ⟨rfl, hx2, hy2⟩ (Nat.le_refl _)
theorem decls_at {b : Nat} {s : ByteArray} {u : Value} {d : List (Int × Int)} (h : w.heap[b]? = some (.cells #[.string s, u] 45)) (hd : Slc rSpan 2 w u d) : Slc rDecl 2 w (.slice (some ⟨b, 0, none⟩) 1 1) [⟨s.data.toList, d⟩] :=
  one_slc (cs := [.string s, u]) rfl (fun j hj => by
    rw [row_cell h]
    match j, hj with
    | 0, _ => rfl
    | 1, _ => rfl) ⟨s, u, rfl, rfl, hd⟩ (Nat.le_refl _)
theorem con_at {b : Nat} {c : PCon} {u1 u2 u3 : Value} (h : w.heap[b]? = some (.cells #[.int .i64 c.kind, u1, u2, .int .i64 c.rel, .int .i64 c.const, u3] 38)) (hf : Fit c.kind ∧ Fit c.rel ∧ Fit c.const) (h1 : Slc rNum 1 w u1 c.vars) (h2 : Slc rNum 1 w u2 c.coefs) (h3 : Slc rNum 1 w u3 c.nums) : Slc rCon 6 w (.slice (some ⟨b, 0, none⟩) 1 1) [c] :=
  one_slc (cs := [.int .i64 c.kind, u1, u2, .int .i64 c.rel, .int .i64 c.const, u3]) rfl (fun j hj => by
    rw [row_cell h]
    match j, hj with
    | 0, _ => rfl
    | 1, _ => rfl
    | 2, _ => rfl
    | 3, _ => rfl
    | 4, _ => rfl
    | 5, _ => rfl) ⟨u1, u2, u3, rfl, hf, h1, h2, h3⟩ (Nat.le_refl _)
theorem fit_small {x : Int} (h1 : -100 ≤ x) (h2 : x ≤ 100) : Fit x := by unfold Fit; omega
theorem SmallAt.model (h : SmallAt w n) : rModel w [.slice (some ⟨n + 7, 0, none⟩) 2 2, .slice (some ⟨n + 10, 0, none⟩) 1 1] smallM := by
  have f : ∀ {x : Int}, -100 ≤ x → x ≤ 100 → Fit x := fit_small
  have sp := spans_one h.h1 (f (by decide) (by decide)) (f (by decide) (by decide))
  have sp2 := spans_two h.h3 (f (by decide) (by decide)) (f (by decide) (by decide)) (f (by decide) (by decide)) (f (by decide) (by decide))
  have d1 : Slc rDecl 2 w (.slice (some ⟨n + 2, 0, none⟩) 1 1) [⟨[121], [(0, 1)]⟩] := decls_at h.h2 sp
  have d2 : Slc rDecl 2 w (.slice (some ⟨n + 4, 0, none⟩) 1 1) [⟨[120], [(-2, -2), (0, 0)]⟩] := decls_at h.h4 sp2
  have n5 := nums_two h.h5 (f (by decide) (by decide)) (f (by decide) (by decide))
  have n8 := nums_two h.h8 (f (by decide) (by decide)) (f (by decide) (by decide))
  have n9 := nums_two h.h9 (f (by decide) (by decide)) (f (by decide) (by decide))
  have c6 := con_at (c := ⟨5, [0, 1], [], 0, 0, []⟩) h.h6 ⟨f (by decide) (by decide), f (by decide) (by decide), f (by decide) (by decide)⟩ n5 (none_slc _ _ _) (none_slc _ _ _)
  have c10 := con_at (c := ⟨1, [0, 1], [1, -2], 3, -3, []⟩) h.h10 ⟨f (by decide) (by decide), f (by decide) (by decide), f (by decide) (by decide)⟩ n8 n9 (none_slc _ _ _)
  refine ⟨_, _, rfl, ?_, c10⟩
  refine two_slc (cs := [.bool true, .slice (some ⟨n + 2, 0, none⟩) 1 1, .slice none 0 0]) (cs' := [.bool false, .slice (some ⟨n + 4, 0, none⟩) 1 1, .slice (some ⟨n + 6, 0, none⟩) 1 1]) rfl rfl (fun j hj => ?_) (fun j hj => ?_) ⟨_, _, rfl, d1, none_slc _ _ _⟩ ⟨_, _, rfl, d2, c6⟩ (Nat.le_refl _)
  · rw [row_cell h.h7]
    match j, hj with
    | 0, _ => rfl
    | 1, _ => rfl
    | 2, _ => rfl
  · rw [row_cell h.h7]
    match j, hj with
    | 0, _ => rfl
    | 1, _ => rfl
    | 2, _ => rfl
theorem heap_at (w : World) (o : Obj) (k : Nat) : (w.alloc o).heap[k]? = if k = w.heap.size then some o else w.heap[k]? := by
  show (w.heap.push o)[k]? = _
  rw [Array.getElem?_push]
theorem size_at (w : World) (o : Obj) : (w.alloc o).heap.size = w.heap.size + 1 := by simp
def smallW (w : World) : World := ((((((((((w.alloc (.cells #[.slice (some ⟨w.heap.size + 1 + 1 + 1 + 1 + 1 + 1 + 1, 0, none⟩) 2 2, .slice (some ⟨w.heap.size + 1 + 1 + 1 + 1 + 1 + 1 + 1 + 1 + 1 + 1, 0, none⟩) 1 1] 25)).alloc (.cells #[.int .i64 0, .int .i64 1] 71)).alloc
  (.cells #[.string ⟨#[121]⟩, .slice (some ⟨w.heap.size + 1, 0, none⟩) 1 1] 45)).alloc (.cells #[.int .i64 (-2), .int .i64 (-2), .int .i64 0, .int .i64 0] 71)).alloc (.cells #[.string ⟨#[120]⟩, .slice (some ⟨w.heap.size + 1 + 1 + 1, 0, none⟩) 2 2] 45)).alloc
  (.cells #[.int .i64 0, .int .i64 1] 3)).alloc (.cells #[.int .i64 5, .slice (some ⟨w.heap.size + 1 + 1 + 1 + 1 + 1, 0, none⟩) 2 2, .slice none 0 0, .int .i64 0, .int .i64 0, .slice none 0 0] 38)).alloc
  (.cells #[.bool true, .slice (some ⟨w.heap.size + 1 + 1, 0, none⟩) 1 1, .slice none 0 0, .bool false, .slice (some ⟨w.heap.size + 1 + 1 + 1 + 1, 0, none⟩) 1 1, .slice (some ⟨w.heap.size + 1 + 1 + 1 + 1 + 1 + 1, 0, none⟩) 1 1] 42)).alloc (.cells #[.int .i64 0, .int .i64 1] 3)).alloc (.cells #[.int .i64 1, .int .i64 (-2)] 3)).alloc
  (.cells #[.int .i64 1, .slice (some ⟨w.heap.size + 1 + 1 + 1 + 1 + 1 + 1 + 1 + 1, 0, none⟩) 2 2, .slice (some ⟨w.heap.size + 1 + 1 + 1 + 1 + 1 + 1 + 1 + 1 + 1, 0, none⟩) 2 2, .int .i64 3, .int .i64 (-3), .slice none 0 0] 38)
theorem small_at (w : World) : SmallAt (smallW w) w.heap.size ∧ Below w.heap.size w (smallW w) := by
  unfold smallW
  refine ⟨⟨?_, ?_, ?_, ?_, ?_, ?_, ?_, ?_, ?_, ?_, ?_⟩, ?_⟩
  case refine_12 => exact (((((((((((Below.refl _ w).alloc (Nat.le_refl _) _).alloc (by simp) _).alloc (by simp; omega) _).alloc (by simp; omega) _).alloc (by simp; omega) _).alloc (by simp; omega) _).alloc (by simp; omega) _).alloc (by simp; omega) _).alloc (by simp; omega) _).alloc (by simp; omega) _).alloc (by simp; omega) _
  all_goals simp only [heap_at, size_at]
  all_goals repeat (first | rw [if_pos trivial] | rw [if_pos rfl] | rw [if_neg (by omega)])
set_option maxHeartbeats 2000000 in
theorem small_any (w : World) : Calls Tryz.prog 9 #[] w fun e w' => ∃ p1 p2, e = .returned (.agg #[.slice p1 2 2, .slice p2 1 1]) ∧ rModel w' [.slice p1 2 2, .slice p2 1 1] smallM ∧ Below w.heap.size w w' := by
  have H := Lib.hid (small_at w)
  have HW := Lib.hid (show smallW w = _ from rfl)
  go_enter Tryz.func9, Tryz.ntmps9
  go_wp2_with fail
  (try simp only [Exit.inBlock, Exit.then])
  refine bodyPost_ret (results_mod rfl _ _ w.heap.size (.slice (some ⟨w.heap.size + 7, 0, none⟩) 2 2) (.slice (some ⟨w.heap.size + 10, 0, none⟩) 1 1) rfl ?_ ?_) rfl ?_
  · exact row_cell (w := smallW w) H.out.1.h0 0
  · exact row_cell (w := smallW w) H.out.1.h0 1
  · exact ⟨_, _, rfl, (H.out.1.model : rModel (smallW w) _ _), (H.out.2 : Below w.heap.size w (smallW w))⟩
end
/- what is told of it -/
theorem vars_sd : VarsTo ([0, 1] : List Int) 2 ([0, 1] : List Int).length := fun i hi => by
  have hi : i < 2 := hi
  match i, hi with
  | 0, _ => exact ⟨by decide, fun j hj => by omega⟩
  | 1, _ => exact ⟨by decide, fun j hj => by obtain rfl : j = 0 := by omega
                                             decide⟩
theorem vars_ds : VarsTo ([1, 0] : List Int) 2 ([1, 0] : List Int).length := fun i hi => by
  have hi : i < 2 := hi
  match i, hi with
  | 0, _ => exact ⟨by decide, fun j hj => by omega⟩
  | 1, _ => exact ⟨by decide, fun j hj => by obtain rfl : j = 0 := by omega
                                             decide⟩
theorem right_s5 : rightC ⟨5, [0, 1], [], 0, 0, []⟩ 2 = true := by
  rw [right_on vars_sd]
  decide
theorem right_s1 : rightC ⟨1, [0, 1], [1, -2], 3, -3, []⟩ 2 = true := by
  rw [right_on vars_sd]
  decide
theorem right_el : rightC ⟨4, [1, 0], [], 0, 0, [-1]⟩ 2 = true := by
  rw [right_on vars_ds]
  decide
theorem right_no : rightC ⟨0, [], [], 0, 0, []⟩ 2 = false := by
  rw [right_on (fun i hi => by simp at hi)]
  decide
theorem vars_small : varsL smallM.blocks = [⟨[121], [(0, 1)]⟩, ⟨[120], [(-2, -2), (0, 0)]⟩] := rfl
theorem check_small : checkM smallM = 0 := by
  have h1 : bigM smallM = false := rfl
  have h2 : formM smallM = false := rfl
  have h3 : nameM smallM = false := by
    unfold nameM
    rw [vars_small]
    decide
  have h4 : twiceM smallM = false := by
    refine twice_false rfl ?_
    rintro ⟨i, j, hj, hi, e⟩
    have hi : i < 2 := hi
    obtain rfl : i = 1 := by omega
    obtain rfl : j = 0 := by omega
    revert e
    decide
  have h5 : domM smallM = false := by
    unfold domM
    rw [vars_small]
    decide
  have h6 : conM smallM = false := by
    unfold conM
    rw [vars_small]
    simp [smallM, conF, wrongL, right_s5, right_s1]
  simp [checkM, faultsM, firstF, h1, h2, h3, h4, h5, h6]
theorem few_small : Few smallM := by
  refine ⟨by decide, by decide, ?_, ?_, by decide, by decide⟩
  · intro b hb
    simp only [smallM, List.mem_cons, List.not_mem_nil, or_false] at hb
    rcases hb with rfl | rfl
    · exact ⟨by decide, fun c hc => by simp at hc⟩
    · refine ⟨by decide, fun c hc => ?_⟩
      simp only [List.mem_cons, List.not_mem_nil, or_false] at hc
      subst hc
      exact ⟨by decide, by decide, by decide⟩
  · refine ⟨by decide, fun c hc => ?_⟩
    simp only [smallM, List.mem_cons, List.not_mem_nil, or_false] at hc
    subst hc
    exact ⟨by decide, by decide, by decide⟩
theorem text_key (nm : Int → Tok) (hn0 : nm 0 = tW [121]) (hn1 : nm 1 = tW [120]) : textL nm smallM = [102, 111, 114, 97, 108, 108, 32, 121, 32, 105, 110, 32, 48, 32, 46, 46, 32, 49, 32, 59, 10, 101, 120, 105, 115, 116, 115, 32, 120, 32, 105, 110, 32, 45, 32, 50, 32, 48, 32, 119, 104, 101, 114, 101, 32, 100, 105, 102, 102, 101, 114, 101, 110, 116, 32, 121, 32, 120, 32, 59, 10, 103, 111, 97, 108, 32, 121, 32, 45, 32, 50, 32, 42, 32, 120, 32, 60, 61, 32, 45, 32, 51, 32, 59, 10] := by
  have d0 : digs 0 = [48] := digs_small (by decide)
  have d1 : digs 1 = [49] := digs_small (by decide)
  have d2 : digs 2 = [50] := digs_small (by decide)
  have d3 : digs 3 = [51] := digs_small (by decide)
  rw [text_eq]
  simp [smallM, blockL, declsT, declT, spanT, numT, tN, tM, tW, spT, d0, d1, d2, d3, listT, conT, sumsT, sumT, signT, coefT, relT, relsL, wordT, hn0, hn1, tForall, tExists, tIn, tDots, tMinus, tStar, tDifferent]
theorem text_small : textL (nmT (namesM smallM)) smallM = [102, 111, 114, 97, 108, 108, 32, 121, 32, 105, 110, 32, 48, 32, 46, 46, 32, 49, 32, 59, 10, 101, 120, 105, 115, 116, 115, 32, 120, 32, 105, 110, 32, 45, 32, 50, 32, 48, 32, 119, 104, 101, 114, 101, 32, 100, 105, 102, 102, 101, 114, 101, 110, 116, 32, 121, 32, 120, 32, 59, 10, 103, 111, 97, 108, 32, 121, 32, 45, 32, 50, 32, 42, 32, 120, 32, 60, 61, 32, 45, 32, 51, 32, 59, 10] := text_key _ rfl rfl
theorem ans_small : textA smallM = ([102, 111, 114, 97, 108, 108, 32, 121, 32, 105, 110, 32, 48, 32, 46, 46, 32, 49, 32, 59, 10, 101, 120, 105, 115, 116, 115, 32, 120, 32, 105, 110, 32, 45, 32, 50, 32, 48, 32, 119, 104, 101, 114, 101, 32, 100, 105, 102, 102, 101, 114, 101, 110, 116, 32, 121, 32, 120, 32, 59, 10, 103, 111, 97, 108, 32, 121, 32, 45, 32, 50, 32, 42, 32, 120, 32, 60, 61, 32, 45, 32, 51, 32, 59, 10], 0) := by
  unfold textA
  rw [if_pos check_small, text_small, if_neg (by decide)]
theorem ans_el : conA smallM ⟨4, [1, 0], [], 0, 0, [-1]⟩ = ([101, 108, 101, 109, 101, 110, 116, 32, 120, 32, 121, 32, 91, 32, 45, 32, 49, 32, 93], 0) := by
  have d1 : digs 1 = [49] := digs_small (by decide)
  have hn0 : nmT (namesM smallM) 0 = tW [121] := rfl
  have hn1 : nmT (namesM smallM) 1 = tW [120] := rfl
  unfold conA
  rw [if_pos check_small, vars_small, if_pos (show rightC ⟨4, [1, 0], [], 0, 0, [-1]⟩ (([⟨[121], [(0, 1)]⟩, ⟨[120], [(-2, -2), (0, 0)]⟩] : List PDecl).length : Int) = true from right_el)]
  generalize nmT (namesM smallM) = nm at hn0 hn1
  simp [numT, tN, tM, tW, spT, d1, conT, numsT, wordT, hn0, hn1, tElement, tMinus, tOpen, tShut]
theorem ans_no : conA smallM ⟨0, [], [], 0, 0, []⟩ = ([], 12) := by
  unfold conA
  rw [if_pos check_small, vars_small, if_neg (by show ¬ rightC ⟨0, [], [], 0, 0, []⟩ 2 = true; rw [right_no]; decide)]
def noneM : PModel := ⟨[], []⟩
theorem few_none : Few noneM := by
  refine ⟨?_, ?_, ?_, ?_, ?_, ?_⟩ <;> simp [noneM, varsL]
theorem ans_none : textA noneM = ([], 2) := by
  have h1 : bigM noneM = false := rfl
  have h2 : formM noneM = true := rfl
  have hc : checkM noneM = 2 := by simp [checkM, faultsM, firstF, h1, h2]
  unfold textA
  rw [if_neg (by rw [hc]; decide), hc]
theorem none_model (w : World) : rModel w [.slice none 0 0, .slice none 0 0] noneM := ⟨_, _, rfl, none_slc _ _ _, none_slc _ _ _⟩
end Go.Proofs.YtkgieaoahijheaaGreatDoor.Wt
namespace Go.Proofs.YtkgieaoahijheaaGreatDoor.Wt
open Go.RowKit
open Sc (Tok)
set_option maxRecDepth 100000

theorem Tb.up {w u : World} (h : Tb w.heap.size w) (hB : Below w.heap.size w u) : Tb u.heap.size u := by
  obtain ⟨g, h1, h2, h3⟩ := h.below hB
  exact ⟨g, h1, Nat.lt_of_lt_of_le h2 hB.size, h3⟩
set_option maxHeartbeats 4000000 in
theorem awake_any (w : World) (ht : Tb w.heap.size w) : Calls Tryz.prog 4 #[] w fun e w' => e = .returned (.bool true) ∧ Below w.heap.size w w' := by
  have HT := Lib.hid ht
  have SM := Lib.hid (fun u => small_any u)
  have TX := Lib.hid (fun (u : World) (v1 v2 : Value) (hm : rModel u [v1, v2] smallM) (hb : Below w.heap.size w u) => ptext_any hm few_small (HT.out.up hb))
  have NX := Lib.hid (fun (u : World) (hb : Below w.heap.size w u) => ptext_any (none_model u) few_none (HT.out.up hb))
  have CX := Lib.hid (fun (u : World) (v1 v2 : Value) (hm : rModel u [v1, v2] smallM) (hb : Below w.heap.size w u) => pcon_any (c := ⟨0, [], [], 0, 0, []⟩) (v1 := .slice none 0 0) (v2 := .slice none 0 0) (v3 := .slice none 0 0) hm few_small ⟨_, _, _, rfl, ⟨fit_small (by decide) (by decide), fit_small (by decide) (by decide), fit_small (by decide) (by decide)⟩, none_slc _ _ _, none_slc _ _ _, none_slc _ _ _⟩ ⟨by decide, by decide, by decide⟩ (HT.out.up hb))
  have EX := Lib.hid (fun (u : World) (v1 v2 u1 u3 : Value) (hm : rModel u [v1, v2] smallM) (h1 : Slc rNum 1 u u1 [1, 0]) (h3 : Slc rNum 1 u u3 [-1]) (hb : Below w.heap.size w u) => pcon_any (c := ⟨4, [1, 0], [], 0, 0, [-1]⟩) (v1 := u1) (v2 := .slice none 0 0) (v3 := u3) hm few_small ⟨_, _, _, rfl, ⟨fit_small (by decide) (by decide), fit_small (by decide) (by decide), fit_small (by decide) (by decide)⟩, h1, none_slc _ _ _, h3⟩ ⟨by decide, by decide, by decide⟩ (HT.out.up hb))
  rw [ans_small] at TX
  rw [ans_none] at NX
  rw [ans_no] at CX
  rw [ans_el] at EX
  obtain ⟨T1, hT1⟩ : ∃ T1 : List UInt8, T1 = [102, 111, 114, 97, 108, 108, 32, 121, 32, 105, 110, 32, 48, 32, 46, 46, 32, 49, 32, 59, 10, 101, 120, 105, 115, 116, 115, 32, 120, 32, 105, 110, 32, 45, 32, 50, 32, 48, 32, 119, 104, 101, 114, 101, 32, 100, 105, 102, 102, 101, 114, 101, 110, 116, 32, 121, 32, 120, 32, 59, 10, 103, 111, 97, 108, 32, 121, 32, 45, 32, 50, 32, 42, 32, 120, 32, 60, 61, 32, 45, 32, 51, 32, 59, 10] := ⟨_, rfl⟩
  obtain ⟨T2, hT2⟩ : ∃ T2 : List UInt8, T2 = [101, 108, 101, 109, 101, 110, 116, 32, 120, 32, 121, 32, 91, 32, 45, 32, 49, 32, 93] := ⟨_, rfl⟩
  simp only [← hT1] at TX
  simp only [← hT2] at EX
  have H1 := Lib.hid hT1
  have H2 := Lib.hid hT2
  have q1 : binOp .eql 9 (.string ⟨T1.toArray⟩) (.string ⟨(([102, 111, 114, 97, 108, 108, 32, 121, 32, 105, 110, 32, 48, 32, 46, 46, 32, 49, 32, 59, 10, 101, 120, 105, 115, 116, 115, 32, 120, 32, 105, 110, 32, 45, 32, 50, 32, 48, 32, 119, 104, 101] : List UInt8).append [114, 101, 32, 100, 105, 102, 102, 101, 114, 101, 110, 116, 32, 121, 32, 120, 32, 59, 10, 103, 111, 97, 108, 32, 121, 32, 45, 32, 50, 32, 42, 32, 120, 32, 60, 61, 32, 45, 32, 51, 32, 59, 10]).toArray⟩) = pure (.bool true) := by
    rw [eql_str, hT1]
    rfl
  have q2 : binOp .eql 9 (.string ⟨T1.toArray⟩) (.string ⟨(([102, 111, 114, 97, 108, 108, 32, 121, 32, 105, 110, 32, 48, 32, 46, 46, 32, 49, 32, 59, 10, 101, 120, 105, 115, 116, 115, 32, 120, 32, 105, 110, 32, 45, 32, 50, 32, 48, 32, 119, 104, 101] : List UInt8) ++ [114, 101, 32, 100, 105, 102, 102, 101, 114, 101, 110, 116, 32, 121, 32, 120, 32, 59, 10, 103, 111, 97, 108, 32, 121, 32, 45, 32, 50, 32, 42, 32, 120, 32, 60, 61, 32, 45, 32, 51, 32, 59, 10]).toArray⟩) = pure (.bool true) := q1
  have q3 : binOp .eql 9 (.string ⟨T1.toArray⟩) (.string ⟨#[102, 111, 114, 97, 108, 108, 32, 121, 32, 105, 110, 32, 48, 32, 46, 46, 32, 49, 32, 59, 10, 101, 120, 105, 115, 116, 115, 32, 120, 32, 105, 110, 32, 45, 32, 50, 32, 48, 32, 119, 104, 101, 114, 101, 32, 100, 105, 102, 102, 101, 114, 101, 110, 116, 32, 121, 32, 120, 32, 59, 10, 103, 111, 97, 108, 32, 121, 32, 45, 32, 50, 32, 42, 32, 120, 32, 60, 61, 32, 45, 32, 51, 32, 59, 10]⟩) = pure (.bool true) := q1
  have q4 : binOp .eql 9 (.string ⟨T2.toArray⟩) (.string ⟨#[101, 108, 101, 109, 101, 110, 116, 32, 120, 32, 121, 32, 91, 32, 45, 32, 49, 32, 93]⟩) = pure (.bool true) := by
    have := eql_str T2 [101, 108, 101, 109, 101, 110, 116, 32, 120, 32, 121, 32, 91, 32, 45, 32, 49, 32, 93]
    rw [hT2] at this ⊢
    exact this
  clear ht hT1 hT2
  go_enter Tryz.func4, Tryz.ntmps4
  go_wp2_with fail
  refine (SM.out _).mono ?_
  rintro e w1 ⟨p1, p2, rfl, hm1, hB1⟩
  have M1 := Lib.hid hm1
  have B1 := Lib.hid hB1
  clear hm1 hB1
  go_wp2_with fail
  refine (TX.out _ _ _ M1.out B1.out).mono ?_
  rintro e w2 ⟨rfl, hB⟩
  have B2 := Lib.hid (B1.out.trans (hB.mono B1.out.size))
  clear hB
  go_wp2_with fail
  refine (SM.out _).mono ?_
  rintro e w3 ⟨p3, p4, rfl, hm3, hB⟩
  have k3 := (Below.refl _ w3).alloc (Nat.le_refl _) (.cells #[.int .i64 1, .int .i64 0] 3)
  have r3 := heap_alloc_new w3 (.cells #[.int .i64 1, .int .i64 0] 3)
  have k4 := (Below.refl _ (w3.alloc (.cells #[.int .i64 1, .int .i64 0] 3))).alloc (Nat.le_refl _) (.cells #[.int .i64 (-1)] 3)
  have r4 := heap_alloc_new (w3.alloc (.cells #[.int .i64 1, .int .i64 0] 3)) (.cells #[.int .i64 (-1)] 3)
  have k5 := k3.trans (k4.mono k3.size)
  have s3 : (w3.alloc (.cells #[.int .i64 1, .int .i64 0] 3)).heap.size = w3.heap.size + 1 := by simp
  rw [s3] at r4
  have M3 := Lib.hid (rModel_stays _ _ _ _ k5 hm3)
  have B3 := Lib.hid (B2.out.trans (hB.mono B2.out.size))
  have N1 := Lib.hid (nums_two ((k4.block _ (by rw [s3]; omega)).trans r3) (fit_small (by decide) (by decide)) (fit_small (by decide) (by decide)))
  have N2 := Lib.hid (nums_single r4 (fit_small (by decide) (by decide)))
  have B5 := Lib.hid (B3.out.trans (k5.mono B3.out.size))
  clear hB hm3 k3 r3 k4 r4 k5 s3
  go_wp2_with fail
  refine (EX.out _ _ _ _ _ M3.out N1.out N2.out B5.out).mono ?_
  rintro e w6 ⟨rfl, hB⟩
  have B6 := Lib.hid (B5.out.trans (hB.mono B5.out.size))
  clear hB
  go_wp2_with fail
  refine (NX.out _ B6.out).mono ?_
  rintro e w7 ⟨rfl, hB⟩
  have B7 := Lib.hid (B6.out.trans (hB.mono B6.out.size))
  clear hB
  go_wp2_with fail
  refine (SM.out _).mono ?_
  rintro e w8 ⟨p5, p6, rfl, hm8, hB⟩
  have M8 := Lib.hid hm8
  have B8 := Lib.hid (B7.out.trans (hB.mono B7.out.size))
  clear hB hm8
  go_wp2_with fail
  refine (CX.out _ _ _ M8.out B8.out).mono ?_
  rintro e w9 ⟨rfl, hB⟩
  have B9 := Lib.hid (B8.out.trans (hB.mono B8.out.size))
  clear hB
  go_wp2_with fail
  go_ret
  exact ⟨rfl, B9.out⟩
end Go.Proofs.YtkgieaoahijheaaGreatDoor.Wt
namespace Go.Proofs.YtkgieaoahijheaaGreatDoor
open Go.RowKit
set_option maxRecDepth 100000
set_option maxRecDepth 100000 in
set_option maxHeartbeats 1000000 in
theorem cons_cells (p : Option Addr) (b off c len : Nat) (L : List PCon) (w : World) (hx : SliceOf rCon 6 w p b off len L) :
    Calls Tryz.prog 11 #[.slice p len c] w fun e w' => e = .returned (.bool (consB L)) ∧ Below w.heap.size w w' := by
  have HX := Lib.hid hx
  have hp := hx.at_
  have hl := hx.long
  obtain ⟨R, hR⟩ : ∃ R, R = consB L := ⟨_, rfl⟩
  rw [← hR]
  have hR2 : R = (decide (30 < len) || L.any longC) := by rw [hR, consB, ← hl]
  clear hR hx
  by_cases h30 : 30 < len
  · rw [decide_eq_true h30, Bool.true_or] at hR2
    subst hR2
    have d30 : decide ((30 : Int) < (len : Int)) = true := decide_eq_true (by omega)
    clear hp hl h30
    go_enter Tryz.func11, Tryz.ntmps11
    go_wp2_with fail
    go_ret
    exact ⟨rfl, Below.refl _ _⟩
  · rw [decide_eq_false h30, Bool.false_or] at hR2
    have HR := Lib.hid (show R = (L.drop 0).any longC by rw [hR2]; simp)
    have HL := Lib.hid hl
    have d30 : decide ((30 : Int) < (len : Int)) = false := decide_eq_false (by omega)
    clear hl hR2
    go_enter Tryz.func11, Tryz.ntmps11
    go_wp2_with fail
    go_loopw [10] (fun i wr => ∃ k : Nat, k ≤ len ∧ i = .int .i64 k ∧ R = (L.drop k).any longC ∧ Below w.heap.size w wr) (fun i _ => len - (intOf i).toNat)
    case atStart => exact ⟨0, by omega, rfl, HR.out, Below.refl _ _⟩
    case round =>
      obtain ⟨k, hk, rfl, hrel, hB⟩ := hrel
      have HB := Lib.hid (fun o => hB.alloc hB.size o)
      by_cases hlt : k < len
      · obtain rfl := hp (by omega)
        obtain ⟨d, v1, v2, v3, ex, ⟨a0, a1, a2, a3, a4, a5⟩, sv1, sv2, sv3⟩ := con_at (HX.out.below rCon_stays hB) hlt
        have hstep := hrel.trans (any_at longC ex)
        obtain ⟨p1, l1, c1, rfl, e1⟩ := slc_long sv1
        obtain ⟨p2, l2, c2, rfl, e2⟩ := slc_long sv2
        obtain ⟨p3, l3, c3, rfl, e3⟩ := slc_long sv3
        have hlong : longC d = (decide (150 < l1) || (decide (150 < l2) || decide (150 < l3))) := by rw [longC, ← e1, ← e2, ← e3]
        generalize d.kind = k0 at a0
        generalize d.rel = r0 at a3
        generalize d.const = t0 at a4
        clear ex hrel hB sv1 sv2 sv3 e1 e2 e3
        by_cases h1 : 150 < l1
        · have key : R = true := by rw [hstep, hlong, decide_eq_true h1]; simp
          subst key
          have d1 : decide ((150 : Int) < (l1 : Int)) = true := decide_eq_true (by omega)
          clear hstep hlong
          go_wp2_with fail
          go_ret
          exact ⟨rfl, HB.out _⟩
        · have d1 : decide ((150 : Int) < (l1 : Int)) = false := decide_eq_false (by omega)
          rw [decide_eq_false h1, Bool.false_or] at hlong
          by_cases h2 : 150 < l2
          · have key : R = true := by rw [hstep, hlong, decide_eq_true h2]; simp
            subst key
            have d2 : decide ((150 : Int) < (l2 : Int)) = true := decide_eq_true (by omega)
            clear hstep hlong
            go_wp2_with fail
            go_ret
            exact ⟨rfl, HB.out _⟩
          · have d2 : decide ((150 : Int) < (l2 : Int)) = false := decide_eq_false (by omega)
            rw [decide_eq_false h2, Bool.false_or] at hlong
            by_cases h3 : 150 < l3
            · have key : R = true := by rw [hstep, hlong, decide_eq_true h3]; simp
              subst key
              have d3 : decide ((150 : Int) < (l3 : Int)) = true := decide_eq_true (by omega)
              clear hstep hlong
              go_wp2_with fail
              go_ret
              exact ⟨rfl, HB.out _⟩
            · have d3 : decide ((150 : Int) < (l3 : Int)) = false := decide_eq_false (by omega)
              rw [decide_eq_false h3] at hlong
              rw [hlong, Bool.false_or] at hstep
              have NX := Lib.hid hstep
              clear hstep hlong
              go_wp2_with fail
              go_roundw
              case rel => exact ⟨k + 1, by omega, by go_num, NX.out, HB.out _⟩
              case measure => simp [intOf]; omega
      · have key : R = false := hrel.trans (any_end longC (by rw [← HL.out]; omega))
        subst key
        have HB2 := Lib.hid hB
        clear hrel hB
        go_wp2_with fail
        go_ret
        exact ⟨rfl, HB2.out⟩
theorem cons_any {w : World} {v : Value} {L : List PCon} (h : Slc rCon 6 w v L) : Calls Tryz.prog 11 #[v] w fun e w' => e = .returned (.bool (consB L)) ∧ Below w.heap.size w w' := by
  obtain ⟨p, b, off, c, len, rfl, _, hs⟩ := h
  exact cons_cells p b off c len L w hs

set_option maxRecDepth 100000 in
set_option maxHeartbeats 2000000 in
theorem large_cells (pb : Option Addr) (bb ob cb lb : Nat) (gv : Value) (m : PModel) (w : World) (h : Mod w pb bb ob cb lb gv m) :
    Calls Tryz.prog 5 #[.agg #[.slice pb lb cb, gv]] w fun e w' => e = .returned (.bool (largeB m)) ∧ Below w.heap.size w w' := by
  have hp := h.blocks.at_
  have hl := h.blocks.long
  have HM := Lib.hid h
  obtain ⟨R, hR⟩ : ∃ R, R = largeB m := ⟨_, rfl⟩
  rw [← hR]
  have hR2 : R = (decide (30 < lb) || (consB m.goal || m.blocks.any longB)) := by rw [hR, largeB, ← hl]
  clear hR h
  obtain ⟨W0, hW0⟩ : ∃ W0, W0 = w.alloc (.cells #[.slice pb lb cb, gv] 25) := ⟨_, rfl⟩
  have hB0 : Below w.heap.size w W0 := by rw [hW0]; exact (Below.refl _ w).alloc (Nat.le_refl _) _
  have hb0 : W0.cell? ⟨w.heap.size, 0, none⟩ = some (.slice pb lb cb) := by rw [hW0]; go_simp
  have hb1 : W0.cell? ⟨w.heap.size, 1, none⟩ = some gv := by rw [hW0]; go_simp
  have HW := Lib.hid hW0
  have HB0 := Lib.hid hB0
  have GO := Lib.hid (cons_any (HM.out.below hB0).goal)
  have HC0 := Lib.hid hb0
  by_cases h30 : 30 < lb
  · rw [decide_eq_true h30, Bool.true_or] at hR2
    subst hR2
    have d30 : decide ((30 : Int) < (lb : Int)) = true := decide_eq_true (by omega)
    clear hp hl h30 hb0 hb1 hW0 hB0
    go_enter Tryz.func5, Tryz.ntmps5
    go_upto_region 1 with fail
    rw [← HW.out]
    have hb0 := HC0.out
    go_wp2_with fail
    go_ret
    exact ⟨rfl, HB0.out⟩
  · rw [decide_eq_false h30, Bool.false_or] at hR2
    have d30 : decide ((30 : Int) < (lb : Int)) = false := decide_eq_false (by omega)
    have HL := Lib.hid hl
    clear hl hW0 hB0
    go_enter Tryz.func5, Tryz.ntmps5
    go_upto_region 1 with fail
    rw [← HW.out]
    go_wp2_with fail
    refine GO.out.mono ?_
    rintro e w1 ⟨rfl, hB1⟩
    have hb0 := cell_stays hB1 hb0
    have HB1 := Lib.hid (HB0.out.trans (hB1.mono HB0.out.size))
    clear hB1 hb1
    cases hg : consB m.goal
    · rw [hg, Bool.false_or] at hR2
      have HR := Lib.hid (show R = (m.blocks.drop 0).any longB by rw [hR2]; simp)
      clear hR2 hg
      go_wp2_with fail
      go_loopw [19] (fun i wr => ∃ k : Nat, k ≤ lb ∧ i = .int .i64 k ∧ R = (m.blocks.drop k).any longB ∧ Below w.heap.size w wr) (fun i _ => lb - (intOf i).toNat)
      case atStart => exact ⟨0, by omega, rfl, HR.out, HB1.out⟩
      case round =>
        obtain ⟨k, hk, rfl, hrel, hB⟩ := hrel
        by_cases hlt : k < lb
        · obtain rfl := hp (by omega)
          obtain ⟨x, v1, v2, ex, ed, a0, a1, a2, sv, sc⟩ := block_at (HM.out.below hB).blocks hlt
          have hstep := hrel.trans (any_at longB ex)
          obtain ⟨p1, b1, o1, c1, l1, rfl, _, hs⟩ := sv
          obtain ⟨p2, l2, c2, rfl⟩ := slc_shape sc
          have hlb : longB x = (decide (30 < l1) || (consB x.cons || x.vars.any longD)) := by rw [longB, ← hs.long]
          rw [hlb] at hstep
          obtain ⟨W1, hW1⟩ : ∃ W1, W1 = wr.alloc (.cells #[.bool x.all, .slice p1 l1 c1, .slice p2 l2 c2] 42) := ⟨_, rfl⟩
          have hBa : Below wr.heap.size wr W1 := by rw [hW1]; exact (Below.refl _ wr).alloc (Nat.le_refl _) _
          have q1 : W1.cell? ⟨wr.heap.size, 1, none⟩ = some (.slice p1 l1 c1) := by rw [hW1]; go_simp
          have q2 : W1.cell? ⟨wr.heap.size, 2, none⟩ = some (.slice p2 l2 c2) := by rw [hW1]; go_simp
          have HW1 := Lib.hid hW1
          have HBA := Lib.hid (hB.trans (hBa.mono hB.size))
          have CO := Lib.hid (cons_any (sc.below rCon_stays hBa))
          have HSV := Lib.hid (hs.below rDecl_stays hBa)
          have hpv := hs.at_
          generalize x.all = xa at a0 HW1
          clear ex ed hrel hB sc hs hlb hW1 hBa
          by_cases h1 : 30 < l1
          · rw [decide_eq_true h1, Bool.true_or, Bool.true_or] at hstep
            subst hstep
            have d1 : decide ((30 : Int) < (l1 : Int)) = true := decide_eq_true (by omega)
            go_upto_region 6 with fail
            rw [← HW1.out]
            go_wp2_with fail
            go_ret
            exact ⟨rfl, HBA.out⟩
          · rw [decide_eq_false h1, Bool.false_or] at hstep
            have d1 : decide ((30 : Int) < (l1 : Int)) = false := decide_eq_false (by omega)
            go_upto_region 6 with fail
            rw [← HW1.out]
            go_wp2_with fail
            refine CO.out.mono ?_
            rintro e w2 ⟨rfl, hB2⟩
            have q1 := cell_stays hB2 q1
            have HB2 := Lib.hid (HBA.out.trans (hB2.mono HBA.out.size))
            have HSV := Lib.hid (HSV.out.below rDecl_stays hB2)
            clear hB2 q2 a0 a1 a2
            cases hc : consB x.cons
            · rw [hc, Bool.false_or] at hstep
              have HS2 := Lib.hid (show R = ((x.vars.drop 0).any longD || (m.blocks.drop (k + 1)).any longB) by rw [hstep]; simp)
              clear hstep hc
              go_wp2_with fail
              go_loopw [35] (fun i wq => ∃ j : Nat, j ≤ l1 ∧ i = .int .i64 j ∧ R = ((x.vars.drop j).any longD || (m.blocks.drop (k + 1)).any longB) ∧ Below w.heap.size w wq ∧ Below w2.heap.size w2 wq) (fun i _ => l1 - (intOf i).toNat)
              case atStart => exact ⟨0, by omega, rfl, HS2.out, HB2.out, Below.refl _ _⟩
              case round =>
                obtain ⟨j, hj, rfl, hrel, hB, hB3⟩ := hrel
                by_cases hlj : j < l1
                · obtain rfl := hpv (by omega)
                  obtain ⟨d, s, v, exd, e0, e1, hsn, sd⟩ := decl_at (HSV.out.below rDecl_stays hB3) hlj
                  have hstep := hrel
                  rw [any_at longD exd] at hstep
                  obtain ⟨pd, ld, cd, rfl, hld⟩ := slc_long sd
                  obtain ⟨ns, hns⟩ : ∃ ns, ns = s.size := ⟨_, rfl⟩
                  have hsz : ((s.size : Nat) : Int) = (ns : Int) := by rw [hns]
                  have hlong : longD d = (decide (100 < ns) || decide (150 < ld)) := by rw [longD, ← hsn, ← txt_size, ← hld, hns]
                  rw [hlong] at hstep
                  have HQ := Lib.hid (fun o => (hB.alloc hB.size o))
                  have HQ2 := Lib.hid (fun o => (hB3.alloc hB3.size o))
                  clear exd hrel hB hB3 hld sd hsn hlong hns
                  by_cases g1 : 100 < ns
                  · rw [decide_eq_true g1, Bool.true_or, Bool.true_or, Bool.true_or] at hstep
                    subst hstep
                    have d1 : decide ((100 : Int) < (ns : Int)) = true := decide_eq_true (by omega)
                    go_wp2_with fail
                    go_ret
                    exact ⟨rfl, HQ.out _⟩
                  · rw [decide_eq_false g1, Bool.false_or] at hstep
                    have d1 : decide ((100 : Int) < (ns : Int)) = false := decide_eq_false (by omega)
                    by_cases g2 : 150 < ld
                    · rw [decide_eq_true g2, Bool.true_or, Bool.true_or] at hstep
                      subst hstep
                      have d2 : decide ((150 : Int) < (ld : Int)) = true := decide_eq_true (by omega)
                      go_wp2_with fail
                      go_ret
                      exact ⟨rfl, HQ.out _⟩
                    · rw [decide_eq_false g2, Bool.false_or] at hstep
                      have d2 : decide ((150 : Int) < (ld : Int)) = false := decide_eq_false (by omega)
                      have NX := Lib.hid hstep
                      clear hstep
                      go_wp2_with fail
                      go_roundw
                      case rel => exact ⟨j + 1, by omega, by go_num, NX.out, HQ.out _, HQ2.out _⟩
                      case measure => simp [intOf]; omega
                · rw [any_end longD (by rw [← HSV.out.long]; omega), Bool.false_or] at hrel
                  have NX := Lib.hid hrel
                  have HQ := Lib.hid hB
                  clear hrel hB hB3
                  go_wp2_with fail
                  go_roundw
                  case rel => exact ⟨k + 1, by omega, by go_num, NX.out, HQ.out⟩
                  case measure => simp [intOf]; omega
            · rw [hc, Bool.true_or, Bool.true_or] at hstep
              subst hstep
              clear hc
              go_wp2_with fail
              go_ret
              exact ⟨rfl, HB2.out⟩
        · have key : R = false := hrel.trans (any_end longB (by rw [← HL.out]; omega))
          subst key
          have HB2 := Lib.hid hB
          clear hrel hB
          go_wp2_with fail
          go_ret
          exact ⟨rfl, HB2.out⟩
    · rw [hg, Bool.true_or] at hR2
      subst hR2
      clear hg
      go_wp2_with fail
      go_ret
      exact ⟨rfl, HB1.out⟩
theorem large_any {w : World} {bv gv : Value} {m : PModel} (h : rModel w [bv, gv] m) : Calls Tryz.prog 5 #[.agg #[bv, gv]] w fun e w' => e = .returned (.bool (largeB m)) ∧ Below w.heap.size w w' := by
  obtain ⟨pb, bb, ob, cb, lb, rfl, hm⟩ := mod_of h
  exact large_cells pb bb ob cb lb gv m w hm
end Go.Proofs.YtkgieaoahijheaaGreatDoor
