/-
  The small model of awake: what stands in memory once it is made, and what its text is.
  What awake of the laws answers.
-/
import Derived.Test.YtkgieaoahijheaaDoorZYConA
import Derived.Test.YtkgieaoahijheaaDoorZYAZ
namespace Go.Proofs.YtkgieaoahijheaaDoor.Wt
open Go.RowKit
open Sc (Tok)
open Pa
set_option maxRecDepth 100000

theorem results_mod {fn : Func} {p : Tmp} (h : fn.results = #[.cell p 25]) (tmps : Array Value) (w : World) (b : Nat) (v0 v1 : Value) (hp : tmps.getD p undef = .pointer (some ⟨b, 0, none⟩)) (c0 : w.cell? ⟨b, 0, none⟩ = some v0) (c1 : w.cell? ⟨b, 1, none⟩ = some v1) :
    (results fn tmps).run Tryd.prog w = .ok (.agg #[v0, v1]) w := by
  have hp' : tmps[p]?.getD undef = .pointer (some ⟨b, 0, none⟩) := by simpa using hp
  simp only [results, h]
  simp [hp', asAddr]
  go_simp
theorem one_slc {α : Type} {R : Reader α} {n : Nat} {w : World} {b c : Nat} {a : α} {cs : List Value} (hl : cs.length = n) (hc : ∀ j, j < n → w.cell? ⟨b, j, none⟩ = cs[j]?) (hR : R w cs a) (h1 : 1 ≤ c) : Slc R n w (.slice (some ⟨b, 0, none⟩) 1 c) [a] := by
  refine ⟨_, b, 0, c, 1, rfl, ⟨(fun h => by cases h), h1⟩, rfl, fun _ => rfl, fun k x hx => ?_⟩
  have hk := (List.getElem?_eq_some_iff.1 hx).1
  obtain rfl : k = 0 := by simp at hk; omega
  cases hx
  refine ⟨cs, hl, fun j hj => ?_, hR⟩
  simpa using hc j hj
theorem two_slc {α : Type} {R : Reader α} {n : Nat} {w : World} {b c : Nat} {a a' : α} {cs cs' : List Value} (hl : cs.length = n) (hl' : cs'.length = n) (hc : ∀ j, j < n → w.cell? ⟨b, j, none⟩ = cs[j]?) (hc' : ∀ j, j < n → w.cell? ⟨b, n + j, none⟩ = cs'[j]?) (hR : R w cs a) (hR' : R w cs' a') (h1 : 2 ≤ c) : Slc R n w (.slice (some ⟨b, 0, none⟩) 2 c) [a, a'] := by
  refine ⟨_, b, 0, c, 2, rfl, ⟨(fun h => by cases h), h1⟩, rfl, fun _ => rfl, fun k x hx => ?_⟩
  have hk := (List.getElem?_eq_some_iff.1 hx).1
  match k, hk with
  | 0, _ =>
    cases hx
    refine ⟨cs, hl, fun j hj => ?_, hR⟩
    simpa using hc j hj
  | 1, _ =>
    cases hx
    refine ⟨cs', hl', fun j hj => ?_, hR'⟩
    rw [Nat.one_mul, Nat.zero_add]
    exact hc' j hj
theorem none_slc {α : Type} (R : Reader α) (n : Nat) (w : World) : Slc R n w (.slice none 0 0) ([] : List α) := ⟨none, 0, 0, 0, 0, rfl, ⟨fun _ => rfl, Nat.le_refl _⟩, rfl, fun h => by omega, fun k a h => by simp at h⟩
def smallM : PModel := ⟨[⟨true, [⟨[121], [(0, 1)]⟩], []⟩, ⟨false, [⟨[120], [(-2, -2), (0, 0)]⟩], [⟨5, [0, 1], [], 0, 0, []⟩]⟩], [⟨1, [0, 1], [1, -2], 3, -3, []⟩]⟩
/-- its blocks, from block n on -/
structure SmallAt (w : World) (n : Nat) : Prop where
  h0 : w.heap[n]? = some (.cells #[.slice (some ⟨n + 7, 0, none⟩) 2 2, .slice (some ⟨n + 10, 0, none⟩) 1 1] 25)
  h1 : w.heap[n + 1]? = some (.cells #[.int .i64 0, .int .i64 1] 60)
  h2 : w.heap[n + 2]? = some (.cells #[.string ⟨#[121]⟩, .slice (some ⟨n + 1, 0, none⟩) 1 1] 47)
  h3 : w.heap[n + 3]? = some (.cells #[.int .i64 (-2), .int .i64 (-2), .int .i64 0, .int .i64 0] 60)
  h4 : w.heap[n + 4]? = some (.cells #[.string ⟨#[120]⟩, .slice (some ⟨n + 3, 0, none⟩) 2 2] 47)
  h5 : w.heap[n + 5]? = some (.cells #[.int .i64 0, .int .i64 1] 3)
  h6 : w.heap[n + 6]? = some (.cells #[.int .i64 5, .slice (some ⟨n + 5, 0, none⟩) 2 2, .slice none 0 0, .int .i64 0, .int .i64 0, .slice none 0 0] 28)
  h7 : w.heap[n + 7]? = some (.cells #[.bool true, .slice (some ⟨n + 2, 0, none⟩) 1 1, .slice none 0 0, .bool false, .slice (some ⟨n + 4, 0, none⟩) 1 1, .slice (some ⟨n + 6, 0, none⟩) 1 1] 44)
  h8 : w.heap[n + 8]? = some (.cells #[.int .i64 0, .int .i64 1] 3)
  h9 : w.heap[n + 9]? = some (.cells #[.int .i64 1, .int .i64 (-2)] 3)
  h10 : w.heap[n + 10]? = some (.cells #[.int .i64 1, .slice (some ⟨n + 8, 0, none⟩) 2 2, .slice (some ⟨n + 9, 0, none⟩) 2 2, .int .i64 3, .int .i64 (-3), .slice none 0 0] 28)
section
variable {w w' : World} {n : Nat}
theorem row_cell {b e : Nat} {cs : Array Value} (h : w.heap[b]? = some (.cells cs e)) (j : Nat) : w.cell? ⟨b, j, none⟩ = cs[j]? := cell_of_row w b j cs e (0, 0) h
theorem nums_two {b : Nat} {x y : Int} (h : w.heap[b]? = some (.cells #[.int .i64 x, .int .i64 y] 3)) (hx : Fit x) (hy : Fit y) : Slc rNum 1 w (.slice (some ⟨b, 0, none⟩) 2 2) [x, y] :=
  two_slc (cs := [.int .i64 x]) (cs' := [.int .i64 y]) rfl rfl (fun j hj => by obtain rfl : j = 0 := by omega
                                                                               rw [row_cell h]; rfl) (fun j hj => by obtain rfl : j = 0 := by omega
                                                                                                                     rw [row_cell h]; rfl) ⟨rfl, hx⟩ ⟨rfl, hy⟩ (Nat.le_refl _)
theorem nums_single {b : Nat} {x : Int} (h : w.heap[b]? = some (.cells #[.int .i64 x] 3)) (hx : Fit x) : Slc rNum 1 w (.slice (some ⟨b, 0, none⟩) 1 1) [x] :=
  one_slc (cs := [.int .i64 x]) rfl (fun j hj => by obtain rfl : j = 0 := by omega
                                                    rw [row_cell h]; rfl) ⟨rfl, hx⟩ (Nat.le_refl _)
theorem spans_one {b : Nat} {x y : Int} (h : w.heap[b]? = some (.cells #[.int .i64 x, .int .i64 y] 60)) (hx : Fit x) (hy : Fit y) : Slc rSpan 2 w (.slice (some ⟨b, 0, none⟩) 1 1) [(x, y)] :=
  one_slc (cs := [.int .i64 x, .int .i64 y]) rfl (fun j hj => by
    rw [row_cell h]
    match j, hj with
    | 0, _ => rfl
    | 1, _ => rfl) ⟨rfl, hx, hy⟩ (Nat.le_refl _)
theorem spans_two {b : Nat} {x y x2 y2 : Int} (h : w.heap[b]? = some (.cells #[.int .i64 x, .int .i64 y, .int .i64 x2, .int .i64 y2] 60)) (hx : Fit x) (hy : Fit y) (hx2 : Fit x2) (hy2 : Fit y2) : Slc rSpan 2 w (.slice (some ⟨b, 0, none⟩) 2 2) [(x, y), (x2, y2)] :=
  two_slc (cs := [.int .i64 x, .int .i64 y]) (cs' := [.int .i64 x2, .int .i64 y2]) rfl rfl (fun j hj => by
    rw [row_cell h]
    match j, hj with
    | 0, _ => rfl
    | 1, _ => rfl) (fun j hj => by
    rw [row_cell h]
    match j, hj with
    | 0, _ => rfl
    | 1, _ => rfl) ⟨rfl, hx, hy⟩ ⟨rfl, hx2, hy2⟩ (Nat.le_refl _)
theorem decls_at {b : Nat} {s : ByteArray} {u : Value} {d : List (Int × Int)} (h : w.heap[b]? = some (.cells #[.string s, u] 47)) (hd : Slc rSpan 2 w u d) : Slc rDecl 2 w (.slice (some ⟨b, 0, none⟩) 1 1) [⟨s.data.toList, d⟩] :=
  one_slc (cs := [.string s, u]) rfl (fun j hj => by
    rw [row_cell h]
    match j, hj with
    | 0, _ => rfl
    | 1, _ => rfl) ⟨s, u, rfl, rfl, hd⟩ (Nat.le_refl _)
theorem con_at {b : Nat} {c : PCon} {u1 u2 u3 : Value} (h : w.heap[b]? = some (.cells #[.int .i64 c.kind, u1, u2, .int .i64 c.rel, .int .i64 c.const, u3] 28)) (hf : Fit c.kind ∧ Fit c.rel ∧ Fit c.const) (h1 : Slc rNum 1 w u1 c.vars) (h2 : Slc rNum 1 w u2 c.coefs) (h3 : Slc rNum 1 w u3 c.nums) : Slc rCon 6 w (.slice (some ⟨b, 0, none⟩) 1 1) [c] :=
  one_slc (cs := [.int .i64 c.kind, u1, u2, .int .i64 c.rel, .int .i64 c.const, u3]) rfl (fun j hj => by
    rw [row_cell h]
    match j, hj with
    | 0, _ => rfl
    | 1, _ => rfl
    | 2, _ => rfl
    | 3, _ => rfl
    | 4, _ => rfl
    | 5, _ => rfl) ⟨u1, u2, u3, rfl, hf, h1, h2, h3⟩ (Nat.le_refl _)
theorem fit_small {x : Int} (h1 : -100 ≤ x) (h2 : x ≤ 100) : Fit x := by unfold Fit; omega
theorem SmallAt.model (h : SmallAt w n) : rModel w [.slice (some ⟨n + 7, 0, none⟩) 2 2, .slice (some ⟨n + 10, 0, none⟩) 1 1] smallM := by
  have f : ∀ {x : Int}, -100 ≤ x → x ≤ 100 → Fit x := fit_small
  have sp := spans_one h.h1 (f (by decide) (by decide)) (f (by decide) (by decide))
  have sp2 := spans_two h.h3 (f (by decide) (by decide)) (f (by decide) (by decide)) (f (by decide) (by decide)) (f (by decide) (by decide))
  have d1 : Slc rDecl 2 w (.slice (some ⟨n + 2, 0, none⟩) 1 1) [⟨[121], [(0, 1)]⟩] := decls_at h.h2 sp
  have d2 : Slc rDecl 2 w (.slice (some ⟨n + 4, 0, none⟩) 1 1) [⟨[120], [(-2, -2), (0, 0)]⟩] := decls_at h.h4 sp2
  have n5 := nums_two h.h5 (f (by decide) (by decide)) (f (by decide) (by decide))
  have n8 := nums_two h.h8 (f (by decide) (by decide)) (f (by decide) (by decide))
  have n9 := nums_two h.h9 (f (by decide) (by decide)) (f (by decide) (by decide))
  have c6 := con_at (c := ⟨5, [0, 1], [], 0, 0, []⟩) h.h6 ⟨f (by decide) (by decide), f (by decide) (by decide), f (by decide) (by decide)⟩ n5 (none_slc _ _ _) (none_slc _ _ _)
  have c10 := con_at (c := ⟨1, [0, 1], [1, -2], 3, -3, []⟩) h.h10 ⟨f (by decide) (by decide), f (by decide) (by decide), f (by decide) (by decide)⟩ n8 n9 (none_slc _ _ _)
  refine ⟨_, _, rfl, ?_, c10⟩
  refine two_slc (cs := [.bool true, .slice (some ⟨n + 2, 0, none⟩) 1 1, .slice none 0 0]) (cs' := [.bool false, .slice (some ⟨n + 4, 0, none⟩) 1 1, .slice (some ⟨n + 6, 0, none⟩) 1 1]) rfl rfl (fun j hj => ?_) (fun j hj => ?_) ⟨_, _, rfl, d1, none_slc _ _ _⟩ ⟨_, _, rfl, d2, c6⟩ (Nat.le_refl _)
  · rw [row_cell h.h7]
    match j, hj with
    | 0, _ => rfl
    | 1, _ => rfl
    | 2, _ => rfl
  · rw [row_cell h.h7]
    match j, hj with
    | 0, _ => rfl
    | 1, _ => rfl
    | 2, _ => rfl
theorem heap_at (w : World) (o : Obj) (k : Nat) : (w.alloc o).heap[k]? = if k = w.heap.size then some o else w.heap[k]? := by
  show (w.heap.push o)[k]? = _
  rw [Array.getElem?_push]
theorem size_at (w : World) (o : Obj) : (w.alloc o).heap.size = w.heap.size + 1 := by simp
def smallW (w : World) : World := ((((((((((w.alloc (.cells #[.slice (some ⟨w.heap.size + 1 + 1 + 1 + 1 + 1 + 1 + 1, 0, none⟩) 2 2, .slice (some ⟨w.heap.size + 1 + 1 + 1 + 1 + 1 + 1 + 1 + 1 + 1 + 1, 0, none⟩) 1 1] 25)).alloc (.cells #[.int .i64 0, .int .i64 1] 60)).alloc
  (.cells #[.string ⟨#[121]⟩, .slice (some ⟨w.heap.size + 1, 0, none⟩) 1 1] 47)).alloc (.cells #[.int .i64 (-2), .int .i64 (-2), .int .i64 0, .int .i64 0] 60)).alloc (.cells #[.string ⟨#[120]⟩, .slice (some ⟨w.heap.size + 1 + 1 + 1, 0, none⟩) 2 2] 47)).alloc
  (.cells #[.int .i64 0, .int .i64 1] 3)).alloc (.cells #[.int .i64 5, .slice (some ⟨w.heap.size + 1 + 1 + 1 + 1 + 1, 0, none⟩) 2 2, .slice none 0 0, .int .i64 0, .int .i64 0, .slice none 0 0] 28)).alloc
  (.cells #[.bool true, .slice (some ⟨w.heap.size + 1 + 1, 0, none⟩) 1 1, .slice none 0 0, .bool false, .slice (some ⟨w.heap.size + 1 + 1 + 1 + 1, 0, none⟩) 1 1, .slice (some ⟨w.heap.size + 1 + 1 + 1 + 1 + 1 + 1, 0, none⟩) 1 1] 44)).alloc (.cells #[.int .i64 0, .int .i64 1] 3)).alloc (.cells #[.int .i64 1, .int .i64 (-2)] 3)).alloc
  (.cells #[.int .i64 1, .slice (some ⟨w.heap.size + 1 + 1 + 1 + 1 + 1 + 1 + 1 + 1, 0, none⟩) 2 2, .slice (some ⟨w.heap.size + 1 + 1 + 1 + 1 + 1 + 1 + 1 + 1 + 1, 0, none⟩) 2 2, .int .i64 3, .int .i64 (-3), .slice none 0 0] 28)
theorem small_at (w : World) : SmallAt (smallW w) w.heap.size ∧ Below w.heap.size w (smallW w) := by
  unfold smallW
  refine ⟨⟨?_, ?_, ?_, ?_, ?_, ?_, ?_, ?_, ?_, ?_, ?_⟩, ?_⟩
  case refine_12 => exact (((((((((((Below.refl _ w).alloc (Nat.le_refl _) _).alloc (by simp) _).alloc (by simp; omega) _).alloc (by simp; omega) _).alloc (by simp; omega) _).alloc (by simp; omega) _).alloc (by simp; omega) _).alloc (by simp; omega) _).alloc (by simp; omega) _).alloc (by simp; omega) _).alloc (by simp; omega) _
  all_goals simp only [heap_at, size_at]
  all_goals repeat (first | rw [if_pos trivial] | rw [if_pos rfl] | rw [if_neg (by omega)])
set_option maxHeartbeats 2000000 in
theorem small_any (w : World) : Calls Tryd.prog 13 #[] w fun e w' => ∃ p1 p2, e = .returned (.agg #[.slice p1 2 2, .slice p2 1 1]) ∧ rModel w' [.slice p1 2 2, .slice p2 1 1] smallM ∧ Below w.heap.size w w' := by
  have H := Lib.hid (small_at w)
  have HW := Lib.hid (show smallW w = _ from rfl)
  go_enter Tryd.func13, Tryd.ntmps13
  go_wp2_with fail
  (try simp only [Exit.inBlock, Exit.then])
  refine bodyPost_ret (results_mod rfl _ _ w.heap.size (.slice (some ⟨w.heap.size + 7, 0, none⟩) 2 2) (.slice (some ⟨w.heap.size + 10, 0, none⟩) 1 1) rfl ?_ ?_) rfl ?_
  · exact row_cell (w := smallW w) H.out.1.h0 0
  · exact row_cell (w := smallW w) H.out.1.h0 1
  · exact ⟨_, _, rfl, (H.out.1.model : rModel (smallW w) _ _), (H.out.2 : Below w.heap.size w (smallW w))⟩
end
/- what is told of it -/
theorem vars_sd : VarsTo ([0, 1] : List Int) 2 ([0, 1] : List Int).length := fun i hi => by
  have hi : i < 2 := hi
  match i, hi with
  | 0, _ => exact ⟨by decide, fun j hj => by omega⟩
  | 1, _ => exact ⟨by decide, fun j hj => by obtain rfl : j = 0 := by omega
                                             decide⟩
theorem vars_ds : VarsTo ([1, 0] : List Int) 2 ([1, 0] : List Int).length := fun i hi => by
  have hi : i < 2 := hi
  match i, hi with
  | 0, _ => exact ⟨by decide, fun j hj => by omega⟩
  | 1, _ => exact ⟨by decide, fun j hj => by obtain rfl : j = 0 := by omega
                                             decide⟩
theorem right_s5 : rightC ⟨5, [0, 1], [], 0, 0, []⟩ 2 = true := by
  rw [right_on vars_sd]
  decide
theorem right_s1 : rightC ⟨1, [0, 1], [1, -2], 3, -3, []⟩ 2 = true := by
  rw [right_on vars_sd]
  decide
theorem right_el : rightC ⟨4, [1, 0], [], 0, 0, [-1]⟩ 2 = true := by
  rw [right_on vars_ds]
  decide
theorem right_no : rightC ⟨0, [], [], 0, 0, []⟩ 2 = false := by
  rw [right_on (fun i hi => by simp at hi)]
  decide
theorem vars_small : varsL smallM.blocks = [⟨[121], [(0, 1)]⟩, ⟨[120], [(-2, -2), (0, 0)]⟩] := rfl
theorem check_small : checkM smallM = 0 := by
  have h1 : bigM smallM = false := rfl
  have h2 : formM smallM = false := rfl
  have h3 : nameM smallM = false := by
    unfold nameM
    rw [vars_small]
    decide
  have h4 : twiceM smallM = false := by
    refine twice_false rfl ?_
    rintro ⟨i, j, hj, hi, e⟩
    have hi : i < 2 := hi
    obtain rfl : i = 1 := by omega
    obtain rfl : j = 0 := by omega
    revert e
    decide
  have h5 : domM smallM = false := by
    unfold domM
    rw [vars_small]
    decide
  have h6 : conM smallM = false := by
    unfold conM
    rw [vars_small]
    simp [smallM, conF, wrongL, right_s5, right_s1]
  simp [checkM, faultsM, firstF, h1, h2, h3, h4, h5, h6]
theorem few_small : Few smallM := by
  refine ⟨by decide, by decide, ?_, ?_, by decide, by decide⟩
  · intro b hb
    simp only [smallM, List.mem_cons, List.not_mem_nil, or_false] at hb
    rcases hb with rfl | rfl
    · exact ⟨by decide, fun c hc => by simp at hc⟩
    · refine ⟨by decide, fun c hc => ?_⟩
      simp only [List.mem_cons, List.not_mem_nil, or_false] at hc
      subst hc
      exact ⟨by decide, by decide, by decide⟩
  · refine ⟨by decide, fun c hc => ?_⟩
    simp only [smallM, List.mem_cons, List.not_mem_nil, or_false] at hc
    subst hc
    exact ⟨by decide, by decide, by decide⟩
theorem text_key (nm : Int → Tok) (hn0 : nm 0 = tW [121]) (hn1 : nm 1 = tW [120]) : textL nm smallM = [102, 111, 114, 97, 108, 108, 32, 121, 32, 105, 110, 32, 48, 32, 46, 46, 32, 49, 32, 59, 10, 101, 120, 105, 115, 116, 115, 32, 120, 32, 105, 110, 32, 45, 32, 50, 32, 48, 32, 119, 104, 101, 114, 101, 32, 100, 105, 102, 102, 101, 114, 101, 110, 116, 32, 121, 32, 120, 32, 59, 10, 103, 111, 97, 108, 32, 121, 32, 45, 32, 50, 32, 42, 32, 120, 32, 60, 61, 32, 45, 32, 51, 32, 59, 10] := by
  have d0 : digs 0 = [48] := digs_small (by decide)
  have d1 : digs 1 = [49] := digs_small (by decide)
  have d2 : digs 2 = [50] := digs_small (by decide)
  have d3 : digs 3 = [51] := digs_small (by decide)
  rw [text_eq]
  simp [smallM, blockL, declsT, declT, spanT, numT, tN, tM, tW, spT, d0, d1, d2, d3, listT, conT, sumsT, sumT, signT, coefT, relT, relsL, wordT, hn0, hn1, tForall, tExists, tIn, tDots, tMinus, tStar, tDifferent]
theorem text_small : textL (nmT (namesM smallM)) smallM = [102, 111, 114, 97, 108, 108, 32, 121, 32, 105, 110, 32, 48, 32, 46, 46, 32, 49, 32, 59, 10, 101, 120, 105, 115, 116, 115, 32, 120, 32, 105, 110, 32, 45, 32, 50, 32, 48, 32, 119, 104, 101, 114, 101, 32, 100, 105, 102, 102, 101, 114, 101, 110, 116, 32, 121, 32, 120, 32, 59, 10, 103, 111, 97, 108, 32, 121, 32, 45, 32, 50, 32, 42, 32, 120, 32, 60, 61, 32, 45, 32, 51, 32, 59, 10] := text_key _ rfl rfl
theorem ans_small : textA smallM = ([102, 111, 114, 97, 108, 108, 32, 121, 32, 105, 110, 32, 48, 32, 46, 46, 32, 49, 32, 59, 10, 101, 120, 105, 115, 116, 115, 32, 120, 32, 105, 110, 32, 45, 32, 50, 32, 48, 32, 119, 104, 101, 114, 101, 32, 100, 105, 102, 102, 101, 114, 101, 110, 116, 32, 121, 32, 120, 32, 59, 10, 103, 111, 97, 108, 32, 121, 32, 45, 32, 50, 32, 42, 32, 120, 32, 60, 61, 32, 45, 32, 51, 32, 59, 10], 0) := by
  unfold textA
  rw [if_pos check_small, text_small, if_neg (by decide)]
theorem ans_el : conA smallM ⟨4, [1, 0], [], 0, 0, [-1]⟩ = ([101, 108, 101, 109, 101, 110, 116, 32, 120, 32, 121, 32, 91, 32, 45, 32, 49, 32, 93], 0) := by
  have d1 : digs 1 = [49] := digs_small (by decide)
  have hn0 : nmT (namesM smallM) 0 = tW [121] := rfl
  have hn1 : nmT (namesM smallM) 1 = tW [120] := rfl
  unfold conA
  rw [if_pos check_small, vars_small, if_pos (show rightC ⟨4, [1, 0], [], 0, 0, [-1]⟩ (([⟨[121], [(0, 1)]⟩, ⟨[120], [(-2, -2), (0, 0)]⟩] : List PDecl).length : Int) = true from right_el)]
  generalize nmT (namesM smallM) = nm at hn0 hn1
  simp [numT, tN, tM, tW, spT, d1, conT, numsT, wordT, hn0, hn1, tElement, tMinus, tOpen, tShut]
theorem ans_no : conA smallM ⟨0, [], [], 0, 0, []⟩ = ([], 12) := by
  unfold conA
  rw [if_pos check_small, vars_small, if_neg (by show ¬ rightC ⟨0, [], [], 0, 0, []⟩ 2 = true; rw [right_no]; decide)]
def noneM : PModel := ⟨[], []⟩
theorem few_none : Few noneM := by
  refine ⟨?_, ?_, ?_, ?_, ?_, ?_⟩ <;> simp [noneM, varsL]
theorem ans_none : textA noneM = ([], 2) := by
  have h1 : bigM noneM = false := rfl
  have h2 : formM noneM = true := rfl
  have hc : checkM noneM = 2 := by simp [checkM, faultsM, firstF, h1, h2]
  unfold textA
  rw [if_neg (by rw [hc]; decide), hc]
theorem none_model (w : World) : rModel w [.slice none 0 0, .slice none 0 0] noneM := ⟨_, _, rfl, none_slc _ _ _, none_slc _ _ _⟩
end Go.Proofs.YtkgieaoahijheaaDoor.Wt
namespace Go.Proofs.YtkgieaoahijheaaDoor.Wt
open Go.RowKit
open Sc (Tok)
set_option maxRecDepth 100000

theorem Tb.up {w u : World} (h : Tb w.heap.size w) (hB : Below w.heap.size w u) : Tb u.heap.size u := by
  obtain ⟨g, h1, h2, h3⟩ := h.below hB
  exact ⟨g, h1, Nat.lt_of_lt_of_le h2 hB.size, h3⟩
set_option maxHeartbeats 4000000 in
theorem awake_any (w : World) (ht : Tb w.heap.size w) : Calls Tryd.prog 4 #[] w fun e w' => e = .returned (.bool true) ∧ Below w.heap.size w w' := by
  have HT := Lib.hid ht
  have SM := Lib.hid (fun u => small_any u)
  have TX := Lib.hid (fun (u : World) (v1 v2 : Value) (hm : rModel u [v1, v2] smallM) (hb : Below w.heap.size w u) => ptext_any hm few_small (HT.out.up hb))
  have NX := Lib.hid (fun (u : World) (hb : Below w.heap.size w u) => ptext_any (none_model u) few_none (HT.out.up hb))
  have CX := Lib.hid (fun (u : World) (v1 v2 : Value) (hm : rModel u [v1, v2] smallM) (hb : Below w.heap.size w u) => pcon_any (c := ⟨0, [], [], 0, 0, []⟩) (v1 := .slice none 0 0) (v2 := .slice none 0 0) (v3 := .slice none 0 0) hm few_small ⟨_, _, _, rfl, ⟨fit_small (by decide) (by decide), fit_small (by decide) (by decide), fit_small (by decide) (by decide)⟩, none_slc _ _ _, none_slc _ _ _, none_slc _ _ _⟩ ⟨by decide, by decide, by decide⟩ (HT.out.up hb))
  have EX := Lib.hid (fun (u : World) (v1 v2 u1 u3 : Value) (hm : rModel u [v1, v2] smallM) (h1 : Slc rNum 1 u u1 [1, 0]) (h3 : Slc rNum 1 u u3 [-1]) (hb : Below w.heap.size w u) => pcon_any (c := ⟨4, [1, 0], [], 0, 0, [-1]⟩) (v1 := u1) (v2 := .slice none 0 0) (v3 := u3) hm few_small ⟨_, _, _, rfl, ⟨fit_small (by decide) (by decide), fit_small (by decide) (by decide), fit_small (by decide) (by decide)⟩, h1, none_slc _ _ _, h3⟩ ⟨by decide, by decide, by decide⟩ (HT.out.up hb))
  rw [ans_small] at TX
  rw [ans_none] at NX
  rw [ans_no] at CX
  rw [ans_el] at EX
  obtain ⟨T1, hT1⟩ : ∃ T1 : List UInt8, T1 = [102, 111, 114, 97, 108, 108, 32, 121, 32, 105, 110, 32, 48, 32, 46, 46, 32, 49, 32, 59, 10, 101, 120, 105, 115, 116, 115, 32, 120, 32, 105, 110, 32, 45, 32, 50, 32, 48, 32, 119, 104, 101, 114, 101, 32, 100, 105, 102, 102, 101, 114, 101, 110, 116, 32, 121, 32, 120, 32, 59, 10, 103, 111, 97, 108, 32, 121, 32, 45, 32, 50, 32, 42, 32, 120, 32, 60, 61, 32, 45, 32, 51, 32, 59, 10] := ⟨_, rfl⟩
  obtain ⟨T2, hT2⟩ : ∃ T2 : List UInt8, T2 = [101, 108, 101, 109, 101, 110, 116, 32, 120, 32, 121, 32, 91, 32, 45, 32, 49, 32, 93] := ⟨_, rfl⟩
  simp only [← hT1] at TX
  simp only [← hT2] at EX
  have H1 := Lib.hid hT1
  have H2 := Lib.hid hT2
  have q1 : binOp .eql 9 (.string ⟨T1.toArray⟩) (.string ⟨(([102, 111, 114, 97, 108, 108, 32, 121, 32, 105, 110, 32, 48, 32, 46, 46, 32, 49, 32, 59, 10, 101, 120, 105, 115, 116, 115, 32, 120, 32, 105, 110, 32, 45, 32, 50, 32, 48, 32, 119, 104, 101] : List UInt8).append [114, 101, 32, 100, 105, 102, 102, 101, 114, 101, 110, 116, 32, 121, 32, 120, 32, 59, 10, 103, 111, 97, 108, 32, 121, 32, 45, 32, 50, 32, 42, 32, 120, 32, 60, 61, 32, 45, 32, 51, 32, 59, 10]).toArray⟩) = pure (.bool true) := by
    rw [eql_str, hT1]
    rfl
  have q2 : binOp .eql 9 (.string ⟨T1.toArray⟩) (.string ⟨(([102, 111, 114, 97, 108, 108, 32, 121, 32, 105, 110, 32, 48, 32, 46, 46, 32, 49, 32, 59, 10, 101, 120, 105, 115, 116, 115, 32, 120, 32, 105, 110, 32, 45, 32, 50, 32, 48, 32, 119, 104, 101] : List UInt8) ++ [114, 101, 32, 100, 105, 102, 102, 101, 114, 101, 110, 116, 32, 121, 32, 120, 32, 59, 10, 103, 111, 97, 108, 32, 121, 32, 45, 32, 50, 32, 42, 32, 120, 32, 60, 61, 32, 45, 32, 51, 32, 59, 10]).toArray⟩) = pure (.bool true) := q1
  have q3 : binOp .eql 9 (.string ⟨T1.toArray⟩) (.string ⟨#[102, 111, 114, 97, 108, 108, 32, 121, 32, 105, 110, 32, 48, 32, 46, 46, 32, 49, 32, 59, 10, 101, 120, 105, 115, 116, 115, 32, 120, 32, 105, 110, 32, 45, 32, 50, 32, 48, 32, 119, 104, 101, 114, 101, 32, 100, 105, 102, 102, 101, 114, 101, 110, 116, 32, 121, 32, 120, 32, 59, 10, 103, 111, 97, 108, 32, 121, 32, 45, 32, 50, 32, 42, 32, 120, 32, 60, 61, 32, 45, 32, 51, 32, 59, 10]⟩) = pure (.bool true) := q1
  have q4 : binOp .eql 9 (.string ⟨T2.toArray⟩) (.string ⟨#[101, 108, 101, 109, 101, 110, 116, 32, 120, 32, 121, 32, 91, 32, 45, 32, 49, 32, 93]⟩) = pure (.bool true) := by
    have := eql_str T2 [101, 108, 101, 109, 101, 110, 116, 32, 120, 32, 121, 32, 91, 32, 45, 32, 49, 32, 93]
    rw [hT2] at this ⊢
    exact this
  clear ht hT1 hT2
  go_enter Tryd.func4, Tryd.ntmps4
  go_wp2_with fail
  refine (SM.out _).mono ?_
  rintro e w1 ⟨p1, p2, rfl, hm1, hB1⟩
  have M1 := Lib.hid hm1
  have B1 := Lib.hid hB1
  clear hm1 hB1
  go_wp2_with fail
  refine (TX.out _ _ _ M1.out B1.out).mono ?_
  rintro e w2 ⟨rfl, hB⟩
  have B2 := Lib.hid (B1.out.trans (hB.mono B1.out.size))
  clear hB
  go_wp2_with fail
  refine (SM.out _).mono ?_
  rintro e w3 ⟨p3, p4, rfl, hm3, hB⟩
  have k3 := (Below.refl _ w3).alloc (Nat.le_refl _) (.cells #[.int .i64 1, .int .i64 0] 3)
  have r3 := heap_alloc_new w3 (.cells #[.int .i64 1, .int .i64 0] 3)
  have k4 := (Below.refl _ (w3.alloc (.cells #[.int .i64 1, .int .i64 0] 3))).alloc (Nat.le_refl _) (.cells #[.int .i64 (-1)] 3)
  have r4 := heap_alloc_new (w3.alloc (.cells #[.int .i64 1, .int .i64 0] 3)) (.cells #[.int .i64 (-1)] 3)
  have k5 := k3.trans (k4.mono k3.size)
  have s3 : (w3.alloc (.cells #[.int .i64 1, .int .i64 0] 3)).heap.size = w3.heap.size + 1 := by simp
  rw [s3] at r4
  have M3 := Lib.hid (rModel_stays _ _ _ _ k5 hm3)
  have B3 := Lib.hid (B2.out.trans (hB.mono B2.out.size))
  have N1 := Lib.hid (nums_two ((k4.block _ (by rw [s3]; omega)).trans r3) (fit_small (by decide) (by decide)) (fit_small (by decide) (by decide)))
  have N2 := Lib.hid (nums_single r4 (fit_small (by decide) (by decide)))
  have B5 := Lib.hid (B3.out.trans (k5.mono B3.out.size))
  clear hB hm3 k3 r3 k4 r4 k5 s3
  go_wp2_with fail
  refine (EX.out _ _ _ _ _ M3.out N1.out N2.out B5.out).mono ?_
  rintro e w6 ⟨rfl, hB⟩
  have B6 := Lib.hid (B5.out.trans (hB.mono B5.out.size))
  clear hB
  go_wp2_with fail
  refine (NX.out _ B6.out).mono ?_
  rintro e w7 ⟨rfl, hB⟩
  have B7 := Lib.hid (B6.out.trans (hB.mono B6.out.size))
  clear hB
  go_wp2_with fail
  refine (SM.out _).mono ?_
  rintro e w8 ⟨p5, p6, rfl, hm8, hB⟩
  have M8 := Lib.hid hm8
  have B8 := Lib.hid (B7.out.trans (hB.mono B7.out.size))
  clear hB hm8
  go_wp2_with fail
  refine (CX.out _ _ _ M8.out B8.out).mono ?_
  rintro e w9 ⟨rfl, hB⟩
  have B9 := Lib.hid (B8.out.trans (hB.mono B8.out.size))
  clear hB
  go_wp2_with fail
  go_ret
  exact ⟨rfl, B9.out⟩
end Go.Proofs.YtkgieaoahijheaaDoor.Wt
