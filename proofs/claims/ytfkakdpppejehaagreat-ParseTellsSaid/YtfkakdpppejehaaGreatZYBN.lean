/-
  The texts that awake of the laws parses: what comes of them. Nothing of the program.
  The model that awake of the laws wants, in memory. Nothing of the program's text.
  What Parse of the program answers, at every text; what awake of the laws answers.
  The law ParseTells, at every text.
  The last step of every law's proof, once for all programs: a call that answers true and leaves what was there as it was meets its row's post: every argument reads as it read before. Nothing of the program.
-/
import Derived.Test.YtfkakdpppejehaaGreatZYBF
import Derived.Test.YtfkakdpppejehaaGreatZYBH
import Derived.Test.YtfkakdpppejehaaGreatZYBM
import Derived.Test.YtfkakdpppejehaaGreatZYBI
import Derived.WalkKit
import Derived.ProofKit
import Derived.OpenShut
import Derived.ChangeStays
import Derived.ReadAgain
import Derived.ChangeSame
import Derived.Below
namespace Go.Proofs.YtfkakdpppejehaaGreat.Pp
open Sc (Tok scanL)
open Pa
set_option maxRecDepth 100000

def aw1 : ByteArray := ⟨#[102, 111, 114, 97, 108, 108, 32, 121, 32, 105, 110, 32, 48, 46, 46, 49, 59, 32, 101, 120, 105, 115, 116, 115, 32, 120, 32, 105, 110, 32, 48, 46, 46, 49, 32, 119, 104, 101, 114, 101, 32, 116, 97, 98, 108, 101, 32, 120, 32, 121, 32, 91, 49, 32, 45, 49, 93, 59, 32, 103, 111, 97, 108, 32, 121, 32, 45, 32, 50, 32, 42, 32, 120, 32, 60, 61, 32, 45, 51, 59]⟩
def tk1 : List Tok := [⟨1, [102, 111, 114, 97, 108, 108], 0, 0⟩, ⟨1, [121], 0, 7⟩, ⟨1, [105, 110], 0, 9⟩, ⟨2, [48], 0, 12⟩, ⟨3, [46, 46], 0, 13⟩, ⟨2, [49], 1, 15⟩, ⟨3, [59], 0, 16⟩, ⟨1, [101, 120, 105, 115, 116, 115], 0, 18⟩, ⟨1, [120], 0, 25⟩, ⟨1, [105, 110], 0, 27⟩, ⟨2, [48], 0, 30⟩, ⟨3, [46, 46], 0, 31⟩, ⟨2, [49], 1, 33⟩, ⟨1, [119, 104, 101, 114, 101], 0, 35⟩, ⟨1, [116, 97, 98, 108, 101], 0, 41⟩, ⟨1, [120], 0, 47⟩, ⟨1, [121], 0, 49⟩, ⟨3, [91], 0, 51⟩, ⟨2, [49], 1, 52⟩, ⟨3, [45], 0, 54⟩, ⟨2, [49], 1, 55⟩, ⟨3, [93], 0, 56⟩, ⟨3, [59], 0, 57⟩, ⟨1, [103, 111, 97, 108], 0, 59⟩, ⟨1, [121], 0, 64⟩, ⟨3, [45], 0, 66⟩, ⟨2, [50], 2, 68⟩, ⟨3, [42], 0, 70⟩, ⟨1, [120], 0, 72⟩, ⟨3, [60, 61], 0, 74⟩, ⟨3, [45], 0, 77⟩, ⟨2, [51], 3, 78⟩, ⟨3, [59], 0, 79⟩]
theorem scan_aw1 : scanL 0 (txt aw1) = .ok tk1 := by kernel_rfl
def aw2 : ByteArray := ⟨#[102, 111, 114, 97, 108, 108, 32, 121, 32, 105, 110, 32, 48, 46, 46, 49, 59, 32, 103, 111, 97, 108, 32, 122, 32, 61, 32, 48, 59]⟩
def tk2 : List Tok := [⟨1, [102, 111, 114, 97, 108, 108], 0, 0⟩, ⟨1, [121], 0, 7⟩, ⟨1, [105, 110], 0, 9⟩, ⟨2, [48], 0, 12⟩, ⟨3, [46, 46], 0, 13⟩, ⟨2, [49], 1, 15⟩, ⟨3, [59], 0, 16⟩, ⟨1, [103, 111, 97, 108], 0, 18⟩, ⟨1, [122], 0, 23⟩, ⟨3, [61], 0, 25⟩, ⟨2, [48], 0, 27⟩, ⟨3, [59], 0, 28⟩]
theorem scan_aw2 : scanL 0 (txt aw2) = .ok tk2 := by kernel_rfl
def aw3 : ByteArray := ⟨#[102, 111, 114, 97, 108, 108, 32, 121, 32, 105, 110, 32, 48, 59, 32, 103, 111, 97, 108, 32, 116, 114, 117, 101]⟩
def tk3 : List Tok := [⟨1, [102, 111, 114, 97, 108, 108], 0, 0⟩, ⟨1, [121], 0, 7⟩, ⟨1, [105, 110], 0, 9⟩, ⟨2, [48], 0, 12⟩, ⟨3, [59], 0, 13⟩, ⟨1, [103, 111, 97, 108], 0, 15⟩, ⟨1, [116, 114, 117, 101], 0, 20⟩]
theorem scan_aw3 : scanL 0 (txt aw3) = .ok tk3 := by kernel_rfl
def aw4 : ByteArray := ⟨#[102, 111, 114, 97, 108, 108, 32, 121, 32, 105, 110, 32, 49, 46, 46, 48, 59, 32, 103, 111, 97, 108, 32, 116, 114, 117, 101, 59]⟩
def tk4 : List Tok := [⟨1, [102, 111, 114, 97, 108, 108], 0, 0⟩, ⟨1, [121], 0, 7⟩, ⟨1, [105, 110], 0, 9⟩, ⟨2, [49], 1, 12⟩, ⟨3, [46, 46], 0, 13⟩, ⟨2, [48], 0, 15⟩, ⟨3, [59], 0, 16⟩, ⟨1, [103, 111, 97, 108], 0, 18⟩, ⟨1, [116, 114, 117, 101], 0, 23⟩, ⟨3, [59], 0, 27⟩]
theorem scan_aw4 : scanL 0 (txt aw4) = .ok tk4 := by kernel_rfl
def wantM : PModel := ⟨[⟨true, [⟨[121], [(0, 1)]⟩], []⟩, ⟨false, [⟨[120], [(0, 1)]⟩], [⟨6, [1, 0], [], 0, 0, [1, -1]⟩]⟩], [⟨1, [0, 1], [1, -2], 3, -3, []⟩]⟩
def fourM : PModel := ⟨[⟨true, [⟨[121], [(1, 0)]⟩], []⟩], []⟩
theorem body_aw1 : bodyR 10000 tk1 Pa.start = (wantM, ⟨33, false, [[121], [120]], none⟩) := by kernel_rfl
theorem body_aw2 : (bodyR 10000 tk2 Pa.start).2 = ⟨12, false, [[121]], some 23⟩ := by kernel_rfl
theorem body_aw3 : (bodyR 10000 tk3 Pa.start).2.wrong = true ∧ (bodyR 10000 tk3 Pa.start).2.at_ = 7 := ⟨by kernel_rfl, by kernel_rfl⟩
theorem body_aw4 : bodyR 10000 tk4 Pa.start = (fourM, ⟨10, false, [[121]], none⟩) := by kernel_rfl
theorem vars_table : VarsTo ([1, 0] : List Int) 2 ([1, 0] : List Int).length := fun i hi => by
  have hi : i < 2 := hi
  match i, hi with
  | 0, _ => exact ⟨by decide, fun j hj => by omega⟩
  | 1, _ => exact ⟨by decide, fun j hj => by obtain rfl : j = 0 := by omega
                                             decide⟩
theorem vars_sum : VarsTo ([0, 1] : List Int) 2 ([0, 1] : List Int).length := fun i hi => by
  have hi : i < 2 := hi
  match i, hi with
  | 0, _ => exact ⟨by decide, fun j hj => by omega⟩
  | 1, _ => exact ⟨by decide, fun j hj => by obtain rfl : j = 0 := by omega
                                             decide⟩
theorem right_table : rightC ⟨6, [1, 0], [], 0, 0, [1, -1]⟩ 2 = true := by
  rw [right_on vars_table]
  decide
theorem right_sum : rightC ⟨1, [0, 1], [1, -2], 3, -3, []⟩ 2 = true := by
  rw [right_on vars_sum]
  decide
theorem vars_want : varsL wantM.blocks = [⟨[121], [(0, 1)]⟩, ⟨[120], [(0, 1)]⟩] := rfl
theorem vars_four : varsL fourM.blocks = [⟨[121], [(1, 0)]⟩] := rfl
theorem twice_want : twiceM wantM = false := by
  refine twice_false rfl ?_
  rintro ⟨i, j, hj, hi, e⟩
  have hi : i < 2 := hi
  obtain rfl : i = 1 := by omega
  obtain rfl : j = 0 := by omega
  revert e
  decide
theorem twice_four : twiceM fourM = false := by
  refine twice_false rfl ?_
  rintro ⟨i, j, hj, hi, e⟩
  have hi : i < 1 := hi
  omega
theorem big_want : bigM wantM = false := rfl
theorem form_want : formM wantM = false := rfl
theorem name_want : nameM wantM = false := by
  unfold nameM
  rw [vars_want]
  decide
theorem dom_want : domM wantM = false := by
  unfold domM
  rw [vars_want]
  decide
theorem con_want : conM wantM = false := by
  unfold conM
  rw [vars_want]
  simp [wantM, conF, wrongL, right_table, right_sum]
theorem check_want : checkM wantM = 0 := by simp [checkM, faultsM, firstF, big_want, form_want, name_want, twice_want, dom_want, con_want]
theorem big_four : bigM fourM = false := rfl
theorem form_four : formM fourM = false := rfl
theorem name_four : nameM fourM = false := by
  unfold nameM
  rw [vars_four]
  decide
theorem dom_four : domM fourM = true := by
  unfold domM
  rw [vars_four]
  decide
theorem check_four : checkM fourM = 1 := by simp [checkM, faultsM, firstF, big_four, form_four, name_four, twice_four, dom_four]
theorem same_want : sameM wantM wantM = true := by decide
theorem few_want : Few wantM := by
  have := few_body (K := 10000) (T := tk1) (by decide) (by decide) (by rw [body_aw1])
  rw [body_aw1] at this
  exact this
theorem parse_aw1 : parseT 10000 tk1 80 = .model wantM := by
  unfold parseT outT
  rw [body_aw1]
  simp only
  rw [if_neg (by decide), if_pos check_want]
theorem parse_aw2 : parseT 10000 tk2 29 = .err 23 7 := by
  unfold parseT outT
  rw [body_aw2]
  simp only
  rw [if_neg (by decide)]
theorem parse_aw3 : parseT 10000 tk3 24 = .err 24 2 := by
  unfold parseT outT
  rw [if_pos (.inl body_aw3.1), body_aw3.2]
  rfl
theorem parse_aw4 : parseT 10000 tk4 28 = .err 0 1 := by
  unfold parseT outT
  rw [body_aw4]
  simp only
  rw [if_neg (by decide), check_four, if_neg (by decide)]
end Go.Proofs.YtfkakdpppejehaaGreat.Pp
namespace Go.Proofs.YtfkakdpppejehaaGreat.Pp
open Go.RowKit
open Pa
set_option maxRecDepth 100000

theorem one_slc {α : Type} {R : Reader α} {n : Nat} {w : World} {b c : Nat} {a : α} {cs : List Value} (hl : cs.length = n) (hc : ∀ j, j < n → w.cell? ⟨b, j, none⟩ = cs[j]?) (hR : R w cs a) (h1 : 1 ≤ c) : Slc R n w (.slice (some ⟨b, 0, none⟩) 1 c) [a] := by
  refine ⟨_, b, 0, c, 1, rfl, ⟨(fun h => by cases h), h1⟩, rfl, fun _ => rfl, fun k x hx => ?_⟩
  have hk := (List.getElem?_eq_some_iff.1 hx).1
  obtain rfl : k = 0 := by simp at hk; omega
  cases hx
  refine ⟨cs, hl, fun j hj => ?_, hR⟩
  simpa using hc j hj
theorem two_slc {α : Type} {R : Reader α} {n : Nat} {w : World} {b c : Nat} {a a' : α} {cs cs' : List Value} (hl : cs.length = n) (hl' : cs'.length = n) (hc : ∀ j, j < n → w.cell? ⟨b, j, none⟩ = cs[j]?) (hc' : ∀ j, j < n → w.cell? ⟨b, n + j, none⟩ = cs'[j]?) (hR : R w cs a) (hR' : R w cs' a') (h1 : 2 ≤ c) : Slc R n w (.slice (some ⟨b, 0, none⟩) 2 c) [a, a'] := by
  refine ⟨_, b, 0, c, 2, rfl, ⟨(fun h => by cases h), h1⟩, rfl, fun _ => rfl, fun k x hx => ?_⟩
  have hk := (List.getElem?_eq_some_iff.1 hx).1
  match k, hk with
  | 0, _ =>
    cases hx
    refine ⟨cs, hl, fun j hj => ?_, hR⟩
    simpa using hc j hj
  | 1, _ =>
    cases hx
    refine ⟨cs', hl', fun j hj => ?_, hR'⟩
    rw [Nat.one_mul, Nat.zero_add]
    exact hc' j hj
theorem none_slc {α : Type} (R : Reader α) (n : Nat) (w : World) : Slc R n w (.slice none 0 0) ([] : List α) := ⟨none, 0, 0, 0, 0, rfl, ⟨fun _ => rfl, Nat.le_refl _⟩, rfl, fun h => by omega, fun k a h => by simp at h⟩
/-- its blocks, from block n on -/
structure WantAt (w : World) (n : Nat) : Prop where
  h0 : w.heap[n]? = some (.cells #[.int .i64 0, .int .i64 1] 33)
  h1 : w.heap[n + 1]? = some (.cells #[.string ⟨#[121]⟩, .slice (some ⟨n, 0, none⟩) 1 1] 36)
  h2 : w.heap[n + 2]? = some (.cells #[.string ⟨#[120]⟩, .slice (some ⟨n, 0, none⟩) 1 1] 36)
  h3 : w.heap[n + 3]? = some (.cells #[.int .i64 1, .int .i64 0] 3)
  h4 : w.heap[n + 4]? = some (.cells #[.int .i64 1, .int .i64 (-1)] 3)
  h5 : w.heap[n + 5]? = some (.cells #[.int .i64 6, .slice (some ⟨n + 3, 0, none⟩) 2 2, .slice none 0 0, .int .i64 0, .int .i64 0, .slice (some ⟨n + 4, 0, none⟩) 2 2] 42)
  h6 : w.heap[n + 6]? = some (.cells #[.bool true, .slice (some ⟨n + 1, 0, none⟩) 1 1, .slice none 0 0, .bool false, .slice (some ⟨n + 2, 0, none⟩) 1 1, .slice (some ⟨n + 5, 0, none⟩) 1 1] 39)
  h7 : w.heap[n + 7]? = some (.cells #[.int .i64 0, .int .i64 1] 3)
  h8 : w.heap[n + 8]? = some (.cells #[.int .i64 1, .int .i64 (-2)] 3)
  h9 : w.heap[n + 9]? = some (.cells #[.int .i64 1, .slice (some ⟨n + 7, 0, none⟩) 2 2, .slice (some ⟨n + 8, 0, none⟩) 2 2, .int .i64 3, .int .i64 (-3), .slice none 0 0] 42)
  h10 : w.heap[n + 10]? = some (.cells #[.slice (some ⟨n + 6, 0, none⟩) 2 2, .slice (some ⟨n + 9, 0, none⟩) 1 1] 26)
section
variable {w w' : World} {n : Nat}
theorem WantAt.below (h : WantAt w n) (hB : Below w.heap.size w w') : WantAt w' n := by
  have k : ∀ (b : Nat) (o : Obj), w.heap[b]? = some o → w'.heap[b]? = some o := fun b o e => (hB.block b (Array.getElem?_eq_some_iff.1 e).1).trans e
  exact ⟨k _ _ h.h0, k _ _ h.h1, k _ _ h.h2, k _ _ h.h3, k _ _ h.h4, k _ _ h.h5, k _ _ h.h6, k _ _ h.h7, k _ _ h.h8, k _ _ h.h9, k _ _ h.h10⟩
theorem row_cell {b e : Nat} {cs : Array Value} (h : w.heap[b]? = some (.cells cs e)) (j : Nat) : w.cell? ⟨b, j, none⟩ = cs[j]? := cell_of_row w b j cs e (0, 0) h
theorem nums_two {b : Nat} {x y : Int} (h : w.heap[b]? = some (.cells #[.int .i64 x, .int .i64 y] 3)) (hx : Fit x) (hy : Fit y) : Slc rNum 1 w (.slice (some ⟨b, 0, none⟩) 2 2) [x, y] :=
  two_slc (cs := [.int .i64 x]) (cs' := [.int .i64 y]) rfl rfl (fun j hj => by obtain rfl : j = 0 := by omega
                                                                               rw [row_cell h]; rfl) (fun j hj => by obtain rfl : j = 0 := by omega
                                                                                                                     rw [row_cell h]; rfl) ⟨rfl, hx⟩ ⟨rfl, hy⟩ (Nat.le_refl _)
theorem spans_one {b : Nat} {x y : Int} (h : w.heap[b]? = some (.cells #[.int .i64 x, .int .i64 y] 33)) (hx : Fit x) (hy : Fit y) : Slc rSpan 2 w (.slice (some ⟨b, 0, none⟩) 1 1) [(x, y)] :=
  one_slc (cs := [.int .i64 x, .int .i64 y]) rfl (fun j hj => by
    rw [row_cell h]
    match j, hj with
    | 0, _ => rfl
    | 1, _ => rfl) ⟨rfl, hx, hy⟩ (Nat.le_refl _)
theorem decls_at {b : Nat} {s : ByteArray} {u : Value} {d : List (Int × Int)} (h : w.heap[b]? = some (.cells #[.string s, u] 36)) (hd : Slc rSpan 2 w u d) : Slc rDecl 2 w (.slice (some ⟨b, 0, none⟩) 1 1) [⟨txt s, d⟩] :=
  one_slc (cs := [.string s, u]) rfl (fun j hj => by
    rw [row_cell h]
    match j, hj with
    | 0, _ => rfl
    | 1, _ => rfl) ⟨s, u, rfl, rfl, hd⟩ (Nat.le_refl _)
theorem con_at {b : Nat} {c : PCon} {u1 u2 u3 : Value} (h : w.heap[b]? = some (.cells #[.int .i64 c.kind, u1, u2, .int .i64 c.rel, .int .i64 c.const, u3] 42)) (hf : Fit c.kind ∧ Fit c.rel ∧ Fit c.const) (h1 : Slc rNum 1 w u1 c.vars) (h2 : Slc rNum 1 w u2 c.coefs) (h3 : Slc rNum 1 w u3 c.nums) : Slc rCon 6 w (.slice (some ⟨b, 0, none⟩) 1 1) [c] :=
  one_slc (cs := [.int .i64 c.kind, u1, u2, .int .i64 c.rel, .int .i64 c.const, u3]) rfl (fun j hj => by
    rw [row_cell h]
    match j, hj with
    | 0, _ => rfl
    | 1, _ => rfl
    | 2, _ => rfl
    | 3, _ => rfl
    | 4, _ => rfl
    | 5, _ => rfl) ⟨u1, u2, u3, rfl, hf, h1, h2, h3⟩ (Nat.le_refl _)
theorem fit_small {x : Int} (h1 : -100 ≤ x) (h2 : x ≤ 100) : Fit x := by unfold Fit; omega
theorem WantAt.model (h : WantAt w n) : rModel w [.slice (some ⟨n + 6, 0, none⟩) 2 2, .slice (some ⟨n + 9, 0, none⟩) 1 1] wantM := by
  have sp := spans_one h.h0 (fit_small (by decide) (by decide)) (fit_small (by decide) (by decide))
  have d1 : Slc rDecl 2 w (.slice (some ⟨n + 1, 0, none⟩) 1 1) [⟨[121], [(0, 1)]⟩] := decls_at h.h1 sp
  have d2 : Slc rDecl 2 w (.slice (some ⟨n + 2, 0, none⟩) 1 1) [⟨[120], [(0, 1)]⟩] := decls_at h.h2 sp
  have n3 := nums_two h.h3 (fit_small (by decide) (by decide)) (fit_small (by decide) (by decide))
  have n4 := nums_two h.h4 (fit_small (by decide) (by decide)) (fit_small (by decide) (by decide))
  have n7 := nums_two h.h7 (fit_small (by decide) (by decide)) (fit_small (by decide) (by decide))
  have n8 := nums_two h.h8 (fit_small (by decide) (by decide)) (fit_small (by decide) (by decide))
  have c5 := con_at (c := ⟨6, [1, 0], [], 0, 0, [1, -1]⟩) h.h5 ⟨fit_small (by decide) (by decide), fit_small (by decide) (by decide), fit_small (by decide) (by decide)⟩ n3 (none_slc _ _ _) n4
  have c9 := con_at (c := ⟨1, [0, 1], [1, -2], 3, -3, []⟩) h.h9 ⟨fit_small (by decide) (by decide), fit_small (by decide) (by decide), fit_small (by decide) (by decide)⟩ n7 n8 (none_slc _ _ _)
  refine ⟨_, _, rfl, ?_, c9⟩
  refine two_slc (cs := [.bool true, .slice (some ⟨n + 1, 0, none⟩) 1 1, .slice none 0 0]) (cs' := [.bool false, .slice (some ⟨n + 2, 0, none⟩) 1 1, .slice (some ⟨n + 5, 0, none⟩) 1 1]) rfl rfl (fun j hj => ?_) (fun j hj => ?_) ⟨_, _, rfl, d1, none_slc _ _ _⟩ ⟨_, _, rfl, d2, c5⟩ (Nat.le_refl _)
  · rw [row_cell h.h6]
    match j, hj with
    | 0, _ => rfl
    | 1, _ => rfl
    | 2, _ => rfl
  · rw [row_cell h.h6]
    match j, hj with
    | 0, _ => rfl
    | 1, _ => rfl
    | 2, _ => rfl
theorem heap_at (w : World) (o : Obj) (k : Nat) : (w.alloc o).heap[k]? = if k = w.heap.size then some o else w.heap[k]? := by
  show (w.heap.push o)[k]? = _
  rw [Array.getElem?_push]
theorem size_at (w : World) (o : Obj) : (w.alloc o).heap.size = w.heap.size + 1 := by simp
def wantW (w : World) : World := ((((((((((w.alloc (.cells #[.int .i64 0, .int .i64 1] 33)).alloc (.cells #[.string ⟨#[121]⟩, .slice (some ⟨w.heap.size, 0, none⟩) 1 1] 36)).alloc (.cells #[.string ⟨#[120]⟩, .slice (some ⟨w.heap.size, 0, none⟩) 1 1] 36)).alloc
  (.cells #[.int .i64 1, .int .i64 0] 3)).alloc (.cells #[.int .i64 1, .int .i64 (-1)] 3)).alloc (.cells #[.int .i64 6, .slice (some ⟨w.heap.size + 3, 0, none⟩) 2 2, .slice none 0 0, .int .i64 0, .int .i64 0, .slice (some ⟨w.heap.size + 4, 0, none⟩) 2 2] 42)).alloc
  (.cells #[.bool true, .slice (some ⟨w.heap.size + 1, 0, none⟩) 1 1, .slice none 0 0, .bool false, .slice (some ⟨w.heap.size + 2, 0, none⟩) 1 1, .slice (some ⟨w.heap.size + 5, 0, none⟩) 1 1] 39)).alloc (.cells #[.int .i64 0, .int .i64 1] 3)).alloc (.cells #[.int .i64 1, .int .i64 (-2)] 3)).alloc
  (.cells #[.int .i64 1, .slice (some ⟨w.heap.size + 7, 0, none⟩) 2 2, .slice (some ⟨w.heap.size + 8, 0, none⟩) 2 2, .int .i64 3, .int .i64 (-3), .slice none 0 0] 42)).alloc (.cells #[.slice (some ⟨w.heap.size + 6, 0, none⟩) 2 2, .slice (some ⟨w.heap.size + 9, 0, none⟩) 1 1] 26)
theorem want_at (w : World) : WantAt (wantW w) w.heap.size ∧ Below w.heap.size w (wantW w) := by
  unfold wantW
  refine ⟨⟨?_, ?_, ?_, ?_, ?_, ?_, ?_, ?_, ?_, ?_, ?_⟩, ?_⟩
  case refine_12 => exact (((((((((((Below.refl _ w).alloc (Nat.le_refl _) _).alloc (by simp) _).alloc (by simp; omega) _).alloc (by simp; omega) _).alloc (by simp; omega) _).alloc (by simp; omega) _).alloc (by simp; omega) _).alloc (by simp; omega) _).alloc (by simp; omega) _).alloc (by simp; omega) _).alloc (by simp; omega) _
  all_goals simp only [heap_at, size_at]
  all_goals repeat (first | rw [if_pos trivial] | rw [if_pos rfl] | rw [if_neg (by omega)])
theorem want_kept (hB : Below (wantW w).heap.size (wantW w) w') : WantAt w' w.heap.size ∧ Below w.heap.size w w' := ⟨(want_at w).1.below hB, (want_at w).2.trans (hB.mono (want_at w).2.size)⟩
end
end Go.Proofs.YtfkakdpppejehaaGreat.Pp
namespace Go.Proofs.YtfkakdpppejehaaGreat.Pp
open Go.RowKit
open Sc (Tok Cells str noTok scanL)
open Pa
set_option maxRecDepth 100000

theorem parse_any (s : ByteArray) (hm : s.size ≤ 4000) (hk : ∀ T, scanL 0 (txt s) = .ok T → T.length ≤ 1000 ∧ ∀ t ∈ T, t.text.length ≤ 1000) (w : World) : Calls Tryz.prog 5 #[.string s] w (ParseP w (parseL 10000 (txt s))) := by
  unfold parseL
  cases hs : scanL 0 (txt s) with
  | bad p e =>
    simp only
    exact parse_bad s hs (Sc.scan_err hs) hm w
  | ok T =>
    obtain ⟨h1, h2⟩ := hk T hs
    simp only
    rw [show (txt s).length = s.size by rw [txt_size]]
    exact parse_ok s hs hm h1 h2 w
theorem pa1 (w : World) : Calls Tryz.prog 5 #[.string aw1] w (ParseP w (.model wantM)) := by
  have h := parse_ok aw1 scan_aw1 (by decide) (by decide) (by decide) w
  rw [show aw1.size = 80 from rfl, parse_aw1] at h
  exact h
theorem pa2 (w : World) : Calls Tryz.prog 5 #[.string aw2] w (ParseP w (.err 23 7)) := by
  have h := parse_ok aw2 scan_aw2 (by decide) (by decide) (by decide) w
  rw [show aw2.size = 29 from rfl, parse_aw2] at h
  exact h
theorem pa3 (w : World) : Calls Tryz.prog 5 #[.string aw3] w (ParseP w (.err 24 2)) := by
  have h := parse_ok aw3 scan_aw3 (by decide) (by decide) (by decide) w
  rw [show aw3.size = 24 from rfl, parse_aw3] at h
  exact h
theorem pa4 (w : World) : Calls Tryz.prog 5 #[.string aw4] w (ParseP w (.err 0 1)) := by
  have h := parse_ok aw4 scan_aw4 (by decide) (by decide) (by decide) w
  rw [show aw4.size = 28 from rfl, parse_aw4] at h
  exact h
/-- the model that was parsed, and the one that is wanted -/
structure AwS (w : World) (D : Nat) (p1 : Option Addr) (l1 c1 : Nat) (p2 : Option Addr) (l2 c2 : Nat) (u : World) : Prop where
  want : WantAt u w.heap.size
  got : rModel u [.slice p1 l1 c1, .slice p2 l2 c2] wantM
  box : u.heap[D]? = some (.cells #[.slice p1 l1 c1, .slice p2 l2 c2] 26)
  low : Below w.heap.size w u
theorem AwS.on {w u u' : World} {D l1 c1 l2 c2 : Nat} {p1 p2 : Option Addr} (h : AwS w D p1 l1 c1 p2 l2 c2 u) (hB : Below u.heap.size u u') : AwS w D p1 l1 c1 p2 l2 c2 u' :=
  ⟨h.want.below hB, rModel_stays _ _ _ _ hB h.got, (hB.block _ (Array.getElem?_eq_some_iff.1 h.box).1).trans h.box, h.low.trans (hB.mono h.low.size)⟩
theorem AwS.al {w u u' : World} {o : Obj} {D l1 c1 l2 c2 : Nat} {p1 p2 : Option Addr} (h : AwS w D p1 l1 c1 p2 l2 c2 u) (hB : Below (u.alloc o).heap.size (u.alloc o) u') : AwS w D p1 l1 c1 p2 l2 c2 u' := (h.on ((Below.refl _ u).alloc (Nat.le_refl _) o)).on hB
set_option maxHeartbeats 4000000 in
theorem awake_any (w : World) : Calls Tryz.prog 4 #[] w fun e w' => e = .returned (.bool true) ∧ Below w.heap.size w w' := by
  go_enter Tryz.func4, Tryz.ntmps4
  go_wp2_with fail
  refine (pa1 _).mono ?_
  rintro e w1 ⟨hB1, p1, l1, c1, p2, l2, c2, rfl, hm, hf⟩
  obtain ⟨hwa, hb1⟩ := want_kept (w := w) hB1
  have k2 := (Below.refl _ w1).alloc (Nat.le_refl _) (.cells #[.slice p1 l1 c1, .slice p2 l2 c2] 26)
  have HS2 := Lib.hid (show AwS w w1.heap.size p1 l1 c1 p2 l2 c2 (w1.alloc (.cells #[.slice p1 l1 c1, .slice p2 l2 c2] 26)) from ⟨hwa.below k2, rModel_stays _ _ _ _ k2 hm, heap_alloc_new w1 _, hb1.trans (k2.mono hb1.size)⟩)
  have HF := Lib.hid hf
  clear hB1 hm hf hwa hb1 k2
  go_wp2_with fail
  refine (pa2 _).mono ?_
  rintro e w3 ⟨hB, rfl⟩
  have HS3 := Lib.hid (HS2.out.on hB)
  clear hB
  go_wp2_with fail
  refine (pa3 _).mono ?_
  rintro e w4 ⟨hB, rfl⟩
  have HS4 := Lib.hid (HS3.out.al hB)
  clear hB
  go_wp2_with fail
  refine (pa4 _).mono ?_
  rintro e w5 ⟨hB, rfl⟩
  have HS5 := Lib.hid (HS4.out.al hB)
  clear hB
  have h6 := HS5.out.on ((Below.refl _ w5).alloc (Nat.le_refl _) (.cells #[.slice none 0 0, .slice none 0 0] 26))
  have HS6 := Lib.hid h6
  have a0 : (w5.alloc (.cells #[.slice none 0 0, .slice none 0 0] 26)).cell? ⟨w1.heap.size, 0, none⟩ = some (.slice p1 l1 c1) := row_cell h6.box 0
  have a1 : (w5.alloc (.cells #[.slice none 0 0, .slice none 0 0] 26)).cell? ⟨w1.heap.size, 1, none⟩ = some (.slice p2 l2 c2) := row_cell h6.box 1
  have b0 : (w5.alloc (.cells #[.slice none 0 0, .slice none 0 0] 26)).cell? ⟨w.heap.size + 1 + 1 + 1 + 1 + 1 + 1 + 1 + 1 + 1 + 1, 0, none⟩ = some (.slice (some ⟨w.heap.size + 6, 0, none⟩) 2 2) := row_cell h6.want.h10 0
  have b1 : (w5.alloc (.cells #[.slice none 0 0, .slice none 0 0] 26)).cell? ⟨w.heap.size + 1 + 1 + 1 + 1 + 1 + 1 + 1 + 1 + 1 + 1, 1, none⟩ = some (.slice (some ⟨w.heap.size + 9, 0, none⟩) 1 1) := row_cell h6.want.h10 1
  have SX := Lib.hid (rsame_any h6.got h6.want.model HF.out few_want)
  rw [same_want] at SX
  clear h6
  go_wp2_with fail
  refine SX.out.mono ?_
  rintro e w7 ⟨rfl, hB⟩
  have HB := Lib.hid (HS6.out.on hB).low
  clear hB
  go_wp2_with fail
  go_ret
  exact ⟨rfl, HB.out⟩
end Go.Proofs.YtfkakdpppejehaaGreat.Pp
namespace Go.Proofs.YtfkakdpppejehaaGreat.Pp
open Go.RowKit
open Sc (Tok Cells str noTok scanL)
open Pa
set_option maxRecDepth 100000

set_option maxHeartbeats 8000000 in
theorem rparse_bad (s : ByteArray) {p x : Nat} (hs : scanL 0 (txt s) = .bad p x) (hx : x = 2 ∨ x = 5) (hm : s.size ≤ 4000) (w : World) :
    Calls Tryz.prog 6 #[.string s] w (ParseP w (.err p x)) := by
  have SX := Lib.hid (Sc.rscan_any s (w.alloc (.cells #[.slice none 0 0, .slice none 0 0] 26)) hm)
  rw [show Sc.txt s = txt s from rfl, hs] at SX
  have hx2 : ((x : Int) == 0) = false := beq_eq_false_iff_ne.2 (by omega)
  have hx3 : ((x : Int) != 0) = true := by rw [bne, hx2]; rfl
  clear hs
  go_enter Tryz.func6, Tryz.ntmps6
  go_wp2_with fail
  refine SX.out.mono ?_
  rintro e w1 ⟨hE, hB⟩
  obtain rfl := hE
  obtain ⟨y0, hb⟩ := zero_kept hB
  have d0 : w1.cell? ⟨w.heap.size, 0, none⟩ = some (.slice none 0 0) := cell_of_row w1 w.heap.size 0 _ 26 (0, 0) y0
  have f0 := frozen_of_row w1 w.heap.size 0 _ 26 y0
  have d1 : w1.cell? ⟨w.heap.size, 1, none⟩ = some (.slice none 0 0) := cell_of_row w1 w.heap.size 1 _ 26 (0, 0) y0
  have f1 := frozen_of_row w1 w.heap.size 1 _ 26 y0
  have HB := Lib.hid hb
  clear y0 hb hB
  go_wp2_with fail
  (try simp only [Exit.inBlock, Exit.then])
  refine bodyPost_ret (results_parse rfl _ _ w.heap.size (.slice none 0 0) (.slice none 0 0) (.int .i64 (p : Nat)) (.int .i64 (x : Nat)) rfl rfl rfl ?_ ?_) rfl ?_
  · go_simp
  · go_simp
  · exact ⟨below_put (below_put HB.out (Nat.le_refl _)) (Nat.le_refl _), rfl⟩
theorem rparse_any (s : ByteArray) (hm : s.size ≤ 4000) (hk : ∀ T, scanL 0 (txt s) = .ok T → T.length ≤ 1000 ∧ ∀ t ∈ T, t.text.length ≤ 1000) (w : World) : Calls Tryz.prog 6 #[.string s] w (ParseP w (parseL 10000 (txt s))) := by
  unfold parseL
  cases hs : scanL 0 (txt s) with
  | bad p e =>
    simp only
    exact rparse_bad s hs (Sc.scan_err hs) hm w
  | ok T =>
    obtain ⟨h1, h2⟩ := hk T hs
    simp only
    rw [show (txt s).length = s.size by rw [txt_size]]
    exact rparse_ok s hs hm h1 h2 w
theorem known_few (s : ByteArray) (h : s.size ≤ 1000) : ∀ T, scanL 0 (txt s) = .ok T → T.length ≤ 1000 ∧ ∀ t ∈ T, t.text.length ≤ 1000 := fun T hs => by
  obtain ⟨h1, h2⟩ := small_tokens hs
  have h3 : (txt s).length = s.size := by rw [txt_size]
  exact ⟨by omega, fun t ht => by have := (h2 t ht).2.1; omega⟩
theorem list_refl {α : Type} {eq : α → α → Bool} (h : ∀ a, eq a a = true) : ∀ l : List α, listB eq l l = true
  | [] => rfl
  | a :: r => by simp [listB, h a, list_refl h r]
theorem same_refl (m : PModel) : sameM m m = true := by
  have hc : ∀ c, sameC c c = true := fun c => (sameC_iff c c).2 rfl
  have hd : ∀ d, sameD d d = true := fun d => (sameD_iff d d).2 rfl
  have hb : ∀ b, sameB b b = true := fun b => by simp [sameB, list_refl hc, list_refl hd]
  simp [sameM, list_refl hc, list_refl hb]
theorem nil_read {α : Type} {R : Reader α} {k : Nat} (w : World) : Slc R k w (.slice none 0 0) [] := ⟨none, 0, 0, 0, 0, rfl, ⟨fun _ => rfl, Nat.le_refl _⟩, rfl, fun h => by omega, fun k a h => by simp at h⟩
theorem none_read (w : World) : rModel w [.slice none 0 0, .slice none 0 0] ⟨[], []⟩ := ⟨_, _, rfl, nil_read w, nil_read w⟩
theorem few_none : Few ⟨[], []⟩ := by
  refine ⟨?_, ?_, ?_, ?_, ?_, ?_⟩ <;> simp [varsL]
set_option maxHeartbeats 4000000 in
theorem tells_ok (s : ByteArray) (ns : Nat) (R : Out) (w : World) (hns : ((s.size : Nat) : Int) = (ns : Int)) (ms : ns ≤ 1000) (P1 : Hid (∀ W, Calls Tryz.prog 5 #[.string s] W (ParseP W R))) (P2 : Hid (∀ W, Calls Tryz.prog 6 #[.string s] W (ParseP W R))) : Calls Tryz.prog 3 #[.string s] w fun e w' => e = .returned (.bool true) ∧ Below w.heap.size w w' := by
  have AW := Lib.hid (fun W => awake_any W)
  have m1 : ¬ (1000 : Int) < (ns : Int) := by omega
  have m2 : decide ((1000 : Int) < (ns : Int)) = false := decide_eq_false m1
  cases R with
  | model m =>
    go_enter Tryz.func3, Tryz.ntmps3
    go_wp2_with fail
    refine (AW.out _).mono ?_
    rintro e w1 ⟨rfl, hB1⟩
    have B3 := Lib.hid hB1
    clear hB1
    go_wp2_with fail
    refine (P1.out _).mono ?_
    rintro e w3 ⟨hB3, p1, l1, c1, p2, l2, c2, rfl, hm1, hf1⟩
    have k4 := (Below.refl _ w3).alloc (Nat.le_refl _) (.cells #[.slice p1 l1 c1, .slice p2 l2 c2] 26)
    have y4 := heap_alloc_new w3 (.cells #[.slice p1 l1 c1, .slice p2 l2 c2] 26)
    have B4 := Lib.hid (B3.out.trans (hB3.mono B3.out.size))
    obtain ⟨W4, hW4⟩ : ∃ W4, W4 = w3.alloc (.cells #[.slice p1 l1 c1, .slice p2 l2 c2] 26) := ⟨_, rfl⟩
    have HW4 := Lib.hid hW4
    rw [← hW4] at k4 y4
    have M4 := Lib.hid hm1
    have F4 := Lib.hid hf1
    have S4 := Lib.hid (show w3.heap.size < W4.heap.size by rw [hW4]; simp)
    have K4 := Lib.hid k4
    have Y4 := Lib.hid y4
    clear hB3 hm1 hf1 hW4 k4 y4
    go_wp2_with fail
    rw [← HW4.out]
    refine (P2.out _).mono ?_
    rintro e w5 ⟨hB5, q1, n1, d1, q2, n2, d2, rfl, hm2, hf2⟩
    have k5 := K4.out.trans (hB5.mono K4.out.size)
    have y5 := (hB5.block w3.heap.size S4.out).trans Y4.out
    have k6 := (Below.refl _ w5).alloc (Nat.le_refl _) (.cells #[.slice q1 n1 d1, .slice q2 n2 d2] 26)
    have y6 := heap_alloc_new w5 (.cells #[.slice q1 n1 d1, .slice q2 n2 d2] 26)
    have hlt := Nat.lt_of_lt_of_le S4.out hB5.size
    have y7 := (k6.block w3.heap.size hlt).trans y5
    have SX := Lib.hid (rsame_any (rModel_stays _ _ _ _ k6 (rModel_stays _ _ _ _ k5 M4.out)) (rModel_stays _ _ _ _ k6 hm2) F4.out hf2)
    rw [same_refl] at SX
    have B6 := Lib.hid ((B4.out.trans (k5.mono B4.out.size)).trans (k6.mono (Nat.le_trans B4.out.size k5.size)))
    have a0 : (w5.alloc (.cells #[.slice q1 n1 d1, .slice q2 n2 d2] 26)).cell? ⟨w3.heap.size, 0, none⟩ = some (.slice p1 l1 c1) := row_cell y7 0
    have a1 : (w5.alloc (.cells #[.slice q1 n1 d1, .slice q2 n2 d2] 26)).cell? ⟨w3.heap.size, 1, none⟩ = some (.slice p2 l2 c2) := row_cell y7 1
    have b0 : (w5.alloc (.cells #[.slice q1 n1 d1, .slice q2 n2 d2] 26)).cell? ⟨w5.heap.size, 0, none⟩ = some (.slice q1 n1 d1) := row_cell y6 0
    have b1 : (w5.alloc (.cells #[.slice q1 n1 d1, .slice q2 n2 d2] 26)).cell? ⟨w5.heap.size, 1, none⟩ = some (.slice q2 n2 d2) := row_cell y6 1
    have hne : w3.heap.size ≠ w5.heap.size := Nat.ne_of_lt hlt
    have hne1 : w3.heap.size < w5.heap.size := hlt
    have hne2 : w3.heap.size < w5.heap.size + 1 := Nat.lt_succ_of_lt hlt
    clear hB5 hm2 hf2 k5 y5 k6 y6 hlt y7
    go_wp2_with fail
    refine SX.out.mono ?_
    rintro e w7 ⟨rfl, hB7⟩
    have B7 := Lib.hid (B6.out.trans (hB7.mono B6.out.size))
    clear hB7
    go_wp2_with fail
    go_ret
    exact ⟨rfl, B7.out⟩
  | err p x =>
    have hee : (x == x) = true := beq_self_eq_true _
    have hpp : ((p : Int) == (p : Int)) = true := beq_self_eq_true _
    go_enter Tryz.func3, Tryz.ntmps3
    go_wp2_with fail
    refine (AW.out _).mono ?_
    rintro e w1 ⟨rfl, hB1⟩
    have B3 := Lib.hid hB1
    clear hB1
    go_wp2_with fail
    refine (P1.out _).mono ?_
    rintro e w3 ⟨hB3, rfl⟩
    have hm1 := none_read w3
    have hf1 := few_none
    have k4 := (Below.refl _ w3).alloc (Nat.le_refl _) (.cells #[.slice none 0 0, .slice none 0 0] 26)
    have y4 := heap_alloc_new w3 (.cells #[.slice none 0 0, .slice none 0 0] 26)
    have B4 := Lib.hid (B3.out.trans (hB3.mono B3.out.size))
    obtain ⟨W4, hW4⟩ : ∃ W4, W4 = w3.alloc (.cells #[.slice none 0 0, .slice none 0 0] 26) := ⟨_, rfl⟩
    have HW4 := Lib.hid hW4
    rw [← hW4] at k4 y4
    have M4 := Lib.hid hm1
    have F4 := Lib.hid hf1
    have S4 := Lib.hid (show w3.heap.size < W4.heap.size by rw [hW4]; simp)
    have K4 := Lib.hid k4
    have Y4 := Lib.hid y4
    clear hB3 hm1 hf1 hW4 k4 y4
    go_wp2_with fail
    rw [← HW4.out]
    refine (P2.out _).mono ?_
    rintro e w5 ⟨hB5, rfl⟩
    have hm2 := none_read w5
    have hf2 := few_none
    have k5 := K4.out.trans (hB5.mono K4.out.size)
    have y5 := (hB5.block w3.heap.size S4.out).trans Y4.out
    have k6 := (Below.refl _ w5).alloc (Nat.le_refl _) (.cells #[.slice none 0 0, .slice none 0 0] 26)
    have y6 := heap_alloc_new w5 (.cells #[.slice none 0 0, .slice none 0 0] 26)
    have hlt := Nat.lt_of_lt_of_le S4.out hB5.size
    have y7 := (k6.block w3.heap.size hlt).trans y5
    have SX := Lib.hid (rsame_any (rModel_stays _ _ _ _ k6 (rModel_stays _ _ _ _ k5 M4.out)) (rModel_stays _ _ _ _ k6 hm2) F4.out hf2)
    rw [same_refl] at SX
    have B6 := Lib.hid ((B4.out.trans (k5.mono B4.out.size)).trans (k6.mono (Nat.le_trans B4.out.size k5.size)))
    have a0 : (w5.alloc (.cells #[.slice none 0 0, .slice none 0 0] 26)).cell? ⟨w3.heap.size, 0, none⟩ = some (.slice none 0 0) := row_cell y7 0
    have a1 : (w5.alloc (.cells #[.slice none 0 0, .slice none 0 0] 26)).cell? ⟨w3.heap.size, 1, none⟩ = some (.slice none 0 0) := row_cell y7 1
    have b0 : (w5.alloc (.cells #[.slice none 0 0, .slice none 0 0] 26)).cell? ⟨w5.heap.size, 0, none⟩ = some (.slice none 0 0) := row_cell y6 0
    have b1 : (w5.alloc (.cells #[.slice none 0 0, .slice none 0 0] 26)).cell? ⟨w5.heap.size, 1, none⟩ = some (.slice none 0 0) := row_cell y6 1
    have hne : w3.heap.size ≠ w5.heap.size := Nat.ne_of_lt hlt
    have hne1 : w3.heap.size < w5.heap.size := hlt
    have hne2 : w3.heap.size < w5.heap.size + 1 := Nat.lt_succ_of_lt hlt
    clear hB5 hm2 hf2 k5 y5 k6 y6 hlt y7
    go_wp2_with fail
    refine SX.out.mono ?_
    rintro e w7 ⟨rfl, hB7⟩
    have B7 := Lib.hid (B6.out.trans (hB7.mono B6.out.size))
    clear hB7
    go_wp2_with fail
    go_ret
    exact ⟨rfl, B7.out⟩
set_option maxHeartbeats 4000000 in
theorem tells_long (s : ByteArray) (ns : Nat) (w : World) (hns : ((s.size : Nat) : Int) = (ns : Int)) (hl : 1000 < ns) : Calls Tryz.prog 3 #[.string s] w fun e w' => e = .returned (.bool true) ∧ Below w.heap.size w w' := by
  have AW := Lib.hid (fun W => awake_any W)
  have m1 : (1000 : Int) < (ns : Int) := by omega
  have m2 : decide ((1000 : Int) < (ns : Int)) = true := decide_eq_true m1
  go_enter Tryz.func3, Tryz.ntmps3
  go_wp2_with fail
  refine (AW.out _).mono ?_
  rintro e w1 ⟨rfl, hB1⟩
  have B1 := Lib.hid hB1
  clear hB1
  go_wp2_with fail
  go_ret
  exact ⟨rfl, B1.out⟩
theorem tells_any (s : ByteArray) (w : World) : Calls Tryz.prog 3 #[.string s] w fun e w' => e = .returned (.bool true) ∧ Below w.heap.size w w' := by
  by_cases hs : s.size ≤ 1000
  · exact tells_ok s _ (parseL 10000 (txt s)) w rfl hs (Lib.hid fun W => parse_any s (by omega) (known_few s hs) W) (Lib.hid fun W => rparse_any s (by omega) (known_few s hs) W)
  · exact tells_long s _ w rfl (by omega)
end Go.Proofs.YtfkakdpppejehaaGreat.Pp
namespace Go.Proofs.YtfkakdpppejehaaGreat
open Go.ChangeShapes Go.WideShapes Go.ChangeAt Go.RowKit

section
variable {H : Type} {enc : TypeId × Value → H} {P : Program}

/-- a reading of values stays, where what it reads of memory has stayed -/
theorem trodAll_stays {W W' : World} {sp : Nat → Bool} (K : Kids P (· < P.types.size)) (hz : ∀ t e, t < P.types.size → P.underlying t = some (.slice e) → 0 < P.cellsOf e) :
    ∀ {ts : List TypeId} {vs : List Value} {ds : List (DataW H)} {ps : List MemPlace}, (∀ t ∈ ts, t < P.types.size) → DataW.TrodAll enc P W 0 (fun _ => true) true ts vs ds ps →
      (∀ p ∈ ps, W.sameAt W' p) → (∀ p ∈ ps, sp p.block = true) → DataW.TrodAll enc P W' 0 sp true ts vs ds ps
  | [], vs, ds, ps, _, h, _, _ => by
    obtain ⟨rfl, rfl, rfl⟩ := trodAll_nil h
    exact trodAll_mk0
  | t :: ts, vs, ds, ps, hT, h, hs, hp => by
    obtain ⟨v, vs1, d, ds1, a, b, rfl, rfl, rfl, ⟨n, h1⟩, h2⟩ := trodAll_cons h
    refine ⟨a, b, ⟨n, DataW.trod_stays K (fun {t e} => hz t e) (fun x => Bool.noConfusion x) (hT t (by simp)) h1 (fun p q => hs p (by simp [q])) (fun p q => hp p (by simp [q]))⟩, ?_, rfl⟩
    exact trodAll_stays K hz (fun t q => hT t (by simp [q])) h2 (fun p q => hs p (by simp [q])) (fun p q => hp p (by simp [q]))

theorem law_post {f : Func} {s : ChangeSpec} {apart fresh handsOn again : Bool} {W W' : World} {args : Array Value} {ds gs : List (DataW H)} {before : List MemPlace} {tb : TypeId}
    (K : Kids P (· < P.types.size)) (hz : ∀ t e, t < P.types.size → P.underlying t = some (.slice e) → 0 < P.cellsOf e) (hT : ∀ t ∈ f.params.toList, t < P.types.size)
    (hr : f.resultTypes = #[tb]) (ht : P.underlying tb = some .bool) (hv : s.vars = [])
    (hfn : s.fn H (ds ++ []) = { results := [.lit (.bool true)], args := ds })
    (hW : DataW.Whole enc P f.params.toList s.vars apart W args.toList ds gs before) (hb : Below W.heap.size W W') :
    s.post enc P f apart fresh handsOn again W args (.bool true) W' := by
  have hlt : ∀ p ∈ before, p.block < W.heap.size := fun p hp => hW.lt p hp
  have hW0 := hW
  obtain ⟨p, q, hA, hV, rfl, hfz, hnd⟩ := hW
  rw [hv] at hV
  obtain ⟨rfl, rfl⟩ := trodVars_none hV
  rw [List.append_nil] at hlt hfz hnd hW0
  have again' : ∀ sp : Nat → Bool, (∀ x ∈ p, sp x.block = true) → DataW.TrodAll enc P W' 0 sp true f.params.toList args.toList ds p := fun sp hsp =>
    trodAll_stays K hz hT hA (fun x hx => hb.same (hlt x hx)) hsp
  have hres : ∀ (b : Nat) (sp : Nat → Bool) (hd : Bool), DataW.TrodAll enc P W' b sp hd f.resultTypes.toList ((Value.bool true).resultList f.resultTypes.size) [.lit (.bool true)] [] := fun b sp hd => by
    rw [hr]; exact trodAll_cons_mk (shut_bool ht _) trodAll_mk0
  have hnone : ∀ sp : Nat → Bool, DataW.TrodVars enc P W' sp s.vars [] [] := fun sp => by rw [hv]; rfl
  refine ⟨ds, [], p, [], p, [], hW0, ?_, ?_, ?_, World.keptBut_mono (fun x hx => ⟨hx, Or.inr (Or.inl hx)⟩) (hb.frame (· ∈ p)), fun _ => ⟨?_, ?_⟩⟩
  · rw [hfn]; exact hres _ _ _
  · rw [hfn]; exact again' _ (fun x hx => by simpa using hlt x hx)
  · rw [hfn]; exact hnone _
  · exact ok_one hr rfl (okWide_bool_mk ht _)
  · refine ⟨_, [], [] ++ p, ⟨[] ++ p, [], trodAll_append (again' _ (fun _ _ => rfl)) (hres _ _ _), hnone _, (List.append_nil _).symm, ?_, ?_⟩, ?_⟩
    · intro b off hp
      rw [hb.frozen (hlt _ (by simpa using hp))]
      exact hfz b off (by simpa using hp)
    · intro ha
      simpa using hnd ha
    · intro x hx _
      simpa using hx
end
end Go.Proofs.YtfkakdpppejehaaGreat
