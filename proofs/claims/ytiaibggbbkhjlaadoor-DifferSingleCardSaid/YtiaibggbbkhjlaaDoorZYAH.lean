/-
  What Name of the document's answers answers, at every text.
  What Same of the document's answers for lists of spans, and Decls of its answers for models, answer, at any two lists that can be read.
  What Decls of the document's answers for models answers, at any two lists of variables that can be read.
  What Alike of the document's answers for models answers, at any two lists of constraints that can be read.
  What Right, In, Size, Place and Same of the document's answers answer, at every list of spans that can be read.
  What Same of the document's answers answers at two lists of the same spans.
  The contracts of the library that the program leans on, laid at this program.
  Lists that a call makes: of spans, and of numbers; a copy of a list, and sorting it.
-/
import Derived.Test.YtiaibggbbkhjlaaDoorZYAG
import Derived.Lib.Strings
import Derived.Ground.Names2Prog
import Derived.Shelf.Slices.Clone
import Derived.Test.YtiaibggbbkhjlaaDoorProg
import Derived.OwnWalk
import Derived.Maps.AppendAt
import Derived.Great.BuildSlice
import Derived.Laws.OwnMore
import Derived.Lib.OwnBridge
import Derived.Sort.Grow
namespace Go.Proofs.YtiaibggbbkhjlaaDoor
open Go.RowKit
set_option maxRecDepth 100000

abbrev txt (s : ByteArray) : List UInt8 := s.data.toList
theorem txt_size (s : ByteArray) : s.size = (txt s).length := Lib.size_eq s
theorem idx {s : ByteArray} {k : Nat} {c : UInt8} (h : (txt s)[k]? = some c) : ∀ W, (Instr.index 9 (.string s) (.int .i64 (k : Int))).run Tryd.prog W = .ok (.int .u8 (c.toNat : Int)) W := by
  intro W
  obtain ⟨hk, e⟩ := List.getElem?_eq_some_iff.1 h
  have hk2 : k < s.size := by rw [txt_size]; exact hk
  rw [run_index_string W 9 s .i64 (k : Int) Tryd.underlying9, dif_pos ⟨by omega, by omega⟩]
  have e2 : s[(k : Int).toNat]'(by omega) = c := by
    rw [← e]
    rfl
  rw [e2]

def wordsL : List (List UInt8) := [[101, 120, 105, 115, 116, 115], [102, 111, 114, 97, 108, 108], [105, 110], [119, 104, 101, 114, 101], [97, 110, 100], [103, 111, 97, 108], [116, 114, 117, 101], [112, 114, 111, 100, 117, 99, 116], [105, 102, 102], [101, 108, 101, 109, 101, 110, 116], [100, 105, 102, 102, 101, 114, 101, 110, 116], [116, 97, 98, 108, 101]]
/-- may a byte stand at a place of a name? -/
def okAt (i : Nat) (c : UInt8) : Bool := (decide (97 ≤ c.toNat) && decide (c.toNat ≤ 122)) || (!decide (i = 0) && (decide (c.toNat = 95) || (decide (48 ≤ c.toNat) && decide (c.toNat ≤ 57))))
def okFrom (i : Nat) : List UInt8 → Bool
  | [] => true
  | c :: r => okAt i c && okFrom (i + 1) r
def nameL (s : List UInt8) : Bool := !wordsL.contains s && (okFrom 0 s && (decide (1 ≤ s.length) && decide (s.length ≤ 12)))

structure WordsAt (w wr : World) : Prop where
  below : Below w.heap.size w wr
  cell : ∀ k, k < 12 → ∃ q : ByteArray, wr.cell? ⟨w.heap.size, k, none⟩ = some (.string q) ∧ txt q = wordsL.getD k []
theorem words_at (w : World) : WordsAt w (w.alloc (.cells #[.string ⟨#[101, 120, 105, 115, 116, 115]⟩, .string ⟨#[102, 111, 114, 97, 108, 108]⟩, .string ⟨#[105, 110]⟩, .string ⟨#[119, 104, 101, 114, 101]⟩, .string ⟨#[97, 110, 100]⟩, .string ⟨#[103, 111, 97, 108]⟩, .string ⟨#[116, 114, 117, 101]⟩, .string ⟨#[112, 114, 111, 100, 117, 99, 116]⟩, .string ⟨#[105, 102, 102]⟩, .string ⟨#[101, 108, 101, 109, 101, 110, 116]⟩, .string ⟨#[100, 105, 102, 102, 101, 114, 101, 110, 116]⟩, .string ⟨#[116, 97, 98, 108, 101]⟩] 9)) :=
  ⟨(Below.refl _ w).alloc (Nat.le_refl _) _, fun k hk => by
    rw [World.cell?_alloc_mark]
    match k, hk with
    | 0, _ => exact ⟨_, rfl, rfl⟩
    | 1, _ => exact ⟨_, rfl, rfl⟩
    | 2, _ => exact ⟨_, rfl, rfl⟩
    | 3, _ => exact ⟨_, rfl, rfl⟩
    | 4, _ => exact ⟨_, rfl, rfl⟩
    | 5, _ => exact ⟨_, rfl, rfl⟩
    | 6, _ => exact ⟨_, rfl, rfl⟩
    | 7, _ => exact ⟨_, rfl, rfl⟩
    | 8, _ => exact ⟨_, rfl, rfl⟩
    | 9, _ => exact ⟨_, rfl, rfl⟩
    | 10, _ => exact ⟨_, rfl, rfl⟩
    | 11, _ => exact ⟨_, rfl, rfl⟩⟩
theorem words_hit {s : List UInt8} {k : Nat} (hk : k < 12) (h : s = wordsL.getD k []) : wordsL.contains s = true := by
  rw [List.contains_iff_mem, h, List.getD_eq_getElem?_getD, List.getElem?_eq_getElem (show k < wordsL.length from hk)]
  exact List.getElem_mem _
theorem words_miss {s : List UInt8} (h : ∀ j, j < 12 → s ≠ wordsL.getD j []) : wordsL.contains s = false := by
  cases e : wordsL.contains s
  · rfl
  · obtain ⟨j, hj, e⟩ := List.getElem_of_mem (List.contains_iff_mem.1 e)
    have hj2 : j < 12 := hj
    exact absurd (by simp [hj, e]) (h j hj2)
theorem eql_txt (s q : ByteArray) : binOp .eql 9 (.string s) (.string q) = pure (.bool (decide (txt s = txt q))) := by
  rw [binOp_string_eql]
  congr 2
  rw [Lib.toList_data, Lib.toList_data, Bool.eq_iff_iff]
  simp

end Go.Proofs.YtiaibggbbkhjlaaDoor
namespace Go.Proofs.YtiaibggbbkhjlaaDoor
open Go.RowKit
set_option maxRecDepth 100000

theorem span_at {w : World} {p : Option Addr} {b off len : Nat} {L : List (Int × Int)} (h : SliceOf rSpan 2 w p b off len L) {k : Nat} (hk : k < len) :
    w.cell? ⟨b, off + k * 2, none⟩ = some (.int .i64 (L.getD k (0, 0)).1) ∧ w.cell? ⟨b, off + k * 2 + 1, none⟩ = some (.int .i64 (L.getD k (0, 0)).2) := by
  have hx : k < L.length := by rw [← h.long]; exact hk
  have e : L[k]? = some (L.getD k (0, 0)) := by simp [hx]
  obtain ⟨cs, h1, h2, h3, _⟩ := h.cell k _ e
  subst h3
  exact ⟨h2 0 (by omega), h2 1 (by omega)⟩
theorem SliceOf.drewN {α : Type} {R : Reader α} {n : Nat} {w : World} {p : Option Addr} {b off len : Nat} {L : List α} (hR : R.Stays) (h : SliceOf R n w p b off len L) (m : Nat) : SliceOf R n (w.drewN m) p b off len L :=
  h.below hR ⟨rfl, rfl, rfl, Nat.le_refl _, fun _ _ => rfl⟩
theorem pair_ext {a b c d : Int} (h : (a == c && b == d) = true) : (a, b) = (c, d) := by
  simp at h
  rw [h.1, h.2]
end Go.Proofs.YtiaibggbbkhjlaaDoor
namespace Go.Proofs.YtiaibggbbkhjlaaDoor
open Go.RowKit
set_option maxRecDepth 100000

/-- are two lists the same, element by element? -/
def listB {α : Type} (eq : α → α → Bool) : List α → List α → Bool
  | [], [] => true
  | a :: r, b :: s => eq a b && listB eq r s
  | _, _ => false
theorem listB_iff {α : Type} {eq : α → α → Bool} (h : ∀ a b, eq a b = true ↔ a = b) : ∀ xs ys : List α, listB eq xs ys = true ↔ xs = ys
  | [], [] => by simp [listB]
  | a :: r, b :: s => by rw [listB, Bool.and_eq_true, h, listB_iff h r s]; simp
  | [], b :: s => by simp [listB]
  | a :: r, [] => by simp [listB]
theorem listB_len {α : Type} (eq : α → α → Bool) : ∀ xs ys : List α, xs.length ≠ ys.length → listB eq xs ys = false
  | [], [], h => absurd rfl h
  | a :: r, b :: s, h => by rw [listB, listB_len eq r s (fun e => h (by rw [List.length_cons, List.length_cons, e])), Bool.and_false]
  | [], b :: s, _ => rfl
  | a :: r, [], _ => rfl
theorem listB_at {α : Type} (eq : α → α → Bool) {xs ys : List α} {k : Nat} {a b : α} (ha : xs[k]? = some a) (hb : ys[k]? = some b) : listB eq (xs.drop k) (ys.drop k) = (eq a b && listB eq (xs.drop (k + 1)) (ys.drop (k + 1))) := by
  obtain ⟨h1, e1⟩ := List.getElem?_eq_some_iff.1 ha
  obtain ⟨h2, e2⟩ := List.getElem?_eq_some_iff.1 hb
  rw [List.drop_eq_getElem_cons h1, List.drop_eq_getElem_cons h2, listB, e1, e2]
theorem listB_end {α : Type} (eq : α → α → Bool) {xs ys : List α} {k : Nat} (h1 : xs.length ≤ k) (h2 : ys.length ≤ k) : listB eq (xs.drop k) (ys.drop k) = true := by
  rw [List.drop_of_length_le h1, List.drop_of_length_le h2, listB]

def sameD (a b : PDecl) : Bool := decide (a.name = b.name) && decide (a.dom = b.dom)
theorem sameD_iff (a b : PDecl) : sameD a b = true ↔ a = b := by
  obtain ⟨n, d⟩ := a
  obtain ⟨n', d'⟩ := b
  simp [sameD]

theorem decl_at {w : World} {p : Option Addr} {b off len : Nat} {L : List PDecl} (h : SliceOf rDecl 2 w p b off len L) {k : Nat} (hk : k < len) :
    ∃ (d : PDecl) (s : ByteArray) (v : Value), L[k]? = some d ∧ w.cell? ⟨b, off + k * 2, none⟩ = some (.string s) ∧ w.cell? ⟨b, off + k * 2 + 1, none⟩ = some v ∧ txt s = d.name ∧ Slc rSpan 2 w v d.dom := by
  have hx : k < L.length := by rw [← h.long]; exact hk
  have e : L[k]? = some L[k] := List.getElem?_eq_getElem hx
  obtain ⟨cs, h1, h2, s, v, h3, h4, h5⟩ := h.cell k _ e
  subst h3
  exact ⟨_, s, v, e, h2 0 (by omega), h2 1 (by omega), h4, h5⟩
theorem neq_txt (s q : ByteArray) : binOp .neq 9 (.string s) (.string q) = pure (.bool (!decide (txt s = txt q))) := by
  rw [binOp_string_neq]
  congr 2
  rw [Lib.toList_data, Lib.toList_data, Bool.eq_iff_iff]
  simp

end Go.Proofs.YtiaibggbbkhjlaaDoor
namespace Go.Proofs.YtiaibggbbkhjlaaDoor
open Go.RowKit
set_option maxRecDepth 100000

def sameC (a b : PCon) : Bool := decide (a.kind = b.kind) && (decide (a.rel = b.rel) && (decide (a.const = b.const) && (decide (a.vars = b.vars) && (decide (a.coefs = b.coefs) && decide (a.nums = b.nums)))))
theorem sameC_iff (a b : PCon) : sameC a b = true ↔ a = b := by
  obtain ⟨k, v, c, r, x, n⟩ := a
  obtain ⟨k', v', c', r', x', n'⟩ := b
  simp only [sameC, Bool.and_eq_true, decide_eq_true_eq, PCon.mk.injEq]
  constructor
  · rintro ⟨h1, h2, h3, h4, h5, h6⟩
    exact ⟨h1, h4, h5, h2, h3, h6⟩
  · rintro ⟨h1, h4, h5, h2, h3, h6⟩
    exact ⟨h1, h2, h3, h4, h5, h6⟩

theorem con_at {w : World} {p : Option Addr} {b off len : Nat} {L : List PCon} (h : SliceOf rCon 6 w p b off len L) {k : Nat} (hk : k < len) :
    ∃ (d : PCon) (v1 v2 v3 : Value), L[k]? = some d ∧ (w.cell? ⟨b, off + k * 6, none⟩ = some (.int .i64 d.kind) ∧ w.cell? ⟨b, off + k * 6 + 1, none⟩ = some v1 ∧ w.cell? ⟨b, off + k * 6 + 2, none⟩ = some v2 ∧
      w.cell? ⟨b, off + k * 6 + 3, none⟩ = some (.int .i64 d.rel) ∧ w.cell? ⟨b, off + k * 6 + 4, none⟩ = some (.int .i64 d.const) ∧ w.cell? ⟨b, off + k * 6 + 5, none⟩ = some v3) ∧ (Slc rNum 1 w v1 d.vars ∧ Slc rNum 1 w v2 d.coefs ∧ Slc rNum 1 w v3 d.nums) := by
  have hx : k < L.length := by rw [← h.long]; exact hk
  have e : L[k]? = some L[k] := List.getElem?_eq_getElem hx
  obtain ⟨cs, h1, h2, v1, v2, v3, h3, _, h4⟩ := h.cell k _ e
  subst h3
  exact ⟨_, v1, v2, v3, e, ⟨h2 0 (by omega), h2 1 (by omega), h2 2 (by omega), h2 3 (by omega), h2 4 (by omega), h2 5 (by omega)⟩, h4⟩
theorem slc_shape {α : Type} {R : Reader α} {n : Nat} {w : World} {v : Value} {L : List α} (h : Slc R n w v L) : ∃ (p : Option Addr) (l c : Nat), v = .slice p l c := by
  obtain ⟨p, b, off, c, len, h, _⟩ := h
  exact ⟨p, len, c, h⟩
/-- six cells at the head of a block -/
structure At6 (w : World) (b : Nat) (v0 v1 v2 v3 v4 v5 : Value) : Prop where
  c0 : w.cell? ⟨b, 0, none⟩ = some v0
  c1 : w.cell? ⟨b, 1, none⟩ = some v1
  c2 : w.cell? ⟨b, 2, none⟩ = some v2
  c3 : w.cell? ⟨b, 3, none⟩ = some v3
  c4 : w.cell? ⟨b, 4, none⟩ = some v4
  c5 : w.cell? ⟨b, 5, none⟩ = some v5
theorem two_six (w : World) (a0 a1 a2 a3 a4 a5 b0 b1 b2 b3 b4 b5 : Value) (t : TypeId) : At6 ((w.alloc (.cells #[a0, a1, a2, a3, a4, a5] t)).alloc (.cells #[b0, b1, b2, b3, b4, b5] t)) w.heap.size a0 a1 a2 a3 a4 a5 ∧
    At6 ((w.alloc (.cells #[a0, a1, a2, a3, a4, a5] t)).alloc (.cells #[b0, b1, b2, b3, b4, b5] t)) (w.heap.size + 1) b0 b1 b2 b3 b4 b5 :=
  ⟨⟨by go_simp, by go_simp, by go_simp, by go_simp, by go_simp, by go_simp⟩, ⟨by go_simp, by go_simp, by go_simp, by go_simp, by go_simp, by go_simp⟩⟩
theorem below_drewN {B n : Nat} {a w : World} (h : Below B a w) : Below B a (w.drewN n) := ⟨h.os, h.tape, h.output, h.size, h.block⟩

/-- are the lists of a constraint short? -/
def Short (m : Nat) (c : PCon) : Prop := c.vars.length ≤ m ∧ c.coefs.length ≤ m ∧ c.nums.length ≤ m

end Go.Proofs.YtiaibggbbkhjlaaDoor
namespace Go.Proofs.YtiaibggbbkhjlaaDoor
open Go.RowKit


/-- as RightRel, with the last end -/
def RRel (L : List (Int × Int)) (k : Nat) : Prop :=
  ∃ z, RightRel L k z ∧ (k = 0 ∧ z = -1048576 ∨ 0 < k ∧ z = (L.getD (k - 1) (0, 0)).2 + 2)

end Go.Proofs.YtiaibggbbkhjlaaDoor
namespace Go.Proofs.YtiaibggbbkhjlaaDoor.Dm
open Go.RowKit

end Go.Proofs.YtiaibggbbkhjlaaDoor.Dm
namespace Go.Proofs
open Go.Shelf
def Tryd.laysNm215_ren : Go.Shelf.Ren := ⟨fun | 15 => 19 | n => n, fun | 22 => 22 | 3 => 3 | 4 => 4 | n => n, fun | n => n⟩
theorem Tryd.laysNm215 : Go.Proofs.Lays2.n15 Tryd.prog Tryd.laysNm215_ren := {
  mixed := by kernel_rfl
  f15 := Tryd.func19.trans (congrArg some (by kernel_rfl))
  t3 := Tryd.underlying3
  a3 := Tryd.isAgg3
  z3 := Tryd.sizeOf3
  v3 := Tryd.zeroValue3
  t4 := Tryd.underlying4
  a4 := Tryd.isAgg4
  z4 := Tryd.sizeOf4
  v4 := Tryd.zeroValue4
  t22 := Tryd.underlying22
  a22 := Tryd.isAgg22
  z22 := Tryd.sizeOf22
  v22 := Tryd.zeroValue22
  i3 := by kernel_rfl }
open Go.RowKit Go.Lib in
theorem Tryd.slices_Clone_int (b off n c : Nat) (zs : List Int) (w : World) (hz : n ≤ zs.length) (hbig : n * 8 ≤ 140737488355328) (hc : ∀ j, j < zs.length → w.cell? ⟨b, off + j, none⟩ = some (.int .i64 (zs.getD j 0))) :
    Calls Tryd.prog 19 #[.slice (some ⟨b, off, none⟩) n c] w fun e w' => ∃ v', e = .returned v' ∧ w'.ownsRow w.heap.size 3 1 v' n ((zs.take n).map (Value.int .i64)) ∧ v' ≠ .slice none 0 0 ∧ Below w.heap.size w w' := Any.slices_Clone_int Tryd.laysNm215 b off n c zs w hz hbig hc
open Go.RowKit Go.Lib in
theorem Tryd.slices_Clone_int_nil (n c : Nat) (w : World) :
    Calls Tryd.prog 19 #[.slice none n c] w fun e w' => e = .returned (.slice none 0 0) ∧ w' = w := Any.slices_Clone_int_nil Tryd.laysNm215 n c w
open Go.RowKit Go.Lib in
theorem Tryd.slices_Clone_int_zero (a : Addr) (c : Nat) (w : World) :
    Calls Tryd.prog 19 #[.slice (some a) 0 c] w fun e w' => ∃ v', e = .returned v' ∧ w'.ownsRow w.heap.size 3 1 v' 0 [] ∧ v' ≠ .slice none 0 0 ∧ Below w.heap.size w w' := Any.slices_Clone_int_zero Tryd.laysNm215 a c w
end Go.Proofs
namespace Go.Proofs.YtiaibggbbkhjlaaDoor.Dm
open Go.RowKit

def cellsOf : List (Int × Int) → List Value
  | [] => []
  | s :: r => .int .i64 s.1 :: .int .i64 s.2 :: cellsOf r
/-- v is a slice in memory from base on, of the numbers xs -/
def OwnsI (w : World) (base : Nat) (v : Value) (xs : List Int) : Prop := w.ownsRow base 3 1 v xs.length (xs.map (Value.int .i64))
/-- the slice value v reads as the numbers xs -/
def Reads (w : World) (v : Value) (xs : List Int) : Prop :=
  (∃ (p : Option Addr) (c : Nat), v = .slice p 0 c ∧ xs = []) ∨ ∃ (b off cap : Nat), v = .slice (some ⟨b, off, none⟩) xs.length cap ∧ ∀ k, k < xs.length → w.cell? ⟨b, off + k, none⟩ = some (.int .i64 (xs.getD k 0))

theorem cellsOf_snoc : ∀ (A : List (Int × Int)) (s : Int × Int), cellsOf (A ++ [s]) = cellsOf A ++ [.int .i64 s.1, .int .i64 s.2]
  | [], _ => rfl
  | t :: r, s => by rw [List.cons_append, cellsOf, cellsOf_snoc r s]; rfl
theorem cellsOf_length : ∀ (A : List (Int × Int)), (cellsOf A).length = A.length * 2
  | [] => rfl
  | t :: r => by rw [cellsOf, List.length_cons, List.length_cons, cellsOf_length r, List.length_cons]; omega
theorem cellsOf_get : ∀ (A : List (Int × Int)) (k : Nat), k < A.length → (cellsOf A)[k * 2]? = some (.int .i64 (A.getD k (0, 0)).1) ∧ (cellsOf A)[k * 2 + 1]? = some (.int .i64 (A.getD k (0, 0)).2)
  | [], k, h => by simp at h
  | t :: r, 0, h => by simp [cellsOf]
  | t :: r, k + 1, h => by
    have e1 : (k + 1) * 2 = k * 2 + 1 + 1 := by omega
    rw [e1, cellsOf]
    simpa using cellsOf_get r k (by simpa using h)
theorem cellsOf_set (B : List (Int × Int)) (s : Int × Int) (v : Int) : (cellsOf (B ++ [s])).set (B.length * 2 + 1) (.int .i64 v) = cellsOf (B ++ [(s.1, v)]) := by
  rw [cellsOf_snoc, cellsOf_snoc, List.set_append, cellsOf_length, if_neg (by omega)]
  have e : B.length * 2 + 1 - B.length * 2 = 1 := by omega
  rw [e]
  rfl

theorem reads_of_owns {w : World} {base : Nat} {v : Value} {xs : List Int} (h : OwnsI w base v xs) : Reads w v xs := by
  have h0 := h
  rcases h.2 with ⟨rfl, h1⟩ | ⟨g, cap, cur, rfl, hb, hg, hn, hc, hs, ht⟩
  · exact .inl ⟨none, 0, rfl, List.eq_nil_of_length_eq_zero h1⟩
  · refine .inr ⟨g, 0, cap, rfl, fun k hk => ?_⟩
    have c0 := h0.cellAt k (by omega)
    rw [Nat.zero_add, c0]
    simp [hk]
theorem reads_below {A B : World} {v : Value} {xs : List Int} (h : Reads A v xs) (hb : Below A.heap.size A B) : Reads B v xs := by
  rcases h with h | ⟨b, off, c, rfl, hx⟩
  · exact .inl h
  · exact .inr ⟨b, off, c, rfl, fun k hk => cell_below hb (hx k hk)⟩
theorem owns_low {w : World} {base low : Nat} {e : TypeId} {size n : Nat} {v : Value} {xs : List Value} (h : w.ownsRow base e size v n xs) (hl : low ≤ base) : w.ownsRow low e size v n xs := by
  refine ⟨h.1, ?_⟩
  rcases h.2 with h1 | ⟨g, cap, cur, h1, h2, h3⟩
  · exact .inl h1
  · exact .inr ⟨g, cap, cur, h1, by omega, h3⟩
theorem owns_below {w wr : World} {base : Nat} {e : TypeId} {size n : Nat} {v : Value} {xs : List Value} (h : w.ownsRow base e size v n xs) (hb : Below w.heap.size w wr) : wr.ownsRow base e size v n xs := by
  refine ⟨h.1, ?_⟩
  rcases h.2 with h1 | ⟨g, cap, cur, h1, h2, h3, h4⟩
  · exact .inl h1
  · exact .inr ⟨g, cap, cur, h1, h2, (hb.block g (Array.getElem?_eq_some_iff.1 h3).1).trans h3, h4⟩

theorem info3 : (Tryd.prog.info? 3).map (fun i => (i.zero, i.size, i.bytes)) = some (some (.int .i64 0), 1, 8) := by kernel_rfl
theorem cells_one (w : World) (u : Value) (t : TypeId) : ∀ j v, [u][j]? = some v → (w.alloc (.cells #[u] t)).cell? ((⟨w.heap.size, 0, none⟩ : Addr).add j) = some v := cell_one_new w u t
theorem cells_two (w : World) (u v : Value) (t : TypeId) : ∀ j x, [u, v][j]? = some x → (w.alloc (.cells #[u, v] t)).cell? ((⟨w.heap.size, 0, none⟩ : Addr).add j) = some x := by
  intro j x hj
  match j, hj with
  | 0, hj =>
    simp at hj
    subst hj
    simp [Addr.add]
  | 1, hj =>
    simp at hj
    subst hj
    simp [Addr.add]

/- a copy, and sorting it -/
theorem clone_any {w : World} {v : Value} {xs : List Int} (h : Reads w v xs) (hm : xs.length ≤ 100000) :
    Calls Tryd.prog 19 #[v] w fun e w' => ∃ v', e = .returned v' ∧ OwnsI w' w.heap.size v' xs ∧ Below w.heap.size w w' := by
  rcases h with ⟨p, c, rfl, rfl⟩ | ⟨b, off, c, rfl, hx⟩
  · cases p with
    | none =>
      refine (Tryd.slices_Clone_int_nil 0 c w).mono ?_
      rintro e w' ⟨rfl, rfl⟩
      exact ⟨_, rfl, World.ownsRow_nil _ _ _ _, Below.refl _ _⟩
    | some a =>
      refine (Tryd.slices_Clone_int_zero a c w).mono ?_
      rintro e w' ⟨v', rfl, h1, _, h2⟩
      exact ⟨_, rfl, h1, h2⟩
  · refine (Tryd.slices_Clone_int b off xs.length c xs w (Nat.le_refl _) (by omega) hx).mono ?_
    rintro e w' ⟨v', rfl, h1, _, h2⟩
    rw [List.take_length] at h1
    exact ⟨_, rfl, h1, h2⟩

def sorted (xs : List Int) : List Int := xs.mergeSort fun x y => decide (x ≤ y)
theorem sorted_length (xs : List Int) : (sorted xs).length = xs.length := List.length_mergeSort xs
theorem sorted_mem (xs : List Int) (v : Int) : v ∈ sorted xs ↔ v ∈ xs := List.mem_mergeSort
theorem sorted_up (xs : List Int) : (sorted xs).Pairwise (· ≤ ·) := by
  have := List.pairwise_mergeSort (le := fun x y : Int => decide (x ≤ y)) (by simp; omega) (by simp; omega) xs
  exact this.imp (by simp)

theorem grownBy_grow (w : World) (os : Array Obj) : w.grownBy (Go.Sort.grow w os) none :=
  ⟨rfl, rfl, rfl, by simp [Go.Sort.grow], fun k hk _ => Go.Sort.heap_grow_old w os hk⟩

end Go.Proofs.YtiaibggbbkhjlaaDoor.Dm
