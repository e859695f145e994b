/-
  What Name of the document's answers answers, at every text.
-/
import Derived.Test.YtkhjnicmbkklpaaMVars
import Derived.Lib.Strings
namespace Go.Proofs.Ytkhjnicmbkklpaa
open Go.RowKit
set_option maxRecDepth 100000

abbrev txt (s : ByteArray) : List UInt8 := s.data.toList
theorem txt_size (s : ByteArray) : s.size = (txt s).length := Lib.size_eq s
theorem idx {s : ByteArray} {k : Nat} {c : UInt8} (h : (txt s)[k]? = some c) : ∀ W, (Instr.index 9 (.string s) (.int .i64 (k : Int))).run Try.prog W = .ok (.int .u8 (c.toNat : Int)) W := by
  intro W
  obtain ⟨hk, e⟩ := List.getElem?_eq_some_iff.1 h
  have hk2 : k < s.size := by rw [txt_size]; exact hk
  rw [run_index_string W 9 s .i64 (k : Int) Try.underlying9, dif_pos ⟨by omega, by omega⟩]
  have e2 : s[(k : Int).toNat]'(by omega) = c := by
    rw [← e]
    rfl
  rw [e2]

def wordsL : List (List UInt8) := [[101, 120, 105, 115, 116, 115], [102, 111, 114, 97, 108, 108], [105, 110], [119, 104, 101, 114, 101], [97, 110, 100], [103, 111, 97, 108], [116, 114, 117, 101], [112, 114, 111, 100, 117, 99, 116], [105, 102, 102], [101, 108, 101, 109, 101, 110, 116], [100, 105, 102, 102, 101, 114, 101, 110, 116], [116, 97, 98, 108, 101]]
/-- may a byte stand at a place of a name? -/
def okAt (i : Nat) (c : UInt8) : Bool := (decide (97 ≤ c.toNat) && decide (c.toNat ≤ 122)) || (!decide (i = 0) && (decide (c.toNat = 95) || (decide (48 ≤ c.toNat) && decide (c.toNat ≤ 57))))
def okFrom (i : Nat) : List UInt8 → Bool
  | [] => true
  | c :: r => okAt i c && okFrom (i + 1) r
def nameL (s : List UInt8) : Bool := !wordsL.contains s && (okFrom 0 s && (decide (1 ≤ s.length) && decide (s.length ≤ 12)))

structure WordsAt (w wr : World) : Prop where
  below : Below w.heap.size w wr
  cell : ∀ k, k < 12 → ∃ q : ByteArray, wr.cell? ⟨w.heap.size, k, none⟩ = some (.string q) ∧ txt q = wordsL.getD k []
theorem words_at (w : World) : WordsAt w (w.alloc (.cells #[.string ⟨#[101, 120, 105, 115, 116, 115]⟩, .string ⟨#[102, 111, 114, 97, 108, 108]⟩, .string ⟨#[105, 110]⟩, .string ⟨#[119, 104, 101, 114, 101]⟩, .string ⟨#[97, 110, 100]⟩, .string ⟨#[103, 111, 97, 108]⟩, .string ⟨#[116, 114, 117, 101]⟩, .string ⟨#[112, 114, 111, 100, 117, 99, 116]⟩, .string ⟨#[105, 102, 102]⟩, .string ⟨#[101, 108, 101, 109, 101, 110, 116]⟩, .string ⟨#[100, 105, 102, 102, 101, 114, 101, 110, 116]⟩, .string ⟨#[116, 97, 98, 108, 101]⟩] 9)) :=
  ⟨(Below.refl _ w).alloc (Nat.le_refl _) _, fun k hk => by
    rw [World.cell?_alloc_mark]
    match k, hk with
    | 0, _ => exact ⟨_, rfl, rfl⟩
    | 1, _ => exact ⟨_, rfl, rfl⟩
    | 2, _ => exact ⟨_, rfl, rfl⟩
    | 3, _ => exact ⟨_, rfl, rfl⟩
    | 4, _ => exact ⟨_, rfl, rfl⟩
    | 5, _ => exact ⟨_, rfl, rfl⟩
    | 6, _ => exact ⟨_, rfl, rfl⟩
    | 7, _ => exact ⟨_, rfl, rfl⟩
    | 8, _ => exact ⟨_, rfl, rfl⟩
    | 9, _ => exact ⟨_, rfl, rfl⟩
    | 10, _ => exact ⟨_, rfl, rfl⟩
    | 11, _ => exact ⟨_, rfl, rfl⟩⟩
theorem words_hit {s : List UInt8} {k : Nat} (hk : k < 12) (h : s = wordsL.getD k []) : wordsL.contains s = true := by
  rw [List.contains_iff_mem, h, List.getD_eq_getElem?_getD, List.getElem?_eq_getElem (show k < wordsL.length from hk)]
  exact List.getElem_mem _
theorem words_miss {s : List UInt8} (h : ∀ j, j < 12 → s ≠ wordsL.getD j []) : wordsL.contains s = false := by
  cases e : wordsL.contains s
  · rfl
  · obtain ⟨j, hj, e⟩ := List.getElem_of_mem (List.contains_iff_mem.1 e)
    have hj2 : j < 12 := hj
    exact absurd (by simp [hj, e]) (h j hj2)
theorem eql_txt (s q : ByteArray) : binOp .eql 9 (.string s) (.string q) = pure (.bool (decide (txt s = txt q))) := by
  rw [binOp_string_eql]
  congr 2
  rw [Lib.toList_data, Lib.toList_data, Bool.eq_iff_iff]
  simp

end Go.Proofs.Ytkhjnicmbkklpaa
