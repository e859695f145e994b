/-
  Models, blocks, variables and constraints in memory, as plain data; and that what comes in reads so.
-/
import Derived.Test.YtkhjnicmbkklpaaProg
import Derived.Test.YtkhjnicmbkklpaaMData
import Derived.KernelRfl
namespace Go.Proofs.Ytkhjnicmbkklpaa
open Go.ChangeShapes Go.WideShapes Go.RowKit
set_option maxRecDepth 100000

structure PDecl where
  name : List UInt8
  dom : List (Int × Int)
structure PCon where
  kind : Int
  vars : List Int
  coefs : List Int
  rel : Int
  const : Int
  nums : List Int
structure PBlock where
  all : Bool
  vars : List PDecl
  cons : List PCon
structure PModel where
  blocks : List PBlock
  goal : List PCon
instance : Inhabited PDecl := ⟨⟨[], []⟩⟩
instance : Inhabited PCon := ⟨⟨0, [], [], 0, 0, []⟩⟩
instance : Inhabited PBlock := ⟨⟨false, [], []⟩⟩
instance : Inhabited PModel := ⟨⟨[], []⟩⟩

/-- is it a number of 64 bits? -/
def Fit (n : Int) : Prop := -9223372036854775808 ≤ n ∧ n ≤ 9223372036854775807
def rNum : Reader Int := fun _ cs n => cs = [.int .i64 n] ∧ Fit n
def rSpan : Reader (Int × Int) := fun _ cs s => cs = [.int .i64 s.1, .int .i64 s.2] ∧ Fit s.1 ∧ Fit s.2
def rDecl : Reader PDecl := fun w cs d => ∃ (s : ByteArray) (v : Value), cs = [.string s, v] ∧ s.data.toList = d.name ∧ Slc rSpan 2 w v d.dom
def rCon : Reader PCon := fun w cs c => ∃ v1 v2 v3 : Value, cs = [.int .i64 c.kind, v1, v2, .int .i64 c.rel, .int .i64 c.const, v3] ∧ (Fit c.kind ∧ Fit c.rel ∧ Fit c.const) ∧ Slc rNum 1 w v1 c.vars ∧ Slc rNum 1 w v2 c.coefs ∧ Slc rNum 1 w v3 c.nums
def rBlock : Reader PBlock := fun w cs b => ∃ v1 v2 : Value, cs = [.bool b.all, v1, v2] ∧ Slc rDecl 2 w v1 b.vars ∧ Slc rCon 6 w v2 b.cons
def rModel : Reader PModel := fun w cs m => ∃ v1 v2 : Value, cs = [v1, v2] ∧ Slc rBlock 3 w v1 m.blocks ∧ Slc rCon 6 w v2 m.goal

theorem rNum_stays : rNum.Stays := fun _ _ _ _ _ h => h
theorem rSpan_stays : rSpan.Stays := fun _ _ _ _ _ h => h
theorem rDecl_stays : rDecl.Stays := fun _ _ _ _ hB ⟨s, v, h1, h2, h3⟩ => ⟨s, v, h1, h2, h3.below rSpan_stays hB⟩
theorem rCon_stays : rCon.Stays := fun _ _ _ _ hB ⟨v1, v2, v3, h1, h2, h3, h4, h5⟩ => ⟨v1, v2, v3, h1, h2, h3.below rNum_stays hB, h4.below rNum_stays hB, h5.below rNum_stays hB⟩
theorem rBlock_stays : rBlock.Stays := fun _ _ _ _ hB ⟨v1, v2, h1, h2, h3⟩ => ⟨v1, v2, h1, h2.below rDecl_stays hB, h3.below rCon_stays hB⟩
theorem rModel_stays : rModel.Stays := fun _ _ _ _ hB ⟨v1, v2, h1, h2, h3⟩ => ⟨v1, v2, h1, h2.below rBlock_stays hB, h3.below rCon_stays hB⟩

section
variable {H : Type} {enc : TypeId × Value → H} {W : World} {base : Nat} {held : Bool}

theorem fit_of {n : Int} (h : (Lit.int .i64 n).wf = true) : Fit n := by
  simpa [Fit, Lit.wf, IntKind.min, IntKind.max, IntKind.signed, IntKind.bits] using h
set_option maxRecDepth 100000 in
theorem num_fits : Fits enc Try.prog W base held 3 rNum := fun fuel cs x h => by
  obtain ⟨n, rfl, _, hw⟩ := DataW.trod_int Try.underlying3 h
  exact ⟨n, rfl, fit_of hw⟩
set_option maxRecDepth 100000 in
theorem nums_fit {fuel : Nat} {cs : List Value} {x : DataW H × List MemPlace} (h : DataW.trod enc Try.prog W base (fun _ => true) held fuel 23 cs = some x) : ∃ v L, cs = [v] ∧ Slc rNum 1 W v L :=
  slc_cells Try.underlying23 (by kernel_rfl) (by decide) num_fits h
set_option maxRecDepth 100000 in
theorem con_fits : Fits enc Try.prog W base held 27 rCon := fun fuel cs x h => by
  obtain ⟨xs, n, _, _, hl, hx, hf⟩ := DataW.trod_struct Try.underlying27 h
  have hl : cs.length = 6 := hl.trans (by kernel_rfl)
  have c3 : Try.prog.cellsOf 3 = 1 := by kernel_rfl
  have c26 : Try.prog.cellsOf 23 = 1 := by kernel_rfl
  match cs, hl, xs, hx with
  | [u0, u1, u2, u3, u4, u5], _, [y0, y1, y2, y3, y4, y5], _ =>
    have g0 := hf 0 _ rfl
    have g1 := hf 1 _ rfl
    have g2 := hf 2 _ rfl
    have g3 := hf 3 _ rfl
    have g4 := hf 4 _ rfl
    have g5 := hf 5 _ rfl
    simp [c3, c26] at g0 g1 g2 g3 g4 g5
    obtain ⟨a, e0, _, w0⟩ := DataW.trod_int Try.underlying3 g0
    obtain ⟨v1, L1, e1, h1⟩ := nums_fit g1
    obtain ⟨v2, L2, e2, h2⟩ := nums_fit g2
    obtain ⟨r, e3, _, w3⟩ := DataW.trod_int Try.underlying3 g3
    obtain ⟨k, e4, _, w4⟩ := DataW.trod_int Try.underlying3 g4
    obtain ⟨v5, L5, e5, h5⟩ := nums_fit g5
    obtain rfl : u0 = _ := by simpa using e0
    obtain rfl : u1 = _ := by simpa using e1
    obtain rfl : u2 = _ := by simpa using e2
    obtain rfl : u3 = _ := by simpa using e3
    obtain rfl : u4 = _ := by simpa using e4
    obtain rfl : u5 = _ := by simpa using e5
    exact ⟨⟨a, L1, L2, r, k, L5⟩, _, _, _, rfl, ⟨fit_of w0, fit_of w3, fit_of w4⟩, h1, h2, h5⟩
set_option maxRecDepth 100000 in
theorem cons_fit {fuel : Nat} {cs : List Value} {x : DataW H × List MemPlace} (h : DataW.trod enc Try.prog W base (fun _ => true) held fuel 22 cs = some x) : ∃ v L, cs = [v] ∧ Slc rCon 6 W v L :=
  slc_cells Try.underlying22 (by kernel_rfl) (by decide) con_fits h
/-- a constraint that came in -/
theorem openedC {v : Value} {d : DataW H} {ps : List MemPlace} (h : DataW.Trod enc Try.prog W 0 (fun _ => true) true 27 v d ps) : ∃ c, rCon W v.cells.toList c := by
  obtain ⟨fuel, hf⟩ := h
  exact con_fits _ _ _ hf
end
end Go.Proofs.Ytkhjnicmbkklpaa
