/-
  NARROWER THAN 'FOR EVERY INPUT', by the rows' own cells (each row's printed sentence says how): LinearTells: laid · LinearSound: laid · LinearFalls: laid · LinearSingle: laid · LinearContrary: laid.
  DERIVED. THE GIVEN ROWS OF THIS SEAT. 5 by the template 'for every input the law returns true; each argument reads behind the call as it read before'; 0 by the template 'total and deterministic' (their statements: YtakooocmnapjmaaDoorTotals.lean).
  GIVEN WITH THE SEED: the statements are not yours to turn. If you find one false, say at which input.
  Laid BY PROGRAM, IN A SANDBOX (cutbox-rows.mjs): the forced cells as the released guide's own fill.sh prints them over the translation a452546264b92d1b… (all of the seat's roots in one cut). By AI agents, Wed Nov 11 2026. No macro, syntax, notation, axiom, sorry.
-/
import Derived.Test.YtakooocmnapjmaaDoorChecked
import GoSem.Claim
import GoSem.ClaimJoined
import GoSem.ClaimMapViews
import Derived.JoinedTies
import Derived.KernelRfl
namespace Go.Proofs.YtakooocmnapjmaaDoor
/- THE CELL 'sum', in the pinned program and in every row, IS THE sha256 OF THE DUMP (.gsa) THAT YtakooocmnapjmaaDoorProg.lean LOADS. Nothing in Lean hashes anything: it is a label: what it is worth is what the hold of that sum in a sandbox is worth. -/
noncomputable def Tryd.pinned : Pinned := { name := "ytakooocmnapjmaadoor", sum := "a452546264b92d1bb8eaf48980e0959c250c5e2f002a8ee2a2394a763a7cb92c", checked := Tryd.checked }
namespace Rows
def none {H : Type} : Left H := { results := [], args := [] }

/- WHAT THE LISTED PACKAGE-LEVEL VARIABLES READ AS WHEN THE CALL BEGINS. Each datum BY PROGRAM (the guide's laid-datum.mjs) off the statement by which the dump's own 'gosem.cut.vars' lays the variable. In a bare row this is a premise. The card (YtakooocmnapjmaaDoorCards.lean) ties it to the program's text. -/
def laid_math_bits_deBruijn64tab {H : Type} : DataW H := .agg [.lit (.int .u8 0), .lit (.int .u8 1), .lit (.int .u8 56), .lit (.int .u8 2), .lit (.int .u8 57), .lit (.int .u8 49), .lit (.int .u8 28), .lit (.int .u8 3), .lit (.int .u8 61), .lit (.int .u8 58), .lit (.int .u8 42), .lit (.int .u8 50), .lit (.int .u8 38), .lit (.int .u8 29), .lit (.int .u8 17), .lit (.int .u8 4), .lit (.int .u8 62), .lit (.int .u8 47), .lit (.int .u8 59), .lit (.int .u8 36), .lit (.int .u8 45), .lit (.int .u8 43), .lit (.int .u8 51), .lit (.int .u8 22), .lit (.int .u8 53), .lit (.int .u8 39), .lit (.int .u8 33), .lit (.int .u8 30), .lit (.int .u8 24), .lit (.int .u8 18), .lit (.int .u8 12), .lit (.int .u8 5), .lit (.int .u8 63), .lit (.int .u8 55), .lit (.int .u8 48), .lit (.int .u8 27), .lit (.int .u8 60), .lit (.int .u8 41), .lit (.int .u8 37), .lit (.int .u8 16), .lit (.int .u8 46), .lit (.int .u8 35), .lit (.int .u8 44), .lit (.int .u8 21), .lit (.int .u8 52), .lit (.int .u8 32), .lit (.int .u8 23), .lit (.int .u8 11), .lit (.int .u8 54), .lit (.int .u8 26), .lit (.int .u8 40), .lit (.int .u8 15), .lit (.int .u8 34), .lit (.int .u8 20), .lit (.int .u8 31), .lit (.int .u8 10), .lit (.int .u8 25), .lit (.int .u8 14), .lit (.int .u8 19), .lit (.int .u8 9), .lit (.int .u8 13), .lit (.int .u8 8), .lit (.int .u8 7), .lit (.int .u8 6)]

/-- 'stratagemlaw12.LinearTells': WHATEVER THE INPUT: true; the input reads as it did. -/
def linearTellsSpec : ChangeSpec := { name := "linearTells", fn := fun _ => fun
  | [d1, d2] => { results := [.lit (.bool true)], args := [d1, d2] }
  | _ => none }
def linearTellsRow : OpenClaim := { program := "ytakooocmnapjmaadoor", sum := "a452546264b92d1bb8eaf48980e0959c250c5e2f002a8ee2a2394a763a7cb92c", func := "stratagem/stratagemlaw12.LinearTells", spec := "linearTells", unfollowed := true, recurses := true, named := ["math/bits.deBruijn64tab"], apart := false, laid := [("math/bits.deBruijn64tab", laid_math_bits_deBruijn64tab)] }
def LinearTellsSaid : Prop := linearTellsRow.holds Tryd.pinned (OpenSpec.ofChange linearTellsSpec)

/-- ITS FALSE NEIGHBOUR: 'it returns false'. Refute it at one input. -/
def linearTellsWrong : ChangeSpec := { name := "linearTells", fn := fun _ => fun
  | [d1, d2] => { results := [.lit (.bool false)], args := [d1, d2] }
  | _ => none }
def LinearTellsWrongFalsely : Prop := linearTellsRow.holds Tryd.pinned (OpenSpec.ofChange linearTellsWrong)

/-- 'stratagemlaw12.LinearSound': WHATEVER THE INPUT: true; the input reads as it did. -/
def linearSoundSpec : ChangeSpec := { name := "linearSound", fn := fun _ => fun
  | [d1, d2, d3] => { results := [.lit (.bool true)], args := [d1, d2, d3] }
  | _ => none }
def linearSoundRow : OpenClaim := { program := "ytakooocmnapjmaadoor", sum := "a452546264b92d1bb8eaf48980e0959c250c5e2f002a8ee2a2394a763a7cb92c", func := "stratagem/stratagemlaw12.LinearSound", spec := "linearSound", unfollowed := true, recurses := true, named := ["math/bits.deBruijn64tab"], apart := false, laid := [("math/bits.deBruijn64tab", laid_math_bits_deBruijn64tab)] }
def LinearSoundSaid : Prop := linearSoundRow.holds Tryd.pinned (OpenSpec.ofChange linearSoundSpec)

/-- ITS FALSE NEIGHBOUR: 'it returns false'. Refute it at one input. -/
def linearSoundWrong : ChangeSpec := { name := "linearSound", fn := fun _ => fun
  | [d1, d2, d3] => { results := [.lit (.bool false)], args := [d1, d2, d3] }
  | _ => none }
def LinearSoundWrongFalsely : Prop := linearSoundRow.holds Tryd.pinned (OpenSpec.ofChange linearSoundWrong)

/-- 'stratagemlaw12.LinearFalls': WHATEVER THE INPUT: true; the input reads as it did. -/
def linearFallsSpec : ChangeSpec := { name := "linearFalls", fn := fun _ => fun
  | [d1, d2, d3] => { results := [.lit (.bool true)], args := [d1, d2, d3] }
  | _ => none }
def linearFallsRow : OpenClaim := { program := "ytakooocmnapjmaadoor", sum := "a452546264b92d1bb8eaf48980e0959c250c5e2f002a8ee2a2394a763a7cb92c", func := "stratagem/stratagemlaw12.LinearFalls", spec := "linearFalls", unfollowed := true, recurses := true, named := ["math/bits.deBruijn64tab"], apart := false, laid := [("math/bits.deBruijn64tab", laid_math_bits_deBruijn64tab)] }
def LinearFallsSaid : Prop := linearFallsRow.holds Tryd.pinned (OpenSpec.ofChange linearFallsSpec)

/-- ITS FALSE NEIGHBOUR: 'it returns false'. Refute it at one input. -/
def linearFallsWrong : ChangeSpec := { name := "linearFalls", fn := fun _ => fun
  | [d1, d2, d3] => { results := [.lit (.bool false)], args := [d1, d2, d3] }
  | _ => none }
def LinearFallsWrongFalsely : Prop := linearFallsRow.holds Tryd.pinned (OpenSpec.ofChange linearFallsWrong)

/-- 'stratagemlaw12.LinearSingle': WHATEVER THE INPUT: true; the input reads as it did. -/
def linearSingleSpec : ChangeSpec := { name := "linearSingle", fn := fun _ => fun
  | [d1, d2] => { results := [.lit (.bool true)], args := [d1, d2] }
  | _ => none }
def linearSingleRow : OpenClaim := { program := "ytakooocmnapjmaadoor", sum := "a452546264b92d1bb8eaf48980e0959c250c5e2f002a8ee2a2394a763a7cb92c", func := "stratagem/stratagemlaw12.LinearSingle", spec := "linearSingle", unfollowed := true, recurses := true, named := ["math/bits.deBruijn64tab"], apart := false, laid := [("math/bits.deBruijn64tab", laid_math_bits_deBruijn64tab)] }
def LinearSingleSaid : Prop := linearSingleRow.holds Tryd.pinned (OpenSpec.ofChange linearSingleSpec)

/-- ITS FALSE NEIGHBOUR: 'it returns false'. Refute it at one input. -/
def linearSingleWrong : ChangeSpec := { name := "linearSingle", fn := fun _ => fun
  | [d1, d2] => { results := [.lit (.bool false)], args := [d1, d2] }
  | _ => none }
def LinearSingleWrongFalsely : Prop := linearSingleRow.holds Tryd.pinned (OpenSpec.ofChange linearSingleWrong)

/-- 'stratagemlaw12.LinearContrary': WHATEVER THE INPUT: true; the input reads as it did. -/
def linearContrarySpec : ChangeSpec := { name := "linearContrary", fn := fun _ => fun
  | [d1, d2] => { results := [.lit (.bool true)], args := [d1, d2] }
  | _ => none }
def linearContraryRow : OpenClaim := { program := "ytakooocmnapjmaadoor", sum := "a452546264b92d1bb8eaf48980e0959c250c5e2f002a8ee2a2394a763a7cb92c", func := "stratagem/stratagemlaw12.LinearContrary", spec := "linearContrary", unfollowed := true, recurses := true, named := ["math/bits.deBruijn64tab"], apart := false, laid := [("math/bits.deBruijn64tab", laid_math_bits_deBruijn64tab)] }
def LinearContrarySaid : Prop := linearContraryRow.holds Tryd.pinned (OpenSpec.ofChange linearContrarySpec)

/-- ITS FALSE NEIGHBOUR: 'it returns false'. Refute it at one input. -/
def linearContraryWrong : ChangeSpec := { name := "linearContrary", fn := fun _ => fun
  | [d1, d2] => { results := [.lit (.bool false)], args := [d1, d2] }
  | _ => none }
def LinearContraryWrongFalsely : Prop := linearContraryRow.holds Tryd.pinned (OpenSpec.ofChange linearContraryWrong)

/- THE SECOND FORM. 'bulk': how many values and letters a reading holds, each counted each time it is reached (what is shared counts as often as it is met; a slice's spare places count too). A statement '..UptoSaid' is the law's where the arguments, and the package variables that the reading takes, are together of bulk at most 1048576: NARROWER than '..Said'. Prove '..Said' where nothing that the law and all that it calls make is longer than what came in: it says more and counts as full. Else prove '..UptoSaid'. A law counts once. -/
mutual
def uptoBulk {H : Type} : DataW H → Nat
  | .lit (.string bytes) => bytes.length + 1
  | .lit _ => 1
  | .nil => 1
  | .ptr d => uptoBulk d + 1
  | .slice elems spare => uptoBulkAll elems + uptoBulkAll spare + 1
  | .agg parts => uptoBulkAll parts + 1
  | .iface _ d => uptoBulk d + 1
  | .map entries => uptoBulkEntries entries + 1
  | .held _ => 1
def uptoBulkAll {H : Type} : List (DataW H) → Nat
  | [] => 0
  | d :: r => uptoBulk d + uptoBulkAll r
def uptoBulkEntries {H : Type} : List (Lit × DataW H) → Nat
  | [] => 0
  | x :: r => uptoBulkEntry x + uptoBulkEntries r
def uptoBulkEntry {H : Type} : Lit × DataW H → Nat
  | (.string bytes, d) => bytes.length + uptoBulk d + 1
  | (_, d) => uptoBulk d + 1
 end
def uptoSmall : (H : Type) → List (DataW H) → Bool := fun _ ds => decide (uptoBulkAll ds ≤ 1048576)
def OpenSpec.upto (s : _root_.Go.ChangeSpec) : _root_.Go.OpenSpec := { _root_.Go.OpenSpec.ofChange s with cond := some uptoSmall }

/-- 'stratagemlaw12.LinearTells', WHERE WHAT IT READS IS OF BULK AT MOST 1048576: true; the input reads as it did. -/
def linearTellsUptoRow : OpenClaim := { program := "ytakooocmnapjmaadoor", sum := "a452546264b92d1bb8eaf48980e0959c250c5e2f002a8ee2a2394a763a7cb92c", func := "stratagem/stratagemlaw12.LinearTells", spec := "linearTells", unfollowed := true, recurses := true, named := ["math/bits.deBruijn64tab"], apart := false, laid := [("math/bits.deBruijn64tab", laid_math_bits_deBruijn64tab)], narrowed := true }
def LinearTellsUptoSaid : Prop := linearTellsUptoRow.holds Tryd.pinned (OpenSpec.upto linearTellsSpec)

/-- 'stratagemlaw12.LinearSound', WHERE WHAT IT READS IS OF BULK AT MOST 1048576: true; the input reads as it did. -/
def linearSoundUptoRow : OpenClaim := { program := "ytakooocmnapjmaadoor", sum := "a452546264b92d1bb8eaf48980e0959c250c5e2f002a8ee2a2394a763a7cb92c", func := "stratagem/stratagemlaw12.LinearSound", spec := "linearSound", unfollowed := true, recurses := true, named := ["math/bits.deBruijn64tab"], apart := false, laid := [("math/bits.deBruijn64tab", laid_math_bits_deBruijn64tab)], narrowed := true }
def LinearSoundUptoSaid : Prop := linearSoundUptoRow.holds Tryd.pinned (OpenSpec.upto linearSoundSpec)

/-- 'stratagemlaw12.LinearFalls', WHERE WHAT IT READS IS OF BULK AT MOST 1048576: true; the input reads as it did. -/
def linearFallsUptoRow : OpenClaim := { program := "ytakooocmnapjmaadoor", sum := "a452546264b92d1bb8eaf48980e0959c250c5e2f002a8ee2a2394a763a7cb92c", func := "stratagem/stratagemlaw12.LinearFalls", spec := "linearFalls", unfollowed := true, recurses := true, named := ["math/bits.deBruijn64tab"], apart := false, laid := [("math/bits.deBruijn64tab", laid_math_bits_deBruijn64tab)], narrowed := true }
def LinearFallsUptoSaid : Prop := linearFallsUptoRow.holds Tryd.pinned (OpenSpec.upto linearFallsSpec)

/-- 'stratagemlaw12.LinearSingle', WHERE WHAT IT READS IS OF BULK AT MOST 1048576: true; the input reads as it did. -/
def linearSingleUptoRow : OpenClaim := { program := "ytakooocmnapjmaadoor", sum := "a452546264b92d1bb8eaf48980e0959c250c5e2f002a8ee2a2394a763a7cb92c", func := "stratagem/stratagemlaw12.LinearSingle", spec := "linearSingle", unfollowed := true, recurses := true, named := ["math/bits.deBruijn64tab"], apart := false, laid := [("math/bits.deBruijn64tab", laid_math_bits_deBruijn64tab)], narrowed := true }
def LinearSingleUptoSaid : Prop := linearSingleUptoRow.holds Tryd.pinned (OpenSpec.upto linearSingleSpec)

/-- 'stratagemlaw12.LinearContrary', WHERE WHAT IT READS IS OF BULK AT MOST 1048576: true; the input reads as it did. -/
def linearContraryUptoRow : OpenClaim := { program := "ytakooocmnapjmaadoor", sum := "a452546264b92d1bb8eaf48980e0959c250c5e2f002a8ee2a2394a763a7cb92c", func := "stratagem/stratagemlaw12.LinearContrary", spec := "linearContrary", unfollowed := true, recurses := true, named := ["math/bits.deBruijn64tab"], apart := false, laid := [("math/bits.deBruijn64tab", laid_math_bits_deBruijn64tab)], narrowed := true }
def LinearContraryUptoSaid : Prop := linearContraryUptoRow.holds Tryd.pinned (OpenSpec.upto linearContrarySpec)

end Rows
end Go.Proofs.YtakooocmnapjmaaDoor
