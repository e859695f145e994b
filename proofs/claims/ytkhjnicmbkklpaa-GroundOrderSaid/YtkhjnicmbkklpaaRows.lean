/-
  No cell of these rows narrows 'for every input' (looked for: loops, veiled, ifaces, maps, wideKeys, modest, calm, conditions, laid).
  DERIVED. THE GIVEN ROWS OF THIS SEAT. 3 by the template 'for every input the law returns true; each argument reads behind the call as it read before'; 0 by the template 'total and deterministic' (their statements: YtkhjnicmbkklpaaTotals.lean).
  GIVEN WITH THE SEED: the statements are not yours to turn. If you find one false, say at which input.
  Laid BY PROGRAM, IN A SANDBOX (cutbox-rows.mjs): the forced cells as the released guide's own fill.sh prints them over the translation 66b1a66fdf1ff5e3… (all of the seat's roots in one cut). By AI agents, Wed Nov 11 2026. No macro, syntax, notation, axiom, sorry.
-/
import Derived.Test.YtkhjnicmbkklpaaChecked
import GoSem.Claim
import GoSem.ClaimJoined
import GoSem.ClaimMapViews
import Derived.JoinedTies
import Derived.KernelRfl
namespace Go.Proofs.Ytkhjnicmbkklpaa
/- THE CELL 'sum', in the pinned program and in every row, IS THE sha256 OF THE DUMP (.gsa) THAT YtkhjnicmbkklpaaProg.lean LOADS. Nothing in Lean hashes anything: it is a label: what it is worth is what the hold of that sum in a sandbox is worth. -/
noncomputable def Try.pinned : Pinned := { name := "ytkhjnicmbkklpaa", sum := "66b1a66fdf1ff5e327c1f0fed4ee73c4b5b36d94b8793bf3760bcb5586616952", checked := Try.checked }
namespace Rows
def none {H : Type} : Left H := { results := [], args := [] }

/-- 'stratagemlaw11.GroundTells': WHATEVER THE INPUT: true; the input reads as it did. -/
def groundTellsSpec : ChangeSpec := { name := "groundTells", fn := fun _ => fun
  | [d1, d2] => { results := [.lit (.bool true)], args := [d1, d2] }
  | _ => none }
def groundTellsRow : OpenClaim := { program := "ytkhjnicmbkklpaa", sum := "66b1a66fdf1ff5e327c1f0fed4ee73c4b5b36d94b8793bf3760bcb5586616952", func := "stratagem/stratagemlaw11.GroundTells", spec := "groundTells", unfollowed := true, recurses := true, apart := false }
def GroundTellsSaid : Prop := groundTellsRow.holds Try.pinned (OpenSpec.ofChange groundTellsSpec)

/-- ITS FALSE NEIGHBOUR: 'it returns false'. Refute it at one input. -/
def groundTellsWrong : ChangeSpec := { name := "groundTells", fn := fun _ => fun
  | [d1, d2] => { results := [.lit (.bool false)], args := [d1, d2] }
  | _ => none }
def GroundTellsWrongFalsely : Prop := groundTellsRow.holds Try.pinned (OpenSpec.ofChange groundTellsWrong)

/-- 'stratagemlaw11.GroundTurn': WHATEVER THE INPUT: true; the input reads as it did. -/
def groundTurnSpec : ChangeSpec := { name := "groundTurn", fn := fun _ => fun
  | [d1, d2] => { results := [.lit (.bool true)], args := [d1, d2] }
  | _ => none }
def groundTurnRow : OpenClaim := { program := "ytkhjnicmbkklpaa", sum := "66b1a66fdf1ff5e327c1f0fed4ee73c4b5b36d94b8793bf3760bcb5586616952", func := "stratagem/stratagemlaw11.GroundTurn", spec := "groundTurn", unfollowed := true, recurses := true, apart := false }
def GroundTurnSaid : Prop := groundTurnRow.holds Try.pinned (OpenSpec.ofChange groundTurnSpec)

/-- ITS FALSE NEIGHBOUR: 'it returns false'. Refute it at one input. -/
def groundTurnWrong : ChangeSpec := { name := "groundTurn", fn := fun _ => fun
  | [d1, d2] => { results := [.lit (.bool false)], args := [d1, d2] }
  | _ => none }
def GroundTurnWrongFalsely : Prop := groundTurnRow.holds Try.pinned (OpenSpec.ofChange groundTurnWrong)

/-- 'stratagemlaw11.GroundOrder': WHATEVER THE INPUT: true; the input reads as it did. -/
def groundOrderSpec : ChangeSpec := { name := "groundOrder", fn := fun _ => fun
  | [d1, d2, d3, d4] => { results := [.lit (.bool true)], args := [d1, d2, d3, d4] }
  | _ => none }
def groundOrderRow : OpenClaim := { program := "ytkhjnicmbkklpaa", sum := "66b1a66fdf1ff5e327c1f0fed4ee73c4b5b36d94b8793bf3760bcb5586616952", func := "stratagem/stratagemlaw11.GroundOrder", spec := "groundOrder", unfollowed := true, recurses := true, apart := false }
def GroundOrderSaid : Prop := groundOrderRow.holds Try.pinned (OpenSpec.ofChange groundOrderSpec)

/-- ITS FALSE NEIGHBOUR: 'it returns false'. Refute it at one input. -/
def groundOrderWrong : ChangeSpec := { name := "groundOrder", fn := fun _ => fun
  | [d1, d2, d3, d4] => { results := [.lit (.bool false)], args := [d1, d2, d3, d4] }
  | _ => none }
def GroundOrderWrongFalsely : Prop := groundOrderRow.holds Try.pinned (OpenSpec.ofChange groundOrderWrong)

/- THE SECOND FORM. 'bulk': how many values and letters a reading holds, each counted each time it is reached (what is shared counts as often as it is met; a slice's spare places count too). A statement '..UptoSaid' is the law's where the arguments, and the package variables that the reading takes, are together of bulk at most 1048576: NARROWER than '..Said'. Prove '..Said' where nothing that the law and all that it calls make is longer than what came in: it says more and counts as full. Else prove '..UptoSaid'. A law counts once. -/
mutual
def uptoBulk {H : Type} : DataW H → Nat
  | .lit (.string bytes) => bytes.length + 1
  | .lit _ => 1
  | .nil => 1
  | .ptr d => uptoBulk d + 1
  | .slice elems spare => uptoBulkAll elems + uptoBulkAll spare + 1
  | .agg parts => uptoBulkAll parts + 1
  | .iface _ d => uptoBulk d + 1
  | .map entries => uptoBulkEntries entries + 1
  | .held _ => 1
def uptoBulkAll {H : Type} : List (DataW H) → Nat
  | [] => 0
  | d :: r => uptoBulk d + uptoBulkAll r
def uptoBulkEntries {H : Type} : List (Lit × DataW H) → Nat
  | [] => 0
  | x :: r => uptoBulkEntry x + uptoBulkEntries r
def uptoBulkEntry {H : Type} : Lit × DataW H → Nat
  | (.string bytes, d) => bytes.length + uptoBulk d + 1
  | (_, d) => uptoBulk d + 1
 end
def uptoSmall : (H : Type) → List (DataW H) → Bool := fun _ ds => decide (uptoBulkAll ds ≤ 1048576)
def OpenSpec.upto (s : _root_.Go.ChangeSpec) : _root_.Go.OpenSpec := { _root_.Go.OpenSpec.ofChange s with cond := some uptoSmall }

/-- 'stratagemlaw11.GroundTells', WHERE WHAT IT READS IS OF BULK AT MOST 1048576: true; the input reads as it did. -/
def groundTellsUptoRow : OpenClaim := { program := "ytkhjnicmbkklpaa", sum := "66b1a66fdf1ff5e327c1f0fed4ee73c4b5b36d94b8793bf3760bcb5586616952", func := "stratagem/stratagemlaw11.GroundTells", spec := "groundTells", unfollowed := true, recurses := true, apart := false, narrowed := true }
def GroundTellsUptoSaid : Prop := groundTellsUptoRow.holds Try.pinned (OpenSpec.upto groundTellsSpec)

/-- 'stratagemlaw11.GroundTurn', WHERE WHAT IT READS IS OF BULK AT MOST 1048576: true; the input reads as it did. -/
def groundTurnUptoRow : OpenClaim := { program := "ytkhjnicmbkklpaa", sum := "66b1a66fdf1ff5e327c1f0fed4ee73c4b5b36d94b8793bf3760bcb5586616952", func := "stratagem/stratagemlaw11.GroundTurn", spec := "groundTurn", unfollowed := true, recurses := true, apart := false, narrowed := true }
def GroundTurnUptoSaid : Prop := groundTurnUptoRow.holds Try.pinned (OpenSpec.upto groundTurnSpec)

/-- 'stratagemlaw11.GroundOrder', WHERE WHAT IT READS IS OF BULK AT MOST 1048576: true; the input reads as it did. -/
def groundOrderUptoRow : OpenClaim := { program := "ytkhjnicmbkklpaa", sum := "66b1a66fdf1ff5e327c1f0fed4ee73c4b5b36d94b8793bf3760bcb5586616952", func := "stratagem/stratagemlaw11.GroundOrder", spec := "groundOrder", unfollowed := true, recurses := true, apart := false, narrowed := true }
def GroundOrderUptoSaid : Prop := groundOrderUptoRow.holds Try.pinned (OpenSpec.upto groundOrderSpec)

end Rows
end Go.Proofs.Ytkhjnicmbkklpaa
