/-
  DERIVED. GIVEN WITH THE SEED: THE CARDS: each row of YtccgoigmchcggaaDoorRows.lean that lists a variable, with what it lists TIED to the program's text (the seventh form; the later family's looks); each row that meets fmt, with fmt's text TOLD by the authors' own Lean function (tested against real Go, not proved from fmt's source: count such statements apart). THE CARD IS WHAT COUNTS. Prove the row's statement (the work); the ties are given (YtccgoigmchcggaaDoorTie.lean); close each card by the builder's one call (the guide's Derived/Test/ToyasCard.lean, 'card_holds'). Laid BY PROGRAM, IN A SANDBOX (cutbox-door.mjs). By AI agents, Wed Nov 11 2026. No macro, syntax, notation, axiom, sorry.
-/
import Derived.Test.YtccgoigmchcggaaDoorRows
import GoSem.ClaimSeven
namespace Go.Proofs.YtccgoigmchcggaaDoor
namespace Rows

/-- THE TIED CARD OF 'stratagemlaw13.ProductTells'. -/
def productTellsCard : Claim7 := { stood := { row := productTellsRow, standIns := [], harness := (true, "0fd017d5762a574bbbc60ad5854b3b49ab1b5a9a2ec9c722f40fb4f676f4fe5d"), looks := false }, kinds := [], alts := [], laidByText := true, laidKinds := [.data], laidTests := true, laidLooks := .later }
def ProductTellsCardSaid : Prop := Claim7.holds Tryd.pinned (.plain (OpenSpec.ofChange productTellsSpec)) productTellsCard

/-- THE TIED CARD OF 'stratagemlaw13.ProductSound'. -/
def productSoundCard : Claim7 := { stood := { row := productSoundRow, standIns := [], harness := (true, "0fd017d5762a574bbbc60ad5854b3b49ab1b5a9a2ec9c722f40fb4f676f4fe5d"), looks := false }, kinds := [], alts := [], laidByText := true, laidKinds := [.data], laidTests := true, laidLooks := .later }
def ProductSoundCardSaid : Prop := Claim7.holds Tryd.pinned (.plain (OpenSpec.ofChange productSoundSpec)) productSoundCard

/-- THE TIED CARD OF 'stratagemlaw13.ProductFalls'. -/
def productFallsCard : Claim7 := { stood := { row := productFallsRow, standIns := [], harness := (true, "0fd017d5762a574bbbc60ad5854b3b49ab1b5a9a2ec9c722f40fb4f676f4fe5d"), looks := false }, kinds := [], alts := [], laidByText := true, laidKinds := [.data], laidTests := true, laidLooks := .later }
def ProductFallsCardSaid : Prop := Claim7.holds Tryd.pinned (.plain (OpenSpec.ofChange productFallsSpec)) productFallsCard

/-- THE TIED CARD OF 'stratagemlaw13.ProductSingle'. -/
def productSingleCard : Claim7 := { stood := { row := productSingleRow, standIns := [], harness := (true, "0fd017d5762a574bbbc60ad5854b3b49ab1b5a9a2ec9c722f40fb4f676f4fe5d"), looks := false }, kinds := [], alts := [], laidByText := true, laidKinds := [.data], laidTests := true, laidLooks := .later }
def ProductSingleCardSaid : Prop := Claim7.holds Tryd.pinned (.plain (OpenSpec.ofChange productSingleSpec)) productSingleCard

/-- THE SECOND FORM's CARD OF 'stratagemlaw13.ProductTells'. -/
def productTellsUptoCard : Claim7 := { stood := { row := productTellsUptoRow, standIns := [], harness := (true, "0fd017d5762a574bbbc60ad5854b3b49ab1b5a9a2ec9c722f40fb4f676f4fe5d"), looks := false }, kinds := [], alts := [], laidByText := true, laidKinds := [.data], laidTests := true, laidLooks := .later }
def ProductTellsUptoCardSaid : Prop := Claim7.holds Tryd.pinned (.plain (OpenSpec.upto productTellsSpec)) productTellsUptoCard

/-- THE SECOND FORM's CARD OF 'stratagemlaw13.ProductSound'. -/
def productSoundUptoCard : Claim7 := { stood := { row := productSoundUptoRow, standIns := [], harness := (true, "0fd017d5762a574bbbc60ad5854b3b49ab1b5a9a2ec9c722f40fb4f676f4fe5d"), looks := false }, kinds := [], alts := [], laidByText := true, laidKinds := [.data], laidTests := true, laidLooks := .later }
def ProductSoundUptoCardSaid : Prop := Claim7.holds Tryd.pinned (.plain (OpenSpec.upto productSoundSpec)) productSoundUptoCard

/-- THE SECOND FORM's CARD OF 'stratagemlaw13.ProductFalls'. -/
def productFallsUptoCard : Claim7 := { stood := { row := productFallsUptoRow, standIns := [], harness := (true, "0fd017d5762a574bbbc60ad5854b3b49ab1b5a9a2ec9c722f40fb4f676f4fe5d"), looks := false }, kinds := [], alts := [], laidByText := true, laidKinds := [.data], laidTests := true, laidLooks := .later }
def ProductFallsUptoCardSaid : Prop := Claim7.holds Tryd.pinned (.plain (OpenSpec.upto productFallsSpec)) productFallsUptoCard

/-- THE SECOND FORM's CARD OF 'stratagemlaw13.ProductSingle'. -/
def productSingleUptoCard : Claim7 := { stood := { row := productSingleUptoRow, standIns := [], harness := (true, "0fd017d5762a574bbbc60ad5854b3b49ab1b5a9a2ec9c722f40fb4f676f4fe5d"), looks := false }, kinds := [], alts := [], laidByText := true, laidKinds := [.data], laidTests := true, laidLooks := .later }
def ProductSingleUptoCardSaid : Prop := Claim7.holds Tryd.pinned (.plain (OpenSpec.upto productSingleSpec)) productSingleUptoCard
end Rows
end Go.Proofs.YtccgoigmchcggaaDoor
