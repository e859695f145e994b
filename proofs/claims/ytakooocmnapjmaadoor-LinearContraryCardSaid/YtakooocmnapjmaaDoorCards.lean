/-
  DERIVED. GIVEN WITH THE SEED: THE CARDS: each row of YtakooocmnapjmaaDoorRows.lean that lists a variable, with what it lists TIED to the program's text (the seventh form; the later family's looks); each row that meets fmt, with fmt's text TOLD by the authors' own Lean function (tested against real Go, not proved from fmt's source: count such statements apart). THE CARD IS WHAT COUNTS. Prove the row's statement (the work); the ties are given (YtakooocmnapjmaaDoorTie.lean); close each card by the builder's one call (the guide's Derived/Test/ToyasCard.lean, 'card_holds'). Laid BY PROGRAM, IN A SANDBOX (cutbox-door.mjs). By AI agents, Wed Nov 11 2026. No macro, syntax, notation, axiom, sorry.
-/
import Derived.Test.YtakooocmnapjmaaDoorRows
import GoSem.ClaimSeven
namespace Go.Proofs.YtakooocmnapjmaaDoor
namespace Rows

/-- THE TIED CARD OF 'stratagemlaw12.LinearTells'. -/
def linearTellsCard : Claim7 := { stood := { row := linearTellsRow, standIns := [], harness := (true, "e7b25e9e5d3f49ec3be8e3c1b60610226eb7291dede17c41229d1a86256e403d"), looks := false }, kinds := [], alts := [], laidByText := true, laidKinds := [.data], laidTests := true, laidLooks := .later }
def LinearTellsCardSaid : Prop := Claim7.holds Tryd.pinned (.plain (OpenSpec.ofChange linearTellsSpec)) linearTellsCard

/-- THE TIED CARD OF 'stratagemlaw12.LinearSound'. -/
def linearSoundCard : Claim7 := { stood := { row := linearSoundRow, standIns := [], harness := (true, "e7b25e9e5d3f49ec3be8e3c1b60610226eb7291dede17c41229d1a86256e403d"), looks := false }, kinds := [], alts := [], laidByText := true, laidKinds := [.data], laidTests := true, laidLooks := .later }
def LinearSoundCardSaid : Prop := Claim7.holds Tryd.pinned (.plain (OpenSpec.ofChange linearSoundSpec)) linearSoundCard

/-- THE TIED CARD OF 'stratagemlaw12.LinearFalls'. -/
def linearFallsCard : Claim7 := { stood := { row := linearFallsRow, standIns := [], harness := (true, "e7b25e9e5d3f49ec3be8e3c1b60610226eb7291dede17c41229d1a86256e403d"), looks := false }, kinds := [], alts := [], laidByText := true, laidKinds := [.data], laidTests := true, laidLooks := .later }
def LinearFallsCardSaid : Prop := Claim7.holds Tryd.pinned (.plain (OpenSpec.ofChange linearFallsSpec)) linearFallsCard

/-- THE TIED CARD OF 'stratagemlaw12.LinearSingle'. -/
def linearSingleCard : Claim7 := { stood := { row := linearSingleRow, standIns := [], harness := (true, "e7b25e9e5d3f49ec3be8e3c1b60610226eb7291dede17c41229d1a86256e403d"), looks := false }, kinds := [], alts := [], laidByText := true, laidKinds := [.data], laidTests := true, laidLooks := .later }
def LinearSingleCardSaid : Prop := Claim7.holds Tryd.pinned (.plain (OpenSpec.ofChange linearSingleSpec)) linearSingleCard

/-- THE TIED CARD OF 'stratagemlaw12.LinearContrary'. -/
def linearContraryCard : Claim7 := { stood := { row := linearContraryRow, standIns := [], harness := (true, "e7b25e9e5d3f49ec3be8e3c1b60610226eb7291dede17c41229d1a86256e403d"), looks := false }, kinds := [], alts := [], laidByText := true, laidKinds := [.data], laidTests := true, laidLooks := .later }
def LinearContraryCardSaid : Prop := Claim7.holds Tryd.pinned (.plain (OpenSpec.ofChange linearContrarySpec)) linearContraryCard

/-- THE SECOND FORM's CARD OF 'stratagemlaw12.LinearTells'. -/
def linearTellsUptoCard : Claim7 := { stood := { row := linearTellsUptoRow, standIns := [], harness := (true, "e7b25e9e5d3f49ec3be8e3c1b60610226eb7291dede17c41229d1a86256e403d"), looks := false }, kinds := [], alts := [], laidByText := true, laidKinds := [.data], laidTests := true, laidLooks := .later }
def LinearTellsUptoCardSaid : Prop := Claim7.holds Tryd.pinned (.plain (OpenSpec.upto linearTellsSpec)) linearTellsUptoCard

/-- THE SECOND FORM's CARD OF 'stratagemlaw12.LinearSound'. -/
def linearSoundUptoCard : Claim7 := { stood := { row := linearSoundUptoRow, standIns := [], harness := (true, "e7b25e9e5d3f49ec3be8e3c1b60610226eb7291dede17c41229d1a86256e403d"), looks := false }, kinds := [], alts := [], laidByText := true, laidKinds := [.data], laidTests := true, laidLooks := .later }
def LinearSoundUptoCardSaid : Prop := Claim7.holds Tryd.pinned (.plain (OpenSpec.upto linearSoundSpec)) linearSoundUptoCard

/-- THE SECOND FORM's CARD OF 'stratagemlaw12.LinearFalls'. -/
def linearFallsUptoCard : Claim7 := { stood := { row := linearFallsUptoRow, standIns := [], harness := (true, "e7b25e9e5d3f49ec3be8e3c1b60610226eb7291dede17c41229d1a86256e403d"), looks := false }, kinds := [], alts := [], laidByText := true, laidKinds := [.data], laidTests := true, laidLooks := .later }
def LinearFallsUptoCardSaid : Prop := Claim7.holds Tryd.pinned (.plain (OpenSpec.upto linearFallsSpec)) linearFallsUptoCard

/-- THE SECOND FORM's CARD OF 'stratagemlaw12.LinearSingle'. -/
def linearSingleUptoCard : Claim7 := { stood := { row := linearSingleUptoRow, standIns := [], harness := (true, "e7b25e9e5d3f49ec3be8e3c1b60610226eb7291dede17c41229d1a86256e403d"), looks := false }, kinds := [], alts := [], laidByText := true, laidKinds := [.data], laidTests := true, laidLooks := .later }
def LinearSingleUptoCardSaid : Prop := Claim7.holds Tryd.pinned (.plain (OpenSpec.upto linearSingleSpec)) linearSingleUptoCard

/-- THE SECOND FORM's CARD OF 'stratagemlaw12.LinearContrary'. -/
def linearContraryUptoCard : Claim7 := { stood := { row := linearContraryUptoRow, standIns := [], harness := (true, "e7b25e9e5d3f49ec3be8e3c1b60610226eb7291dede17c41229d1a86256e403d"), looks := false }, kinds := [], alts := [], laidByText := true, laidKinds := [.data], laidTests := true, laidLooks := .later }
def LinearContraryUptoCardSaid : Prop := Claim7.holds Tryd.pinned (.plain (OpenSpec.upto linearContrarySpec)) linearContraryUptoCard
end Rows
end Go.Proofs.YtakooocmnapjmaaDoor
