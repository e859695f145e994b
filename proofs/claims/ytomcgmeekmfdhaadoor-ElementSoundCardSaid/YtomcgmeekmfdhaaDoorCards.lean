/-
  DERIVED. GIVEN WITH THE SEED: THE CARDS: each row of YtomcgmeekmfdhaaDoorRows.lean that lists a variable, with what it lists TIED to the program's text (the seventh form; the later family's looks); each row that meets fmt, with fmt's text TOLD by the authors' own Lean function (tested against real Go, not proved from fmt's source: count such statements apart). THE CARD IS WHAT COUNTS. Prove the row's statement (the work); the ties are given (YtomcgmeekmfdhaaDoorTie.lean); close each card by the builder's one call (the guide's Derived/Test/ToyasCard.lean, 'card_holds'). Laid BY PROGRAM, IN A SANDBOX (cutbox-door.mjs). By AI agents, Wed Nov 11 2026. No macro, syntax, notation, axiom, sorry.
-/
import Derived.Test.YtomcgmeekmfdhaaDoorRows
import GoSem.ClaimSeven
namespace Go.Proofs.YtomcgmeekmfdhaaDoor
namespace Rows

/-- THE TIED CARD OF 'stratagemlaw14.ElementTells'. -/
def elementTellsCard : Claim7 := { stood := { row := elementTellsRow, standIns := [], harness := (true, "e9f0dba8aeb95be338f48af7e5d46552d8883440d6479424e8caf5e0b0d29015"), looks := false }, kinds := [], alts := [], laidByText := true, laidKinds := [.data], laidTests := true, laidLooks := .later }
def ElementTellsCardSaid : Prop := Claim7.holds Tryd.pinned (.plain (OpenSpec.ofChange elementTellsSpec)) elementTellsCard

/-- THE TIED CARD OF 'stratagemlaw14.ElementSound'. -/
def elementSoundCard : Claim7 := { stood := { row := elementSoundRow, standIns := [], harness := (true, "e9f0dba8aeb95be338f48af7e5d46552d8883440d6479424e8caf5e0b0d29015"), looks := false }, kinds := [], alts := [], laidByText := true, laidKinds := [.data], laidTests := true, laidLooks := .later }
def ElementSoundCardSaid : Prop := Claim7.holds Tryd.pinned (.plain (OpenSpec.ofChange elementSoundSpec)) elementSoundCard

/-- THE TIED CARD OF 'stratagemlaw14.ElementFalls'. -/
def elementFallsCard : Claim7 := { stood := { row := elementFallsRow, standIns := [], harness := (true, "e9f0dba8aeb95be338f48af7e5d46552d8883440d6479424e8caf5e0b0d29015"), looks := false }, kinds := [], alts := [], laidByText := true, laidKinds := [.data], laidTests := true, laidLooks := .later }
def ElementFallsCardSaid : Prop := Claim7.holds Tryd.pinned (.plain (OpenSpec.ofChange elementFallsSpec)) elementFallsCard

/-- THE TIED CARD OF 'stratagemlaw14.ElementSingle'. -/
def elementSingleCard : Claim7 := { stood := { row := elementSingleRow, standIns := [], harness := (true, "e9f0dba8aeb95be338f48af7e5d46552d8883440d6479424e8caf5e0b0d29015"), looks := false }, kinds := [], alts := [], laidByText := true, laidKinds := [.data], laidTests := true, laidLooks := .later }
def ElementSingleCardSaid : Prop := Claim7.holds Tryd.pinned (.plain (OpenSpec.ofChange elementSingleSpec)) elementSingleCard

/-- THE SECOND FORM's CARD OF 'stratagemlaw14.ElementTells'. -/
def elementTellsUptoCard : Claim7 := { stood := { row := elementTellsUptoRow, standIns := [], harness := (true, "e9f0dba8aeb95be338f48af7e5d46552d8883440d6479424e8caf5e0b0d29015"), looks := false }, kinds := [], alts := [], laidByText := true, laidKinds := [.data], laidTests := true, laidLooks := .later }
def ElementTellsUptoCardSaid : Prop := Claim7.holds Tryd.pinned (.plain (OpenSpec.upto elementTellsSpec)) elementTellsUptoCard

/-- THE SECOND FORM's CARD OF 'stratagemlaw14.ElementSound'. -/
def elementSoundUptoCard : Claim7 := { stood := { row := elementSoundUptoRow, standIns := [], harness := (true, "e9f0dba8aeb95be338f48af7e5d46552d8883440d6479424e8caf5e0b0d29015"), looks := false }, kinds := [], alts := [], laidByText := true, laidKinds := [.data], laidTests := true, laidLooks := .later }
def ElementSoundUptoCardSaid : Prop := Claim7.holds Tryd.pinned (.plain (OpenSpec.upto elementSoundSpec)) elementSoundUptoCard

/-- THE SECOND FORM's CARD OF 'stratagemlaw14.ElementFalls'. -/
def elementFallsUptoCard : Claim7 := { stood := { row := elementFallsUptoRow, standIns := [], harness := (true, "e9f0dba8aeb95be338f48af7e5d46552d8883440d6479424e8caf5e0b0d29015"), looks := false }, kinds := [], alts := [], laidByText := true, laidKinds := [.data], laidTests := true, laidLooks := .later }
def ElementFallsUptoCardSaid : Prop := Claim7.holds Tryd.pinned (.plain (OpenSpec.upto elementFallsSpec)) elementFallsUptoCard

/-- THE SECOND FORM's CARD OF 'stratagemlaw14.ElementSingle'. -/
def elementSingleUptoCard : Claim7 := { stood := { row := elementSingleUptoRow, standIns := [], harness := (true, "e9f0dba8aeb95be338f48af7e5d46552d8883440d6479424e8caf5e0b0d29015"), looks := false }, kinds := [], alts := [], laidByText := true, laidKinds := [.data], laidTests := true, laidLooks := .later }
def ElementSingleUptoCardSaid : Prop := Claim7.holds Tryd.pinned (.plain (OpenSpec.upto elementSingleSpec)) elementSingleUptoCard
end Rows
end Go.Proofs.YtomcgmeekmfdhaaDoor
