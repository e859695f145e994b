/-
  DERIVED. GIVEN WITH THE SEED: THE CARDS: each row of YtnabkhmonmcmfaaDoorRows.lean that lists a variable, with what it lists TIED to the program's text (the seventh form; the later family's looks); each row that meets fmt, with fmt's text TOLD by the authors' own Lean function (tested against real Go, not proved from fmt's source: count such statements apart). THE CARD IS WHAT COUNTS. Prove the row's statement (the work); the ties are given (YtnabkhmonmcmfaaDoorTie.lean); close each card by the builder's one call (the guide's Derived/Test/ToyasCard.lean, 'card_holds'). Laid BY PROGRAM, IN A SANDBOX (cutbox-door.mjs). By AI agents, Wed Nov 11 2026. No macro, syntax, notation, axiom, sorry.
-/
import Derived.Test.YtnabkhmonmcmfaaDoorRows
import GoSem.ClaimSeven
namespace Go.Proofs.YtnabkhmonmcmfaaDoor
namespace Rows

/-- THE TIED CARD OF 'stratagemlaw04.DomTells'. -/
def domTellsCard : Claim7 := { stood := { row := domTellsRow, standIns := [], harness := (true, "6f8101c9500ba597638f773758f89b2eda8fa74be50af51aef6aabcd6da5a3d4"), looks := false }, kinds := [], alts := [], laidByText := true, laidKinds := [.data], laidTests := true, laidLooks := .later }
def DomTellsCardSaid : Prop := Claim7.holds Tryd.pinned (.plain (OpenSpec.ofChange domTellsSpec)) domTellsCard

/-- THE TIED CARD OF 'stratagemlaw04.DomFalls'. -/
def domFallsCard : Claim7 := { stood := { row := domFallsRow, standIns := [], harness := (true, "6f8101c9500ba597638f773758f89b2eda8fa74be50af51aef6aabcd6da5a3d4"), looks := false }, kinds := [], alts := [], laidByText := true, laidKinds := [.data], laidTests := true, laidLooks := .later }
def DomFallsCardSaid : Prop := Claim7.holds Tryd.pinned (.plain (OpenSpec.ofChange domFallsSpec)) domFallsCard

/-- THE TIED CARD OF 'stratagemlaw04.DomOwn'. -/
def domOwnCard : Claim7 := { stood := { row := domOwnRow, standIns := [], harness := (true, "6f8101c9500ba597638f773758f89b2eda8fa74be50af51aef6aabcd6da5a3d4"), looks := false }, kinds := [], alts := [], laidByText := true, laidKinds := [.data], laidTests := true, laidLooks := .later }
def DomOwnCardSaid : Prop := Claim7.holds Tryd.pinned (.plain (OpenSpec.ofChange domOwnSpec)) domOwnCard

/-- THE SECOND FORM's CARD OF 'stratagemlaw04.DomTells'. -/
def domTellsUptoCard : Claim7 := { stood := { row := domTellsUptoRow, standIns := [], harness := (true, "6f8101c9500ba597638f773758f89b2eda8fa74be50af51aef6aabcd6da5a3d4"), looks := false }, kinds := [], alts := [], laidByText := true, laidKinds := [.data], laidTests := true, laidLooks := .later }
def DomTellsUptoCardSaid : Prop := Claim7.holds Tryd.pinned (.plain (OpenSpec.upto domTellsSpec)) domTellsUptoCard

/-- THE SECOND FORM's CARD OF 'stratagemlaw04.DomFalls'. -/
def domFallsUptoCard : Claim7 := { stood := { row := domFallsUptoRow, standIns := [], harness := (true, "6f8101c9500ba597638f773758f89b2eda8fa74be50af51aef6aabcd6da5a3d4"), looks := false }, kinds := [], alts := [], laidByText := true, laidKinds := [.data], laidTests := true, laidLooks := .later }
def DomFallsUptoCardSaid : Prop := Claim7.holds Tryd.pinned (.plain (OpenSpec.upto domFallsSpec)) domFallsUptoCard

/-- THE SECOND FORM's CARD OF 'stratagemlaw04.DomOwn'. -/
def domOwnUptoCard : Claim7 := { stood := { row := domOwnUptoRow, standIns := [], harness := (true, "6f8101c9500ba597638f773758f89b2eda8fa74be50af51aef6aabcd6da5a3d4"), looks := false }, kinds := [], alts := [], laidByText := true, laidKinds := [.data], laidTests := true, laidLooks := .later }
def DomOwnUptoCardSaid : Prop := Claim7.holds Tryd.pinned (.plain (OpenSpec.upto domOwnSpec)) domOwnUptoCard
end Rows
end Go.Proofs.YtnabkhmonmcmfaaDoor
