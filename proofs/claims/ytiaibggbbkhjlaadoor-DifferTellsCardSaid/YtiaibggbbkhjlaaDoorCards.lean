/-
  DERIVED. GIVEN WITH THE SEED: THE CARDS: each row of YtiaibggbbkhjlaaDoorRows.lean that lists a variable, with what it lists TIED to the program's text (the seventh form; the later family's looks); each row that meets fmt, with fmt's text TOLD by the authors' own Lean function (tested against real Go, not proved from fmt's source: count such statements apart). THE CARD IS WHAT COUNTS. Prove the row's statement (the work); the ties are given (YtiaibggbbkhjlaaDoorTie.lean); close each card by the builder's one call (the guide's Derived/Test/ToyasCard.lean, 'card_holds'). Laid BY PROGRAM, IN A SANDBOX (cutbox-door.mjs). By AI agents, Wed Nov 11 2026. No macro, syntax, notation, axiom, sorry.
-/
import Derived.Test.YtiaibggbbkhjlaaDoorRows
import GoSem.ClaimSeven
namespace Go.Proofs.YtiaibggbbkhjlaaDoor
namespace Rows

/-- THE TIED CARD OF 'stratagemlaw15.DifferTells'. -/
def differTellsCard : Claim7 := { stood := { row := differTellsRow, standIns := [], harness := (true, "a49ea952e9489f6db48d12cdf667009b5aa2e2a2a52963bb53b30e702a1fa47b"), looks := false }, kinds := [], alts := [], laidByText := true, laidKinds := [.data], laidTests := true, laidLooks := .later }
def DifferTellsCardSaid : Prop := Claim7.holds Tryd.pinned (.plain (OpenSpec.ofChange differTellsSpec)) differTellsCard

/-- THE TIED CARD OF 'stratagemlaw15.DifferSound'. -/
def differSoundCard : Claim7 := { stood := { row := differSoundRow, standIns := [], harness := (true, "a49ea952e9489f6db48d12cdf667009b5aa2e2a2a52963bb53b30e702a1fa47b"), looks := false }, kinds := [], alts := [], laidByText := true, laidKinds := [.data], laidTests := true, laidLooks := .later }
def DifferSoundCardSaid : Prop := Claim7.holds Tryd.pinned (.plain (OpenSpec.ofChange differSoundSpec)) differSoundCard

/-- THE TIED CARD OF 'stratagemlaw15.DifferFalls'. -/
def differFallsCard : Claim7 := { stood := { row := differFallsRow, standIns := [], harness := (true, "a49ea952e9489f6db48d12cdf667009b5aa2e2a2a52963bb53b30e702a1fa47b"), looks := false }, kinds := [], alts := [], laidByText := true, laidKinds := [.data], laidTests := true, laidLooks := .later }
def DifferFallsCardSaid : Prop := Claim7.holds Tryd.pinned (.plain (OpenSpec.ofChange differFallsSpec)) differFallsCard

/-- THE TIED CARD OF 'stratagemlaw15.DifferSingle'. -/
def differSingleCard : Claim7 := { stood := { row := differSingleRow, standIns := [], harness := (true, "a49ea952e9489f6db48d12cdf667009b5aa2e2a2a52963bb53b30e702a1fa47b"), looks := false }, kinds := [], alts := [], laidByText := true, laidKinds := [.data], laidTests := true, laidLooks := .later }
def DifferSingleCardSaid : Prop := Claim7.holds Tryd.pinned (.plain (OpenSpec.ofChange differSingleSpec)) differSingleCard

/-- THE SECOND FORM's CARD OF 'stratagemlaw15.DifferTells'. -/
def differTellsUptoCard : Claim7 := { stood := { row := differTellsUptoRow, standIns := [], harness := (true, "a49ea952e9489f6db48d12cdf667009b5aa2e2a2a52963bb53b30e702a1fa47b"), looks := false }, kinds := [], alts := [], laidByText := true, laidKinds := [.data], laidTests := true, laidLooks := .later }
def DifferTellsUptoCardSaid : Prop := Claim7.holds Tryd.pinned (.plain (OpenSpec.upto differTellsSpec)) differTellsUptoCard

/-- THE SECOND FORM's CARD OF 'stratagemlaw15.DifferSound'. -/
def differSoundUptoCard : Claim7 := { stood := { row := differSoundUptoRow, standIns := [], harness := (true, "a49ea952e9489f6db48d12cdf667009b5aa2e2a2a52963bb53b30e702a1fa47b"), looks := false }, kinds := [], alts := [], laidByText := true, laidKinds := [.data], laidTests := true, laidLooks := .later }
def DifferSoundUptoCardSaid : Prop := Claim7.holds Tryd.pinned (.plain (OpenSpec.upto differSoundSpec)) differSoundUptoCard

/-- THE SECOND FORM's CARD OF 'stratagemlaw15.DifferFalls'. -/
def differFallsUptoCard : Claim7 := { stood := { row := differFallsUptoRow, standIns := [], harness := (true, "a49ea952e9489f6db48d12cdf667009b5aa2e2a2a52963bb53b30e702a1fa47b"), looks := false }, kinds := [], alts := [], laidByText := true, laidKinds := [.data], laidTests := true, laidLooks := .later }
def DifferFallsUptoCardSaid : Prop := Claim7.holds Tryd.pinned (.plain (OpenSpec.upto differFallsSpec)) differFallsUptoCard

/-- THE SECOND FORM's CARD OF 'stratagemlaw15.DifferSingle'. -/
def differSingleUptoCard : Claim7 := { stood := { row := differSingleUptoRow, standIns := [], harness := (true, "a49ea952e9489f6db48d12cdf667009b5aa2e2a2a52963bb53b30e702a1fa47b"), looks := false }, kinds := [], alts := [], laidByText := true, laidKinds := [.data], laidTests := true, laidLooks := .later }
def DifferSingleUptoCardSaid : Prop := Claim7.holds Tryd.pinned (.plain (OpenSpec.upto differSingleSpec)) differSingleUptoCard
end Rows
end Go.Proofs.YtiaibggbbkhjlaaDoor
