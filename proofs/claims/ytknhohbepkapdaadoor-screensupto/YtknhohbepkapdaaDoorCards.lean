/-
  DERIVED. GIVEN WITH THE SEED: THE CARDS: each row of YtknhohbepkapdaaDoorRows.lean that lists a variable, with what it lists TIED to the program's text (the seventh form; the later family's looks); each row that meets fmt, with fmt's text TOLD by the authors' own Lean function (tested against real Go, not proved from fmt's source: count such statements apart). THE CARD IS WHAT COUNTS. Prove the row's statement (the work); the ties are given (YtknhohbepkapdaaDoorTie.lean); close each card by the builder's one call (the guide's Derived/Test/ToyasCard.lean, 'card_holds'). Laid BY PROGRAM, IN A SANDBOX (cutbox-door.mjs). By AI agents, Wed Nov 11 2026. No macro, syntax, notation, axiom, sorry.
-/
import Derived.Test.YtknhohbepkapdaaDoorRows
import GoSem.ClaimSeven
namespace Go.Proofs.YtknhohbepkapdaaDoor
namespace Rows

/-- THE TIED CARD OF 'casementlaw.Screens'. -/
def screensCard : Claim7 := { stood := { row := screensRow, standIns := [], harness := (true, "da277012626852694f1ac415a85c2fe19d69c7b748a34055d7414cb4939aea59"), looks := false }, kinds := [], alts := [], laidByText := true, laidKinds := [.data, .pinned], laidTests := true, laidLooks := .later }
def ScreensCardSaid : Prop := Claim7.holds Tryd.pinned (.plain (OpenSpec.ofChange screensSpec)) screensCard

/-- THE TIED CARD OF 'casementkeep.Safe'. -/
def safeCard : Claim7 := { stood := { row := safeRow, standIns := [], harness := (true, "da277012626852694f1ac415a85c2fe19d69c7b748a34055d7414cb4939aea59"), looks := false }, kinds := [], alts := [], laidByText := true, laidKinds := [.data, .pinned], laidTests := true, laidLooks := .later }
def SafeCardSaid : Prop := Claim7.holds Tryd.pinned (.plain (OpenSpec.ofChange safeSpec)) safeCard

/-- THE TIED CARD OF 'casementkeep.Split'. -/
def splitCard : Claim7 := { stood := { row := splitRow, standIns := [], harness := (true, "da277012626852694f1ac415a85c2fe19d69c7b748a34055d7414cb4939aea59"), looks := false }, kinds := [], alts := [], laidByText := true, laidKinds := [.data, .pinned], laidTests := true, laidLooks := .later }
def SplitCardSaid : Prop := Claim7.holds Tryd.pinned (.plain (OpenSpec.ofChange splitSpec)) splitCard

/-- THE SECOND FORM's CARD OF 'casementlaw.Screens'. -/
def screensUptoCard : Claim7 := { stood := { row := screensUptoRow, standIns := [], harness := (true, "da277012626852694f1ac415a85c2fe19d69c7b748a34055d7414cb4939aea59"), looks := false }, kinds := [], alts := [], laidByText := true, laidKinds := [.data, .pinned], laidTests := true, laidLooks := .later }
def ScreensUptoCardSaid : Prop := Claim7.holds Tryd.pinned (.plain (OpenSpec.upto screensSpec)) screensUptoCard

/-- THE SECOND FORM's CARD OF 'casementkeep.Safe'. -/
def safeUptoCard : Claim7 := { stood := { row := safeUptoRow, standIns := [], harness := (true, "da277012626852694f1ac415a85c2fe19d69c7b748a34055d7414cb4939aea59"), looks := false }, kinds := [], alts := [], laidByText := true, laidKinds := [.data, .pinned], laidTests := true, laidLooks := .later }
def SafeUptoCardSaid : Prop := Claim7.holds Tryd.pinned (.plain (OpenSpec.upto safeSpec)) safeUptoCard

/-- THE SECOND FORM's CARD OF 'casementkeep.Split'. -/
def splitUptoCard : Claim7 := { stood := { row := splitUptoRow, standIns := [], harness := (true, "da277012626852694f1ac415a85c2fe19d69c7b748a34055d7414cb4939aea59"), looks := false }, kinds := [], alts := [], laidByText := true, laidKinds := [.data, .pinned], laidTests := true, laidLooks := .later }
def SplitUptoCardSaid : Prop := Claim7.holds Tryd.pinned (.plain (OpenSpec.upto splitSpec)) splitUptoCard
end Rows
end Go.Proofs.YtknhohbepkapdaaDoor
