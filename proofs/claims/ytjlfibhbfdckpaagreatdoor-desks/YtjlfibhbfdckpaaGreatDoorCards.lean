/-
  DERIVED. GIVEN WITH THE SEED: THE CARDS: each row of YtjlfibhbfdckpaaGreatDoorRows.lean that lists a variable, with what it lists TIED to the program's text (the seventh form; the later family's looks); each row that meets fmt, with fmt's text TOLD by the authors' own Lean function (tested against real Go, not proved from fmt's source: count such statements apart). THE CARD IS WHAT COUNTS. Prove the row's statement (the work); the ties are given (YtjlfibhbfdckpaaGreatDoorTie.lean); close each card by the builder's one call (the guide's Derived/Test/ToyasCard.lean, 'card_holds'). Laid BY PROGRAM, IN A SANDBOX (cutbox-door.mjs). By AI agents, Wed Nov 11 2026. No macro, syntax, notation, axiom, sorry.
-/
import Derived.Test.YtjlfibhbfdckpaaGreatDoorRows
import GoSem.ClaimSeven
namespace Go.Proofs.YtjlfibhbfdckpaaGreatDoor
namespace Rows

/-- THE TIED CARD OF 'casementlaw.Pictures'. -/
def picturesCard : Claim7 := { stood := { row := picturesRow, standIns := [], harness := (true, "da960e45a8083001b62557226efeb8a853519324e166ccd1ad0b84da7c978c7d"), looks := true }, kinds := [], alts := [], laidByText := true, laidKinds := [.data, .data, .data, .data, .pinned], laidTests := true, laidLooks := .later }
def PicturesCardSaid : Prop := Claim7.holds Tryz.pinned (.plain (OpenSpec.ofChange picturesSpec)) picturesCard

/-- THE TIED CARD OF 'casementlaw.Desks'. -/
def desksCard : Claim7 := { stood := { row := desksRow, standIns := [], harness := (true, "da960e45a8083001b62557226efeb8a853519324e166ccd1ad0b84da7c978c7d"), looks := true }, kinds := [], alts := [], laidByText := true, laidKinds := [.data, .data, .data, .data, .pinned], laidTests := true, laidLooks := .later }
def DesksCardSaid : Prop := Claim7.holds Tryz.pinned (.plain (OpenSpec.ofChange desksSpec)) desksCard

/-- THE TIED CARD OF 'casementkeep.Shown'. -/
def shownCard : Claim7 := { stood := { row := shownRow, standIns := [], harness := (true, "da960e45a8083001b62557226efeb8a853519324e166ccd1ad0b84da7c978c7d"), looks := true }, kinds := [], alts := [], laidByText := true, laidKinds := [.data, .data, .data, .data, .pinned], laidTests := true, laidLooks := .later }
def ShownCardSaid : Prop := Claim7.holds Tryz.pinned (.plain (OpenSpec.ofChange shownSpec)) shownCard

/-- THE TIED CARD OF 'casementkeep.Undone'. -/
def undoneCard : Claim7 := { stood := { row := undoneRow, standIns := [], harness := (true, "da960e45a8083001b62557226efeb8a853519324e166ccd1ad0b84da7c978c7d"), looks := true }, kinds := [], alts := [], laidByText := true, laidKinds := [.data, .data, .data, .data, .pinned], laidTests := true, laidLooks := .later }
def UndoneCardSaid : Prop := Claim7.holds Tryz.pinned (.plain (OpenSpec.ofChange undoneSpec)) undoneCard

/-- THE TIED CARD OF 'casementlaw.All'. -/
def allCard : Claim7 := { stood := { row := allRow, standIns := [], harness := (true, "da960e45a8083001b62557226efeb8a853519324e166ccd1ad0b84da7c978c7d"), looks := true }, kinds := [], alts := [], laidByText := true, laidKinds := [.data, .data, .data, .data, .pinned], laidTests := true, laidLooks := .later }
def AllCardSaid : Prop := Claim7.holds Tryz.pinned (.plain (OpenSpec.ofChange allSpec)) allCard

/-- THE SECOND FORM's CARD OF 'casementlaw.Pictures'. -/
def picturesUptoCard : Claim7 := { stood := { row := picturesUptoRow, standIns := [], harness := (true, "da960e45a8083001b62557226efeb8a853519324e166ccd1ad0b84da7c978c7d"), looks := true }, kinds := [], alts := [], laidByText := true, laidKinds := [.data, .data, .data, .data, .pinned], laidTests := true, laidLooks := .later }
def PicturesUptoCardSaid : Prop := Claim7.holds Tryz.pinned (.plain (OpenSpec.upto picturesSpec)) picturesUptoCard

/-- THE SECOND FORM's CARD OF 'casementlaw.Desks'. -/
def desksUptoCard : Claim7 := { stood := { row := desksUptoRow, standIns := [], harness := (true, "da960e45a8083001b62557226efeb8a853519324e166ccd1ad0b84da7c978c7d"), looks := true }, kinds := [], alts := [], laidByText := true, laidKinds := [.data, .data, .data, .data, .pinned], laidTests := true, laidLooks := .later }
def DesksUptoCardSaid : Prop := Claim7.holds Tryz.pinned (.plain (OpenSpec.upto desksSpec)) desksUptoCard

/-- THE SECOND FORM's CARD OF 'casementkeep.Shown'. -/
def shownUptoCard : Claim7 := { stood := { row := shownUptoRow, standIns := [], harness := (true, "da960e45a8083001b62557226efeb8a853519324e166ccd1ad0b84da7c978c7d"), looks := true }, kinds := [], alts := [], laidByText := true, laidKinds := [.data, .data, .data, .data, .pinned], laidTests := true, laidLooks := .later }
def ShownUptoCardSaid : Prop := Claim7.holds Tryz.pinned (.plain (OpenSpec.upto shownSpec)) shownUptoCard

/-- THE SECOND FORM's CARD OF 'casementkeep.Undone'. -/
def undoneUptoCard : Claim7 := { stood := { row := undoneUptoRow, standIns := [], harness := (true, "da960e45a8083001b62557226efeb8a853519324e166ccd1ad0b84da7c978c7d"), looks := true }, kinds := [], alts := [], laidByText := true, laidKinds := [.data, .data, .data, .data, .pinned], laidTests := true, laidLooks := .later }
def UndoneUptoCardSaid : Prop := Claim7.holds Tryz.pinned (.plain (OpenSpec.upto undoneSpec)) undoneUptoCard

/-- THE SECOND FORM's CARD OF 'casementlaw.All'. -/
def allUptoCard : Claim7 := { stood := { row := allUptoRow, standIns := [], harness := (true, "da960e45a8083001b62557226efeb8a853519324e166ccd1ad0b84da7c978c7d"), looks := true }, kinds := [], alts := [], laidByText := true, laidKinds := [.data, .data, .data, .data, .pinned], laidTests := true, laidLooks := .later }
def AllUptoCardSaid : Prop := Claim7.holds Tryz.pinned (.plain (OpenSpec.upto allSpec)) allUptoCard
end Rows
end Go.Proofs.YtjlfibhbfdckpaaGreatDoor
