/-
  DERIVED. GIVEN WITH THE SEED: THE CARDS: each row of YtobkcdkffcenbaaGreatDoorRows.lean that lists a variable, with what it lists TIED to the program's text (the seventh form; the later family's looks); each row that meets fmt, with fmt's text TOLD by the authors' own Lean function (tested against real Go, not proved from fmt's source: count such statements apart). THE CARD IS WHAT COUNTS. Prove the row's statement (the work); the ties are given (YtobkcdkffcenbaaGreatDoorTie.lean); close each card by the builder's one call (the guide's Derived/Test/ToyasCard.lean, 'card_holds'). Laid BY PROGRAM, IN A SANDBOX (cutbox-door.mjs). By AI agents, Wed Nov 11 2026. No macro, syntax, notation, axiom, sorry.
-/
import Derived.Test.YtobkcdkffcenbaaGreatDoorRows
import GoSem.ClaimSeven
namespace Go.Proofs.YtobkcdkffcenbaaGreatDoor
namespace Rows

/-- THE TIED CARD OF 'bailmentlaw09.TypesCheck'. -/
def typesCheckCard : Claim7 := { stood := { row := typesCheckRow, standIns := [], harness := (true, "2c8f55314c046f8ed3e04349546dfb5da84e3c05ff5e68a91f48617ddd15213d"), looks := true }, kinds := [], alts := [], laidByText := true, laidKinds := [.wider], laidTests := true, laidLooks := .later }
def TypesCheckCardSaid : Prop := Claim7.holds Tryz.pinned (.plain (OpenSpec.ofChange typesCheckSpec)) typesCheckCard

/-- THE TIED CARD OF 'bailmentlaw09.TypesPut'. -/
def typesPutCard : Claim7 := { stood := { row := typesPutRow, standIns := [], harness := (true, "2c8f55314c046f8ed3e04349546dfb5da84e3c05ff5e68a91f48617ddd15213d"), looks := true }, kinds := [], alts := [], laidByText := true, laidKinds := [.wider], laidTests := true, laidLooks := .later }
def TypesPutCardSaid : Prop := Claim7.holds Tryz.pinned (.plain (OpenSpec.ofChange typesPutSpec)) typesPutCard

/-- THE SECOND FORM's CARD OF 'bailmentlaw09.TypesCheck'. -/
def typesCheckUptoCard : Claim7 := { stood := { row := typesCheckUptoRow, standIns := [], harness := (true, "2c8f55314c046f8ed3e04349546dfb5da84e3c05ff5e68a91f48617ddd15213d"), looks := true }, kinds := [], alts := [], laidByText := true, laidKinds := [.wider], laidTests := true, laidLooks := .later }
def TypesCheckUptoCardSaid : Prop := Claim7.holds Tryz.pinned (.plain (OpenSpec.upto typesCheckSpec)) typesCheckUptoCard

/-- THE SECOND FORM's CARD OF 'bailmentlaw09.TypesPut'. -/
def typesPutUptoCard : Claim7 := { stood := { row := typesPutUptoRow, standIns := [], harness := (true, "2c8f55314c046f8ed3e04349546dfb5da84e3c05ff5e68a91f48617ddd15213d"), looks := true }, kinds := [], alts := [], laidByText := true, laidKinds := [.wider], laidTests := true, laidLooks := .later }
def TypesPutUptoCardSaid : Prop := Claim7.holds Tryz.pinned (.plain (OpenSpec.upto typesPutSpec)) typesPutUptoCard
end Rows
end Go.Proofs.YtobkcdkffcenbaaGreatDoor
