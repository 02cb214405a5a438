/-
  DERIVED. GIVEN WITH THE SEED: THE CARDS: each row of YtlhcajhgbkgjbaaGreatDoorRows.lean that lists a variable, with what it lists TIED to the program's text (the seventh form; the later family's looks); each row that meets fmt, with fmt's text TOLD by the authors' own Lean function (tested against real Go, not proved from fmt's source: count such statements apart). THE CARD IS WHAT COUNTS. Prove the row's statement (the work); the ties are given (YtlhcajhgbkgjbaaGreatDoorTie.lean); close each card by the builder's one call (the guide's Derived/Test/ToyasCard.lean, 'card_holds'). Laid BY PROGRAM, IN A SANDBOX (cutbox-door.mjs). By AI agents, Wed Nov 11 2026. No macro, syntax, notation, axiom, sorry.
-/
import Derived.Test.YtlhcajhgbkgjbaaGreatDoorRows
import GoSem.ClaimSeven
namespace Go.Proofs.YtlhcajhgbkgjbaaGreatDoor
namespace Rows

/-- THE TIED CARD OF 'bailmentlaw09.TypesOf'. -/
def typesOfCard : Claim7 := { stood := { row := typesOfRow, standIns := [], harness := (true, "c45c386109690d216cdc4cadd661f7b3f66c6234dfa5397f29798275fe934fa7"), looks := true }, kinds := [], alts := [], laidByText := true, laidKinds := [.wider], laidTests := true, laidLooks := .later }
def TypesOfCardSaid : Prop := Claim7.holds Tryz.pinned (.plain (OpenSpec.ofChange typesOfSpec)) typesOfCard

/-- THE TIED CARD OF 'bailmentlaw09.TypesCheck'. -/
def typesCheckCard : Claim7 := { stood := { row := typesCheckRow, standIns := [], harness := (true, "c45c386109690d216cdc4cadd661f7b3f66c6234dfa5397f29798275fe934fa7"), looks := true }, kinds := [], alts := [], laidByText := true, laidKinds := [.wider], laidTests := true, laidLooks := .later }
def TypesCheckCardSaid : Prop := Claim7.holds Tryz.pinned (.plain (OpenSpec.ofChange typesCheckSpec)) typesCheckCard

/-- THE TIED CARD OF 'bailmentlaw09.TypesParts'. -/
def typesPartsCard : Claim7 := { stood := { row := typesPartsRow, standIns := [], harness := (true, "c45c386109690d216cdc4cadd661f7b3f66c6234dfa5397f29798275fe934fa7"), looks := true }, kinds := [], alts := [], laidByText := true, laidKinds := [.wider], laidTests := true, laidLooks := .later }
def TypesPartsCardSaid : Prop := Claim7.holds Tryz.pinned (.plain (OpenSpec.ofChange typesPartsSpec)) typesPartsCard

/-- THE TIED CARD OF 'bailmentlaw09.TypesPut'. -/
def typesPutCard : Claim7 := { stood := { row := typesPutRow, standIns := [], harness := (true, "c45c386109690d216cdc4cadd661f7b3f66c6234dfa5397f29798275fe934fa7"), looks := true }, kinds := [], alts := [], laidByText := true, laidKinds := [.wider], laidTests := true, laidLooks := .later }
def TypesPutCardSaid : Prop := Claim7.holds Tryz.pinned (.plain (OpenSpec.ofChange typesPutSpec)) typesPutCard

/-- THE SECOND FORM's CARD OF 'bailmentlaw09.TypesOf'. -/
def typesOfUptoCard : Claim7 := { stood := { row := typesOfUptoRow, standIns := [], harness := (true, "c45c386109690d216cdc4cadd661f7b3f66c6234dfa5397f29798275fe934fa7"), looks := true }, kinds := [], alts := [], laidByText := true, laidKinds := [.wider], laidTests := true, laidLooks := .later }
def TypesOfUptoCardSaid : Prop := Claim7.holds Tryz.pinned (.plain (OpenSpec.upto typesOfSpec)) typesOfUptoCard

/-- THE SECOND FORM's CARD OF 'bailmentlaw09.TypesCheck'. -/
def typesCheckUptoCard : Claim7 := { stood := { row := typesCheckUptoRow, standIns := [], harness := (true, "c45c386109690d216cdc4cadd661f7b3f66c6234dfa5397f29798275fe934fa7"), looks := true }, kinds := [], alts := [], laidByText := true, laidKinds := [.wider], laidTests := true, laidLooks := .later }
def TypesCheckUptoCardSaid : Prop := Claim7.holds Tryz.pinned (.plain (OpenSpec.upto typesCheckSpec)) typesCheckUptoCard

/-- THE SECOND FORM's CARD OF 'bailmentlaw09.TypesParts'. -/
def typesPartsUptoCard : Claim7 := { stood := { row := typesPartsUptoRow, standIns := [], harness := (true, "c45c386109690d216cdc4cadd661f7b3f66c6234dfa5397f29798275fe934fa7"), looks := true }, kinds := [], alts := [], laidByText := true, laidKinds := [.wider], laidTests := true, laidLooks := .later }
def TypesPartsUptoCardSaid : Prop := Claim7.holds Tryz.pinned (.plain (OpenSpec.upto typesPartsSpec)) typesPartsUptoCard

/-- THE SECOND FORM's CARD OF 'bailmentlaw09.TypesPut'. -/
def typesPutUptoCard : Claim7 := { stood := { row := typesPutUptoRow, standIns := [], harness := (true, "c45c386109690d216cdc4cadd661f7b3f66c6234dfa5397f29798275fe934fa7"), looks := true }, kinds := [], alts := [], laidByText := true, laidKinds := [.wider], laidTests := true, laidLooks := .later }
def TypesPutUptoCardSaid : Prop := Claim7.holds Tryz.pinned (.plain (OpenSpec.upto typesPutSpec)) typesPutUptoCard
end Rows
end Go.Proofs.YtlhcajhgbkgjbaaGreatDoor
