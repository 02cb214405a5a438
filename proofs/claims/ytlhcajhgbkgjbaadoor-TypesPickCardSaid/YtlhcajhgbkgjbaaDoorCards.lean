/-
  DERIVED. GIVEN WITH THE SEED: THE CARDS: each row of YtlhcajhgbkgjbaaDoorRows.lean that lists a variable, with what it lists TIED to the program's text (the seventh form; the later family's looks); each row that meets fmt, with fmt's text TOLD by the authors' own Lean function (tested against real Go, not proved from fmt's source: count such statements apart). THE CARD IS WHAT COUNTS. Prove the row's statement (the work); the ties are given (YtlhcajhgbkgjbaaDoorTie.lean); close each card by the builder's one call (the guide's Derived/Test/ToyasCard.lean, 'card_holds'). Laid BY PROGRAM, IN A SANDBOX (cutbox-door.mjs). By AI agents, Wed Nov 11 2026. No macro, syntax, notation, axiom, sorry.
-/
import Derived.Test.YtlhcajhgbkgjbaaDoorRows
import GoSem.ClaimSeven
namespace Go.Proofs.YtlhcajhgbkgjbaaDoor
namespace Rows

/-- THE TIED CARD OF 'bailmentlaw09.TypesMore'. -/
def typesMoreCard : Claim7 := { stood := { row := typesMoreRow, standIns := [], harness := (true, "c0f8e1f6ab4ed246753730f527e5d9d1fa4f1ff695272e47524a4798b0fe8b33"), looks := true }, kinds := [], alts := [], laidByText := true, laidKinds := [.wider], laidTests := true, laidLooks := .later }
def TypesMoreCardSaid : Prop := Claim7.holds Tryd.pinned (.plain (OpenSpec.ofChange typesMoreSpec)) typesMoreCard

/-- THE TIED CARD OF 'bailmentlaw09.TypesPick'. -/
def typesPickCard : Claim7 := { stood := { row := typesPickRow, standIns := [], harness := (true, "c0f8e1f6ab4ed246753730f527e5d9d1fa4f1ff695272e47524a4798b0fe8b33"), looks := true }, kinds := [], alts := [], laidByText := true, laidKinds := [.wider], laidTests := true, laidLooks := .later }
def TypesPickCardSaid : Prop := Claim7.holds Tryd.pinned (.plain (OpenSpec.ofChange typesPickSpec)) typesPickCard

/-- THE SECOND FORM's CARD OF 'bailmentlaw09.TypesMore'. -/
def typesMoreUptoCard : Claim7 := { stood := { row := typesMoreUptoRow, standIns := [], harness := (true, "c0f8e1f6ab4ed246753730f527e5d9d1fa4f1ff695272e47524a4798b0fe8b33"), looks := true }, kinds := [], alts := [], laidByText := true, laidKinds := [.wider], laidTests := true, laidLooks := .later }
def TypesMoreUptoCardSaid : Prop := Claim7.holds Tryd.pinned (.plain (OpenSpec.upto typesMoreSpec)) typesMoreUptoCard

/-- THE SECOND FORM's CARD OF 'bailmentlaw09.TypesPick'. -/
def typesPickUptoCard : Claim7 := { stood := { row := typesPickUptoRow, standIns := [], harness := (true, "c0f8e1f6ab4ed246753730f527e5d9d1fa4f1ff695272e47524a4798b0fe8b33"), looks := true }, kinds := [], alts := [], laidByText := true, laidKinds := [.wider], laidTests := true, laidLooks := .later }
def TypesPickUptoCardSaid : Prop := Claim7.holds Tryd.pinned (.plain (OpenSpec.upto typesPickSpec)) typesPickUptoCard
end Rows
end Go.Proofs.YtlhcajhgbkgjbaaDoor
