/-
  DERIVED. GIVEN WITH THE SEED: THE CARDS: each row of YtgohhnbdicdenaaDoorRows.lean that lists a variable, with what it lists TIED to the program's text (the seventh form; the later family's looks); each row that meets fmt, with fmt's text TOLD by the authors' own Lean function (tested against real Go, not proved from fmt's source: count such statements apart). THE CARD IS WHAT COUNTS. Prove the row's statement (the work); the ties are given (YtgohhnbdicdenaaDoorTie.lean); close each card by the builder's one call (the guide's Derived/Test/ToyasCard.lean, 'card_holds'). Laid BY PROGRAM, IN A SANDBOX (cutbox-door.mjs). By AI agents, Wed Nov 11 2026. No macro, syntax, notation, axiom, sorry.
-/
import Derived.Test.YtgohhnbdicdenaaDoorRows
import GoSem.ClaimSeven
namespace Go.Proofs.YtgohhnbdicdenaaDoor
namespace Rows

/-- THE TIED CARD OF 'bailmentlaw04.ExprRound'. -/
def exprRoundCard : Claim7 := { stood := { row := exprRoundRow, standIns := [], harness := (true, "13bc97ea0399f80340e6efa9edee4c1199d1c8a705f5b38c1e99a9b810a3c3b0"), looks := true }, kinds := [], alts := [], laidByText := true, laidKinds := [.data, .data, .data, .sentinel, .sentinel], laidTests := true, laidLooks := .later }
def ExprRoundCardSaid : Prop := Claim7.holds Tryd.pinned (.plain (OpenSpec.ofChange exprRoundSpec)) exprRoundCard

/-- THE TIED CARD OF 'bailmentlaw04.ExprLevels'. -/
def exprLevelsCard : Claim7 := { stood := { row := exprLevelsRow, standIns := [], harness := (true, "13bc97ea0399f80340e6efa9edee4c1199d1c8a705f5b38c1e99a9b810a3c3b0"), looks := true }, kinds := [], alts := [], laidByText := true, laidKinds := [.data, .data, .data, .sentinel, .sentinel], laidTests := true, laidLooks := .later }
def ExprLevelsCardSaid : Prop := Claim7.holds Tryd.pinned (.plain (OpenSpec.ofChange exprLevelsSpec)) exprLevelsCard

/-- THE TIED CARD OF 'bailmentlaw04.ExprBehind'. -/
def exprBehindCard : Claim7 := { stood := { row := exprBehindRow, standIns := [], harness := (true, "13bc97ea0399f80340e6efa9edee4c1199d1c8a705f5b38c1e99a9b810a3c3b0"), looks := true }, kinds := [], alts := [], laidByText := true, laidKinds := [.data, .data, .data, .sentinel, .sentinel], laidTests := true, laidLooks := .later }
def ExprBehindCardSaid : Prop := Claim7.holds Tryd.pinned (.plain (OpenSpec.ofChange exprBehindSpec)) exprBehindCard

/-- THE TIED CARD OF 'bailmentlaw04.ExprFault'. -/
def exprFaultCard : Claim7 := { stood := { row := exprFaultRow, standIns := [], harness := (true, "13bc97ea0399f80340e6efa9edee4c1199d1c8a705f5b38c1e99a9b810a3c3b0"), looks := true }, kinds := [], alts := [], laidByText := true, laidKinds := [.data, .data, .data, .sentinel, .sentinel], laidTests := true, laidLooks := .later }
def ExprFaultCardSaid : Prop := Claim7.holds Tryd.pinned (.plain (OpenSpec.ofChange exprFaultSpec)) exprFaultCard

/-- THE TIED CARD OF 'bailmentlaw05.ShowBack'. -/
def showBackCard : Claim7 := { stood := { row := showBackRow, standIns := [], harness := (true, "13bc97ea0399f80340e6efa9edee4c1199d1c8a705f5b38c1e99a9b810a3c3b0"), looks := true }, kinds := [], alts := [], laidByText := true, laidKinds := [.data, .data, .data, .data], laidTests := true, laidLooks := .later }
def ShowBackCardSaid : Prop := Claim7.holds Tryd.pinned (.plain (OpenSpec.ofChange showBackSpec)) showBackCard

/-- THE TIED CARD OF 'bailmentlaw05.ShowAgain'. -/
def showAgainCard : Claim7 := { stood := { row := showAgainRow, standIns := [], harness := (true, "13bc97ea0399f80340e6efa9edee4c1199d1c8a705f5b38c1e99a9b810a3c3b0"), looks := true }, kinds := [], alts := [], laidByText := true, laidKinds := [.data, .data, .data, .data], laidTests := true, laidLooks := .later }
def ShowAgainCardSaid : Prop := Claim7.holds Tryd.pinned (.plain (OpenSpec.ofChange showAgainSpec)) showAgainCard

/-- THE TIED CARD OF 'bailmentlaw05.ShowOrder'. -/
def showOrderCard : Claim7 := { stood := { row := showOrderRow, standIns := [], harness := (true, "13bc97ea0399f80340e6efa9edee4c1199d1c8a705f5b38c1e99a9b810a3c3b0"), looks := true }, kinds := [], alts := [], laidByText := true, laidKinds := [.data, .data, .data, .data], laidTests := true, laidLooks := .later }
def ShowOrderCardSaid : Prop := Claim7.holds Tryd.pinned (.plain (OpenSpec.ofChange showOrderSpec)) showOrderCard

/-- THE TIED CARD OF 'bailmentlaw05.ShowSigns'. -/
def showSignsCard : Claim7 := { stood := { row := showSignsRow, standIns := [], harness := (true, "13bc97ea0399f80340e6efa9edee4c1199d1c8a705f5b38c1e99a9b810a3c3b0"), looks := true }, kinds := [], alts := [], laidByText := true, laidKinds := [.data, .data, .data, .data], laidTests := true, laidLooks := .later }
def ShowSignsCardSaid : Prop := Claim7.holds Tryd.pinned (.plain (OpenSpec.ofChange showSignsSpec)) showSignsCard

/-- THE TIED CARD OF 'bailmentlaw05.ShowApart'. -/
def showApartCard : Claim7 := { stood := { row := showApartRow, standIns := [], harness := (true, "13bc97ea0399f80340e6efa9edee4c1199d1c8a705f5b38c1e99a9b810a3c3b0"), looks := true }, kinds := [], alts := [], laidByText := true, laidKinds := [.data, .data, .data, .data], laidTests := true, laidLooks := .later }
def ShowApartCardSaid : Prop := Claim7.holds Tryd.pinned (.plain (OpenSpec.ofChange showApartSpec)) showApartCard

/-- THE SECOND FORM's CARD OF 'bailmentlaw04.ExprRound'. -/
def exprRoundUptoCard : Claim7 := { stood := { row := exprRoundUptoRow, standIns := [], harness := (true, "13bc97ea0399f80340e6efa9edee4c1199d1c8a705f5b38c1e99a9b810a3c3b0"), looks := true }, kinds := [], alts := [], laidByText := true, laidKinds := [.data, .data, .data, .sentinel, .sentinel], laidTests := true, laidLooks := .later }
def ExprRoundUptoCardSaid : Prop := Claim7.holds Tryd.pinned (.plain (OpenSpec.upto exprRoundSpec)) exprRoundUptoCard

/-- THE SECOND FORM's CARD OF 'bailmentlaw04.ExprLevels'. -/
def exprLevelsUptoCard : Claim7 := { stood := { row := exprLevelsUptoRow, standIns := [], harness := (true, "13bc97ea0399f80340e6efa9edee4c1199d1c8a705f5b38c1e99a9b810a3c3b0"), looks := true }, kinds := [], alts := [], laidByText := true, laidKinds := [.data, .data, .data, .sentinel, .sentinel], laidTests := true, laidLooks := .later }
def ExprLevelsUptoCardSaid : Prop := Claim7.holds Tryd.pinned (.plain (OpenSpec.upto exprLevelsSpec)) exprLevelsUptoCard

/-- THE SECOND FORM's CARD OF 'bailmentlaw04.ExprBehind'. -/
def exprBehindUptoCard : Claim7 := { stood := { row := exprBehindUptoRow, standIns := [], harness := (true, "13bc97ea0399f80340e6efa9edee4c1199d1c8a705f5b38c1e99a9b810a3c3b0"), looks := true }, kinds := [], alts := [], laidByText := true, laidKinds := [.data, .data, .data, .sentinel, .sentinel], laidTests := true, laidLooks := .later }
def ExprBehindUptoCardSaid : Prop := Claim7.holds Tryd.pinned (.plain (OpenSpec.upto exprBehindSpec)) exprBehindUptoCard

/-- THE SECOND FORM's CARD OF 'bailmentlaw04.ExprFault'. -/
def exprFaultUptoCard : Claim7 := { stood := { row := exprFaultUptoRow, standIns := [], harness := (true, "13bc97ea0399f80340e6efa9edee4c1199d1c8a705f5b38c1e99a9b810a3c3b0"), looks := true }, kinds := [], alts := [], laidByText := true, laidKinds := [.data, .data, .data, .sentinel, .sentinel], laidTests := true, laidLooks := .later }
def ExprFaultUptoCardSaid : Prop := Claim7.holds Tryd.pinned (.plain (OpenSpec.upto exprFaultSpec)) exprFaultUptoCard

/-- THE SECOND FORM's CARD OF 'bailmentlaw05.ShowBack'. -/
def showBackUptoCard : Claim7 := { stood := { row := showBackUptoRow, standIns := [], harness := (true, "13bc97ea0399f80340e6efa9edee4c1199d1c8a705f5b38c1e99a9b810a3c3b0"), looks := true }, kinds := [], alts := [], laidByText := true, laidKinds := [.data, .data, .data, .data], laidTests := true, laidLooks := .later }
def ShowBackUptoCardSaid : Prop := Claim7.holds Tryd.pinned (.plain (OpenSpec.upto showBackSpec)) showBackUptoCard

/-- THE SECOND FORM's CARD OF 'bailmentlaw05.ShowAgain'. -/
def showAgainUptoCard : Claim7 := { stood := { row := showAgainUptoRow, standIns := [], harness := (true, "13bc97ea0399f80340e6efa9edee4c1199d1c8a705f5b38c1e99a9b810a3c3b0"), looks := true }, kinds := [], alts := [], laidByText := true, laidKinds := [.data, .data, .data, .data], laidTests := true, laidLooks := .later }
def ShowAgainUptoCardSaid : Prop := Claim7.holds Tryd.pinned (.plain (OpenSpec.upto showAgainSpec)) showAgainUptoCard

/-- THE SECOND FORM's CARD OF 'bailmentlaw05.ShowOrder'. -/
def showOrderUptoCard : Claim7 := { stood := { row := showOrderUptoRow, standIns := [], harness := (true, "13bc97ea0399f80340e6efa9edee4c1199d1c8a705f5b38c1e99a9b810a3c3b0"), looks := true }, kinds := [], alts := [], laidByText := true, laidKinds := [.data, .data, .data, .data], laidTests := true, laidLooks := .later }
def ShowOrderUptoCardSaid : Prop := Claim7.holds Tryd.pinned (.plain (OpenSpec.upto showOrderSpec)) showOrderUptoCard

/-- THE SECOND FORM's CARD OF 'bailmentlaw05.ShowSigns'. -/
def showSignsUptoCard : Claim7 := { stood := { row := showSignsUptoRow, standIns := [], harness := (true, "13bc97ea0399f80340e6efa9edee4c1199d1c8a705f5b38c1e99a9b810a3c3b0"), looks := true }, kinds := [], alts := [], laidByText := true, laidKinds := [.data, .data, .data, .data], laidTests := true, laidLooks := .later }
def ShowSignsUptoCardSaid : Prop := Claim7.holds Tryd.pinned (.plain (OpenSpec.upto showSignsSpec)) showSignsUptoCard

/-- THE SECOND FORM's CARD OF 'bailmentlaw05.ShowApart'. -/
def showApartUptoCard : Claim7 := { stood := { row := showApartUptoRow, standIns := [], harness := (true, "13bc97ea0399f80340e6efa9edee4c1199d1c8a705f5b38c1e99a9b810a3c3b0"), looks := true }, kinds := [], alts := [], laidByText := true, laidKinds := [.data, .data, .data, .data], laidTests := true, laidLooks := .later }
def ShowApartUptoCardSaid : Prop := Claim7.holds Tryd.pinned (.plain (OpenSpec.upto showApartSpec)) showApartUptoCard
end Rows
end Go.Proofs.YtgohhnbdicdenaaDoor
