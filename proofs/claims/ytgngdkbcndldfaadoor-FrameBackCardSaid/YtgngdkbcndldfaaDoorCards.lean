/-
  DERIVED. GIVEN WITH THE SEED: THE CARDS: each row of YtgngdkbcndldfaaDoorRows.lean that lists a variable, with what it lists TIED to the program's text (the seventh form; the later family's looks); each row that meets fmt, with fmt's text TOLD by the authors' own Lean function (tested against real Go, not proved from fmt's source: count such statements apart). THE CARD IS WHAT COUNTS. Prove the row's statement (the work); the ties are given (YtgngdkbcndldfaaDoorTie.lean); close each card by the builder's one call (the guide's Derived/Test/ToyasCard.lean, 'card_holds'). Laid BY PROGRAM, IN A SANDBOX (cutbox-door.mjs). By AI agents, Wed Nov 11 2026. No macro, syntax, notation, axiom, sorry.
-/
import Derived.Test.YtgngdkbcndldfaaDoorRows
import GoSem.ClaimSeven
namespace Go.Proofs.YtgngdkbcndldfaaDoor
namespace Rows

/-- THE TIED CARD OF 'bailmentlaw23.FrameReads'. -/
def frameReadsCard : Claim7 := { stood := { row := frameReadsRow, standIns := [], harness := (true, "e29dc512ca3588163c7565f8b041d135dac62fda2f85fb06cba01db056322617"), looks := true }, kinds := [], alts := [], laidByText := true, laidKinds := [.data, .data, .data, .sentinel, .sentinel], laidTests := true, laidLooks := .later }
def FrameReadsCardSaid : Prop := Claim7.holds Tryd.pinned (.plain (OpenSpec.ofChange frameReadsSpec)) frameReadsCard

/-- THE TIED CARD OF 'bailmentlaw23.FrameWrites'. -/
def frameWritesCard : Claim7 := { stood := { row := frameWritesRow, standIns := [], harness := (true, "e29dc512ca3588163c7565f8b041d135dac62fda2f85fb06cba01db056322617"), looks := true }, kinds := [], alts := [], laidByText := true, laidKinds := [.data, .data, .data, .sentinel, .sentinel], laidTests := true, laidLooks := .later }
def FrameWritesCardSaid : Prop := Claim7.holds Tryd.pinned (.plain (OpenSpec.ofChange frameWritesSpec)) frameWritesCard

/-- THE TIED CARD OF 'bailmentlaw23.FrameBack'. -/
def frameBackCard : Claim7 := { stood := { row := frameBackRow, standIns := [], harness := (true, "e29dc512ca3588163c7565f8b041d135dac62fda2f85fb06cba01db056322617"), looks := true }, kinds := [], alts := [], laidByText := true, laidKinds := [.data, .data, .data, .sentinel, .sentinel], laidTests := true, laidLooks := .later }
def FrameBackCardSaid : Prop := Claim7.holds Tryd.pinned (.plain (OpenSpec.ofChange frameBackSpec)) frameBackCard

/-- THE TIED CARD OF 'bailmentlaw23.FrameLines'. -/
def frameLinesCard : Claim7 := { stood := { row := frameLinesRow, standIns := [], harness := (true, "e29dc512ca3588163c7565f8b041d135dac62fda2f85fb06cba01db056322617"), looks := true }, kinds := [], alts := [], laidByText := true, laidKinds := [.data, .data, .data, .sentinel, .sentinel], laidTests := true, laidLooks := .later }
def FrameLinesCardSaid : Prop := Claim7.holds Tryd.pinned (.plain (OpenSpec.ofChange frameLinesSpec)) frameLinesCard

/-- THE TIED CARD OF 'bailmentlaw23.FrameRight'. -/
def frameRightCard : Claim7 := { stood := { row := frameRightRow, standIns := [], harness := (true, "e29dc512ca3588163c7565f8b041d135dac62fda2f85fb06cba01db056322617"), looks := true }, kinds := [], alts := [], laidByText := true, laidKinds := [.data, .data, .data, .sentinel, .sentinel], laidTests := true, laidLooks := .later }
def FrameRightCardSaid : Prop := Claim7.holds Tryd.pinned (.plain (OpenSpec.ofChange frameRightSpec)) frameRightCard

/-- THE TIED CARD OF 'bailmentlaw23.FrameAgain'. -/
def frameAgainCard : Claim7 := { stood := { row := frameAgainRow, standIns := [], harness := (true, "e29dc512ca3588163c7565f8b041d135dac62fda2f85fb06cba01db056322617"), looks := true }, kinds := [], alts := [], laidByText := true, laidKinds := [.data, .data, .data, .sentinel, .sentinel], laidTests := true, laidLooks := .later }
def FrameAgainCardSaid : Prop := Claim7.holds Tryd.pinned (.plain (OpenSpec.ofChange frameAgainSpec)) frameAgainCard

/-- THE SECOND FORM's CARD OF 'bailmentlaw23.FrameReads'. -/
def frameReadsUptoCard : Claim7 := { stood := { row := frameReadsUptoRow, standIns := [], harness := (true, "e29dc512ca3588163c7565f8b041d135dac62fda2f85fb06cba01db056322617"), looks := true }, kinds := [], alts := [], laidByText := true, laidKinds := [.data, .data, .data, .sentinel, .sentinel], laidTests := true, laidLooks := .later }
def FrameReadsUptoCardSaid : Prop := Claim7.holds Tryd.pinned (.plain (OpenSpec.upto frameReadsSpec)) frameReadsUptoCard

/-- THE SECOND FORM's CARD OF 'bailmentlaw23.FrameWrites'. -/
def frameWritesUptoCard : Claim7 := { stood := { row := frameWritesUptoRow, standIns := [], harness := (true, "e29dc512ca3588163c7565f8b041d135dac62fda2f85fb06cba01db056322617"), looks := true }, kinds := [], alts := [], laidByText := true, laidKinds := [.data, .data, .data, .sentinel, .sentinel], laidTests := true, laidLooks := .later }
def FrameWritesUptoCardSaid : Prop := Claim7.holds Tryd.pinned (.plain (OpenSpec.upto frameWritesSpec)) frameWritesUptoCard

/-- THE SECOND FORM's CARD OF 'bailmentlaw23.FrameBack'. -/
def frameBackUptoCard : Claim7 := { stood := { row := frameBackUptoRow, standIns := [], harness := (true, "e29dc512ca3588163c7565f8b041d135dac62fda2f85fb06cba01db056322617"), looks := true }, kinds := [], alts := [], laidByText := true, laidKinds := [.data, .data, .data, .sentinel, .sentinel], laidTests := true, laidLooks := .later }
def FrameBackUptoCardSaid : Prop := Claim7.holds Tryd.pinned (.plain (OpenSpec.upto frameBackSpec)) frameBackUptoCard

/-- THE SECOND FORM's CARD OF 'bailmentlaw23.FrameLines'. -/
def frameLinesUptoCard : Claim7 := { stood := { row := frameLinesUptoRow, standIns := [], harness := (true, "e29dc512ca3588163c7565f8b041d135dac62fda2f85fb06cba01db056322617"), looks := true }, kinds := [], alts := [], laidByText := true, laidKinds := [.data, .data, .data, .sentinel, .sentinel], laidTests := true, laidLooks := .later }
def FrameLinesUptoCardSaid : Prop := Claim7.holds Tryd.pinned (.plain (OpenSpec.upto frameLinesSpec)) frameLinesUptoCard

/-- THE SECOND FORM's CARD OF 'bailmentlaw23.FrameRight'. -/
def frameRightUptoCard : Claim7 := { stood := { row := frameRightUptoRow, standIns := [], harness := (true, "e29dc512ca3588163c7565f8b041d135dac62fda2f85fb06cba01db056322617"), looks := true }, kinds := [], alts := [], laidByText := true, laidKinds := [.data, .data, .data, .sentinel, .sentinel], laidTests := true, laidLooks := .later }
def FrameRightUptoCardSaid : Prop := Claim7.holds Tryd.pinned (.plain (OpenSpec.upto frameRightSpec)) frameRightUptoCard

/-- THE SECOND FORM's CARD OF 'bailmentlaw23.FrameAgain'. -/
def frameAgainUptoCard : Claim7 := { stood := { row := frameAgainUptoRow, standIns := [], harness := (true, "e29dc512ca3588163c7565f8b041d135dac62fda2f85fb06cba01db056322617"), looks := true }, kinds := [], alts := [], laidByText := true, laidKinds := [.data, .data, .data, .sentinel, .sentinel], laidTests := true, laidLooks := .later }
def FrameAgainUptoCardSaid : Prop := Claim7.holds Tryd.pinned (.plain (OpenSpec.upto frameAgainSpec)) frameAgainUptoCard
end Rows
end Go.Proofs.YtgngdkbcndldfaaDoor
