/-
  No cell of these rows narrows 'for every input' (looked for: loops, veiled, ifaces, maps, wideKeys, modest, calm, conditions, laid).
  DERIVED. THE GIVEN ROWS OF THIS SEAT. 11 by the template 'for every input the law returns true; each argument reads behind the call as it read before'; 0 by the template 'total and deterministic' (their statements: YtcphjehjdhgheaaTotals.lean).
  GIVEN WITH THE SEED: the statements are not yours to turn. If you find one false, say at which input.
  Laid BY PROGRAM, IN A SANDBOX (cutbox-rows.mjs): the forced cells as the released guide's own fill.sh prints them over the translation 49f956fc50fb8159… (all of the seat's roots in one cut). By AI agents, Wed Nov 11 2026. No macro, syntax, notation, axiom, sorry.
-/
import Derived.Test.YtcphjehjdhgheaaChecked
import GoSem.Claim
import GoSem.ClaimJoined
import GoSem.ClaimMapViews
import Derived.JoinedTies
import Derived.KernelRfl
namespace Go.Proofs.Ytcphjehjdhgheaa
/- THE CELL 'sum', in the pinned program and in every row, IS THE sha256 OF THE DUMP (.gsa) THAT YtcphjehjdhgheaaProg.lean LOADS. Nothing in Lean hashes anything: it is a label: what it is worth is what the hold of that sum in a sandbox is worth. -/
noncomputable def Try.pinned : Pinned := { name := "ytcphjehjdhgheaa", sum := "49f956fc50fb8159a8dfddff358505b5c93e2021aa876e742f96a086c5f54b64", checked := Try.checked }
namespace Rows
def none {H : Type} : Left H := { results := [], args := [] }

/-- 'bailmentlaw15.SchedSorts': WHATEVER THE INPUT: true; the input reads as it did. -/
def schedSortsSpec : ChangeSpec := { name := "schedSorts", fn := fun _ => fun
  | [d] => { results := [.lit (.bool true)], args := [d] }
  | _ => none }
def schedSortsRow : OpenClaim := { program := "ytcphjehjdhgheaa", sum := "49f956fc50fb8159a8dfddff358505b5c93e2021aa876e742f96a086c5f54b64", func := "bailment/bailmentlaw15.SchedSorts", spec := "schedSorts", unfollowed := true, recurses := true, apart := false }
def SchedSortsSaid : Prop := schedSortsRow.holds Try.pinned (OpenSpec.ofChange schedSortsSpec)

/-- ITS FALSE NEIGHBOUR: 'it returns false'. Refute it at one input. -/
def schedSortsWrong : ChangeSpec := { name := "schedSorts", fn := fun _ => fun
  | [d] => { results := [.lit (.bool false)], args := [d] }
  | _ => none }
def SchedSortsWrongFalsely : Prop := schedSortsRow.holds Try.pinned (OpenSpec.ofChange schedSortsWrong)

/-- 'bailmentlaw15.SchedSame': WHATEVER THE INPUT: true; the input reads as it did. -/
def schedSameSpec : ChangeSpec := { name := "schedSame", fn := fun _ => fun
  | [d1, d2] => { results := [.lit (.bool true)], args := [d1, d2] }
  | _ => none }
def schedSameRow : OpenClaim := { program := "ytcphjehjdhgheaa", sum := "49f956fc50fb8159a8dfddff358505b5c93e2021aa876e742f96a086c5f54b64", func := "bailment/bailmentlaw15.SchedSame", spec := "schedSame", unfollowed := true, recurses := true, apart := false }
def SchedSameSaid : Prop := schedSameRow.holds Try.pinned (OpenSpec.ofChange schedSameSpec)

/-- ITS FALSE NEIGHBOUR: 'it returns false'. Refute it at one input. -/
def schedSameWrong : ChangeSpec := { name := "schedSame", fn := fun _ => fun
  | [d1, d2] => { results := [.lit (.bool false)], args := [d1, d2] }
  | _ => none }
def SchedSameWrongFalsely : Prop := schedSameRow.holds Try.pinned (OpenSpec.ofChange schedSameWrong)

/-- 'bailmentlaw15.SchedAgain': WHATEVER THE INPUT: true; the input reads as it did. -/
def schedAgainSpec : ChangeSpec := { name := "schedAgain", fn := fun _ => fun
  | [d] => { results := [.lit (.bool true)], args := [d] }
  | _ => none }
def schedAgainRow : OpenClaim := { program := "ytcphjehjdhgheaa", sum := "49f956fc50fb8159a8dfddff358505b5c93e2021aa876e742f96a086c5f54b64", func := "bailment/bailmentlaw15.SchedAgain", spec := "schedAgain", unfollowed := true, recurses := true, apart := false }
def SchedAgainSaid : Prop := schedAgainRow.holds Try.pinned (OpenSpec.ofChange schedAgainSpec)

/-- ITS FALSE NEIGHBOUR: 'it returns false'. Refute it at one input. -/
def schedAgainWrong : ChangeSpec := { name := "schedAgain", fn := fun _ => fun
  | [d] => { results := [.lit (.bool false)], args := [d] }
  | _ => none }
def SchedAgainWrongFalsely : Prop := schedAgainRow.holds Try.pinned (OpenSpec.ofChange schedAgainWrong)

/-- 'bailmentlaw16.CodeChecks': WHATEVER THE INPUT: true; the input reads as it did. -/
def codeChecksSpec : ChangeSpec := { name := "codeChecks", fn := fun _ => fun
  | [d] => { results := [.lit (.bool true)], args := [d] }
  | _ => none }
def codeChecksRow : OpenClaim := { program := "ytcphjehjdhgheaa", sum := "49f956fc50fb8159a8dfddff358505b5c93e2021aa876e742f96a086c5f54b64", func := "bailment/bailmentlaw16.CodeChecks", spec := "codeChecks", unfollowed := true, recurses := true, apart := false }
def CodeChecksSaid : Prop := codeChecksRow.holds Try.pinned (OpenSpec.ofChange codeChecksSpec)

/-- ITS FALSE NEIGHBOUR: 'it returns false'. Refute it at one input. -/
def codeChecksWrong : ChangeSpec := { name := "codeChecks", fn := fun _ => fun
  | [d] => { results := [.lit (.bool false)], args := [d] }
  | _ => none }
def CodeChecksWrongFalsely : Prop := codeChecksRow.holds Try.pinned (OpenSpec.ofChange codeChecksWrong)

/-- 'bailmentlaw16.CodeSame': WHATEVER THE INPUT: true; the input reads as it did. -/
def codeSameSpec : ChangeSpec := { name := "codeSame", fn := fun _ => fun
  | [d1, d2, d3] => { results := [.lit (.bool true)], args := [d1, d2, d3] }
  | _ => none }
def codeSameRow : OpenClaim := { program := "ytcphjehjdhgheaa", sum := "49f956fc50fb8159a8dfddff358505b5c93e2021aa876e742f96a086c5f54b64", func := "bailment/bailmentlaw16.CodeSame", spec := "codeSame", unfollowed := true, recurses := true, apart := false }
def CodeSameSaid : Prop := codeSameRow.holds Try.pinned (OpenSpec.ofChange codeSameSpec)

/-- ITS FALSE NEIGHBOUR: 'it returns false'. Refute it at one input. -/
def codeSameWrong : ChangeSpec := { name := "codeSame", fn := fun _ => fun
  | [d1, d2, d3] => { results := [.lit (.bool false)], args := [d1, d2, d3] }
  | _ => none }
def CodeSameWrongFalsely : Prop := codeSameRow.holds Try.pinned (OpenSpec.ofChange codeSameWrong)

/-- 'bailmentlaw16.CodeSizes': WHATEVER THE INPUT: true; the input reads as it did. -/
def codeSizesSpec : ChangeSpec := { name := "codeSizes", fn := fun _ => fun
  | [d1, d2] => { results := [.lit (.bool true)], args := [d1, d2] }
  | _ => none }
def codeSizesRow : OpenClaim := { program := "ytcphjehjdhgheaa", sum := "49f956fc50fb8159a8dfddff358505b5c93e2021aa876e742f96a086c5f54b64", func := "bailment/bailmentlaw16.CodeSizes", spec := "codeSizes", unfollowed := true, recurses := true, apart := false }
def CodeSizesSaid : Prop := codeSizesRow.holds Try.pinned (OpenSpec.ofChange codeSizesSpec)

/-- ITS FALSE NEIGHBOUR: 'it returns false'. Refute it at one input. -/
def codeSizesWrong : ChangeSpec := { name := "codeSizes", fn := fun _ => fun
  | [d1, d2] => { results := [.lit (.bool false)], args := [d1, d2] }
  | _ => none }
def CodeSizesWrongFalsely : Prop := codeSizesRow.holds Try.pinned (OpenSpec.ofChange codeSizesWrong)

/-- 'bailmentlaw16.CodeTold': WHATEVER THE INPUT: true; the input reads as it did. -/
def codeToldSpec : ChangeSpec := { name := "codeTold", fn := fun _ => fun
  | [d1, d2, d3] => { results := [.lit (.bool true)], args := [d1, d2, d3] }
  | _ => none }
def codeToldRow : OpenClaim := { program := "ytcphjehjdhgheaa", sum := "49f956fc50fb8159a8dfddff358505b5c93e2021aa876e742f96a086c5f54b64", func := "bailment/bailmentlaw16.CodeTold", spec := "codeTold", unfollowed := true, recurses := true, apart := false }
def CodeToldSaid : Prop := codeToldRow.holds Try.pinned (OpenSpec.ofChange codeToldSpec)

/-- ITS FALSE NEIGHBOUR: 'it returns false'. Refute it at one input. -/
def codeToldWrong : ChangeSpec := { name := "codeTold", fn := fun _ => fun
  | [d1, d2, d3] => { results := [.lit (.bool false)], args := [d1, d2, d3] }
  | _ => none }
def CodeToldWrongFalsely : Prop := codeToldRow.holds Try.pinned (OpenSpec.ofChange codeToldWrong)

/-- 'bailmentlaw16.CodeFewer': WHATEVER THE INPUT: true; the input reads as it did. -/
def codeFewerSpec : ChangeSpec := { name := "codeFewer", fn := fun _ => fun
  | [d1, d2, d3] => { results := [.lit (.bool true)], args := [d1, d2, d3] }
  | _ => none }
def codeFewerRow : OpenClaim := { program := "ytcphjehjdhgheaa", sum := "49f956fc50fb8159a8dfddff358505b5c93e2021aa876e742f96a086c5f54b64", func := "bailment/bailmentlaw16.CodeFewer", spec := "codeFewer", unfollowed := true, recurses := true, apart := false }
def CodeFewerSaid : Prop := codeFewerRow.holds Try.pinned (OpenSpec.ofChange codeFewerSpec)

/-- ITS FALSE NEIGHBOUR: 'it returns false'. Refute it at one input. -/
def codeFewerWrong : ChangeSpec := { name := "codeFewer", fn := fun _ => fun
  | [d1, d2, d3] => { results := [.lit (.bool false)], args := [d1, d2, d3] }
  | _ => none }
def CodeFewerWrongFalsely : Prop := codeFewerRow.holds Try.pinned (OpenSpec.ofChange codeFewerWrong)

/-- 'bailmentlaw17.ImageWrites': WHATEVER THE INPUT: true; the input reads as it did. -/
def imageWritesSpec : ChangeSpec := { name := "imageWrites", fn := fun _ => fun
  | [d] => { results := [.lit (.bool true)], args := [d] }
  | _ => none }
def imageWritesRow : OpenClaim := { program := "ytcphjehjdhgheaa", sum := "49f956fc50fb8159a8dfddff358505b5c93e2021aa876e742f96a086c5f54b64", func := "bailment/bailmentlaw17.ImageWrites", spec := "imageWrites", inPlace := ["internal/abi.NoEscape"], unfollowed := true, recurses := true, apart := false }
def ImageWritesSaid : Prop := imageWritesRow.holds Try.pinned (OpenSpec.ofChange imageWritesSpec)

/-- ITS FALSE NEIGHBOUR: 'it returns false'. Refute it at one input. -/
def imageWritesWrong : ChangeSpec := { name := "imageWrites", fn := fun _ => fun
  | [d] => { results := [.lit (.bool false)], args := [d] }
  | _ => none }
def ImageWritesWrongFalsely : Prop := imageWritesRow.holds Try.pinned (OpenSpec.ofChange imageWritesWrong)

/-- 'bailmentlaw17.ImageApart': WHATEVER THE INPUT: true; the input reads as it did. -/
def imageApartSpec : ChangeSpec := { name := "imageApart", fn := fun _ => fun
  | [d1, d2] => { results := [.lit (.bool true)], args := [d1, d2] }
  | _ => none }
def imageApartRow : OpenClaim := { program := "ytcphjehjdhgheaa", sum := "49f956fc50fb8159a8dfddff358505b5c93e2021aa876e742f96a086c5f54b64", func := "bailment/bailmentlaw17.ImageApart", spec := "imageApart", inPlace := ["internal/abi.NoEscape"], unfollowed := true, recurses := true, apart := false }
def ImageApartSaid : Prop := imageApartRow.holds Try.pinned (OpenSpec.ofChange imageApartSpec)

/-- ITS FALSE NEIGHBOUR: 'it returns false'. Refute it at one input. -/
def imageApartWrong : ChangeSpec := { name := "imageApart", fn := fun _ => fun
  | [d1, d2] => { results := [.lit (.bool false)], args := [d1, d2] }
  | _ => none }
def ImageApartWrongFalsely : Prop := imageApartRow.holds Try.pinned (OpenSpec.ofChange imageApartWrong)

/-- 'bailmentlaw17.ImageTurned': WHATEVER THE INPUT: true; the input reads as it did. -/
def imageTurnedSpec : ChangeSpec := { name := "imageTurned", fn := fun _ => fun
  | [d1, d2, d3] => { results := [.lit (.bool true)], args := [d1, d2, d3] }
  | _ => none }
def imageTurnedRow : OpenClaim := { program := "ytcphjehjdhgheaa", sum := "49f956fc50fb8159a8dfddff358505b5c93e2021aa876e742f96a086c5f54b64", func := "bailment/bailmentlaw17.ImageTurned", spec := "imageTurned", inPlace := ["internal/abi.NoEscape"], unfollowed := true, recurses := true, apart := false }
def ImageTurnedSaid : Prop := imageTurnedRow.holds Try.pinned (OpenSpec.ofChange imageTurnedSpec)

/-- ITS FALSE NEIGHBOUR: 'it returns false'. Refute it at one input. -/
def imageTurnedWrong : ChangeSpec := { name := "imageTurned", fn := fun _ => fun
  | [d1, d2, d3] => { results := [.lit (.bool false)], args := [d1, d2, d3] }
  | _ => none }
def ImageTurnedWrongFalsely : Prop := imageTurnedRow.holds Try.pinned (OpenSpec.ofChange imageTurnedWrong)

/- THE SECOND FORM. 'bulk': how many values and letters a reading holds, each counted each time it is reached (what is shared counts as often as it is met; a slice's spare places count too). A statement '..UptoSaid' is the law's where the arguments, and the package variables that the reading takes, are together of bulk at most 1048576: NARROWER than '..Said'. Prove '..Said' where nothing that the law and all that it calls make is longer than what came in: it says more and counts as full. Else prove '..UptoSaid'. A law counts once. -/
mutual
def uptoBulk {H : Type} : DataW H → Nat
  | .lit (.string bytes) => bytes.length + 1
  | .lit _ => 1
  | .nil => 1
  | .ptr d => uptoBulk d + 1
  | .slice elems spare => uptoBulkAll elems + uptoBulkAll spare + 1
  | .agg parts => uptoBulkAll parts + 1
  | .iface _ d => uptoBulk d + 1
  | .map entries => uptoBulkEntries entries + 1
  | .held _ => 1
def uptoBulkAll {H : Type} : List (DataW H) → Nat
  | [] => 0
  | d :: r => uptoBulk d + uptoBulkAll r
def uptoBulkEntries {H : Type} : List (Lit × DataW H) → Nat
  | [] => 0
  | x :: r => uptoBulkEntry x + uptoBulkEntries r
def uptoBulkEntry {H : Type} : Lit × DataW H → Nat
  | (.string bytes, d) => bytes.length + uptoBulk d + 1
  | (_, d) => uptoBulk d + 1
 end
def uptoSmall : (H : Type) → List (DataW H) → Bool := fun _ ds => decide (uptoBulkAll ds ≤ 1048576)
def OpenSpec.upto (s : _root_.Go.ChangeSpec) : _root_.Go.OpenSpec := { _root_.Go.OpenSpec.ofChange s with cond := some uptoSmall }

/-- 'bailmentlaw15.SchedSorts', WHERE WHAT IT READS IS OF BULK AT MOST 1048576: true; the input reads as it did. -/
def schedSortsUptoRow : OpenClaim := { program := "ytcphjehjdhgheaa", sum := "49f956fc50fb8159a8dfddff358505b5c93e2021aa876e742f96a086c5f54b64", func := "bailment/bailmentlaw15.SchedSorts", spec := "schedSorts", unfollowed := true, recurses := true, apart := false, narrowed := true }
def SchedSortsUptoSaid : Prop := schedSortsUptoRow.holds Try.pinned (OpenSpec.upto schedSortsSpec)

/-- 'bailmentlaw15.SchedSame', WHERE WHAT IT READS IS OF BULK AT MOST 1048576: true; the input reads as it did. -/
def schedSameUptoRow : OpenClaim := { program := "ytcphjehjdhgheaa", sum := "49f956fc50fb8159a8dfddff358505b5c93e2021aa876e742f96a086c5f54b64", func := "bailment/bailmentlaw15.SchedSame", spec := "schedSame", unfollowed := true, recurses := true, apart := false, narrowed := true }
def SchedSameUptoSaid : Prop := schedSameUptoRow.holds Try.pinned (OpenSpec.upto schedSameSpec)

/-- 'bailmentlaw15.SchedAgain', WHERE WHAT IT READS IS OF BULK AT MOST 1048576: true; the input reads as it did. -/
def schedAgainUptoRow : OpenClaim := { program := "ytcphjehjdhgheaa", sum := "49f956fc50fb8159a8dfddff358505b5c93e2021aa876e742f96a086c5f54b64", func := "bailment/bailmentlaw15.SchedAgain", spec := "schedAgain", unfollowed := true, recurses := true, apart := false, narrowed := true }
def SchedAgainUptoSaid : Prop := schedAgainUptoRow.holds Try.pinned (OpenSpec.upto schedAgainSpec)

/-- 'bailmentlaw16.CodeChecks', WHERE WHAT IT READS IS OF BULK AT MOST 1048576: true; the input reads as it did. -/
def codeChecksUptoRow : OpenClaim := { program := "ytcphjehjdhgheaa", sum := "49f956fc50fb8159a8dfddff358505b5c93e2021aa876e742f96a086c5f54b64", func := "bailment/bailmentlaw16.CodeChecks", spec := "codeChecks", unfollowed := true, recurses := true, apart := false, narrowed := true }
def CodeChecksUptoSaid : Prop := codeChecksUptoRow.holds Try.pinned (OpenSpec.upto codeChecksSpec)

/-- 'bailmentlaw16.CodeSame', WHERE WHAT IT READS IS OF BULK AT MOST 1048576: true; the input reads as it did. -/
def codeSameUptoRow : OpenClaim := { program := "ytcphjehjdhgheaa", sum := "49f956fc50fb8159a8dfddff358505b5c93e2021aa876e742f96a086c5f54b64", func := "bailment/bailmentlaw16.CodeSame", spec := "codeSame", unfollowed := true, recurses := true, apart := false, narrowed := true }
def CodeSameUptoSaid : Prop := codeSameUptoRow.holds Try.pinned (OpenSpec.upto codeSameSpec)

/-- 'bailmentlaw16.CodeSizes', WHERE WHAT IT READS IS OF BULK AT MOST 1048576: true; the input reads as it did. -/
def codeSizesUptoRow : OpenClaim := { program := "ytcphjehjdhgheaa", sum := "49f956fc50fb8159a8dfddff358505b5c93e2021aa876e742f96a086c5f54b64", func := "bailment/bailmentlaw16.CodeSizes", spec := "codeSizes", unfollowed := true, recurses := true, apart := false, narrowed := true }
def CodeSizesUptoSaid : Prop := codeSizesUptoRow.holds Try.pinned (OpenSpec.upto codeSizesSpec)

/-- 'bailmentlaw16.CodeTold', WHERE WHAT IT READS IS OF BULK AT MOST 1048576: true; the input reads as it did. -/
def codeToldUptoRow : OpenClaim := { program := "ytcphjehjdhgheaa", sum := "49f956fc50fb8159a8dfddff358505b5c93e2021aa876e742f96a086c5f54b64", func := "bailment/bailmentlaw16.CodeTold", spec := "codeTold", unfollowed := true, recurses := true, apart := false, narrowed := true }
def CodeToldUptoSaid : Prop := codeToldUptoRow.holds Try.pinned (OpenSpec.upto codeToldSpec)

/-- 'bailmentlaw16.CodeFewer', WHERE WHAT IT READS IS OF BULK AT MOST 1048576: true; the input reads as it did. -/
def codeFewerUptoRow : OpenClaim := { program := "ytcphjehjdhgheaa", sum := "49f956fc50fb8159a8dfddff358505b5c93e2021aa876e742f96a086c5f54b64", func := "bailment/bailmentlaw16.CodeFewer", spec := "codeFewer", unfollowed := true, recurses := true, apart := false, narrowed := true }
def CodeFewerUptoSaid : Prop := codeFewerUptoRow.holds Try.pinned (OpenSpec.upto codeFewerSpec)

/-- 'bailmentlaw17.ImageWrites', WHERE WHAT IT READS IS OF BULK AT MOST 1048576: true; the input reads as it did. -/
def imageWritesUptoRow : OpenClaim := { program := "ytcphjehjdhgheaa", sum := "49f956fc50fb8159a8dfddff358505b5c93e2021aa876e742f96a086c5f54b64", func := "bailment/bailmentlaw17.ImageWrites", spec := "imageWrites", inPlace := ["internal/abi.NoEscape"], unfollowed := true, recurses := true, apart := false, narrowed := true }
def ImageWritesUptoSaid : Prop := imageWritesUptoRow.holds Try.pinned (OpenSpec.upto imageWritesSpec)

/-- 'bailmentlaw17.ImageApart', WHERE WHAT IT READS IS OF BULK AT MOST 1048576: true; the input reads as it did. -/
def imageApartUptoRow : OpenClaim := { program := "ytcphjehjdhgheaa", sum := "49f956fc50fb8159a8dfddff358505b5c93e2021aa876e742f96a086c5f54b64", func := "bailment/bailmentlaw17.ImageApart", spec := "imageApart", inPlace := ["internal/abi.NoEscape"], unfollowed := true, recurses := true, apart := false, narrowed := true }
def ImageApartUptoSaid : Prop := imageApartUptoRow.holds Try.pinned (OpenSpec.upto imageApartSpec)

/-- 'bailmentlaw17.ImageTurned', WHERE WHAT IT READS IS OF BULK AT MOST 1048576: true; the input reads as it did. -/
def imageTurnedUptoRow : OpenClaim := { program := "ytcphjehjdhgheaa", sum := "49f956fc50fb8159a8dfddff358505b5c93e2021aa876e742f96a086c5f54b64", func := "bailment/bailmentlaw17.ImageTurned", spec := "imageTurned", inPlace := ["internal/abi.NoEscape"], unfollowed := true, recurses := true, apart := false, narrowed := true }
def ImageTurnedUptoSaid : Prop := imageTurnedUptoRow.holds Try.pinned (OpenSpec.upto imageTurnedSpec)

end Rows
end Go.Proofs.Ytcphjehjdhgheaa
