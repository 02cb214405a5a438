/-
  NARROWER THAN 'FOR EVERY INPUT', by the rows' own cells (each row's printed sentence says how): ExprRound: laid · ExprLevels: laid · ExprBehind: laid · ExprFault: laid · ShowBack: laid · ShowAgain: laid · ShowOrder: laid · ShowSigns: laid · ShowApart: laid.
  DERIVED. THE GIVEN ROWS OF THIS SEAT. 9 by the template 'for every input the law returns true; each argument reads behind the call as it read before'; 0 by the template 'total and deterministic' (their statements: YtgohhnbdicdenaaDoorTotals.lean).
  GIVEN WITH THE SEED: the statements are not yours to turn. If you find one false, say at which input.
  Laid BY PROGRAM, IN A SANDBOX (cutbox-rows.mjs): the forced cells as the released guide's own fill.sh prints them over the translation ae907d4989c10ceb… (all of the seat's roots in one cut). By AI agents, Wed Nov 11 2026. No macro, syntax, notation, axiom, sorry.
-/
import Derived.Test.YtgohhnbdicdenaaDoorChecked
import GoSem.Claim
import GoSem.ClaimJoined
import GoSem.ClaimMapViews
import Derived.JoinedTies
import Derived.KernelRfl
namespace Go.Proofs.YtgohhnbdicdenaaDoor
/- THE CELL 'sum', in the pinned program and in every row, IS THE sha256 OF THE DUMP (.gsa) THAT YtgohhnbdicdenaaDoorProg.lean LOADS. Nothing in Lean hashes anything: it is a label: what it is worth is what the hold of that sum in a sandbox is worth. -/
noncomputable def Tryd.pinned : Pinned := { name := "ytgohhnbdicdenaadoor", sum := "ae907d4989c10ceb192f094f9a3a75906f389d820ecd2ae20cca63f9fd4cea9f", checked := Tryd.checked }
namespace Rows
def none {H : Type} : Left H := { results := [], args := [] }

/- WHAT THE LISTED PACKAGE-LEVEL VARIABLES READ AS WHEN THE CALL BEGINS. Each datum BY PROGRAM (the guide's laid-datum.mjs) off the statement by which the dump's own 'gosem.cut.vars' lays the variable. In a bare row this is a premise. The card (YtgohhnbdicdenaaDoorCards.lean) ties it to the program's text. -/
def laid_math_bits_deBruijn32tab {H : Type} : DataW H := .agg [.lit (.int .u8 0), .lit (.int .u8 1), .lit (.int .u8 28), .lit (.int .u8 2), .lit (.int .u8 29), .lit (.int .u8 14), .lit (.int .u8 24), .lit (.int .u8 3), .lit (.int .u8 30), .lit (.int .u8 22), .lit (.int .u8 20), .lit (.int .u8 15), .lit (.int .u8 25), .lit (.int .u8 17), .lit (.int .u8 4), .lit (.int .u8 8), .lit (.int .u8 31), .lit (.int .u8 27), .lit (.int .u8 13), .lit (.int .u8 23), .lit (.int .u8 21), .lit (.int .u8 19), .lit (.int .u8 16), .lit (.int .u8 7), .lit (.int .u8 26), .lit (.int .u8 12), .lit (.int .u8 18), .lit (.int .u8 6), .lit (.int .u8 11), .lit (.int .u8 5), .lit (.int .u8 10), .lit (.int .u8 9)]
def laid_math_bits_deBruijn64tab {H : Type} : DataW H := .agg [.lit (.int .u8 0), .lit (.int .u8 1), .lit (.int .u8 56), .lit (.int .u8 2), .lit (.int .u8 57), .lit (.int .u8 49), .lit (.int .u8 28), .lit (.int .u8 3), .lit (.int .u8 61), .lit (.int .u8 58), .lit (.int .u8 42), .lit (.int .u8 50), .lit (.int .u8 38), .lit (.int .u8 29), .lit (.int .u8 17), .lit (.int .u8 4), .lit (.int .u8 62), .lit (.int .u8 47), .lit (.int .u8 59), .lit (.int .u8 36), .lit (.int .u8 45), .lit (.int .u8 43), .lit (.int .u8 51), .lit (.int .u8 22), .lit (.int .u8 53), .lit (.int .u8 39), .lit (.int .u8 33), .lit (.int .u8 30), .lit (.int .u8 24), .lit (.int .u8 18), .lit (.int .u8 12), .lit (.int .u8 5), .lit (.int .u8 63), .lit (.int .u8 55), .lit (.int .u8 48), .lit (.int .u8 27), .lit (.int .u8 60), .lit (.int .u8 41), .lit (.int .u8 37), .lit (.int .u8 16), .lit (.int .u8 46), .lit (.int .u8 35), .lit (.int .u8 44), .lit (.int .u8 21), .lit (.int .u8 52), .lit (.int .u8 32), .lit (.int .u8 23), .lit (.int .u8 11), .lit (.int .u8 54), .lit (.int .u8 26), .lit (.int .u8 40), .lit (.int .u8 15), .lit (.int .u8 34), .lit (.int .u8 20), .lit (.int .u8 31), .lit (.int .u8 10), .lit (.int .u8 25), .lit (.int .u8 14), .lit (.int .u8 19), .lit (.int .u8 9), .lit (.int .u8 13), .lit (.int .u8 8), .lit (.int .u8 7), .lit (.int .u8 6)]
def laid_internal_strconv_uint64pow10 {H : Type} : DataW H := .agg [.lit (.int .u64 1), .lit (.int .u64 10), .lit (.int .u64 100), .lit (.int .u64 1000), .lit (.int .u64 10000), .lit (.int .u64 100000), .lit (.int .u64 1000000), .lit (.int .u64 10000000), .lit (.int .u64 100000000), .lit (.int .u64 1000000000), .lit (.int .u64 10000000000), .lit (.int .u64 100000000000), .lit (.int .u64 1000000000000), .lit (.int .u64 10000000000000), .lit (.int .u64 100000000000000), .lit (.int .u64 1000000000000000), .lit (.int .u64 10000000000000000), .lit (.int .u64 100000000000000000), .lit (.int .u64 1000000000000000000), .lit (.int .u64 10000000000000000000)]
def laid_strconv_ErrRange {H : Type} : DataW H := .iface "*errors.errorString" (.ptr (.agg [.lit (.string [118, 97, 108, 117, 101, 32, 111, 117, 116, 32, 111, 102, 32, 114, 97, 110, 103, 101])]))
def laid_strconv_ErrSyntax {H : Type} : DataW H := .iface "*errors.errorString" (.ptr (.agg [.lit (.string [105, 110, 118, 97, 108, 105, 100, 32, 115, 121, 110, 116, 97, 120])]))
def laid_bailment_show_signs {H : Type} : DataW H := .agg [.agg [.lit (.string []), .lit (.int .i64 (-1))], .agg [.lit (.string []), .lit (.int .i64 10)], .agg [.lit (.string []), .lit (.int .i64 10)], .agg [.lit (.string []), .lit (.int .i64 10)], .agg [.lit (.string [110, 111, 116]), .lit (.int .i64 9)], .agg [.lit (.string [45]), .lit (.int .i64 9)], .agg [.lit (.string [97, 110, 100]), .lit (.int .i64 5)], .agg [.lit (.string [111, 114]), .lit (.int .i64 4)], .agg [.lit (.string [120, 111, 114]), .lit (.int .i64 4)], .agg [.lit (.string [61, 62]), .lit (.int .i64 2)], .agg [.lit (.string [61]), .lit (.int .i64 6)], .agg [.lit (.string [60, 62]), .lit (.int .i64 6)], .agg [.lit (.string [60]), .lit (.int .i64 6)], .agg [.lit (.string [60, 61]), .lit (.int .i64 6)], .agg [.lit (.string [43]), .lit (.int .i64 7)], .agg [.lit (.string [45]), .lit (.int .i64 7)], .agg [.lit (.string [42]), .lit (.int .i64 8)], .agg [.lit (.string [100, 105, 118]), .lit (.int .i64 8)], .agg [.lit (.string [109, 111, 100]), .lit (.int .i64 8)], .agg [.lit (.string [45, 62]), .lit (.int .i64 1)], .agg [.lit (.string [115, 105, 110, 99, 101]), .lit (.int .i64 3)], .agg [.lit (.string [112, 114, 101]), .lit (.int .i64 9)], .agg [.lit (.string [111, 110, 99, 101]), .lit (.int .i64 9)], .agg [.lit (.string [104, 105, 115, 116]), .lit (.int .i64 9)], .agg [.lit (.string [112, 114, 101, 118]), .lit (.int .i64 9)], .agg [.lit (.string [119, 105, 116, 104, 105, 110]), .lit (.int .i64 9)], .agg [.lit (.string [105, 102]), .lit (.int .i64 0)], .agg [.lit (.string []), .lit (.int .i64 10)]]

/-- 'bailmentlaw04.ExprRound': WHATEVER THE INPUT: true; the input reads as it did. -/
def exprRoundSpec : ChangeSpec := { name := "exprRound", fn := fun _ => fun
  | [d] => { results := [.lit (.bool true)], args := [d] }
  | _ => none }
def exprRoundRow : OpenClaim := { program := "ytgohhnbdicdenaadoor", sum := "ae907d4989c10ceb192f094f9a3a75906f389d820ecd2ae20cca63f9fd4cea9f", func := "bailment/bailmentlaw04.ExprRound", spec := "exprRound", inPlace := ["internal/bytealg.IndexByteString"], unfollowed := true, recurses := true, named := ["strconv.ErrSyntax", "strconv.ErrRange", "internal/strconv.uint64pow10", "math/bits.deBruijn32tab", "math/bits.deBruijn64tab"], apart := false, laid := [("math/bits.deBruijn32tab", laid_math_bits_deBruijn32tab), ("math/bits.deBruijn64tab", laid_math_bits_deBruijn64tab), ("internal/strconv.uint64pow10", laid_internal_strconv_uint64pow10), ("strconv.ErrRange", laid_strconv_ErrRange), ("strconv.ErrSyntax", laid_strconv_ErrSyntax)] }
def ExprRoundSaid : Prop := exprRoundRow.holds Tryd.pinned (OpenSpec.ofChange exprRoundSpec)

/-- ITS FALSE NEIGHBOUR: 'it returns false'. Refute it at one input. -/
def exprRoundWrong : ChangeSpec := { name := "exprRound", fn := fun _ => fun
  | [d] => { results := [.lit (.bool false)], args := [d] }
  | _ => none }
def ExprRoundWrongFalsely : Prop := exprRoundRow.holds Tryd.pinned (OpenSpec.ofChange exprRoundWrong)

/-- 'bailmentlaw04.ExprLevels': WHATEVER THE INPUT: true; the input reads as it did. -/
def exprLevelsSpec : ChangeSpec := { name := "exprLevels", fn := fun _ => fun
  | [d1, d2] => { results := [.lit (.bool true)], args := [d1, d2] }
  | _ => none }
def exprLevelsRow : OpenClaim := { program := "ytgohhnbdicdenaadoor", sum := "ae907d4989c10ceb192f094f9a3a75906f389d820ecd2ae20cca63f9fd4cea9f", func := "bailment/bailmentlaw04.ExprLevels", spec := "exprLevels", inPlace := ["internal/bytealg.IndexByteString"], unfollowed := true, recurses := true, named := ["strconv.ErrSyntax", "strconv.ErrRange", "internal/strconv.uint64pow10", "math/bits.deBruijn32tab", "math/bits.deBruijn64tab"], apart := false, laid := [("math/bits.deBruijn32tab", laid_math_bits_deBruijn32tab), ("math/bits.deBruijn64tab", laid_math_bits_deBruijn64tab), ("internal/strconv.uint64pow10", laid_internal_strconv_uint64pow10), ("strconv.ErrRange", laid_strconv_ErrRange), ("strconv.ErrSyntax", laid_strconv_ErrSyntax)] }
def ExprLevelsSaid : Prop := exprLevelsRow.holds Tryd.pinned (OpenSpec.ofChange exprLevelsSpec)

/-- ITS FALSE NEIGHBOUR: 'it returns false'. Refute it at one input. -/
def exprLevelsWrong : ChangeSpec := { name := "exprLevels", fn := fun _ => fun
  | [d1, d2] => { results := [.lit (.bool false)], args := [d1, d2] }
  | _ => none }
def ExprLevelsWrongFalsely : Prop := exprLevelsRow.holds Tryd.pinned (OpenSpec.ofChange exprLevelsWrong)

/-- 'bailmentlaw04.ExprBehind': WHATEVER THE INPUT: true; the input reads as it did. -/
def exprBehindSpec : ChangeSpec := { name := "exprBehind", fn := fun _ => fun
  | [d1, d2] => { results := [.lit (.bool true)], args := [d1, d2] }
  | _ => none }
def exprBehindRow : OpenClaim := { program := "ytgohhnbdicdenaadoor", sum := "ae907d4989c10ceb192f094f9a3a75906f389d820ecd2ae20cca63f9fd4cea9f", func := "bailment/bailmentlaw04.ExprBehind", spec := "exprBehind", inPlace := ["internal/bytealg.IndexByteString"], unfollowed := true, recurses := true, named := ["strconv.ErrSyntax", "strconv.ErrRange", "internal/strconv.uint64pow10", "math/bits.deBruijn32tab", "math/bits.deBruijn64tab"], apart := false, laid := [("math/bits.deBruijn32tab", laid_math_bits_deBruijn32tab), ("math/bits.deBruijn64tab", laid_math_bits_deBruijn64tab), ("internal/strconv.uint64pow10", laid_internal_strconv_uint64pow10), ("strconv.ErrRange", laid_strconv_ErrRange), ("strconv.ErrSyntax", laid_strconv_ErrSyntax)] }
def ExprBehindSaid : Prop := exprBehindRow.holds Tryd.pinned (OpenSpec.ofChange exprBehindSpec)

/-- ITS FALSE NEIGHBOUR: 'it returns false'. Refute it at one input. -/
def exprBehindWrong : ChangeSpec := { name := "exprBehind", fn := fun _ => fun
  | [d1, d2] => { results := [.lit (.bool false)], args := [d1, d2] }
  | _ => none }
def ExprBehindWrongFalsely : Prop := exprBehindRow.holds Tryd.pinned (OpenSpec.ofChange exprBehindWrong)

/-- 'bailmentlaw04.ExprFault': WHATEVER THE INPUT: true; the input reads as it did. -/
def exprFaultSpec : ChangeSpec := { name := "exprFault", fn := fun _ => fun
  | [d] => { results := [.lit (.bool true)], args := [d] }
  | _ => none }
def exprFaultRow : OpenClaim := { program := "ytgohhnbdicdenaadoor", sum := "ae907d4989c10ceb192f094f9a3a75906f389d820ecd2ae20cca63f9fd4cea9f", func := "bailment/bailmentlaw04.ExprFault", spec := "exprFault", inPlace := ["internal/bytealg.IndexByteString"], unfollowed := true, recurses := true, named := ["strconv.ErrSyntax", "strconv.ErrRange", "internal/strconv.uint64pow10", "math/bits.deBruijn32tab", "math/bits.deBruijn64tab"], apart := false, laid := [("math/bits.deBruijn32tab", laid_math_bits_deBruijn32tab), ("math/bits.deBruijn64tab", laid_math_bits_deBruijn64tab), ("internal/strconv.uint64pow10", laid_internal_strconv_uint64pow10), ("strconv.ErrRange", laid_strconv_ErrRange), ("strconv.ErrSyntax", laid_strconv_ErrSyntax)] }
def ExprFaultSaid : Prop := exprFaultRow.holds Tryd.pinned (OpenSpec.ofChange exprFaultSpec)

/-- ITS FALSE NEIGHBOUR: 'it returns false'. Refute it at one input. -/
def exprFaultWrong : ChangeSpec := { name := "exprFault", fn := fun _ => fun
  | [d] => { results := [.lit (.bool false)], args := [d] }
  | _ => none }
def ExprFaultWrongFalsely : Prop := exprFaultRow.holds Tryd.pinned (OpenSpec.ofChange exprFaultWrong)

/-- 'bailmentlaw05.ShowBack': WHATEVER THE INPUT: true; the input reads as it did. -/
def showBackSpec : ChangeSpec := { name := "showBack", fn := fun _ => fun
  | [d] => { results := [.lit (.bool true)], args := [d] }
  | _ => none }
def showBackRow : OpenClaim := { program := "ytgohhnbdicdenaadoor", sum := "ae907d4989c10ceb192f094f9a3a75906f389d820ecd2ae20cca63f9fd4cea9f", func := "bailment/bailmentlaw05.ShowBack", spec := "showBack", inPlace := ["internal/abi.NoEscape", "internal/bytealg.MakeNoZero"], recurses := true, named := ["bailment/show.signs", "internal/strconv.uint64pow10", "math/bits.deBruijn32tab", "math/bits.deBruijn64tab"], apart := false, laid := [("math/bits.deBruijn32tab", laid_math_bits_deBruijn32tab), ("math/bits.deBruijn64tab", laid_math_bits_deBruijn64tab), ("internal/strconv.uint64pow10", laid_internal_strconv_uint64pow10), ("bailment/show.signs", laid_bailment_show_signs)] }
def ShowBackSaid : Prop := showBackRow.holds Tryd.pinned (OpenSpec.ofChange showBackSpec)

/-- ITS FALSE NEIGHBOUR: 'it returns false'. Refute it at one input. -/
def showBackWrong : ChangeSpec := { name := "showBack", fn := fun _ => fun
  | [d] => { results := [.lit (.bool false)], args := [d] }
  | _ => none }
def ShowBackWrongFalsely : Prop := showBackRow.holds Tryd.pinned (OpenSpec.ofChange showBackWrong)

/-- 'bailmentlaw05.ShowAgain': WHATEVER THE INPUT: true; the input reads as it did. -/
def showAgainSpec : ChangeSpec := { name := "showAgain", fn := fun _ => fun
  | [d] => { results := [.lit (.bool true)], args := [d] }
  | _ => none }
def showAgainRow : OpenClaim := { program := "ytgohhnbdicdenaadoor", sum := "ae907d4989c10ceb192f094f9a3a75906f389d820ecd2ae20cca63f9fd4cea9f", func := "bailment/bailmentlaw05.ShowAgain", spec := "showAgain", inPlace := ["internal/abi.NoEscape", "internal/bytealg.MakeNoZero"], recurses := true, named := ["bailment/show.signs", "internal/strconv.uint64pow10", "math/bits.deBruijn32tab", "math/bits.deBruijn64tab"], apart := false, laid := [("math/bits.deBruijn32tab", laid_math_bits_deBruijn32tab), ("math/bits.deBruijn64tab", laid_math_bits_deBruijn64tab), ("internal/strconv.uint64pow10", laid_internal_strconv_uint64pow10), ("bailment/show.signs", laid_bailment_show_signs)] }
def ShowAgainSaid : Prop := showAgainRow.holds Tryd.pinned (OpenSpec.ofChange showAgainSpec)

/-- ITS FALSE NEIGHBOUR: 'it returns false'. Refute it at one input. -/
def showAgainWrong : ChangeSpec := { name := "showAgain", fn := fun _ => fun
  | [d] => { results := [.lit (.bool false)], args := [d] }
  | _ => none }
def ShowAgainWrongFalsely : Prop := showAgainRow.holds Tryd.pinned (OpenSpec.ofChange showAgainWrong)

/-- 'bailmentlaw05.ShowOrder': WHATEVER THE INPUT: true; the input reads as it did. -/
def showOrderSpec : ChangeSpec := { name := "showOrder", fn := fun _ => fun
  | [d] => { results := [.lit (.bool true)], args := [d] }
  | _ => none }
def showOrderRow : OpenClaim := { program := "ytgohhnbdicdenaadoor", sum := "ae907d4989c10ceb192f094f9a3a75906f389d820ecd2ae20cca63f9fd4cea9f", func := "bailment/bailmentlaw05.ShowOrder", spec := "showOrder", inPlace := ["internal/abi.NoEscape", "internal/bytealg.MakeNoZero"], recurses := true, named := ["bailment/show.signs", "internal/strconv.uint64pow10", "math/bits.deBruijn32tab", "math/bits.deBruijn64tab"], apart := false, laid := [("math/bits.deBruijn32tab", laid_math_bits_deBruijn32tab), ("math/bits.deBruijn64tab", laid_math_bits_deBruijn64tab), ("internal/strconv.uint64pow10", laid_internal_strconv_uint64pow10), ("bailment/show.signs", laid_bailment_show_signs)] }
def ShowOrderSaid : Prop := showOrderRow.holds Tryd.pinned (OpenSpec.ofChange showOrderSpec)

/-- ITS FALSE NEIGHBOUR: 'it returns false'. Refute it at one input. -/
def showOrderWrong : ChangeSpec := { name := "showOrder", fn := fun _ => fun
  | [d] => { results := [.lit (.bool false)], args := [d] }
  | _ => none }
def ShowOrderWrongFalsely : Prop := showOrderRow.holds Tryd.pinned (OpenSpec.ofChange showOrderWrong)

/-- 'bailmentlaw05.ShowSigns': WHATEVER THE INPUT: true; the input reads as it did. -/
def showSignsSpec : ChangeSpec := { name := "showSigns", fn := fun _ => fun
  | [d] => { results := [.lit (.bool true)], args := [d] }
  | _ => none }
def showSignsRow : OpenClaim := { program := "ytgohhnbdicdenaadoor", sum := "ae907d4989c10ceb192f094f9a3a75906f389d820ecd2ae20cca63f9fd4cea9f", func := "bailment/bailmentlaw05.ShowSigns", spec := "showSigns", inPlace := ["internal/abi.NoEscape", "internal/bytealg.MakeNoZero"], recurses := true, named := ["bailment/show.signs", "internal/strconv.uint64pow10", "math/bits.deBruijn32tab", "math/bits.deBruijn64tab"], apart := false, laid := [("math/bits.deBruijn32tab", laid_math_bits_deBruijn32tab), ("math/bits.deBruijn64tab", laid_math_bits_deBruijn64tab), ("internal/strconv.uint64pow10", laid_internal_strconv_uint64pow10), ("bailment/show.signs", laid_bailment_show_signs)] }
def ShowSignsSaid : Prop := showSignsRow.holds Tryd.pinned (OpenSpec.ofChange showSignsSpec)

/-- ITS FALSE NEIGHBOUR: 'it returns false'. Refute it at one input. -/
def showSignsWrong : ChangeSpec := { name := "showSigns", fn := fun _ => fun
  | [d] => { results := [.lit (.bool false)], args := [d] }
  | _ => none }
def ShowSignsWrongFalsely : Prop := showSignsRow.holds Tryd.pinned (OpenSpec.ofChange showSignsWrong)

/-- 'bailmentlaw05.ShowApart': WHATEVER THE INPUT: true; the input reads as it did. -/
def showApartSpec : ChangeSpec := { name := "showApart", fn := fun _ => fun
  | [d1, d2] => { results := [.lit (.bool true)], args := [d1, d2] }
  | _ => none }
def showApartRow : OpenClaim := { program := "ytgohhnbdicdenaadoor", sum := "ae907d4989c10ceb192f094f9a3a75906f389d820ecd2ae20cca63f9fd4cea9f", func := "bailment/bailmentlaw05.ShowApart", spec := "showApart", inPlace := ["internal/abi.NoEscape", "internal/bytealg.MakeNoZero"], recurses := true, named := ["bailment/show.signs", "internal/strconv.uint64pow10", "math/bits.deBruijn32tab", "math/bits.deBruijn64tab"], apart := false, laid := [("math/bits.deBruijn32tab", laid_math_bits_deBruijn32tab), ("math/bits.deBruijn64tab", laid_math_bits_deBruijn64tab), ("internal/strconv.uint64pow10", laid_internal_strconv_uint64pow10), ("bailment/show.signs", laid_bailment_show_signs)] }
def ShowApartSaid : Prop := showApartRow.holds Tryd.pinned (OpenSpec.ofChange showApartSpec)

/-- ITS FALSE NEIGHBOUR: 'it returns false'. Refute it at one input. -/
def showApartWrong : ChangeSpec := { name := "showApart", fn := fun _ => fun
  | [d1, d2] => { results := [.lit (.bool false)], args := [d1, d2] }
  | _ => none }
def ShowApartWrongFalsely : Prop := showApartRow.holds Tryd.pinned (OpenSpec.ofChange showApartWrong)

/- THE SECOND FORM. 'bulk': how many values and letters a reading holds, each counted each time it is reached (what is shared counts as often as it is met; a slice's spare places count too). A statement '..UptoSaid' is the law's where the arguments, and the package variables that the reading takes, are together of bulk at most 1048576: NARROWER than '..Said'. Prove '..Said' where nothing that the law and all that it calls make is longer than what came in: it says more and counts as full. Else prove '..UptoSaid'. A law counts once. -/
mutual
def uptoBulk {H : Type} : DataW H → Nat
  | .lit (.string bytes) => bytes.length + 1
  | .lit _ => 1
  | .nil => 1
  | .ptr d => uptoBulk d + 1
  | .slice elems spare => uptoBulkAll elems + uptoBulkAll spare + 1
  | .agg parts => uptoBulkAll parts + 1
  | .iface _ d => uptoBulk d + 1
  | .map entries => uptoBulkEntries entries + 1
  | .held _ => 1
def uptoBulkAll {H : Type} : List (DataW H) → Nat
  | [] => 0
  | d :: r => uptoBulk d + uptoBulkAll r
def uptoBulkEntries {H : Type} : List (Lit × DataW H) → Nat
  | [] => 0
  | x :: r => uptoBulkEntry x + uptoBulkEntries r
def uptoBulkEntry {H : Type} : Lit × DataW H → Nat
  | (.string bytes, d) => bytes.length + uptoBulk d + 1
  | (_, d) => uptoBulk d + 1
 end
def uptoSmall : (H : Type) → List (DataW H) → Bool := fun _ ds => decide (uptoBulkAll ds ≤ 1048576)
def OpenSpec.upto (s : _root_.Go.ChangeSpec) : _root_.Go.OpenSpec := { _root_.Go.OpenSpec.ofChange s with cond := some uptoSmall }

/-- 'bailmentlaw04.ExprRound', WHERE WHAT IT READS IS OF BULK AT MOST 1048576: true; the input reads as it did. -/
def exprRoundUptoRow : OpenClaim := { program := "ytgohhnbdicdenaadoor", sum := "ae907d4989c10ceb192f094f9a3a75906f389d820ecd2ae20cca63f9fd4cea9f", func := "bailment/bailmentlaw04.ExprRound", spec := "exprRound", inPlace := ["internal/bytealg.IndexByteString"], unfollowed := true, recurses := true, named := ["strconv.ErrSyntax", "strconv.ErrRange", "internal/strconv.uint64pow10", "math/bits.deBruijn32tab", "math/bits.deBruijn64tab"], apart := false, laid := [("math/bits.deBruijn32tab", laid_math_bits_deBruijn32tab), ("math/bits.deBruijn64tab", laid_math_bits_deBruijn64tab), ("internal/strconv.uint64pow10", laid_internal_strconv_uint64pow10), ("strconv.ErrRange", laid_strconv_ErrRange), ("strconv.ErrSyntax", laid_strconv_ErrSyntax)], narrowed := true }
def ExprRoundUptoSaid : Prop := exprRoundUptoRow.holds Tryd.pinned (OpenSpec.upto exprRoundSpec)

/-- 'bailmentlaw04.ExprLevels', WHERE WHAT IT READS IS OF BULK AT MOST 1048576: true; the input reads as it did. -/
def exprLevelsUptoRow : OpenClaim := { program := "ytgohhnbdicdenaadoor", sum := "ae907d4989c10ceb192f094f9a3a75906f389d820ecd2ae20cca63f9fd4cea9f", func := "bailment/bailmentlaw04.ExprLevels", spec := "exprLevels", inPlace := ["internal/bytealg.IndexByteString"], unfollowed := true, recurses := true, named := ["strconv.ErrSyntax", "strconv.ErrRange", "internal/strconv.uint64pow10", "math/bits.deBruijn32tab", "math/bits.deBruijn64tab"], apart := false, laid := [("math/bits.deBruijn32tab", laid_math_bits_deBruijn32tab), ("math/bits.deBruijn64tab", laid_math_bits_deBruijn64tab), ("internal/strconv.uint64pow10", laid_internal_strconv_uint64pow10), ("strconv.ErrRange", laid_strconv_ErrRange), ("strconv.ErrSyntax", laid_strconv_ErrSyntax)], narrowed := true }
def ExprLevelsUptoSaid : Prop := exprLevelsUptoRow.holds Tryd.pinned (OpenSpec.upto exprLevelsSpec)

/-- 'bailmentlaw04.ExprBehind', WHERE WHAT IT READS IS OF BULK AT MOST 1048576: true; the input reads as it did. -/
def exprBehindUptoRow : OpenClaim := { program := "ytgohhnbdicdenaadoor", sum := "ae907d4989c10ceb192f094f9a3a75906f389d820ecd2ae20cca63f9fd4cea9f", func := "bailment/bailmentlaw04.ExprBehind", spec := "exprBehind", inPlace := ["internal/bytealg.IndexByteString"], unfollowed := true, recurses := true, named := ["strconv.ErrSyntax", "strconv.ErrRange", "internal/strconv.uint64pow10", "math/bits.deBruijn32tab", "math/bits.deBruijn64tab"], apart := false, laid := [("math/bits.deBruijn32tab", laid_math_bits_deBruijn32tab), ("math/bits.deBruijn64tab", laid_math_bits_deBruijn64tab), ("internal/strconv.uint64pow10", laid_internal_strconv_uint64pow10), ("strconv.ErrRange", laid_strconv_ErrRange), ("strconv.ErrSyntax", laid_strconv_ErrSyntax)], narrowed := true }
def ExprBehindUptoSaid : Prop := exprBehindUptoRow.holds Tryd.pinned (OpenSpec.upto exprBehindSpec)

/-- 'bailmentlaw04.ExprFault', WHERE WHAT IT READS IS OF BULK AT MOST 1048576: true; the input reads as it did. -/
def exprFaultUptoRow : OpenClaim := { program := "ytgohhnbdicdenaadoor", sum := "ae907d4989c10ceb192f094f9a3a75906f389d820ecd2ae20cca63f9fd4cea9f", func := "bailment/bailmentlaw04.ExprFault", spec := "exprFault", inPlace := ["internal/bytealg.IndexByteString"], unfollowed := true, recurses := true, named := ["strconv.ErrSyntax", "strconv.ErrRange", "internal/strconv.uint64pow10", "math/bits.deBruijn32tab", "math/bits.deBruijn64tab"], apart := false, laid := [("math/bits.deBruijn32tab", laid_math_bits_deBruijn32tab), ("math/bits.deBruijn64tab", laid_math_bits_deBruijn64tab), ("internal/strconv.uint64pow10", laid_internal_strconv_uint64pow10), ("strconv.ErrRange", laid_strconv_ErrRange), ("strconv.ErrSyntax", laid_strconv_ErrSyntax)], narrowed := true }
def ExprFaultUptoSaid : Prop := exprFaultUptoRow.holds Tryd.pinned (OpenSpec.upto exprFaultSpec)

/-- 'bailmentlaw05.ShowBack', WHERE WHAT IT READS IS OF BULK AT MOST 1048576: true; the input reads as it did. -/
def showBackUptoRow : OpenClaim := { program := "ytgohhnbdicdenaadoor", sum := "ae907d4989c10ceb192f094f9a3a75906f389d820ecd2ae20cca63f9fd4cea9f", func := "bailment/bailmentlaw05.ShowBack", spec := "showBack", inPlace := ["internal/abi.NoEscape", "internal/bytealg.MakeNoZero"], recurses := true, named := ["bailment/show.signs", "internal/strconv.uint64pow10", "math/bits.deBruijn32tab", "math/bits.deBruijn64tab"], apart := false, laid := [("math/bits.deBruijn32tab", laid_math_bits_deBruijn32tab), ("math/bits.deBruijn64tab", laid_math_bits_deBruijn64tab), ("internal/strconv.uint64pow10", laid_internal_strconv_uint64pow10), ("bailment/show.signs", laid_bailment_show_signs)], narrowed := true }
def ShowBackUptoSaid : Prop := showBackUptoRow.holds Tryd.pinned (OpenSpec.upto showBackSpec)

/-- 'bailmentlaw05.ShowAgain', WHERE WHAT IT READS IS OF BULK AT MOST 1048576: true; the input reads as it did. -/
def showAgainUptoRow : OpenClaim := { program := "ytgohhnbdicdenaadoor", sum := "ae907d4989c10ceb192f094f9a3a75906f389d820ecd2ae20cca63f9fd4cea9f", func := "bailment/bailmentlaw05.ShowAgain", spec := "showAgain", inPlace := ["internal/abi.NoEscape", "internal/bytealg.MakeNoZero"], recurses := true, named := ["bailment/show.signs", "internal/strconv.uint64pow10", "math/bits.deBruijn32tab", "math/bits.deBruijn64tab"], apart := false, laid := [("math/bits.deBruijn32tab", laid_math_bits_deBruijn32tab), ("math/bits.deBruijn64tab", laid_math_bits_deBruijn64tab), ("internal/strconv.uint64pow10", laid_internal_strconv_uint64pow10), ("bailment/show.signs", laid_bailment_show_signs)], narrowed := true }
def ShowAgainUptoSaid : Prop := showAgainUptoRow.holds Tryd.pinned (OpenSpec.upto showAgainSpec)

/-- 'bailmentlaw05.ShowOrder', WHERE WHAT IT READS IS OF BULK AT MOST 1048576: true; the input reads as it did. -/
def showOrderUptoRow : OpenClaim := { program := "ytgohhnbdicdenaadoor", sum := "ae907d4989c10ceb192f094f9a3a75906f389d820ecd2ae20cca63f9fd4cea9f", func := "bailment/bailmentlaw05.ShowOrder", spec := "showOrder", inPlace := ["internal/abi.NoEscape", "internal/bytealg.MakeNoZero"], recurses := true, named := ["bailment/show.signs", "internal/strconv.uint64pow10", "math/bits.deBruijn32tab", "math/bits.deBruijn64tab"], apart := false, laid := [("math/bits.deBruijn32tab", laid_math_bits_deBruijn32tab), ("math/bits.deBruijn64tab", laid_math_bits_deBruijn64tab), ("internal/strconv.uint64pow10", laid_internal_strconv_uint64pow10), ("bailment/show.signs", laid_bailment_show_signs)], narrowed := true }
def ShowOrderUptoSaid : Prop := showOrderUptoRow.holds Tryd.pinned (OpenSpec.upto showOrderSpec)

/-- 'bailmentlaw05.ShowSigns', WHERE WHAT IT READS IS OF BULK AT MOST 1048576: true; the input reads as it did. -/
def showSignsUptoRow : OpenClaim := { program := "ytgohhnbdicdenaadoor", sum := "ae907d4989c10ceb192f094f9a3a75906f389d820ecd2ae20cca63f9fd4cea9f", func := "bailment/bailmentlaw05.ShowSigns", spec := "showSigns", inPlace := ["internal/abi.NoEscape", "internal/bytealg.MakeNoZero"], recurses := true, named := ["bailment/show.signs", "internal/strconv.uint64pow10", "math/bits.deBruijn32tab", "math/bits.deBruijn64tab"], apart := false, laid := [("math/bits.deBruijn32tab", laid_math_bits_deBruijn32tab), ("math/bits.deBruijn64tab", laid_math_bits_deBruijn64tab), ("internal/strconv.uint64pow10", laid_internal_strconv_uint64pow10), ("bailment/show.signs", laid_bailment_show_signs)], narrowed := true }
def ShowSignsUptoSaid : Prop := showSignsUptoRow.holds Tryd.pinned (OpenSpec.upto showSignsSpec)

/-- 'bailmentlaw05.ShowApart', WHERE WHAT IT READS IS OF BULK AT MOST 1048576: true; the input reads as it did. -/
def showApartUptoRow : OpenClaim := { program := "ytgohhnbdicdenaadoor", sum := "ae907d4989c10ceb192f094f9a3a75906f389d820ecd2ae20cca63f9fd4cea9f", func := "bailment/bailmentlaw05.ShowApart", spec := "showApart", inPlace := ["internal/abi.NoEscape", "internal/bytealg.MakeNoZero"], recurses := true, named := ["bailment/show.signs", "internal/strconv.uint64pow10", "math/bits.deBruijn32tab", "math/bits.deBruijn64tab"], apart := false, laid := [("math/bits.deBruijn32tab", laid_math_bits_deBruijn32tab), ("math/bits.deBruijn64tab", laid_math_bits_deBruijn64tab), ("internal/strconv.uint64pow10", laid_internal_strconv_uint64pow10), ("bailment/show.signs", laid_bailment_show_signs)], narrowed := true }
def ShowApartUptoSaid : Prop := showApartUptoRow.holds Tryd.pinned (OpenSpec.upto showApartSpec)

end Rows
end Go.Proofs.YtgohhnbdicdenaaDoor
