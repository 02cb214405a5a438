/-
  NARROWER THAN 'FOR EVERY INPUT', by the rows' own cells (each row's printed sentence says how): TypesMore: laid · TypesPick: laid.
  DERIVED. THE GIVEN ROWS OF THIS SEAT. 2 by the template 'for every input the law returns true; each argument reads behind the call as it read before'; 0 by the template 'total and deterministic' (their statements: YtlhcajhgbkgjbaaDoorTotals.lean).
  GIVEN WITH THE SEED: the statements are not yours to turn. If you find one false, say at which input.
  Laid BY PROGRAM, IN A SANDBOX (cutbox-rows.mjs): the forced cells as the released guide's own fill.sh prints them over the translation 9b5e3e8c8e962a24… (all of the seat's roots in one cut). By AI agents, Wed Nov 11 2026. No macro, syntax, notation, axiom, sorry.
-/
import Derived.Test.YtlhcajhgbkgjbaaDoorChecked
import GoSem.Claim
import GoSem.ClaimJoined
import GoSem.ClaimMapViews
import Derived.JoinedTies
import Derived.KernelRfl
namespace Go.Proofs.YtlhcajhgbkgjbaaDoor
/- THE CELL 'sum', in the pinned program and in every row, IS THE sha256 OF THE DUMP (.gsa) THAT YtlhcajhgbkgjbaaDoorProg.lean LOADS. Nothing in Lean hashes anything: it is a label: what it is worth is what the hold of that sum in a sandbox is worth. -/
noncomputable def Tryd.pinned : Pinned := { name := "ytlhcajhgbkgjbaadoor", sum := "9b5e3e8c8e962a24d1ad5839b53ed7781399f90fd9c5cd2a9b7b890760364d4d", checked := Tryd.checked }
namespace Rows
def none {H : Type} : Left H := { results := [], args := [] }

/- WHAT THE LISTED PACKAGE-LEVEL VARIABLES READ AS WHEN THE CALL BEGINS. Each datum BY PROGRAM (the guide's laid-datum.mjs) off the statement by which the dump's own 'gosem.cut.vars' lays the variable. In a bare row this is a premise. The card (YtlhcajhgbkgjbaaDoorCards.lean) ties it to the program's text. -/
def laid_bailment_types_shapes {H : Type} : DataW H := .agg [.agg [.agg [.lit (.int .i64 0), .lit (.int .i64 0), .lit (.int .i64 0)], .lit (.int .i64 0)], .agg [.agg [.lit (.int .i64 0), .lit (.int .i64 0), .lit (.int .i64 0)], .lit (.int .i64 2)], .agg [.agg [.lit (.int .i64 0), .lit (.int .i64 0), .lit (.int .i64 0)], .lit (.int .i64 1)], .agg [.agg [.lit (.int .i64 0), .lit (.int .i64 0), .lit (.int .i64 0)], .lit (.int .i64 0)], .agg [.agg [.lit (.int .i64 1), .lit (.int .i64 0), .lit (.int .i64 0)], .lit (.int .i64 1)], .agg [.agg [.lit (.int .i64 2), .lit (.int .i64 0), .lit (.int .i64 0)], .lit (.int .i64 2)], .agg [.agg [.lit (.int .i64 1), .lit (.int .i64 1), .lit (.int .i64 0)], .lit (.int .i64 1)], .agg [.agg [.lit (.int .i64 1), .lit (.int .i64 1), .lit (.int .i64 0)], .lit (.int .i64 1)], .agg [.agg [.lit (.int .i64 1), .lit (.int .i64 1), .lit (.int .i64 0)], .lit (.int .i64 1)], .agg [.agg [.lit (.int .i64 1), .lit (.int .i64 1), .lit (.int .i64 0)], .lit (.int .i64 1)], .agg [.agg [.lit (.int .i64 3), .lit (.int .i64 3), .lit (.int .i64 0)], .lit (.int .i64 1)], .agg [.agg [.lit (.int .i64 3), .lit (.int .i64 3), .lit (.int .i64 0)], .lit (.int .i64 1)], .agg [.agg [.lit (.int .i64 2), .lit (.int .i64 2), .lit (.int .i64 0)], .lit (.int .i64 1)], .agg [.agg [.lit (.int .i64 2), .lit (.int .i64 2), .lit (.int .i64 0)], .lit (.int .i64 1)], .agg [.agg [.lit (.int .i64 2), .lit (.int .i64 2), .lit (.int .i64 0)], .lit (.int .i64 2)], .agg [.agg [.lit (.int .i64 2), .lit (.int .i64 2), .lit (.int .i64 0)], .lit (.int .i64 2)], .agg [.agg [.lit (.int .i64 2), .lit (.int .i64 2), .lit (.int .i64 0)], .lit (.int .i64 2)], .agg [.agg [.lit (.int .i64 2), .lit (.int .i64 2), .lit (.int .i64 0)], .lit (.int .i64 2)], .agg [.agg [.lit (.int .i64 2), .lit (.int .i64 2), .lit (.int .i64 0)], .lit (.int .i64 2)], .agg [.agg [.lit (.int .i64 3), .lit (.int .i64 3), .lit (.int .i64 0)], .lit (.int .i64 3)], .agg [.agg [.lit (.int .i64 1), .lit (.int .i64 1), .lit (.int .i64 0)], .lit (.int .i64 1)], .agg [.agg [.lit (.int .i64 3), .lit (.int .i64 0), .lit (.int .i64 0)], .lit (.int .i64 3)], .agg [.agg [.lit (.int .i64 1), .lit (.int .i64 0), .lit (.int .i64 0)], .lit (.int .i64 1)], .agg [.agg [.lit (.int .i64 1), .lit (.int .i64 0), .lit (.int .i64 0)], .lit (.int .i64 1)], .agg [.agg [.lit (.int .i64 1), .lit (.int .i64 0), .lit (.int .i64 0)], .lit (.int .i64 1)], .agg [.agg [.lit (.int .i64 1), .lit (.int .i64 0), .lit (.int .i64 0)], .lit (.int .i64 1)], .agg [.agg [.lit (.int .i64 1), .lit (.int .i64 3), .lit (.int .i64 3)], .lit (.int .i64 3)]]

/-- 'bailmentlaw09.TypesMore': WHATEVER THE INPUT: true; the input reads as it did. -/
def typesMoreSpec : ChangeSpec := { name := "typesMore", fn := fun _ => fun
  | [d1, d2, d3] => { results := [.lit (.bool true)], args := [d1, d2, d3] }
  | _ => none }
def typesMoreRow : OpenClaim := { program := "ytlhcajhgbkgjbaadoor", sum := "9b5e3e8c8e962a24d1ad5839b53ed7781399f90fd9c5cd2a9b7b890760364d4d", func := "bailment/bailmentlaw09.TypesMore", spec := "typesMore", inPlace := ["maps.clone"], unfollowed := true, recurses := true, named := ["bailment/types.shapes"], apart := false, laid := [("bailment/types.shapes", laid_bailment_types_shapes)] }
def TypesMoreSaid : Prop := typesMoreRow.holds Tryd.pinned (OpenSpec.ofChange typesMoreSpec)

/-- ITS FALSE NEIGHBOUR: 'it returns false'. Refute it at one input. -/
def typesMoreWrong : ChangeSpec := { name := "typesMore", fn := fun _ => fun
  | [d1, d2, d3] => { results := [.lit (.bool false)], args := [d1, d2, d3] }
  | _ => none }
def TypesMoreWrongFalsely : Prop := typesMoreRow.holds Tryd.pinned (OpenSpec.ofChange typesMoreWrong)

/-- 'bailmentlaw09.TypesPick': WHATEVER THE INPUT: true; the input reads as it did. -/
def typesPickSpec : ChangeSpec := { name := "typesPick", fn := fun _ => fun
  | [d1, d2, d3] => { results := [.lit (.bool true)], args := [d1, d2, d3] }
  | _ => none }
def typesPickRow : OpenClaim := { program := "ytlhcajhgbkgjbaadoor", sum := "9b5e3e8c8e962a24d1ad5839b53ed7781399f90fd9c5cd2a9b7b890760364d4d", func := "bailment/bailmentlaw09.TypesPick", spec := "typesPick", inPlace := ["maps.clone"], unfollowed := true, recurses := true, named := ["bailment/types.shapes"], apart := false, laid := [("bailment/types.shapes", laid_bailment_types_shapes)] }
def TypesPickSaid : Prop := typesPickRow.holds Tryd.pinned (OpenSpec.ofChange typesPickSpec)

/-- ITS FALSE NEIGHBOUR: 'it returns false'. Refute it at one input. -/
def typesPickWrong : ChangeSpec := { name := "typesPick", fn := fun _ => fun
  | [d1, d2, d3] => { results := [.lit (.bool false)], args := [d1, d2, d3] }
  | _ => none }
def TypesPickWrongFalsely : Prop := typesPickRow.holds Tryd.pinned (OpenSpec.ofChange typesPickWrong)

/- THE SECOND FORM. 'bulk': how many values and letters a reading holds, each counted each time it is reached (what is shared counts as often as it is met; a slice's spare places count too). A statement '..UptoSaid' is the law's where the arguments, and the package variables that the reading takes, are together of bulk at most 1048576: NARROWER than '..Said'. Prove '..Said' where nothing that the law and all that it calls make is longer than what came in: it says more and counts as full. Else prove '..UptoSaid'. A law counts once. -/
mutual
def uptoBulk {H : Type} : DataW H → Nat
  | .lit (.string bytes) => bytes.length + 1
  | .lit _ => 1
  | .nil => 1
  | .ptr d => uptoBulk d + 1
  | .slice elems spare => uptoBulkAll elems + uptoBulkAll spare + 1
  | .agg parts => uptoBulkAll parts + 1
  | .iface _ d => uptoBulk d + 1
  | .map entries => uptoBulkEntries entries + 1
  | .held _ => 1
def uptoBulkAll {H : Type} : List (DataW H) → Nat
  | [] => 0
  | d :: r => uptoBulk d + uptoBulkAll r
def uptoBulkEntries {H : Type} : List (Lit × DataW H) → Nat
  | [] => 0
  | x :: r => uptoBulkEntry x + uptoBulkEntries r
def uptoBulkEntry {H : Type} : Lit × DataW H → Nat
  | (.string bytes, d) => bytes.length + uptoBulk d + 1
  | (_, d) => uptoBulk d + 1
 end
def uptoSmall : (H : Type) → List (DataW H) → Bool := fun _ ds => decide (uptoBulkAll ds ≤ 1048576)
def OpenSpec.upto (s : _root_.Go.ChangeSpec) : _root_.Go.OpenSpec := { _root_.Go.OpenSpec.ofChange s with cond := some uptoSmall }

/-- 'bailmentlaw09.TypesMore', WHERE WHAT IT READS IS OF BULK AT MOST 1048576: true; the input reads as it did. -/
def typesMoreUptoRow : OpenClaim := { program := "ytlhcajhgbkgjbaadoor", sum := "9b5e3e8c8e962a24d1ad5839b53ed7781399f90fd9c5cd2a9b7b890760364d4d", func := "bailment/bailmentlaw09.TypesMore", spec := "typesMore", inPlace := ["maps.clone"], unfollowed := true, recurses := true, named := ["bailment/types.shapes"], apart := false, laid := [("bailment/types.shapes", laid_bailment_types_shapes)], narrowed := true }
def TypesMoreUptoSaid : Prop := typesMoreUptoRow.holds Tryd.pinned (OpenSpec.upto typesMoreSpec)

/-- 'bailmentlaw09.TypesPick', WHERE WHAT IT READS IS OF BULK AT MOST 1048576: true; the input reads as it did. -/
def typesPickUptoRow : OpenClaim := { program := "ytlhcajhgbkgjbaadoor", sum := "9b5e3e8c8e962a24d1ad5839b53ed7781399f90fd9c5cd2a9b7b890760364d4d", func := "bailment/bailmentlaw09.TypesPick", spec := "typesPick", inPlace := ["maps.clone"], unfollowed := true, recurses := true, named := ["bailment/types.shapes"], apart := false, laid := [("bailment/types.shapes", laid_bailment_types_shapes)], narrowed := true }
def TypesPickUptoSaid : Prop := typesPickUptoRow.holds Tryd.pinned (OpenSpec.upto typesPickSpec)

end Rows
end Go.Proofs.YtlhcajhgbkgjbaaDoor
