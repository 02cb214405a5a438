/-
  No cell of these rows narrows 'for every input' (looked for: loops, veiled, ifaces, maps, wideKeys, modest, calm, conditions, laid).
  DERIVED. THE GIVEN ROWS OF THIS SEAT. 5 by the template 'for every input the law returns true; each argument reads behind the call as it read before'; 0 by the template 'total and deterministic' (their statements: YtfohjlepknnleaaTotals.lean).
  GIVEN WITH THE SEED: the statements are not yours to turn. If you find one false, say at which input.
  Laid BY PROGRAM, IN A SANDBOX (cutbox-rows.mjs): the forced cells as the released guide's own fill.sh prints them over the translation f256623f6baf3571… (all of the seat's roots in one cut). By AI agents, Wed Nov 11 2026. No macro, syntax, notation, axiom, sorry.
-/
import Derived.Test.YtfohjlepknnleaaChecked
import GoSem.Claim
import GoSem.ClaimJoined
import GoSem.ClaimMapViews
import Derived.JoinedTies
import Derived.KernelRfl
namespace Go.Proofs.Ytfohjlepknnleaa
/- THE CELL 'sum', in the pinned program and in every row, IS THE sha256 OF THE DUMP (.gsa) THAT YtfohjlepknnleaaProg.lean LOADS. Nothing in Lean hashes anything: it is a label: what it is worth is what the hold of that sum in a sandbox is worth. -/
noncomputable def Try.pinned : Pinned := { name := "ytfohjlepknnleaa", sum := "f256623f6baf35715a78bd16733c79eaedfa0391eb6f08ad0123d4b5ac3ae9a7", checked := Try.checked }
namespace Rows
def none {H : Type} : Left H := { results := [], args := [] }

/-- 'bailmentlaw20.BddMakes': WHATEVER THE INPUT: true; the input reads as it did. -/
def bddMakesSpec : ChangeSpec := { name := "bddMakes", fn := fun _ => fun
  | [d1, d2, d3] => { results := [.lit (.bool true)], args := [d1, d2, d3] }
  | _ => none }
def bddMakesRow : OpenClaim := { program := "ytfohjlepknnleaa", sum := "f256623f6baf35715a78bd16733c79eaedfa0391eb6f08ad0123d4b5ac3ae9a7", func := "bailment/bailmentlaw20.BddMakes", spec := "bddMakes", unfollowed := true, recurses := true, plainKeys := false, apart := false }
def BddMakesSaid : Prop := bddMakesRow.holds Try.pinned (OpenSpec.ofChange bddMakesSpec)

/-- ITS FALSE NEIGHBOUR: 'it returns false'. Refute it at one input. -/
def bddMakesWrong : ChangeSpec := { name := "bddMakes", fn := fun _ => fun
  | [d1, d2, d3] => { results := [.lit (.bool false)], args := [d1, d2, d3] }
  | _ => none }
def BddMakesWrongFalsely : Prop := bddMakesRow.holds Try.pinned (OpenSpec.ofChange bddMakesWrong)

/-- 'bailmentlaw20.BddStrange': WHATEVER THE INPUT: true; the input reads as it did. -/
def bddStrangeSpec : ChangeSpec := { name := "bddStrange", fn := fun _ => fun
  | [d] => { results := [.lit (.bool true)], args := [d] }
  | _ => none }
def bddStrangeRow : OpenClaim := { program := "ytfohjlepknnleaa", sum := "f256623f6baf35715a78bd16733c79eaedfa0391eb6f08ad0123d4b5ac3ae9a7", func := "bailment/bailmentlaw20.BddStrange", spec := "bddStrange", unfollowed := true, recurses := true, plainKeys := false, apart := false }
def BddStrangeSaid : Prop := bddStrangeRow.holds Try.pinned (OpenSpec.ofChange bddStrangeSpec)

/-- ITS FALSE NEIGHBOUR: 'it returns false'. Refute it at one input. -/
def bddStrangeWrong : ChangeSpec := { name := "bddStrange", fn := fun _ => fun
  | [d] => { results := [.lit (.bool false)], args := [d] }
  | _ => none }
def BddStrangeWrongFalsely : Prop := bddStrangeRow.holds Try.pinned (OpenSpec.ofChange bddStrangeWrong)

/-- 'bailmentlaw20.BddLaws': WHATEVER THE INPUT: true; the input reads as it did. -/
def bddLawsSpec : ChangeSpec := { name := "bddLaws", fn := fun _ => fun
  | [d1, d2] => { results := [.lit (.bool true)], args := [d1, d2] }
  | _ => none }
def bddLawsRow : OpenClaim := { program := "ytfohjlepknnleaa", sum := "f256623f6baf35715a78bd16733c79eaedfa0391eb6f08ad0123d4b5ac3ae9a7", func := "bailment/bailmentlaw20.BddLaws", spec := "bddLaws", unfollowed := true, recurses := true, plainKeys := false, apart := false }
def BddLawsSaid : Prop := bddLawsRow.holds Try.pinned (OpenSpec.ofChange bddLawsSpec)

/-- ITS FALSE NEIGHBOUR: 'it returns false'. Refute it at one input. -/
def bddLawsWrong : ChangeSpec := { name := "bddLaws", fn := fun _ => fun
  | [d1, d2] => { results := [.lit (.bool false)], args := [d1, d2] }
  | _ => none }
def BddLawsWrongFalsely : Prop := bddLawsRow.holds Try.pinned (OpenSpec.ofChange bddLawsWrong)

/-- 'bailmentlaw20.BddShannon': WHATEVER THE INPUT: true; the input reads as it did. -/
def bddShannonSpec : ChangeSpec := { name := "bddShannon", fn := fun _ => fun
  | [d1, d2, d3] => { results := [.lit (.bool true)], args := [d1, d2, d3] }
  | _ => none }
def bddShannonRow : OpenClaim := { program := "ytfohjlepknnleaa", sum := "f256623f6baf35715a78bd16733c79eaedfa0391eb6f08ad0123d4b5ac3ae9a7", func := "bailment/bailmentlaw20.BddShannon", spec := "bddShannon", unfollowed := true, recurses := true, plainKeys := false, apart := false }
def BddShannonSaid : Prop := bddShannonRow.holds Try.pinned (OpenSpec.ofChange bddShannonSpec)

/-- ITS FALSE NEIGHBOUR: 'it returns false'. Refute it at one input. -/
def bddShannonWrong : ChangeSpec := { name := "bddShannon", fn := fun _ => fun
  | [d1, d2, d3] => { results := [.lit (.bool false)], args := [d1, d2, d3] }
  | _ => none }
def BddShannonWrongFalsely : Prop := bddShannonRow.holds Try.pinned (OpenSpec.ofChange bddShannonWrong)

/-- 'bailmentlaw20.BddEnds': WHATEVER THE INPUT: true; the input reads as it did. -/
def bddEndsSpec : ChangeSpec := { name := "bddEnds", fn := fun _ => fun
  | [d1, d2] => { results := [.lit (.bool true)], args := [d1, d2] }
  | _ => none }
def bddEndsRow : OpenClaim := { program := "ytfohjlepknnleaa", sum := "f256623f6baf35715a78bd16733c79eaedfa0391eb6f08ad0123d4b5ac3ae9a7", func := "bailment/bailmentlaw20.BddEnds", spec := "bddEnds", unfollowed := true, recurses := true, plainKeys := false, apart := false }
def BddEndsSaid : Prop := bddEndsRow.holds Try.pinned (OpenSpec.ofChange bddEndsSpec)

/-- ITS FALSE NEIGHBOUR: 'it returns false'. Refute it at one input. -/
def bddEndsWrong : ChangeSpec := { name := "bddEnds", fn := fun _ => fun
  | [d1, d2] => { results := [.lit (.bool false)], args := [d1, d2] }
  | _ => none }
def BddEndsWrongFalsely : Prop := bddEndsRow.holds Try.pinned (OpenSpec.ofChange bddEndsWrong)

/- THE SECOND FORM. 'bulk': how many values and letters a reading holds, each counted each time it is reached (what is shared counts as often as it is met; a slice's spare places count too). A statement '..UptoSaid' is the law's where the arguments, and the package variables that the reading takes, are together of bulk at most 1048576: NARROWER than '..Said'. Prove '..Said' where nothing that the law and all that it calls make is longer than what came in: it says more and counts as full. Else prove '..UptoSaid'. A law counts once. -/
mutual
def uptoBulk {H : Type} : DataW H → Nat
  | .lit (.string bytes) => bytes.length + 1
  | .lit _ => 1
  | .nil => 1
  | .ptr d => uptoBulk d + 1
  | .slice elems spare => uptoBulkAll elems + uptoBulkAll spare + 1
  | .agg parts => uptoBulkAll parts + 1
  | .iface _ d => uptoBulk d + 1
  | .map entries => uptoBulkEntries entries + 1
  | .held _ => 1
def uptoBulkAll {H : Type} : List (DataW H) → Nat
  | [] => 0
  | d :: r => uptoBulk d + uptoBulkAll r
def uptoBulkEntries {H : Type} : List (Lit × DataW H) → Nat
  | [] => 0
  | x :: r => uptoBulkEntry x + uptoBulkEntries r
def uptoBulkEntry {H : Type} : Lit × DataW H → Nat
  | (.string bytes, d) => bytes.length + uptoBulk d + 1
  | (_, d) => uptoBulk d + 1
 end
def uptoSmall : (H : Type) → List (DataW H) → Bool := fun _ ds => decide (uptoBulkAll ds ≤ 1048576)
def OpenSpec.upto (s : _root_.Go.ChangeSpec) : _root_.Go.OpenSpec := { _root_.Go.OpenSpec.ofChange s with cond := some uptoSmall }

/-- 'bailmentlaw20.BddMakes', WHERE WHAT IT READS IS OF BULK AT MOST 1048576: true; the input reads as it did. -/
def bddMakesUptoRow : OpenClaim := { program := "ytfohjlepknnleaa", sum := "f256623f6baf35715a78bd16733c79eaedfa0391eb6f08ad0123d4b5ac3ae9a7", func := "bailment/bailmentlaw20.BddMakes", spec := "bddMakes", unfollowed := true, recurses := true, plainKeys := false, apart := false, narrowed := true }
def BddMakesUptoSaid : Prop := bddMakesUptoRow.holds Try.pinned (OpenSpec.upto bddMakesSpec)

/-- 'bailmentlaw20.BddStrange', WHERE WHAT IT READS IS OF BULK AT MOST 1048576: true; the input reads as it did. -/
def bddStrangeUptoRow : OpenClaim := { program := "ytfohjlepknnleaa", sum := "f256623f6baf35715a78bd16733c79eaedfa0391eb6f08ad0123d4b5ac3ae9a7", func := "bailment/bailmentlaw20.BddStrange", spec := "bddStrange", unfollowed := true, recurses := true, plainKeys := false, apart := false, narrowed := true }
def BddStrangeUptoSaid : Prop := bddStrangeUptoRow.holds Try.pinned (OpenSpec.upto bddStrangeSpec)

/-- 'bailmentlaw20.BddLaws', WHERE WHAT IT READS IS OF BULK AT MOST 1048576: true; the input reads as it did. -/
def bddLawsUptoRow : OpenClaim := { program := "ytfohjlepknnleaa", sum := "f256623f6baf35715a78bd16733c79eaedfa0391eb6f08ad0123d4b5ac3ae9a7", func := "bailment/bailmentlaw20.BddLaws", spec := "bddLaws", unfollowed := true, recurses := true, plainKeys := false, apart := false, narrowed := true }
def BddLawsUptoSaid : Prop := bddLawsUptoRow.holds Try.pinned (OpenSpec.upto bddLawsSpec)

/-- 'bailmentlaw20.BddShannon', WHERE WHAT IT READS IS OF BULK AT MOST 1048576: true; the input reads as it did. -/
def bddShannonUptoRow : OpenClaim := { program := "ytfohjlepknnleaa", sum := "f256623f6baf35715a78bd16733c79eaedfa0391eb6f08ad0123d4b5ac3ae9a7", func := "bailment/bailmentlaw20.BddShannon", spec := "bddShannon", unfollowed := true, recurses := true, plainKeys := false, apart := false, narrowed := true }
def BddShannonUptoSaid : Prop := bddShannonUptoRow.holds Try.pinned (OpenSpec.upto bddShannonSpec)

/-- 'bailmentlaw20.BddEnds', WHERE WHAT IT READS IS OF BULK AT MOST 1048576: true; the input reads as it did. -/
def bddEndsUptoRow : OpenClaim := { program := "ytfohjlepknnleaa", sum := "f256623f6baf35715a78bd16733c79eaedfa0391eb6f08ad0123d4b5ac3ae9a7", func := "bailment/bailmentlaw20.BddEnds", spec := "bddEnds", unfollowed := true, recurses := true, plainKeys := false, apart := false, narrowed := true }
def BddEndsUptoSaid : Prop := bddEndsUptoRow.holds Try.pinned (OpenSpec.upto bddEndsSpec)

end Rows
end Go.Proofs.Ytfohjlepknnleaa
