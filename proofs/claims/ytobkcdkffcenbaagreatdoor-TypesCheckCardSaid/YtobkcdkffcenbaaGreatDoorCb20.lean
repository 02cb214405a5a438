/- The document's answer for layer expr: a number behind within, and an operand. Conditions: a reader lies in memory at a token; the contract of operands at less fuel. -/
import Derived.Test.YtobkcdkffcenbaaGreatDoorCb19
import Derived.Deep.QuietTactic
import Derived.BigQuiet
import Derived.Test.YtobkcdkffcenbaaGreatDoorCb15
import Derived.Test.YtobkcdkffcenbaaGreatDoorCb17
import Derived.OwnWalk
import Derived.Deep.LoopGhost
import Derived.Maps.AppendAt
import Derived.OneCell
set_option linter.unusedVariables false
set_option linter.unusedSimpArgs false
namespace Go.Proofs.YtobkcdkffcenbaaGreatDoor.Rf
open Go.ChangeShapes Go.WideShapes Go.ChangeAt Go.RowKit
open Go.Proofs.YtobkcdkffcenbaaGreatDoor.Ex Go.Proofs.YtobkcdkffcenbaaGreatDoor.Sh
open Go.Proofs.YtobkcdkffcenbaaGreatDoor.Tr (str ret_bool ret_int Bytes Nd T joinM roomM binaryB unaryB plainB)
end Go.Proofs.YtobkcdkffcenbaaGreatDoor.Rf
namespace Go.Proofs.YtobkcdkffcenbaaGreatDoor.Ex
open Go.ChangeShapes Go.WideShapes Go.ChangeAt Go.RowKit
open Go.Proofs.YtobkcdkffcenbaaGreatDoor.Tr (str ret_bool ret_int Bytes Nd joinM roomM)
def ExprsAt (w : World) (b : Nat) (ps : List Pt) (evs : List Value) : Prop :=
  evs.length = ps.length ∧ ∀ (i : Nat) ev p, evs[i]? = some ev → ps[i]? = some p → Tr.Nodes w ev p.e ∧ (0 < p.e.length → ∀ g o n c, ev = .slice (some ⟨g, o, none⟩) n c → g < b)
theorem ExprsAt.keep {w w' : World} {b : Nat} {ps : List Pt} {evs : List Value} (h : ExprsAt w b ps evs) (hs : w.heap.size ≤ w'.heap.size) (hk : ∀ g, g < b → g < w.heap.size → w'.heap[g]? = w.heap[g]?) : ExprsAt w' b ps evs := by
  refine ⟨h.1, fun i ev p h1 h2 => ?_⟩
  obtain ⟨a, c⟩ := h.2 i ev p h1 h2
  exact ⟨a.low c hs hk, c⟩
end Go.Proofs.YtobkcdkffcenbaaGreatDoor.Ex
namespace Go.Proofs.YtobkcdkffcenbaaGreatDoor.Ex
open Go.ChangeShapes Go.WideShapes Go.ChangeAt Go.RowKit
open Go.Proofs.YtobkcdkffcenbaaGreatDoor.Tr (str ret_bool ret_int Bytes Nd joinM roomM own_block)
end Go.Proofs.YtobkcdkffcenbaaGreatDoor.Ex
namespace Go.Proofs.YtobkcdkffcenbaaGreatDoor.Rf
open Go.ChangeShapes Go.WideShapes Go.ChangeAt Go.RowKit
open Go.Proofs.YtobkcdkffcenbaaGreatDoor.Ex Go.Proofs.YtobkcdkffcenbaaGreatDoor.Sh
open Go.Proofs.YtobkcdkffcenbaaGreatDoor.Tr (str ret_bool ret_int Bytes Nd T joinM roomM binaryB unaryB)
end Go.Proofs.YtobkcdkffcenbaaGreatDoor.Rf
namespace Go.Proofs.YtobkcdkffcenbaaGreatDoor.Rf
open Go.ChangeShapes Go.WideShapes Go.ChangeAt Go.RowKit
open Go.Proofs.YtobkcdkffcenbaaGreatDoor.Ex Go.Proofs.YtobkcdkffcenbaaGreatDoor.Sh
open Go.Proofs.YtobkcdkffcenbaaGreatDoor.Tr (str ret_bool ret_int Bytes Nd T joinM roomM binaryB unaryB plainB)
end Go.Proofs.YtobkcdkffcenbaaGreatDoor.Rf
namespace Go.Proofs.YtobkcdkffcenbaaGreatDoor.Rf
open Go.ChangeShapes Go.WideShapes Go.ChangeAt Go.RowKit
open Go.Proofs.YtobkcdkffcenbaaGreatDoor.Ex Go.Proofs.YtobkcdkffcenbaaGreatDoor.Sh
open Go.Proofs.YtobkcdkffcenbaaGreatDoor.Tr (str ret_bool ret_int Bytes Nd T joinM roomM binaryB unaryB plainB)
end Go.Proofs.YtobkcdkffcenbaaGreatDoor.Rf
namespace Go.Proofs.YtobkcdkffcenbaaGreatDoor.Rf
open Go.ChangeShapes Go.WideShapes Go.ChangeAt Go.RowKit
open Go.Proofs.YtobkcdkffcenbaaGreatDoor.Ex Go.Proofs.YtobkcdkffcenbaaGreatDoor.Sh
open Go.Proofs.YtobkcdkffcenbaaGreatDoor.Tr (str ret_bool ret_int Bytes Nd T joinM roomM binaryB unaryB plainB)
end Go.Proofs.YtobkcdkffcenbaaGreatDoor.Rf
namespace Go.Proofs.YtobkcdkffcenbaaGreatDoor.Rf
open Go.ChangeShapes Go.WideShapes Go.ChangeAt Go.RowKit
open Go.Proofs.YtobkcdkffcenbaaGreatDoor.Ex Go.Proofs.YtobkcdkffcenbaaGreatDoor.Sh
open Go.Proofs.YtobkcdkffcenbaaGreatDoor.Tr (str ret_bool ret_int Bytes Nd T joinM roomM binaryB unaryB plainB)
end Go.Proofs.YtobkcdkffcenbaaGreatDoor.Rf
namespace Go.Proofs.YtobkcdkffcenbaaGreatDoor.Rf
open Go.ChangeShapes Go.WideShapes Go.ChangeAt Go.RowKit
open Go.Proofs.YtobkcdkffcenbaaGreatDoor.Ex Go.Proofs.YtobkcdkffcenbaaGreatDoor.Sh
open Go.Proofs.YtobkcdkffcenbaaGreatDoor.Tr (str ret_bool ret_int Bytes Nd T joinM roomM binaryB unaryB plainB)
end Go.Proofs.YtobkcdkffcenbaaGreatDoor.Rf
namespace Go.Proofs.YtobkcdkffcenbaaGreatDoor.Rf
open Go.ChangeShapes Go.WideShapes Go.ChangeAt Go.RowKit
open Go.Proofs.YtobkcdkffcenbaaGreatDoor.Ex Go.Proofs.YtobkcdkffcenbaaGreatDoor.Sh
open Go.Proofs.YtobkcdkffcenbaaGreatDoor.Tr (str ret_bool ret_int Bytes Nd T joinM roomM binaryB unaryB plainB)
end Go.Proofs.YtobkcdkffcenbaaGreatDoor.Rf

