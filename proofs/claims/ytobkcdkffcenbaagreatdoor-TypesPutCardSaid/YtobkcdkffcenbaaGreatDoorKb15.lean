/- Contracts of a reader's functions take, fail, need and takeSign. Conditions: a reader lies in memory. -/
import Derived.Test.YtobkcdkffcenbaaGreatDoorKb14
import Derived.BigRegion
import Derived.Deep.AppendLies
import Derived.Lib.LaidTab
import Derived.Test.YtobkcdkffcenbaaGreatDoorProg
import Derived.Test.YtobkcdkffcenbaaGreatDoorKa07
set_option linter.unusedVariables false
set_option linter.unusedSimpArgs false
namespace Go.Proofs.YtobkcdkffcenbaaGreatDoor.Ex
open Go.ChangeShapes Go.WideShapes Go.ChangeAt Go.RowKit
open Go.Proofs.YtobkcdkffcenbaaGreatDoor.Tr (str ret_bool ret_int Bytes Nd)
theorem setObj_heap {w : World} {b k : Nat} {cs : Array Value} {t : TypeId} {v : Value} (h : w.heap[b]? = some (.cells cs t (0, 0))) (hk : k < cs.size) : (w.setCell ⟨b, k, none⟩ v).heap[b]? = some (.cells (cs.setIfInBounds k v) t (0, 0)) := by
  have hl := lt_of_block h
  unfold World.setCell
  simp only [Array.getElem?_modify]
  simp only [if_true, h]; rfl
end Go.Proofs.YtobkcdkffcenbaaGreatDoor.Ex
namespace Go.Proofs.YtobkcdkffcenbaaGreatDoor.Sh
open Go.ChangeShapes Go.WideShapes Go.ChangeAt Go.RowKit
open Go.Proofs.YtobkcdkffcenbaaGreatDoor.Tr (str ret_bool ret_int Bytes Nd T)
end Go.Proofs.YtobkcdkffcenbaaGreatDoor.Sh
namespace Go.Proofs.YtobkcdkffcenbaaGreatDoor.Sh
open Go.ChangeShapes Go.WideShapes Go.ChangeAt Go.RowKit
open Go.Proofs.YtobkcdkffcenbaaGreatDoor.Tr (str ret_bool ret_int Bytes Nd T Nodes May tree kidsM mkL mkT fitsB argsL unaryB binaryB ndCells)
def BoxAt (w : World) (N : Nat) (x : Nd) : Prop := w.heap[N]? = some (.cells (ndCells x).toArray 70 (0, 0))
theorem BoxAt.cells {w : World} {N : Nat} {x : Nd} (h : BoxAt w N x) : w.cell? ⟨N, 0, none⟩ = some (.int .i64 x.op) ∧ w.cell? ⟨N, 1, none⟩ = some (.int .i64 x.a) ∧ w.cell? ⟨N, 2, none⟩ = some (.int .i64 x.b) ∧ w.cell? ⟨N, 3, none⟩ = some (.int .i64 x.c) ∧ w.cell? ⟨N, 4, none⟩ = some (.int .i64 x.n) ∧ w.cell? ⟨N, 5, none⟩ = some (.string (str x.name)) := by
  unfold BoxAt at h
  simp [World.cell?, h, ndCells]
end Go.Proofs.YtobkcdkffcenbaaGreatDoor.Sh
namespace Go.Proofs.YtobkcdkffcenbaaGreatDoor.Sh
open Go.Proofs.YtobkcdkffcenbaaGreatDoor.Tr Go.Proofs.YtobkcdkffcenbaaGreatDoor.Ex
theorem no_ws {r : Rd} (h : r.cur.kind = 2 ∨ r.cur.kind = 1) (s : Bytes) : r.isB s = false := by
  unfold Rd.isB Rd.ws
  rcases h with h | h <;> rw [h] <;> simp
theorem no_sign {r : Rd} (h : r.cur.kind = 2 ∨ r.cur.kind = 1) (n : Nat) : r.sign n = none := by
  unfold Rd.sign Rd.ws
  rcases h with h | h <;> rw [h] <;> simp
theorem gets_num {r : Rd} (hk : r.cur.kind = 2) (hn : numB 2147483647 r.cur = true) : Gets .single r (joined 1 (Lx.val r.cur.text : Nat) [] []) r.adv := by
  refine ⟨1, ?_⟩
  rw [run, if_neg (by rw [no_ws (.inl hk)]; decide), if_neg (by rw [no_ws (.inl hk)]; decide), if_neg (by rw [no_ws (.inl hk)]; decide), if_neg (by rw [no_ws (.inl hk)]; decide), if_pos hk]
  have e1 : r.numR 2147483647 = r.adv := by unfold Rd.numR; rw [if_pos hn]
  have e2 : r.num 2147483647 = Lx.val r.cur.text := by unfold Rd.num; rw [if_pos hn]
  rw [e1, e2]
end Go.Proofs.YtobkcdkffcenbaaGreatDoor.Sh
namespace Go.Proofs.YtobkcdkffcenbaaGreatDoor.Sh
open Go.Proofs.YtobkcdkffcenbaaGreatDoor.Tr Go.Proofs.YtobkcdkffcenbaaGreatDoor.Ex
def Ends (n : Nat) (l : List KT) : Prop := isBL lp l = false ∧ ∀ k, n ≤ k → k ≤ 8 → signL k l = none
theorem Ends.sign {n : Nat} {r : Rd} {l : List KT} (h : Ends n l) (hr : see r = l) (k : Nat) (h1 : n ≤ k) (h2 : k ≤ 8) : r.sign k = none := by rw [sign_see, hr]; exact h.2 k h1 h2
def lv (o : Int) : Nat := (levM o).toNat
end Go.Proofs.YtobkcdkffcenbaaGreatDoor.Sh
namespace Go.Proofs.YtobkcdkffcenbaaGreatDoor.Sh
open Go.ChangeShapes Go.WideShapes Go.ChangeAt Go.RowKit
open Go.Proofs.YtobkcdkffcenbaaGreatDoor.Tr (str ret_bool ret_int Bytes Nd T Nodes May tree kidsM mkL mkT fitsB argsL unaryB binaryB ndCells)
end Go.Proofs.YtobkcdkffcenbaaGreatDoor.Sh
namespace Go.Proofs.YtobkcdkffcenbaaGreatDoor.Sh
open Go.ChangeShapes Go.WideShapes Go.ChangeAt Go.RowKit
open Go.Proofs.YtobkcdkffcenbaaGreatDoor.Tr (str ret_bool ret_int Bytes Nd T Nodes May tree kidsM mkL mkT fitsB argsL unaryB binaryB ndCells)
end Go.Proofs.YtobkcdkffcenbaaGreatDoor.Sh
namespace Go.Proofs.YtobkcdkffcenbaaGreatDoor.Sh
open Go.ChangeShapes Go.WideShapes Go.ChangeAt Go.RowKit
open Go.Proofs.YtobkcdkffcenbaaGreatDoor.Tr (str ret_bool ret_int Bytes Nd T Nodes May tree kidsM mkL mkT fitsB argsL unaryB binaryB ndCells)
end Go.Proofs.YtobkcdkffcenbaaGreatDoor.Sh

