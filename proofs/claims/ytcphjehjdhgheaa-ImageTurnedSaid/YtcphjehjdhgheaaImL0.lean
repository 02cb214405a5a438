/- What the law's own example is as bytes. Conditions: none. -/
import Derived.Test.YtcphjehjdhgheaaImX
namespace Go.Proofs.Ytcphjehjdhgheaa.Nt
open Go.ChangeShapes Go.WideShapes Go.ChangeAt Go.RowKit Go.Proofs.Ytcphjehjdhgheaa.Tr
set_option linter.unusedVariables false
set_option linter.unusedSimpArgs false

def L1 : Cod := ⟨[⟨3, 0, 0, 0, 0, 0⟩, ⟨1, 0, 0, 0, 0, -300⟩], 1, 0, [0], [2]⟩
def imgL : List UInt8 := [66, 65, 73, 76, 1, 0, 1, 2, 2, 3, 0, 0, 1, 0, 215, 4, 1, 0]
def cutL : List UInt8 := [66, 65, 73, 76, 1, 0, 1, 2, 2, 3, 0, 0, 1, 0, 215, 4, 1]
def badL : List UInt8 := [66, 65, 73, 88]
theorem l1_f : encF L1 = 0 := by decide +kernel
theorem l1_m : encM L1 = imgL := by
  unfold encM
  rw [if_pos l1_f]
  unfold bytesM L1 listM putM insM fldsI readsI signM hasNB imgL bail
  simp [numM_lt, numM_ge, nrd, putM]
theorem l0_f : encF emptyC = 0 := by decide +kernel
theorem l0_m : encM emptyC = [66, 65, 73, 76, 0, 0, 0, 0, 0] := by
  unfold encM
  rw [if_pos l0_f]
  unfold bytesM emptyC listM putM bail
  simp [numM_lt]
theorem l3_f : encF ⟨[], 0, 0, [0], []⟩ = 1 := by decide +kernel
theorem l3_m : encM ⟨[], 0, 0, [0], []⟩ = [] := by unfold encM; rw [l3_f, if_neg (by decide)]
theorem l1_p : Lib.hasPrefix imgL bail = true ∧ Lib.hasPrefix cutL bail = true ∧ Lib.hasPrefix badL bail = false ∧ Lib.hasPrefix bail badL = false := by decide +kernel
theorem l1_c : codeR (Lib.trimPrefix imgL bail, 0) = (L1, ([], 0)) := by decide +kernel
theorem l1_t : (codeR (Lib.trimPrefix cutL bail, 0)).2.2 = 16 := by decide +kernel
theorem l1_d : decM imgL = (L1, 0) := by
  unfold decM
  rw [if_neg (by rw [l1_p.1]; simp), l1_c]
  rw [if_neg (by simp), if_neg (fun h => h.elim (fun h => h l1_f) (fun h => h l1_m))]
theorem cut_d : decM cutL = (emptyC, 16) := by
  unfold decM
  rw [if_neg (by rw [l1_p.2.1]; simp), l1_t, if_pos (by decide)]
theorem bad_d : decM badL = (emptyC, 15) := by
  unfold decM
  rw [if_pos l1_p.2.2.1, if_neg (by rw [l1_p.2.2.2]; simp)]
theorem l1_w : CodW L1 := codw_of (enc_ok l1_f).1 (by decide)
theorem l0_w : CodW emptyC := codw_of (enc_ok l0_f).1 (by decide)
theorem l3_w : CodW ⟨[], 0, 0, [0], []⟩ := ⟨fun x hx => by simp at hx, fun k hk => by simp at hk; subst hk; exact w64_of (by omega) (by omega)⟩
theorem ins_litb {w : World} {g : Nat} {l : List Ins6} {n : Nat} (hn : l.length = n) (hm : n ≤ 1000) (h : w.heap[g]? = some (.cells (insOfL l).toArray 109 (0, 0))) : InsR w (.slice (some ⟨g, 0, none⟩) n n) l := by
  subst hn
  refine ⟨_, _, rfl, Nat.le_refl _, by unfold maxLen; omega, fun i x hx => ⟨g, 0, rfl, lt_of_block h, ?_⟩⟩
  have q : ∀ k, k < 6 → w.cell? ⟨g, 0 + i * 6 + k, none⟩ = (insCells x)[k]? := fun k hk => by
    have := ins_at6 l i x hx k hk
    rw [Nat.zero_add]
    simp [World.cell?, h, this]
  exact ⟨q 0 (by omega), q 1 (by omega), q 2 (by omega), q 3 (by omega), q 4 (by omega), q 5 (by omega)⟩
end Go.Proofs.Ytcphjehjdhgheaa.Nt
