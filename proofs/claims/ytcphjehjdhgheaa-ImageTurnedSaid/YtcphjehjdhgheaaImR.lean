/- A reader of bytes in a box: its first fault, the next byte. Conditions: as each says. -/
import Derived.Test.YtcphjehjdhgheaaImE
import Derived.Test.YtcphjehjdhgheaaImRm
namespace Go.Proofs.Ytcphjehjdhgheaa.Nt
open Go.ChangeShapes Go.WideShapes Go.ChangeAt Go.RowKit Go.Proofs.Ytcphjehjdhgheaa.Tr
set_option linter.unusedVariables false
set_option linter.unusedSimpArgs false

/-- A reader in a box: what is left, and the fault. -/
def RdBox (w : World) (q : Nat) (s : Rst) : Prop := w.heap[q]? = some (.cells #[.string (bs s.1), .int .i64 s.2] 150 (0, 0))
theorem RdBox.ats {w : World} {q : Nat} {s : Rst} (h : RdBox w q s) : w.cell? ⟨q, 0, none⟩ = some (.string (bs s.1)) ∧ w.cell? ⟨q, 1, none⟩ = some (.int .i64 s.2) := by
  unfold RdBox at h
  exact ⟨by simp [World.cell?, h], by simp [World.cell?, h]⟩
theorem RdBox.fzs {w : World} {q : Nat} {s : Rst} (h : RdBox w q s) : w.frozen? ⟨q, 0, none⟩ = false ∧ w.frozen? ⟨q, 1, none⟩ = false := by
  unfold RdBox at h
  exact ⟨by simp [World.frozen?, h], by simp [World.frozen?, h]⟩
theorem RdBox.set0 {w : World} {q : Nat} {s : Rst} (h : RdBox w q s) (l : List UInt8) : RdBox (w.setCell ⟨q, 0, none⟩ (.string (bs l))) q (l, s.2) := by
  unfold RdBox at h ⊢
  simp [World.setCell, Array.getElem?_modify, h]
theorem RdBox.set1 {w : World} {q : Nat} {s : Rst} (h : RdBox w q s) (f : Int) : RdBox (w.setCell ⟨q, 1, none⟩ (.int .i64 f)) q (s.1, f) := by
  unfold RdBox at h ⊢
  simp [World.setCell, Array.getElem?_modify, h]
/-- No block changes but q. -/
structure KpQ (q : Nat) (w w' : World) : Prop where
  size : w.heap.size ≤ w'.heap.size
  block : ∀ g, g < w.heap.size → g ≠ q → w'.heap[g]? = w.heap[g]?
theorem KpQ.refl (q : Nat) (w : World) : KpQ q w w := ⟨Nat.le_refl _, fun _ _ _ => rfl⟩
theorem KpQ.trans {q : Nat} {a b c : World} (h : KpQ q a b) (k : KpQ q b c) : KpQ q a c := ⟨Nat.le_trans h.size k.size, fun g h1 h2 => (k.block g (by have := h.size; omega) h2).trans (h.block g h1 h2)⟩
theorem KpQ.of_below {q : Nat} {w w' : World} (h : Below w.heap.size w w') : KpQ q w w' := ⟨h.size, fun g hg _ => h.block g hg⟩
theorem KpQ.set (q k : Nat) (w : World) (v : Value) : KpQ q w (w.setCell ⟨q, k, none⟩ v) := ⟨by simp, fun g _ h => Below.heap_setCell _ _ _ _ (by simpa using h)⟩
/-- What a reader's method leaves. -/
def RTo (q : Nat) (s : Rst) (w w' : World) : Prop := RdBox w' q s ∧ KpQ q w w' ∧ Below q w w'
theorem RTo.here {q : Nat} {s : Rst} {w : World} (h : RdBox w q s) : RTo q s w w := ⟨h, KpQ.refl _ _, Below.refl _ _⟩
theorem RTo.then {q : Nat} {s t : Rst} {u v w : World} (h : RTo q s u v) (k : RTo q t v w) : RTo q t u w := ⟨k.1, h.2.1.trans k.2.1, h.2.2.trans k.2.2⟩
theorem RTo.up {q : Nat} {s : Rst} {u v w : World} (h : RTo q s u v) (k : Below v.heap.size v w) : RTo q s u w := by
  have hl := lt_of_block h.1
  exact ⟨(k.block q hl).trans h.1, h.2.1.trans (KpQ.of_below k), h.2.2.trans (k.mono (Nat.le_of_lt hl))⟩
set_option maxRecDepth 100000 in
set_option maxHeartbeats 2000000 in
theorem rfail_any (q : Nat) (s : Rst) (e : Int) (w : World) (h : RdBox w q s) : Calls Try.prog 137 #[.pointer (some ⟨q, 0, none⟩), .int .i64 e] w fun r w' => r = .returned (.tuple #[]) ∧ RTo q (s.1, failM s.2 e) w w' := by
  obtain ⟨a0, a1⟩ := h.ats
  obtain ⟨f0, f1⟩ := h.fzs
  have hl := lt_of_block h
  have H := Lib.hid h
  obtain ⟨l, f⟩ := s
  dsimp only at a0 a1 ⊢
  clear h
  by_cases hf : f = 0
  · subst hf
    have HT : Hid (RTo q (l, failM 0 e) w (w.setCell ⟨q, 1, none⟩ (.int .i64 e))) := Lib.hid ⟨H.out.set1 e, KpQ.set _ _ _ _, (Below.refl q w).setCell (p := ⟨q, 1, none⟩) (by simp) _⟩
    go_enter Try.func137, Try.ntmps137
    go_wp2
    go_end0
    exact ⟨rfl, HT.out⟩
  · have HT : Hid (RTo q (l, failM f e) w w) := Lib.hid (by
      have : failM f e = f := by unfold failM; rw [if_neg hf]
      rw [this]; exact RTo.here H.out)
    have hb : (f == 0) = false := by simpa using hf
    clear hf
    go_enter Try.func137, Try.ntmps137
    go_wp2
    go_end0
    exact ⟨rfl, HT.out⟩
theorem bs_list (l : List UInt8) : (bs l).toList = l := by
  rw [Lib.toList_data]
  simp [bs]
theorem bs_first (b : UInt8) (r : List UInt8) (h : 0 < (bs (b :: r)).size) : ((bs (b :: r))[0]'h).toNat = b.toNat := rfl
theorem bs_tail (b : UInt8) (r : List UInt8) : (bs (b :: r)).extract 1 (bs (b :: r)).size = bs r := by
  unfold bs
  apply ByteArray.ext
  simp [ByteArray.size]
set_option maxRecDepth 100000 in
set_option maxHeartbeats 2000000 in
theorem rnext_any (q : Nat) (s : Rst) (w : World) (h : RdBox w q s) (hl9 : s.1.length ≤ 100000000) : Calls Try.prog 136 #[.pointer (some ⟨q, 0, none⟩)] w fun r w' => r = .returned (.int .i64 (nextM s).1) ∧ RTo q (nextM s).2 w w' := by
  obtain ⟨a0, a1⟩ := h.ats
  obtain ⟨f0, f1⟩ := h.fzs
  have hl := lt_of_block h
  have H := Lib.hid h
  obtain ⟨l, f⟩ := s
  dsimp only at a0 a1 ⊢
  clear h
  cases l with
  | nil =>
    have HF := Lib.hid (rfail_any q ([], f) 16 w H.out)
    dsimp only at HF
    have he : (bs []).toList.isEmpty = true := by rw [bs_list]; rfl
    go_enter Try.func136, Try.ntmps136
    go_wp2_with fail
    refine HF.out.mono ?_
    rintro e w1 ⟨rfl, h1⟩
    have H1 := Lib.hid h1
    clear h1
    go_wp2_with fail
    refine bodyPost_ret (v := .int .i64 0) (by simp [results, Try.results136, go_sem]) rfl ⟨rfl, H1.out⟩
  | cons b r =>
    have he : (bs (b :: r)).toList.isEmpty = false := by rw [bs_list]; rfl
    have hsz : (bs (b :: r)).size = r.length + 1 := by rw [bs_size]; rfl
    have ht : (bs (b :: r)).extract 1 (r.length + 1) = bs r := by rw [← hsz]; exact bs_tail b r
    have HT : Hid (RTo q (r, f) w (w.setCell ⟨q, 0, none⟩ (.string (bs r)))) := Lib.hid ⟨H.out.set0 r, KpQ.set _ _ _ _, (Below.refl q w).setCell (p := ⟨q, 0, none⟩) (by simp) _⟩
    have hb8 := b.toNat_lt
    go_enter Try.func136, Try.ntmps136
    go_wp2_with fail
    try rw [ht]
    refine bodyPost_ret (v := .int .i64 (b.toNat : Int)) (by simp [results, Try.results136, go_sem, bs_first, wrap64]; omega) rfl ⟨rfl, HT.out⟩
end Go.Proofs.Ytcphjehjdhgheaa.Nt
