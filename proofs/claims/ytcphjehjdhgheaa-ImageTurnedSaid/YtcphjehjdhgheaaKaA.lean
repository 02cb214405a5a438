/- The document's questions on one instruction. Conditions: none. -/
import Derived.Test.YtcphjehjdhgheaaNkOp
import Derived.Test.YtcphjehjdhgheaaNtE
import Derived.Test.YtcphjehjdhgheaaNtP
namespace Go.Proofs.Ytcphjehjdhgheaa.Nt
open Go.ChangeShapes Go.WideShapes Go.ChangeAt Go.RowKit Go.Proofs.Ytcphjehjdhgheaa.Tr
set_option linter.unusedVariables false
set_option linter.unusedSimpArgs false

/-- An instruction in a box. -/
structure InsBox (w : World) (b T : Nat) (x : Ins6) : Prop where
  cell : w.heap[b]? = some (.cells #[.int .i64 x.op, .int .i64 x.d, .int .i64 x.a, .int .i64 x.b, .int .i64 x.c, .int .i64 x.n] T (0, 0))
theorem InsBox.lt {w : World} {b T : Nat} {x : Ins6} (h : InsBox w b T x) : b < w.heap.size := lt_of_block h.cell
theorem InsBox.ats {w : World} {b T : Nat} {x : Ins6} (h : InsBox w b T x) : w.cell? ⟨b, 0, none⟩ = some (.int .i64 x.op) ∧ w.cell? ⟨b, 1, none⟩ = some (.int .i64 x.d) ∧ w.cell? ⟨b, 2, none⟩ = some (.int .i64 x.a) ∧ w.cell? ⟨b, 3, none⟩ = some (.int .i64 x.b) ∧ w.cell? ⟨b, 4, none⟩ = some (.int .i64 x.c) ∧ w.cell? ⟨b, 5, none⟩ = some (.int .i64 x.n) := by
  have := h.cell
  refine ⟨?_, ?_, ?_, ?_, ?_, ?_⟩ <;> simp [World.cell?, this]
theorem InsBox.below {w w' : World} {b T B : Nat} {x : Ins6} (h : InsBox w b T x) (hb : Below B w w') (hB : b < B) : InsBox w' b T x := ⟨(hb.block b hB).trans h.cell⟩
theorem insbox_new (w : World) (T : Nat) (x : Ins6) : InsBox (w.alloc (.cells #[.int .i64 x.op, .int .i64 x.d, .int .i64 x.a, .int .i64 x.b, .int .i64 x.c, .int .i64 x.n] T)) w.heap.size T x := ⟨heap_alloc_new _ _⟩
/-- Code in a box. -/
structure CodBox (w : World) (b T : Nat) (iv : Value) (regs slots : Int) (ov pv : Value) : Prop where
  cell : w.heap[b]? = some (.cells #[iv, .int .i64 regs, .int .i64 slots, ov, pv] T (0, 0))
theorem CodBox.lt {w : World} {b T : Nat} {iv ov pv : Value} {r s : Int} (h : CodBox w b T iv r s ov pv) : b < w.heap.size := lt_of_block h.cell
theorem CodBox.ats {w : World} {b T : Nat} {iv ov pv : Value} {r s : Int} (h : CodBox w b T iv r s ov pv) : w.cell? ⟨b, 0, none⟩ = some iv ∧ w.cell? ⟨b, 1, none⟩ = some (.int .i64 r) ∧ w.cell? ⟨b, 2, none⟩ = some (.int .i64 s) ∧ w.cell? ⟨b, 3, none⟩ = some ov ∧ w.cell? ⟨b, 4, none⟩ = some pv := by
  have := h.cell
  refine ⟨?_, ?_, ?_, ?_, ?_⟩ <;> simp [World.cell?, this]
theorem CodBox.below {w w' : World} {b T B : Nat} {iv ov pv : Value} {r s : Int} (h : CodBox w b T iv r s ov pv) (hb : Below B w w') (hB : b < B) : CodBox w' b T iv r s ov pv := ⟨(hb.block b hB).trans h.cell⟩
theorem codbox_new (w : World) (T : Nat) (iv ov pv : Value) (r s : Int) : CodBox (w.alloc (.cells #[iv, .int .i64 r, .int .i64 s, ov, pv] T)) w.heap.size T iv r s ov pv := ⟨heap_alloc_new _ _⟩

/-! ### What an instruction reads -/
theorem opnd_cases (op : Int) : opnd op = -1 ∨ opnd op = 1 ∨ opnd op = 2 ∨ opnd op = 3 := by
  unfold opnd
  repeat' split
  all_goals omega
theorem nrd_cases (op : Int) : nrd op = -1 ∨ nrd op = 0 ∨ nrd op = 1 ∨ nrd op = 2 ∨ nrd op = 3 := by
  have := opnd_cases op
  unfold nrd
  repeat' split
  all_goals omega
theorem reads_len {x : Ins6} (h : 0 ≤ nrd x.op) : ((readsI x).length : Int) = nrd x.op := by
  unfold readsI
  rw [List.length_take]
  rcases nrd_cases x.op with e | e | e | e | e <;> rw [e] at h ⊢ <;> simp at h ⊢
abbrev KrdPost (w : World) (x : Ins6) (e : Ending) (w' : World) : Prop := ∃ v, e = .returned (.tuple #[v, .bool (decide (0 ≤ nrd x.op))]) ∧ Ints w' v (readsI x) ∧ Below w.heap.size w w'
theorem nrd_cs (op : Int) : op = 1 ∨ op = 2 ∨ op = 3 ∨ op = 21 ∨ op = 30 ∨ op = 19 ∨ (op ≠ 1 ∧ op ≠ 2 ∧ op ≠ 3 ∧ op ≠ 21 ∧ op ≠ 30 ∧ op ≠ 19 ∧ nrd op = opnd op) := by
  by_cases h1 : op = 1
  · exact .inl h1
  by_cases h2 : op = 2
  · exact .inr (.inl h2)
  by_cases h3 : op = 3
  · exact .inr (.inr (.inl h3))
  by_cases h4 : op = 21
  · exact .inr (.inr (.inr (.inl h4)))
  by_cases h5 : op = 30
  · exact .inr (.inr (.inr (.inr (.inl h5))))
  by_cases h6 : op = 19
  · exact .inr (.inr (.inr (.inr (.inr (.inl h6)))))
  refine .inr (.inr (.inr (.inr (.inr (.inr ⟨h1, h2, h3, h4, h5, h6, ?_⟩)))))
  unfold nrd
  rw [if_neg (by omega), if_neg h5, if_neg h6]
theorem ints_litb {w w' : World} {g : Nat} {l : List Int} {T : TypeId} (h : w'.heap[g]? = some (.cells (intsOf l).toArray T (0, 0))) (hl : l.length ≤ 1000) : Ints w' (.slice (some ⟨g, 0, none⟩) l.length l.length) l := by
  refine ⟨_, _, rfl, Nat.le_refl _, by unfold maxLen; omega, fun i x hi => ⟨g, 0, rfl, lt_of_block h, ?_⟩⟩
  have := intsOf_get l i x hi
  simp [World.cell?, h, this]
set_option maxRecDepth 100000 in
set_option maxHeartbeats 4000000 in
theorem kreads_any (w : World) (x : Ins6) : Calls Try.prog 65 #[insV x] w (KrdPost w x) := by
  obtain ⟨o, d, a, b, c, n⟩ := x
  have HNB := Lib.hid (below_new w (.cells #[.int .i64 o, .int .i64 d, .int .i64 a, .int .i64 b, .int .i64 c, .int .i64 n] 112))
  have HL : Hid (∀ l : List Int, l.length ≤ 10 → Ints ((w.alloc (.cells #[.int .i64 o, .int .i64 d, .int .i64 a, .int .i64 b, .int .i64 c, .int .i64 n] 112)).alloc (.cells (intsOf l).toArray 3)) (.slice (some ⟨w.heap.size + 1, 0, none⟩) l.length l.length) l) := Lib.hid (fun l hl => by
    have := heap_alloc_new (w.alloc (.cells #[.int .i64 o, .int .i64 d, .int .i64 a, .int .i64 b, .int .i64 c, .int .i64 n] 112)) (.cells (intsOf l).toArray 3)
    rw [show (w.alloc (.cells #[.int .i64 o, .int .i64 d, .int .i64 a, .int .i64 b, .int .i64 c, .int .i64 n] 112)).heap.size = w.heap.size + 1 by simp] at this
    exact ints_litb (w := w) this (by omega))
  have HB2 : Hid (∀ l : List Int, Below w.heap.size w ((w.alloc (.cells #[.int .i64 o, .int .i64 d, .int .i64 a, .int .i64 b, .int .i64 c, .int .i64 n] 112)).alloc (.cells (intsOf l).toArray 3))) := Lib.hid (fun l => below2 _ _ _)
  unfold insV
  dsimp only
  rcases nrd_cs o with rfl | rfl | rfl | rfl | rfl | rfl | ⟨h1, h2, h3, h4, h5, h6, hr⟩
  case inr.inr.inr.inr.inl =>
    go_enter Try.func65, Try.ntmps65
    go_wp2
    exact bodyPost_ret (v := .tuple #[.slice (some ⟨w.heap.size + 1, 0, none⟩) 1 1, .bool true]) (by simp [results, Try.results65, go_sem]) rfl ⟨_, rfl, HL.out [a] (by simp), HB2.out [a]⟩
  case inr.inr.inr.inr.inr.inl =>
    go_enter Try.func65, Try.ntmps65
    go_wp2
    exact bodyPost_ret (v := .tuple #[.slice (some ⟨w.heap.size + 1, 0, none⟩) 2 2, .bool true]) (by simp [results, Try.results65, go_sem]) rfl ⟨_, rfl, HL.out [a, b] (by simp), HB2.out [a, b]⟩
  case inr.inr.inr.inr.inr.inr =>
    have b1 : (o == 1) = false := by simpa using h1
    have b2 : (o == 2) = false := by simpa using h2
    have b3 : (o == 3) = false := by simpa using h3
    have b4 : (o == 21) = false := by simpa using h4
    have b5 : (o == 30) = false := by simpa using h5
    have b6 : (o == 19) = false := by simpa using h6
    have HR := Lib.hid hr
    have HO := Lib.hid (fun W => doperands_any o W)
    obtain ⟨k, hk⟩ : ∃ k, opnd o = k := ⟨_, rfl⟩
    rw [hk] at HO
    have hkc := opnd_cases o
    rw [hk] at hkc
    have HK : Hid (nrd o = k) := Lib.hid (by rw [hr, hk])
    clear hr hk
    rcases hkc with e | hkc
    · subst e
      have hdd : decide ((-1 : Int) < 0) = true := by decide
      have HRD : Hid (readsI ⟨o, d, a, b, c, n⟩ = []) := Lib.hid (by unfold readsI; show List.take (nrd o).toNat _ = []; rw [HK.out]; rfl)
      have HDD : Hid (decide (0 ≤ nrd o) = false) := Lib.hid (by rw [HK.out]; rfl)
      go_enter Try.func65, Try.ntmps65
      go_wp2_with (go_at_call 106; with_reducible refine (HO.out _).mono ?_; rintro e w' ⟨rfl, rfl⟩)
      exact bodyPost_ret (v := .tuple #[.slice none 0 0, .bool false]) (by simp [results, Try.results65, go_sem]) rfl ⟨_, by show _ = Ending.returned (.tuple #[_, .bool (decide (0 ≤ nrd o))]); rw [HDD.out], by rw [HRD.out]; exact ints_nil _, HNB.out⟩
    · obtain ⟨m, rfl⟩ : ∃ m : Nat, k = (m : Int) := ⟨k.toNat, by omega⟩
      have hm3 : m ≤ 3 := by omega
      have hm1 : 1 ≤ m := by omega
      have hdd : decide ((m : Int) < 0) = false := decide_eq_false (by omega)
      have hle : (m : Int) ≤ 3 := by omega
      have HRD : Hid (∀ W, W.heap[w.heap.size + 1]? = some (.cells #[.int .i64 a, .int .i64 b, .int .i64 c] 3 (0, 0)) → Ints W (.slice (some ⟨w.heap.size + 1, 0, none⟩) m 3) (readsI ⟨o, d, a, b, c, n⟩)) := Lib.hid (fun W hW => by
        have := lit3 (m := m) hW hm3
        unfold readsI
        show Ints W _ (List.take (nrd o).toNat [a, b, c])
        rw [HK.out]; exact this)
      have HDD : Hid (decide (0 ≤ nrd o) = true) := Lib.hid (by rw [HK.out]; exact decide_eq_true (by omega))
      have HN2 : Hid (((w.alloc (.cells #[.int .i64 o, .int .i64 d, .int .i64 a, .int .i64 b, .int .i64 c, .int .i64 n] 112)).alloc (.cells #[.int .i64 a, .int .i64 b, .int .i64 c] 3)).heap[w.heap.size + 1]? = some (.cells #[.int .i64 a, .int .i64 b, .int .i64 c] 3 (0, 0))) := Lib.hid (by
        have := heap_alloc_new (w.alloc (.cells #[.int .i64 o, .int .i64 d, .int .i64 a, .int .i64 b, .int .i64 c, .int .i64 n] 112)) (.cells #[.int .i64 a, .int .i64 b, .int .i64 c] 3)
        rw [show (w.alloc (.cells #[.int .i64 o, .int .i64 d, .int .i64 a, .int .i64 b, .int .i64 c, .int .i64 n] 112)).heap.size = w.heap.size + 1 by simp] at this
        exact this)
      clear hkc
      go_enter Try.func65, Try.ntmps65
      go_wp2_with (go_at_call 106; with_reducible refine (HO.out _).mono ?_; rintro e w' ⟨rfl, rfl⟩)
      exact bodyPost_ret (v := .tuple #[.slice (some ⟨w.heap.size + 1, 0, none⟩) m 3, .bool true]) (by simp [results, Try.results65, go_sem]) rfl ⟨_, by show _ = Ending.returned (.tuple #[_, .bool (decide (0 ≤ nrd o))]); rw [HDD.out], HRD.out _ HN2.out, HB2.out [a, b, c]⟩
  all_goals
    go_enter Try.func65, Try.ntmps65
    go_wp2
    exact bodyPost_ret (v := .tuple #[.slice none 0 0, .bool true]) (by simp [results, Try.results65, go_sem]) rfl ⟨_, rfl, ints_nil _, HNB.out⟩
end Go.Proofs.Ytcphjehjdhgheaa.Nt
