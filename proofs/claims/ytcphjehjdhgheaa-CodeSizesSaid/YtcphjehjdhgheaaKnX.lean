/- Make, Own, Told, Run of code: answers whose slices are spelled out. Conditions: the lengths' bounds. -/
import Derived.Test.YtcphjehjdhgheaaKvL
import Derived.Test.YtcphjehjdhgheaaKnW
import Derived.Test.YtcphjehjdhgheaaKnA
namespace Go.Proofs.Ytcphjehjdhgheaa.Nt
open Go.ChangeShapes Go.WideShapes Go.ChangeAt Go.RowKit Go.Proofs.Ytcphjehjdhgheaa.Tr
set_option linter.unusedVariables false
set_option linter.unusedSimpArgs false

theorem own_lit (w : World) (A : Option Addr) (n c : Nat) (rv iv : Value) (N : Net) (h : NetR w (.slice A n c) rv iv N) (hl : N.ops.length = n) (hn : n ≤ 1000) :
    Calls Try.prog 16 #[.agg #[.slice A n c, rv, iv]] w (fun e w' => ∃ A' c', e = .returned (.agg #[.slice A' n c', rv, iv]) ∧ NetR w' (.slice A' n c') rv iv N ∧ Below w.heap.size w w') := by
  refine (own_any w _ _ _ N h (by omega)).mono ?_
  rintro e w2 ⟨ov2, rfl, ho2, hb2⟩
  obtain ⟨A', c', rfl, -, -⟩ := ho2.form
  rw [hl] at ho2
  exact ⟨A', c', by rw [hl], ⟨ho2, h.2.1.below hb2 (Nat.le_refl _), h.2.2.below hb2 (Nat.le_refl _)⟩, hb2⟩
/-- Code whose sizes are these. -/
structure Sz (C : Cod) (li : Nat) (rg sl : Int) (lo lq : Nat) : Prop where
  ins : C.ins.length = li
  regs : C.regs = rg
  slots : C.slots = sl
  outs : C.outs.length = lo
  inp : C.inp.length = lq
theorem make_lit (w : World) (ov rv iv tv : Value) (N : Net) (told : List Int) (h : NetR w ov rv iv N) (ht : Ints w tv told) (hn3 : N.ops.length ≤ 1000) (hr3 : N.roots.length ≤ 1000) (hi3 : N.ins.length ≤ 1000) (ht3 : told.length ≤ 1000)
    (C : Cod) (F : Int) (hC : makeC N told = C) (hF : faultC N told = F) (li : Nat) (rg sl : Int) (lo lq : Nat) (hz : Sz C li rg sl lo lq) :
    Calls Try.prog 36 #[.agg #[ov, rv, iv], tv] w (fun e w' => ∃ A c B d D f, e = .returned (.tuple #[.agg #[.slice A li c, .int .i64 rg, .int .i64 sl, .slice B lo d, .slice D lq f], .int .i64 F]) ∧
      CodR w' (.slice A li c) (.slice B lo d) (.slice D lq f) C ∧ (li ≤ c ∧ c ≤ maxLen) ∧ (lo ≤ d ∧ d ≤ maxLen) ∧ (lq ≤ f ∧ f ≤ maxLen) ∧ Below w.heap.size w w') := by
  refine (make_any w _ _ _ _ N told h ht hn3 hr3 hi3 ht3).mono ?_
  rintro e w3 ⟨hb3, iv3, ov3, pv3, rfl, hc3⟩
  rw [hC] at hc3
  rw [hC, hF]
  obtain ⟨A, c, rfl, y1, y2⟩ := hc3.1.form
  obtain ⟨B, d, rfl, y3, y4⟩ := ints_form hc3.2.1
  obtain ⟨D, f, rfl, y5, y6⟩ := ints_form hc3.2.2
  obtain ⟨rfl, rfl, rfl, rfl, rfl⟩ := hz
  exact ⟨A, c, B, d, D, f, rfl, hc3, ⟨y1, y2⟩, ⟨y3, y4⟩, ⟨y5, y6⟩, hb3⟩
theorem mtold_lit (w : World) (A : Option Addr) (c : Nat) (ov pv : Value) (C : Cod) (li : Nat) (rg sl : Int) (lo lq : Nat) (hz : Sz C li rg sl lo lq) (h : CodR w (.slice A li c) ov pv C) (hn3 : li ≤ 1000) :
    Calls Try.prog 38 #[.agg #[.slice A li c, .int .i64 rg, .int .i64 sl, ov, pv]] w (fun e w' => ∃ A' c', e = .returned (.agg #[.slice A' li c', .int .i64 rg, .int .i64 sl, ov, pv]) ∧ CodR w' (.slice A' li c') ov pv C ∧ Below w.heap.size w w') := by
  obtain ⟨rfl, rfl, rfl, rfl, rfl⟩ := hz
  refine (mtold_any w _ _ _ C h hn3).mono ?_
  rintro e w' ⟨iv', rfl, hi, hb⟩
  obtain ⟨A', c', rfl, -, -⟩ := hi.form
  exact ⟨A', c', rfl, ⟨hi, h.2.1.below hb (Nat.le_refl _), h.2.2.below hb (Nat.le_refl _)⟩, hb⟩
theorem krun_lit (w : World) (iv ov pv lv : Value) (C : Cod) (l : List (List Int)) (li : Nat) (rg sl : Int) (lo lq : Nat) (hz : Sz C li rg sl lo lq) (h : CodR w iv ov pv C) (hl : RowsR w lv l) (hol : lo ≤ 100000) (hl3 : l.length ≤ 1000) (r : List (List Int) × Int) (hr : runK C l = r) :
    Calls Try.prog 39 #[.agg #[iv, .int .i64 rg, .int .i64 sl, ov, pv], lv] w (RunPost w r) := by
  obtain ⟨rfl, rfl, rfl, rfl, rfl⟩ := hz
  rw [← hr]
  exact krun_any w iv ov pv lv C l h hl hol hl3
theorem ccheck_lit (w : World) (iv ov pv : Value) (C : Cod) (li : Nat) (rg sl : Int) (lo lq : Nat) (hz : Sz C li rg sl lo lq) (h : CodR w iv ov pv C) (hw : CodW C) (K : Int) (hK : checkK C = K) :
    Calls Try.prog 33 #[.agg #[iv, .int .i64 rg, .int .i64 sl, ov, pv]] w (fun e w' => e = .returned (.int .i64 K) ∧ Below w.heap.size w w') := by
  obtain ⟨rfl, rfl, rfl, rfl, rfl⟩ := hz
  rw [← hK]
  exact ccheck_any w iv ov pv C h hw
end Go.Proofs.Ytcphjehjdhgheaa.Nt
