/- What an instruction makes, as the document tells it. Conditions: the instruction may be. Code that may be: each instruction fits; an instant, instruction by instruction, as plain functions. Conditions: none. -/
import Derived.Test.YtcphjehjdhgheaaKaA
import Derived.Test.YtcphjehjdhgheaaNkB
import Derived.Test.YtcphjehjdhgheaaNkQ
namespace Go.Proofs.Ytcphjehjdhgheaa.Nt
open Go.ChangeShapes Go.WideShapes Go.ChangeAt Go.RowKit Go.Proofs.Ytcphjehjdhgheaa.Tr
open Go.Proofs.Ytcphjehjdhgheaa.Num (doN refDo_any)
set_option linter.unusedVariables false
set_option linter.unusedSimpArgs false

/-- The state in a box. -/
structure StBox (w : World) (b : Nat) (sv : Value) (first : Bool) : Prop where
  cell : w.heap[b]? = some (.cells #[sv, .bool first] 123 (0, 0))
theorem StBox.lt {w : World} {b : Nat} {sv : Value} {f : Bool} (h : StBox w b sv f) : b < w.heap.size := lt_of_block h.cell
theorem StBox.ats {w : World} {b : Nat} {sv : Value} {f : Bool} (h : StBox w b sv f) : w.cell? ⟨b, 0, none⟩ = some sv ∧ w.cell? ⟨b, 1, none⟩ = some (.bool f) := by
  have := h.cell
  refine ⟨?_, ?_⟩ <;> simp [World.cell?, this]
theorem StBox.below {w w' : World} {b B : Nat} {sv : Value} {f : Bool} (h : StBox w b sv f) (hb : Below B w w') (hB : b < B) : StBox w' b sv f := ⟨(hb.block b hB).trans h.cell⟩
/-- What is asked of an instruction. -/
structure FitI (nin nr ns : Nat) (x : Ins6) : Prop where
  var : x.op = 3 → 0 ≤ x.n ∧ x.n < (nin : Int)
  pre : x.op = 21 → 0 ≤ x.n ∧ x.n < (ns : Int)
  fld : ∀ k ∈ readsI x, 0 ≤ k ∧ k < (nr : Int)
theorem reads3 (x : Ins6) : (readsI x).length ≤ 3 := by unfold readsI; rw [List.length_take]; exact Nat.min_le_right _ _
set_option maxRecDepth 100000 in
set_option maxHeartbeats 4000000 in
theorem kmade_one (w : World) (x : Ins6) (uv vv sv : Value) (row r slots : List Int) (first : Bool) (hm : FitI row.length r.length slots.length x) (hu : Ints w uv row) (hv : Ints w vv r) (hw : Ints w sv slots)
    (ho : x.op = 3 ∨ x.op = 1 ∨ x.op = 2 ∨ x.op = 19 ∨ x.op = 21) : Calls Try.prog 113 #[insV x, uv, vv, .agg #[sv, .bool first]] w (ValPost w (madeK x row r slots first)) := by
  obtain ⟨A, c, rfl, z1, z2⟩ := ints_form hu
  obtain ⟨B, d, rfl, z3, z4⟩ := ints_form hv
  obtain ⟨D, f, rfl, z5, z6⟩ := ints_form hw
  unfold maxLen at z2 z4 z6
  obtain ⟨o, xd, a, b, c', m⟩ := x
  obtain ⟨w1, hw1⟩ : ∃ W, (w.alloc (.cells #[.int .i64 o, .int .i64 xd, .int .i64 a, .int .i64 b, .int .i64 c', .int .i64 m] 112)).alloc (.cells #[.slice D slots.length f, .bool first] 123) = W := ⟨_, rfl⟩
  have HB1 : Hid (Below w.heap.size w w1) := Lib.hid (by rw [← hw1]; exact below2 _ _ _)
  have HX1 : Hid (InsBox w1 w.heap.size 112 ⟨o, xd, a, b, c', m⟩) := Lib.hid (by rw [← hw1]; exact (insbox_new w 112 ⟨o, xd, a, b, c', m⟩).below (below_new _ _) (by simp))
  have HS1 : Hid (StBox w1 (w.heap.size + 1) (.slice D slots.length f) first) := Lib.hid ⟨by
    rw [← hw1]
    have := heap_alloc_new (w.alloc (.cells #[.int .i64 o, .int .i64 xd, .int .i64 a, .int .i64 b, .int .i64 c', .int .i64 m] 112)) (.cells #[.slice D slots.length f, .bool first] 123)
    rw [show (w.alloc (.cells #[.int .i64 o, .int .i64 xd, .int .i64 a, .int .i64 b, .int .i64 c', .int .i64 m] 112)).heap.size = w.heap.size + 1 by simp] at this
    exact this⟩
  obtain ⟨p0, p1, p2, p3, p4, p5⟩ := HX1.out.ats
  obtain ⟨s0, s1⟩ := HS1.out.ats
  dsimp only at p0 p1 p2 p3 p4 p5
  have HU := Lib.hid (hu.below HB1.out (Nat.le_refl _))
  have HV := Lib.hid (hv.below HB1.out (Nat.le_refl _))
  have HW := Lib.hid (hw.below HB1.out (Nat.le_refl _))
  have HM := Lib.hid hm
  clear hu hv hw hm
  unfold insV
  dsimp only at ho ⊢
  rcases ho with h | h | h | h | h
  · subst h
    have hb := HM.out.var rfl
    dsimp only at hb
    obtain ⟨k, rfl, hk⟩ := get_at0 (l := row) hb.1 hb.2
    have HE : Hid (madeK ⟨3, xd, a, b, c', (k : Int)⟩ row r slots first = (at0 row (k : Int), 0)) := Lib.hid rfl
    rw [HE.out]
    have hkl : k < row.length := (List.getElem?_eq_some_iff.1 hk).1
    obtain ⟨g, of, rfl, hg, a0⟩ := ints_at HU.out hk
    generalize at0 row (k : Int) = y at a0 ⊢
    clear hk hb
    go_enter Try.func113, Try.ntmps113
    go_wp2
    go_ret2
    exact ⟨rfl, HB1.out⟩
  · subst h
    have HE : Hid (madeK ⟨1, xd, a, b, c', m⟩ row r slots first = (m, 0)) := Lib.hid rfl
    rw [HE.out]
    go_enter Try.func113, Try.ntmps113
    go_wp2
    go_ret2
    exact ⟨rfl, HB1.out⟩
  · subst h
    have HE : Hid (madeK ⟨2, xd, a, b, c', m⟩ row r slots first = (m, 0)) := Lib.hid rfl
    rw [HE.out]
    go_enter Try.func113, Try.ntmps113
    go_wp2
    go_ret2
    exact ⟨rfl, HB1.out⟩
  · subst h
    have ha := HM.out.fld a (by simp [readsI, nrd])
    have hb := HM.out.fld b (by simp [readsI, nrd])
    obtain ⟨k, rfl, hk⟩ := get_at0 (l := r) ha.1 ha.2
    obtain ⟨l, rfl, hl⟩ := get_at0 (l := r) hb.1 hb.2
    have hkl : k < r.length := (List.getElem?_eq_some_iff.1 hk).1
    have hll : l < r.length := (List.getElem?_eq_some_iff.1 hl).1
    obtain ⟨g, of, rfl, hg, a0⟩ := ints_at HV.out hk
    obtain ⟨g2, of2, e2, hg2, a1⟩ := ints_at HV.out hl
    simp only [Option.some.injEq, Addr.mk.injEq, and_true] at e2
    obtain ⟨rfl, rfl⟩ := e2
    cases first with
    | true =>
      have HE : Hid (madeK ⟨19, xd, (k : Int), (l : Int), c', m⟩ row r slots true = (at0 r (k : Int), 0)) := Lib.hid rfl
      rw [HE.out]
      generalize at0 r (k : Int) = y at a0 ⊢
      clear hk hl ha hb a1
      go_enter Try.func113, Try.ntmps113
      go_wp2
      go_ret2
      exact ⟨rfl, HB1.out⟩
    | false =>
      have HE : Hid (madeK ⟨19, xd, (k : Int), (l : Int), c', m⟩ row r slots false = (at0 r (l : Int), 0)) := Lib.hid rfl
      rw [HE.out]
      generalize at0 r (l : Int) = y at a1 ⊢
      clear hk hl ha hb a0
      go_enter Try.func113, Try.ntmps113
      go_wp2
      go_ret2
      exact ⟨rfl, HB1.out⟩
  · subst h
    have hb := HM.out.pre rfl
    dsimp only at hb
    obtain ⟨k, rfl, hk⟩ := get_at0 (l := slots) hb.1 hb.2
    have HE : Hid (madeK ⟨21, xd, a, b, c', (k : Int)⟩ row r slots first = (at0 slots (k : Int), 0)) := Lib.hid rfl
    rw [HE.out]
    have hkl : k < slots.length := (List.getElem?_eq_some_iff.1 hk).1
    obtain ⟨g, of, rfl, hg, a0⟩ := ints_at HW.out hk
    generalize at0 slots (k : Int) = y at a0 ⊢
    clear hk hb
    go_enter Try.func113, Try.ntmps113
    go_wp2
    go_ret2
    exact ⟨rfl, HB1.out⟩
theorem made_do {x : Ins6} {row r slots : List Int} {first : Bool} (h1 : x.op ≠ 1) (h2 : x.op ≠ 2) (h3 : x.op ≠ 3) (h4 : x.op ≠ 19) (h5 : x.op ≠ 21) : madeK x row r slots first = doN x.op (arg (readsI x) r 0) (arg (readsI x) r 1) (arg (readsI x) r 2) := by unfold madeK; simp [h1, h2, h3, h4, h5]
set_option maxRecDepth 100000 in
set_option maxHeartbeats 4000000 in
theorem kmade_do (w : World) (x : Ins6) (uv vv sv : Value) (row v slots : List Int) (first : Bool) (hm : FitI row.length v.length slots.length x) (hu : Ints w uv row) (hv : Ints w vv v) (hw : Ints w sv slots)
    (h1 : x.op ≠ 1) (h2 : x.op ≠ 2) (h3 : x.op ≠ 3) (h4 : x.op ≠ 19) (h5 : x.op ≠ 21) : Calls Try.prog 113 #[insV x, uv, vv, .agg #[sv, .bool first]] w (ValPost w (madeK x row v slots first)) := by
  rw [made_do h1 h2 h3 h4 h5]
  have HOP : Hid (∀ W, Calls Try.prog 65 #[insV x] W (KrdPost W x)) := Lib.hid (fun W => kreads_any W x)
  have HFL : Hid (∀ k ∈ readsI x, 0 ≤ k ∧ k < (v.length : Int)) := Lib.hid hm.fld
  have HL3 := reads3 x
  obtain ⟨A, c, rfl, z1, z2⟩ := ints_form hu
  obtain ⟨B, d, rfl, z3, z4⟩ := ints_form hv
  obtain ⟨D, f, rfl, z5, z6⟩ := ints_form hw
  unfold maxLen at z2 z4 z6
  obtain ⟨o, xd, a, b, c', m⟩ := x
  obtain ⟨w1, hw1⟩ : ∃ W, (w.alloc (.cells #[.int .i64 o, .int .i64 xd, .int .i64 a, .int .i64 b, .int .i64 c', .int .i64 m] 112)).alloc (.cells #[.slice D slots.length f, .bool first] 123) = W := ⟨_, rfl⟩
  have HB1 : Hid (Below w.heap.size w w1) := Lib.hid (by rw [← hw1]; exact below2 _ _ _)
  have HX1 : Hid (InsBox w1 w.heap.size 112 ⟨o, xd, a, b, c', m⟩) := Lib.hid (by rw [← hw1]; exact (insbox_new w 112 ⟨o, xd, a, b, c', m⟩).below (below_new _ _) (by simp))
  have HS1 : Hid (StBox w1 (w.heap.size + 1) (.slice D slots.length f) first) := Lib.hid ⟨by
    rw [← hw1]
    have := heap_alloc_new (w.alloc (.cells #[.int .i64 o, .int .i64 xd, .int .i64 a, .int .i64 b, .int .i64 c', .int .i64 m] 112)) (.cells #[.slice D slots.length f, .bool first] 123)
    rw [show (w.alloc (.cells #[.int .i64 o, .int .i64 xd, .int .i64 a, .int .i64 b, .int .i64 c', .int .i64 m] 112)).heap.size = w.heap.size + 1 by simp] at this
    exact this⟩
  obtain ⟨p0, p1, p2, p3, p4, p5⟩ := HX1.out.ats
  obtain ⟨s0, s1⟩ := HS1.out.ats
  dsimp only at p0 p1 p2 p3 p4 p5
  have HU := Lib.hid (hu.below HB1.out (Nat.le_refl _))
  have HV := Lib.hid (hv.below HB1.out (Nat.le_refl _))
  have HW := Lib.hid (hw.below HB1.out (Nat.le_refl _))
  dsimp only at h1 h2 h3 h4 h5 ⊢
  have HVL : Hid (v.length = v.length) := Lib.hid rfl
  clear hu hv hw hm HU HW
  unfold KrdPost at HOP
  unfold insV at HOP ⊢
  dsimp only at HOP
  generalize readsI (⟨o, xd, a, b, c', m⟩ : Ins6) = l at HOP HFL HL3 ⊢
  have b1 : (o == 1) = false := by simpa using h1
  have b2 : (o == 2) = false := by simpa using h2
  have b3 : (o == 3) = false := by simpa using h3
  have b4 : (o == 19) = false := by simpa using h4
  have b5 : (o == 21) = false := by simpa using h5
  go_enter Try.func113, Try.ntmps113
  go_wp2_with fail
  try rw [hw1]
  try clear hw1
  refine (HOP.out _).mono ?_
  rintro e w2 ⟨lv, rfl, hl, hb2⟩
  have HB2 : Hid (Below w.heap.size w w2) := Lib.hid (HB1.out.trans (hb2.mono HB1.out.size))
  have HX2 := Lib.hid (HX1.out.below hb2 HX1.out.lt)
  have HV2 := Lib.hid (HV.out.below hb2 (Nat.le_refl _))
  have HLI := Lib.hid hl
  obtain ⟨L, lc, rfl, z5, z6⟩ := ints_form hl
  unfold maxLen at z6
  have HY0 : Hid (∀ W, W = w2.alloc (.cells #[.int .i64 0, .int .i64 0, .int .i64 0] 3) → W.ownsRow w2.heap.size 3 1 (.slice (some ⟨w2.heap.size, 0, none⟩) 3 3) 3 (intsOf (argsTo l v 0)) ∧ Below w2.heap.size w2 W) := Lib.hid (fun W hW => by
    rw [hW]
    exact ⟨ints_lit w2 [0, 0, 0] (by simp; unfold maxLen; omega), below_new _ _⟩)
  clear hl hb2 p0 p1 p2 p3 p4 p5
  go_wp2_with fail
  go_loopw [13] (fun vi wr => ∃ i : Nat, i ≤ l.length ∧ vi = .int .i64 (i : Int) ∧ wr.ownsRow w2.heap.size 3 1 (.slice (some ⟨w2.heap.size, 0, none⟩) 3 3) 3 (intsOf (argsTo l v i)) ∧ Below w2.heap.size w2 wr) (fun vi _ => l.length - (intOf vi).toNat)
  case atStart => exact ⟨0, Nat.zero_le _, rfl, (HY0.out _ rfl).1, (HY0.out _ rfl).2⟩
  case round =>
    obtain ⟨i, hi, rfl, hy, hb⟩ := hrel
    have HY := Lib.hid hy
    have HBr := Lib.hid hb
    by_cases hil : i < l.length
    · obtain ⟨k, hk⟩ : ∃ k, l[i]? = some k := ⟨_, List.getElem?_eq_getElem hil⟩
      have hkb := HFL.out k (List.mem_of_getElem? hk)
      obtain ⟨g, of, rfl, hg, a0⟩ := ints_at (HLI.out.below hb (Nat.le_refl _)) hk
      obtain ⟨q, rfl, hq⟩ := get_at0 (l := v) hkb.1 hkb.2
      have hql : q < v.length := (List.getElem?_eq_some_iff.1 hq).1
      obtain ⟨g2, of2, rfl, hg2, a1⟩ := ints_at (HV2.out.below hb (Nat.le_refl _)) hq
      have HARG : Hid (arg l v i = at0 v (q : Int)) := Lib.hid (by unfold arg; rw [hk])
      generalize at0 v (q : Int) = y at a1 HARG
      obtain ⟨yo, hyo⟩ : ∃ y, (argsTo l v i)[i]? = some y := ⟨_, List.getElem?_eq_getElem (by rw [args_len]; omega)⟩
      have ct := (HY.out.cellAt i (by omega)).trans (intsOf_get _ i _ hyo)
      have ft := HY.out.frozenAt i
      have hst := (HY.out.stored i (.int .i64 y)).1
      rw [← intsOf_set, ← HARG.out, args_set (by omega), HARG.out] at hst
      have HST := Lib.hid hst
      have HBS : Hid (Below w2.heap.size w2 (wr.setCell ⟨w2.heap.size, i, none⟩ (.int .i64 y))) := Lib.hid (hb.setCell (p := ⟨w2.heap.size, i, none⟩) (Nat.le_refl _) _)
      clear hk hq hkb hyo hst hy hb
      go_wp2_with fail
      exact ⟨⟨i + 1, by omega, by go_num, HST.out, HBS.out⟩, by simp [intOf]; omega⟩
    · have hie : i = l.length := by omega
      rw [args_end (by omega)] at hy
      obtain ⟨q0, q1, q2, q3, q4, q5⟩ := (HX2.out.below hb HX2.out.lt).ats
      dsimp only at q0 q1 q2 q3 q4 q5
      have c0 := hy.cellAt 0 (by omega)
      have c1 := hy.cellAt 1 (by omega)
      have c2 := hy.cellAt 2 (by omega)
      obtain ⟨y0, hy0⟩ : ∃ y, arg l v 0 = y := ⟨_, rfl⟩
      obtain ⟨y1, hy1⟩ : ∃ y, arg l v 1 = y := ⟨_, rfl⟩
      obtain ⟨y2, hy2⟩ : ∃ y, arg l v 2 = y := ⟨_, rfl⟩
      rw [hy0, hy1, hy2] at c0 c1 c2 hy
      simp [intsOf] at c0 c1 c2
      have HBE : Hid (Below w.heap.size w wr) := Lib.hid (HB2.out.trans (hb.mono HB2.out.size))
      have HDO := Lib.hid (fun W => refDo_any o y0 y1 y2 W)
      obtain ⟨r, hr⟩ : ∃ r, doN o y0 y1 y2 = r := ⟨_, rfl⟩
      rw [hr] at HDO
      have HR : Hid (doN o (arg l v 0) (arg l v 1) (arg l v 2) = r) := Lib.hid (by rw [hy0, hy1, hy2]; exact hr)
      clear hr hy0 hy1 hy2
      have HBcur : Hid (Below wr.heap.size wr wr.drew) := Lib.hid (Below.refl _ _).drew
      have HXr := Lib.hid (HX2.out.below hb HX2.out.lt)
      have HYr := Lib.hid hy
      have HKK : Hid (∀ W, Below wr.heap.size wr W → W.cell? ⟨w.heap.size, 0, none⟩ = some (.int .i64 o) ∧ W.cell? ⟨w2.heap.size, 0, none⟩ = some (.int .i64 y0) ∧ W.cell? ⟨w2.heap.size, 1, none⟩ = some (.int .i64 y1) ∧ W.cell? ⟨w2.heap.size, 2, none⟩ = some (.int .i64 y2)) := Lib.hid (fun W hW => by
        obtain ⟨q0, -⟩ := (HXr.out.below hW HXr.out.lt).ats
        have hy := own_below HYr.out hW
        have c0 := hy.cellAt 0 (by omega)
        have c1 := hy.cellAt 1 (by omega)
        have c2 := hy.cellAt 2 (by omega)
        simp [intsOf] at c0 c1 c2
        exact ⟨q0, c0, c1, c2⟩)
      clear hy hb
      go_wp2_with fail
      go_region_held3 (fun W => W.cell? ⟨w.heap.size, 0, none⟩ = some (.int .i64 o) ∧ W.cell? ⟨w2.heap.size, 0, none⟩ = some (.int .i64 y0) ∧ W.cell? ⟨w2.heap.size, 1, none⟩ = some (.int .i64 y1) ∧ W.cell? ⟨w2.heap.size, 2, none⟩ = some (.int .i64 y2))
        (exact HKK.out _ HBcur.out)
        (first | (go_at_call 99; with_reducible refine (HDO.out _).mono ?_; rintro e w' ⟨rfl, nd, hw'⟩; have HBcur : Hid (Below wr.heap.size wr w') := Lib.hid (by rw [hw']; exact below_drewN HBcur.out nd); clear hw'))
      all_goals
        go_wp2
        exact bodyPost_ret (v := .tuple #[.int .i64 r.1, .int .i64 r.2]) (by simp [results, Try.results113, go_sem]) rfl ⟨by rw [HR.out], HBE.out.trans (HBcur.out.mono HBE.out.size)⟩
theorem kmade_any (w : World) (x : Ins6) (uv vv sv : Value) (row r slots : List Int) (first : Bool) (hm : FitI row.length r.length slots.length x) (hu : Ints w uv row) (hv : Ints w vv r) (hw : Ints w sv slots) :
    Calls Try.prog 113 #[insV x, uv, vv, .agg #[sv, .bool first]] w (ValPost w (madeK x row r slots first)) := by
  by_cases h : x.op = 3 ∨ x.op = 1 ∨ x.op = 2 ∨ x.op = 19 ∨ x.op = 21
  · exact kmade_one w x uv vv sv row r slots first hm hu hv hw h
  · exact kmade_do w x uv vv sv row r slots first hm hu hv hw (by omega) (by omega) (by omega) (by omega) (by omega)
end Go.Proofs.Ytcphjehjdhgheaa.Nt

namespace Go.Proofs.Ytcphjehjdhgheaa.Nt
set_option linter.unusedVariables false
set_option linter.unusedSimpArgs false

structure InsF (nin nr ns : Nat) (x : Ins6) : Prop where
  fit : FitI nin nr ns x
  sto : x.op = 30 → (0 ≤ x.n ∧ x.n < (ns : Int)) ∧ 0 ≤ x.a ∧ x.a < (nr : Int)
  dst : x.op ≠ 30 → 0 ≤ x.d ∧ x.d < (nr : Int)
theorem go_fits (nin nr ns : Nat) : ∀ (l : List Ins6) (s s' : List Int × List Int), goK nin (nr : Int) (ns : Int) l s = some s' → (∀ k ∈ s.1, 0 ≤ k ∧ k < (nr : Int)) → (∀ x ∈ l, InsF nin nr ns x) ∧ ∀ k ∈ s'.1, 0 ≤ k ∧ k < (nr : Int) := by
  intro l
  induction l with
  | nil =>
    intro s s' h hs
    unfold goK at h
    injection h with h
    subst h
    exact ⟨fun x hx => by simp at hx, hs⟩
  | cons x r ih =>
    intro s s' h hs
    unfold goK at h
    by_cases hok : okI nin (nr : Int) (ns : Int) s x = true
    · rw [if_pos hok] at h
      have hok2 := hok
      unfold okI at hok2
      simp only [Bool.and_eq_true, List.all_eq_true] at hok2
      obtain ⟨⟨⟨⟨h1, h2⟩, h3⟩, h4⟩, h5⟩ := hok2
      have hrd : ∀ k ∈ readsI x, 0 ≤ k ∧ k < (nr : Int) := fun k hk => hs k (by simpa using h4 k hk)
      have hF : InsF nin nr ns x := by
        refine ⟨⟨fun e => ?_, fun e => ?_, hrd⟩, fun e => ⟨?_, hrd x.a (by unfold readsI nrd; simp [e])⟩, fun e => ?_⟩
        · unfold numB at h3
          rw [if_pos e] at h3
          simpa using h3
        · unfold numB at h3
          rw [if_neg (by omega), if_neg (by omega), if_neg (by omega), if_pos (.inl e)] at h3
          simpa using h3
        · unfold numB at h3
          rw [if_neg (by omega), if_neg (by omega), if_neg (by omega), if_pos (.inr e)] at h3
          simpa using h3
        · rw [if_neg e] at h5
          simp only [Bool.and_eq_true] at h5
          exact ⟨of_decide_eq_true h5.1.2, of_decide_eq_true h5.2⟩
      have hg : ∀ k ∈ (goneI s x).1, 0 ≤ k ∧ k < (nr : Int) := fun k hk => by
        unfold goneI at hk
        split at hk
        · exact hs k hk
        · rename_i e
          rcases List.mem_append.1 hk with hk | hk
          · exact hs k hk
          · rw [List.mem_singleton.1 hk]
            exact hF.dst e
      obtain ⟨i1, i2⟩ := ih _ _ h hg
      refine ⟨fun y hy => ?_, i2⟩
      rcases List.mem_cons.1 hy with rfl | hy
      · exact hF
      · exact i1 y hy
    · rw [if_neg hok] at h
      exact absurd h (by simp)
/-- Code that may be. -/
structure CodF (c : Cod) : Prop where
  regs : 0 ≤ c.regs ∧ c.regs ≤ 100000
  slots : 0 ≤ c.slots ∧ c.slots ≤ 100000
  len : c.ins.length ≤ 200000
  ins : ∀ x ∈ c.ins, InsF c.inp.length c.regs.toNat c.slots.toNat x
  outs : ∀ k ∈ c.outs, 0 ≤ k ∧ k < c.regs
theorem check_fits {c : Cod} (h : checkK c = 0) : CodF c := by
  unfold checkK at h
  by_cases hs : sizedB c = false
  · rw [if_pos hs] at h; omega
  · rw [if_neg hs] at h
    have hs2 : sizedB c = true := by simpa using hs
    unfold sizedB at hs2
    simp only [Bool.and_eq_true, decide_eq_true_eq] at hs2
    obtain ⟨⟨⟨⟨r1, r2⟩, r3⟩, r4⟩, r5⟩ := hs2
    cases hg : goK c.inp.length c.regs c.slots c.ins ([], []) with
    | none => rw [hg] at h; simp at h
    | some s =>
      rw [hg] at h
      have e1 : c.regs = ((c.regs.toNat : Nat) : Int) := by omega
      have e2 : c.slots = ((c.slots.toNat : Nat) : Int) := by omega
      rw [e1, e2] at hg
      obtain ⟨i1, i2⟩ := go_fits _ _ _ _ _ _ hg (fun k hk => by simp at hk)
      refine ⟨⟨r1, r2⟩, ⟨r3, r4⟩, r5, i1, fun k hk => ?_⟩
      by_cases ho : c.outs.all (fun k => s.1.contains k) = true
      · rw [List.all_eq_true] at ho
        have := i2 k (by simpa using ho k hk)
        omega
      · simp only [if_neg ho] at h
        omega
/-- An instant so far. -/
def partK (c : Cod) (row slots : List Int) (first : Bool) (i : Nat) : Reg := (c.ins.take i).foldl (stepK row slots first) ⟨List.replicate c.regs.toNat 0, slots, 0⟩
theorem partK_zero (c : Cod) (row slots : List Int) (first : Bool) : partK c row slots first 0 = ⟨List.replicate c.regs.toNat 0, slots, 0⟩ := by unfold partK; simp
theorem partK_succ {c : Cod} {row slots : List Int} {first : Bool} {i : Nat} {x : Ins6} (h : c.ins[i]? = some x) : partK c row slots first (i + 1) = stepK row slots first (partK c row slots first i) x := by
  unfold partK
  rw [List.take_add_one, h, List.foldl_append]; rfl
theorem partK_all {c : Cod} {row slots : List Int} {first : Bool} {n : Nat} (h : c.ins.length = n) : partK c row slots first n = instK c row slots first := by unfold partK instK; rw [← h, List.take_length]
theorem stepK_len (row slots : List Int) (first : Bool) (s : Reg) (x : Ins6) : (stepK row slots first s x).r.length = s.r.length ∧ (stepK row slots first s x).next.length = s.next.length := by
  unfold stepK
  split <;> simp
theorem foldK_len (row slots : List Int) (first : Bool) : ∀ (l : List Ins6) (s : Reg), (l.foldl (stepK row slots first) s).r.length = s.r.length ∧ (l.foldl (stepK row slots first) s).next.length = s.next.length := by
  intro l
  induction l with
  | nil => intro s; exact ⟨rfl, rfl⟩
  | cons x r ih =>
    intro s
    rw [List.foldl_cons]
    have h1 := ih (stepK row slots first s x)
    have h2 := stepK_len row slots first s x
    exact ⟨h1.1.trans h2.1, h1.2.trans h2.2⟩
theorem partK_len (c : Cod) (row slots : List Int) (first : Bool) (i : Nat) : (partK c row slots first i).r.length = c.regs.toNat ∧ (partK c row slots first i).next.length = slots.length := by
  unfold partK
  have := foldK_len row slots first (c.ins.take i) ⟨List.replicate c.regs.toNat 0, slots, 0⟩
  simpa using this
end Go.Proofs.Ytcphjehjdhgheaa.Nt
