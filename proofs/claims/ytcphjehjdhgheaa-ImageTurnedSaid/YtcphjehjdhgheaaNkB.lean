/- The document's value of an operator. Conditions: the operator may be, the rows have as many numbers as there are inputs and operators. -/
import Derived.Test.YtcphjehjdhgheaaNkOp
import Derived.Test.YtcphjehjdhgheaaNumH
import Derived.Test.YtcphjehjdhgheaaNtR
import Derived.Deep.RegionHeld3
namespace Go.Proofs.Ytcphjehjdhgheaa.Nt
open Go.ChangeShapes Go.WideShapes Go.ChangeAt Go.RowKit Go.Proofs.Ytcphjehjdhgheaa.Tr
open Go.Proofs.Ytcphjehjdhgheaa.Num (doN refDo_any)
set_option linter.unusedVariables false
set_option linter.unusedSimpArgs false

theorem OpBox.below {w w' : World} {b T B : Nat} {x : Op5} (h : OpBox w b T x) (hb : Below B w w') (hB : b < B) : OpBox w' b T x := ⟨(hb.block b hB).trans h.cell⟩
abbrev ValPost (w : World) (p : Int × Int) (e : Ending) (w' : World) : Prop := e = .returned (.tuple #[.int .i64 p.1, .int .i64 p.2]) ∧ Below w.heap.size w w'
theorem at0_of {l : List Int} {m : Nat} {x : Int} (h : l[m]? = some x) : at0 l (m : Int) = x := by unfold at0; simp [List.getD, h]
theorem get_at0 {l : List Int} {k : Int} (h0 : 0 ≤ k) (h : k < (l.length : Int)) : ∃ m : Nat, k = (m : Int) ∧ l[m]? = some (at0 l k) := by
  refine ⟨k.toNat, by omega, ?_⟩
  have hl : k.toNat < l.length := by omega
  unfold at0
  rw [List.getElem?_eq_getElem hl]; simp [List.getD, hl]
theorem fld_at {n nin : Nat} {x : Op5} (hm : mayOp n nin x = true) {j : Nat} {k : Int} (hj : ([x.a, x.b, x.c].take (kids x.op).toNat)[j]? = some k) : 0 ≤ k ∧ k < (n : Int) := (may_flds hm).2.1 k (List.mem_of_getElem? hj)
set_option maxRecDepth 100000 in
set_option maxHeartbeats 4000000 in
/-- Of an operator that is not reckoned. -/
theorem dvalue_one (w : World) (x : Op5) (uv vv wv : Value) (row v was : List Int) (n nin : Nat) (hm : mayOp n nin x = true) (hu : Ints w uv row) (hul : row.length = nin) (hv : Ints w vv v) (hvl : v.length = n) (hw : Ints w wv was) (hwl : was.length = 0 ∨ was.length = n)
    (ho : x.op = 3 ∨ x.op = 1 ∨ x.op = 2 ∨ x.op = 19 ∨ x.op = 21) : Calls Try.prog 60 #[opV x, uv, vv, wv] w (ValPost w (valN x row v was)) := by
  obtain ⟨A, c, rfl, z1, z2⟩ := ints_form hu
  obtain ⟨B, d, rfl, z3, z4⟩ := ints_form hv
  obtain ⟨D, f, rfl, z5, z6⟩ := ints_form hw
  unfold maxLen at z2 z4 z6
  have HP : Hid (plainB nin x = true) := Lib.hid (by unfold mayOp at hm; simp only [Bool.and_eq_true] at hm; exact hm.1.1.1.2)
  have HM := Lib.hid hm
  obtain ⟨o, a, b, c', m⟩ := x
  obtain ⟨w1, hw1⟩ : ∃ W, w.alloc (.cells #[.int .i64 o, .int .i64 a, .int .i64 b, .int .i64 c', .int .i64 m] 69) = W := ⟨_, rfl⟩
  have HB1 : Hid (Below w.heap.size w w1) := Lib.hid (by rw [← hw1]; exact below_new _ _)
  have HX1 : Hid (OpBox w1 w.heap.size 69 ⟨o, a, b, c', m⟩) := Lib.hid (by rw [← hw1]; exact ⟨heap_alloc_new _ _⟩)
  obtain ⟨p0, p1, p2, p3, p4, -, -, -⟩ := HX1.out.ats
  dsimp only at p0 p1 p2 p3 p4
  have HU := Lib.hid (hu.below HB1.out (Nat.le_refl _))
  have HV := Lib.hid (hv.below HB1.out (Nat.le_refl _))
  have HW := Lib.hid (hw.below HB1.out (Nat.le_refl _))
  have HUL := Lib.hid hul
  have HVL := Lib.hid hvl
  have HWL := Lib.hid hwl
  clear hu hv hw hm hul hvl hwl
  unfold opV
  dsimp only at ho ⊢
  rcases ho with h | h | h | h | h
  · subst h
    have hb : 0 ≤ m ∧ m < (nin : Int) := by have := HP.out; unfold plainB at this; simpa using this
    obtain ⟨k, rfl, hk⟩ := get_at0 (l := row) hb.1 (by rw [HUL.out]; exact hb.2)
    have HE : Hid (valN ⟨3, a, b, c', (k : Int)⟩ row v was = (at0 row (k : Int), 0)) := Lib.hid rfl
    rw [HE.out]
    have hkl : k < row.length := (List.getElem?_eq_some_iff.1 hk).1
    obtain ⟨g, of, rfl, hg, a0⟩ := ints_at HU.out hk
    generalize at0 row (k : Int) = y at a0 ⊢
    clear hk hb HP
    go_enter Try.func60, Try.ntmps60
    go_wp2
    go_ret2
    exact ⟨rfl, HB1.out⟩
  · subst h
    have HE : Hid (valN ⟨1, a, b, c', m⟩ row v was = (m, 0)) := Lib.hid rfl
    rw [HE.out]
    go_enter Try.func60, Try.ntmps60
    go_wp2
    go_ret2
    exact ⟨rfl, HB1.out⟩
  · subst h
    have HE : Hid (valN ⟨2, a, b, c', m⟩ row v was = (m, 0)) := Lib.hid rfl
    rw [HE.out]
    go_enter Try.func60, Try.ntmps60
    go_wp2
    go_ret2
    exact ⟨rfl, HB1.out⟩
  · subst h
    have ha := fld_at HM.out (j := 0) (k := a) rfl
    have hb := fld_at HM.out (j := 1) (k := b) rfl
    obtain ⟨k, rfl, hk⟩ := get_at0 (l := v) ha.1 (by rw [HVL.out]; exact ha.2)
    obtain ⟨l, rfl, hl⟩ := get_at0 (l := v) hb.1 (by rw [HVL.out]; exact hb.2)
    have hkl : k < v.length := (List.getElem?_eq_some_iff.1 hk).1
    have hll : l < v.length := (List.getElem?_eq_some_iff.1 hl).1
    obtain ⟨g, of, rfl, hg, a0⟩ := ints_at HV.out hk
    obtain ⟨g2, of2, e2, hg2, a1⟩ := ints_at HV.out hl
    simp only [Option.some.injEq, Addr.mk.injEq, and_true] at e2
    obtain ⟨rfl, rfl⟩ := e2
    by_cases hz : was.length = 0
    · have HE : Hid (valN ⟨19, (k : Int), (l : Int), c', m⟩ row v was = (at0 v (k : Int), 0)) := Lib.hid (by unfold valN; simp [hz])
      rw [HE.out]
      generalize at0 v (k : Int) = y at a0 ⊢
      rw [hz]
      clear hk hl ha hb HP a1
      go_enter Try.func60, Try.ntmps60
      go_wp2
      go_ret2
      exact ⟨rfl, HB1.out⟩
    · have HE : Hid (valN ⟨19, (k : Int), (l : Int), c', m⟩ row v was = (at0 v (l : Int), 0)) := Lib.hid (by unfold valN; simp [hz])
      rw [HE.out]
      generalize at0 v (l : Int) = y at a1 ⊢
      have hzi : ((was.length : Int) == 0) = false := beq_eq_false_iff_ne.2 (by omega)
      clear hk hl ha hb HP a0
      go_enter Try.func60, Try.ntmps60
      go_wp2
      go_ret2
      exact ⟨rfl, HB1.out⟩
  · subst h
    by_cases hz : was.length = 0
    · have HE : Hid (valN ⟨21, a, b, c', m⟩ row v was = (0, 0)) := Lib.hid (by unfold valN; simp [hz])
      rw [HE.out]
      rw [hz]
      clear HP
      go_enter Try.func60, Try.ntmps60
      go_wp2
      go_ret2
      exact ⟨rfl, HB1.out⟩
    · have ha := fld_at HM.out (j := 0) (k := a) rfl
      have hwn : was.length = n := HWL.out.resolve_left hz
      obtain ⟨k, rfl, hk⟩ := get_at0 (l := was) ha.1 (by rw [hwn]; exact ha.2)
      have hkl : k < was.length := (List.getElem?_eq_some_iff.1 hk).1
      obtain ⟨g, of, rfl, hg, a0⟩ := ints_at HW.out hk
      have HE : Hid (valN ⟨21, (k : Int), b, c', m⟩ row v was = (at0 was (k : Int), 0)) := Lib.hid (by unfold valN; simp [hz])
      rw [HE.out]
      generalize at0 was (k : Int) = y at a0 ⊢
      have hzi : ((was.length : Int) == 0) = false := beq_eq_false_iff_ne.2 (by omega)
      clear hk ha HP hwn
      go_enter Try.func60, Try.ntmps60
      go_wp2
      go_ret2
      exact ⟨rfl, HB1.out⟩
/-- What the operands are so far. -/
def argsTo (l v : List Int) (i : Nat) : List Int := (List.range 3).map fun j => if j < i then arg l v j else 0
theorem args_set {l v : List Int} {i : Nat} (hi : i < 3) : (argsTo l v i).set i (arg l v i) = argsTo l v (i + 1) := by
  unfold argsTo
  match i, hi with
  | 0, _ => simp [List.range_succ]
  | 1, _ => simp [List.range_succ]
  | 2, _ => simp [List.range_succ]
theorem args_len (l v : List Int) (i : Nat) : (argsTo l v i).length = 3 := by unfold argsTo; simp
theorem arg_ge {l v : List Int} {j : Nat} (h : l.length ≤ j) : arg l v j = 0 := by unfold arg; rw [List.getElem?_eq_none h]
theorem args_end {l v : List Int} {i : Nat} (h : l.length ≤ i) : argsTo l v i = [arg l v 0, arg l v 1, arg l v 2] := by
  have key : ∀ j, (if j < i then arg l v j else 0) = arg l v j := fun j => by
    split
    · rfl
    · rw [arg_ge (by omega)]
  unfold argsTo
  simp [List.range_succ, key]
theorem need_le (x : Op5) : (needI x).length ≤ 3 := by unfold needI; split <;> simp; omega
theorem val_do {x : Op5} {row v was : List Int} (h1 : x.op ≠ 1) (h2 : x.op ≠ 2) (h3 : x.op ≠ 3) (h4 : x.op ≠ 19) (h5 : x.op ≠ 21) : valN x row v was = doN x.op (arg (needI x) v 0) (arg (needI x) v 1) (arg (needI x) v 2) := by unfold valN; simp [h1, h2, h3, h4, h5]
set_option maxRecDepth 100000 in
set_option maxHeartbeats 4000000 in
/-- Of one that is. -/
theorem dvalue_do (w : World) (x : Op5) (uv vv wv : Value) (row v was : List Int) (n nin : Nat) (hm : mayOp n nin x = true) (hv : Ints w vv v) (hvl : v.length = n)
    (h1 : x.op ≠ 1) (h2 : x.op ≠ 2) (h3 : x.op ≠ 3) (h4 : x.op ≠ 19) (h5 : x.op ≠ 21) : Calls Try.prog 60 #[opV x, uv, vv, wv] w (ValPost w (valN x row v was)) := by
  rw [val_do h1 h2 h3 h4 h5]
  obtain ⟨B, d, rfl, z3, z4⟩ := ints_form hv
  unfold maxLen at z4
  have HM := Lib.hid hm
  have HOP : Hid (∀ W, Calls Try.prog 57 #[opV x] W (fun e w' => ∃ u, e = .returned u ∧ Ints w' u (needI x) ∧ Below W.heap.size W w')) := Lib.hid (fun W => (dOpds_any W x (may_flds hm).1).mono (fun e w' h => by
    obtain ⟨u, e1, e2, e3, -⟩ := h
    exact ⟨u, e1, e2, e3⟩))
  have HFL : Hid (∀ k ∈ needI x, 0 ≤ k ∧ k < (n : Int)) := Lib.hid (need_flds hm)
  have HL3 := need_le x
  obtain ⟨o, a, b, c', m⟩ := x
  obtain ⟨w1, hw1⟩ : ∃ W, w.alloc (.cells #[.int .i64 o, .int .i64 a, .int .i64 b, .int .i64 c', .int .i64 m] 69) = W := ⟨_, rfl⟩
  have HB1 : Hid (Below w.heap.size w w1) := Lib.hid (by rw [← hw1]; exact below_new _ _)
  have HX1 : Hid (OpBox w1 w.heap.size 69 ⟨o, a, b, c', m⟩) := Lib.hid (by rw [← hw1]; exact ⟨heap_alloc_new _ _⟩)
  obtain ⟨p0, p1, p2, p3, p4, -, -, -⟩ := HX1.out.ats
  dsimp only at p0 p1 p2 p3 p4 h1 h2 h3 h4 h5 ⊢
  have HV := Lib.hid (hv.below HB1.out (Nat.le_refl _))
  have HVL := Lib.hid hvl
  clear hv hm hvl
  unfold opV at HOP ⊢
  generalize needI (⟨o, a, b, c', m⟩ : Op5) = l at HOP HFL HL3 ⊢
  have b1 : (o == 1) = false := by simpa using h1
  have b2 : (o == 2) = false := by simpa using h2
  have b3 : (o == 3) = false := by simpa using h3
  have b4 : (o == 19) = false := by simpa using h4
  have b5 : (o == 21) = false := by simpa using h5
  go_enter Try.func60, Try.ntmps60
  go_wp2_with fail
  refine (HOP.out _).mono ?_
  rintro e w2 ⟨lv, rfl, hl, hb2⟩
  have HB2 : Hid (Below w.heap.size w w2) := Lib.hid (HB1.out.trans (hb2.mono HB1.out.size))
  have HX2 := Lib.hid (HX1.out.below hb2 HX1.out.lt)
  have HV2 := Lib.hid (HV.out.below hb2 (Nat.le_refl _))
  have HLI := Lib.hid hl
  obtain ⟨L, lc, rfl, z5, z6⟩ := ints_form hl
  unfold maxLen at z6
  have HY0 : Hid (∀ W, W = w2.alloc (.cells #[.int .i64 0, .int .i64 0, .int .i64 0] 3) → W.ownsRow w2.heap.size 3 1 (.slice (some ⟨w2.heap.size, 0, none⟩) 3 3) 3 (intsOf (argsTo l v 0)) ∧ Below w2.heap.size w2 W) := Lib.hid (fun W hW => by
    rw [hW]
    exact ⟨ints_lit w2 [0, 0, 0] (by simp; unfold maxLen; omega), below_new _ _⟩)
  clear hl hb2 p0 p1 p2 p3 p4
  go_wp2_with fail
  go_loopw [12] (fun vi wr => ∃ i : Nat, i ≤ l.length ∧ vi = .int .i64 (i : Int) ∧ wr.ownsRow w2.heap.size 3 1 (.slice (some ⟨w2.heap.size, 0, none⟩) 3 3) 3 (intsOf (argsTo l v i)) ∧ Below w2.heap.size w2 wr) (fun vi _ => l.length - (intOf vi).toNat)
  case atStart => exact ⟨0, Nat.zero_le _, rfl, (HY0.out _ rfl).1, (HY0.out _ rfl).2⟩
  case round =>
    obtain ⟨i, hi, rfl, hy, hb⟩ := hrel
    have HY := Lib.hid hy
    have HBr := Lib.hid hb
    by_cases hil : i < l.length
    · obtain ⟨k, hk⟩ : ∃ k, l[i]? = some k := ⟨_, List.getElem?_eq_getElem hil⟩
      have hkb := HFL.out k (List.mem_of_getElem? hk)
      obtain ⟨g, of, rfl, hg, a0⟩ := ints_at (HLI.out.below hb (Nat.le_refl _)) hk
      obtain ⟨q, rfl, hq⟩ := get_at0 (l := v) hkb.1 (by rw [HVL.out]; exact hkb.2)
      have hql : q < v.length := (List.getElem?_eq_some_iff.1 hq).1
      obtain ⟨g2, of2, rfl, hg2, a1⟩ := ints_at (HV2.out.below hb (Nat.le_refl _)) hq
      have HARG : Hid (arg l v i = at0 v (q : Int)) := Lib.hid (by unfold arg; rw [hk])
      generalize at0 v (q : Int) = y at a1 HARG
      obtain ⟨yo, hyo⟩ : ∃ y, (argsTo l v i)[i]? = some y := ⟨_, List.getElem?_eq_getElem (by rw [args_len]; omega)⟩
      have ct := (HY.out.cellAt i (by omega)).trans (intsOf_get _ i _ hyo)
      have ft := HY.out.frozenAt i
      have hst := (HY.out.stored i (.int .i64 y)).1
      rw [← intsOf_set, ← HARG.out, args_set (by omega), HARG.out] at hst
      have HST := Lib.hid hst
      have HBS : Hid (Below w2.heap.size w2 (wr.setCell ⟨w2.heap.size, i, none⟩ (.int .i64 y))) := Lib.hid (hb.setCell (p := ⟨w2.heap.size, i, none⟩) (Nat.le_refl _) _)
      clear hk hq hkb hyo hst hy hb
      go_wp2_with fail
      exact ⟨⟨i + 1, by omega, by go_num, HST.out, HBS.out⟩, by simp [intOf]; omega⟩
    · have hie : i = l.length := by omega
      rw [args_end (by omega)] at hy
      obtain ⟨q0, q1, q2, q3, q4, -, -, -⟩ := (HX2.out.below hb HX2.out.lt).ats
      dsimp only at q0 q1 q2 q3 q4
      have c0 := hy.cellAt 0 (by omega)
      have c1 := hy.cellAt 1 (by omega)
      have c2 := hy.cellAt 2 (by omega)
      obtain ⟨y0, hy0⟩ : ∃ y, arg l v 0 = y := ⟨_, rfl⟩
      obtain ⟨y1, hy1⟩ : ∃ y, arg l v 1 = y := ⟨_, rfl⟩
      obtain ⟨y2, hy2⟩ : ∃ y, arg l v 2 = y := ⟨_, rfl⟩
      rw [hy0, hy1, hy2] at c0 c1 c2 hy
      simp [intsOf] at c0 c1 c2
      have HBE : Hid (Below w.heap.size w wr) := Lib.hid (HB2.out.trans (hb.mono HB2.out.size))
      have HDO := Lib.hid (fun W => refDo_any o y0 y1 y2 W)
      obtain ⟨r, hr⟩ : ∃ r, doN o y0 y1 y2 = r := ⟨_, rfl⟩
      rw [hr] at HDO
      have HR : Hid (doN o (arg l v 0) (arg l v 1) (arg l v 2) = r) := Lib.hid (by rw [hy0, hy1, hy2]; exact hr)
      clear hr hy0 hy1 hy2
      have HBcur : Hid (Below wr.heap.size wr wr.drew) := Lib.hid (Below.refl _ _).drew
      have HXr := Lib.hid (HX2.out.below hb HX2.out.lt)
      have HYr := Lib.hid hy
      have HKK : Hid (∀ W, Below wr.heap.size wr W → W.cell? ⟨w.heap.size, 0, none⟩ = some (.int .i64 o) ∧ W.cell? ⟨w2.heap.size, 0, none⟩ = some (.int .i64 y0) ∧ W.cell? ⟨w2.heap.size, 1, none⟩ = some (.int .i64 y1) ∧ W.cell? ⟨w2.heap.size, 2, none⟩ = some (.int .i64 y2)) := Lib.hid (fun W hW => by
        obtain ⟨q0, -⟩ := (HXr.out.below hW HXr.out.lt).ats
        have hy := own_below HYr.out hW
        have c0 := hy.cellAt 0 (by omega)
        have c1 := hy.cellAt 1 (by omega)
        have c2 := hy.cellAt 2 (by omega)
        simp [intsOf] at c0 c1 c2
        exact ⟨q0, c0, c1, c2⟩)
      clear hy hb
      go_wp2_with fail
      go_region_held3 (fun W => W.cell? ⟨w.heap.size, 0, none⟩ = some (.int .i64 o) ∧ W.cell? ⟨w2.heap.size, 0, none⟩ = some (.int .i64 y0) ∧ W.cell? ⟨w2.heap.size, 1, none⟩ = some (.int .i64 y1) ∧ W.cell? ⟨w2.heap.size, 2, none⟩ = some (.int .i64 y2))
        (exact HKK.out _ HBcur.out)
        (first | (go_at_call 99; with_reducible refine (HDO.out _).mono ?_; rintro e w' ⟨rfl, nd, hw'⟩; have HBcur : Hid (Below wr.heap.size wr w') := Lib.hid (by rw [hw']; exact below_drewN HBcur.out nd); clear hw'))
      all_goals
        go_wp2
        exact bodyPost_ret (v := .tuple #[.int .i64 r.1, .int .i64 r.2]) (by simp [results, Try.results60, go_sem]) rfl ⟨by rw [HR.out], HBE.out.trans (HBcur.out.mono HBE.out.size)⟩
theorem dvalue_any (w : World) (x : Op5) (uv vv wv : Value) (row v was : List Int) (n nin : Nat) (hm : mayOp n nin x = true) (hu : Ints w uv row) (hul : row.length = nin) (hv : Ints w vv v) (hvl : v.length = n) (hw : Ints w wv was) (hwl : was.length = 0 ∨ was.length = n) :
    Calls Try.prog 60 #[opV x, uv, vv, wv] w (ValPost w (valN x row v was)) := by
  by_cases h : x.op = 3 ∨ x.op = 1 ∨ x.op = 2 ∨ x.op = 19 ∨ x.op = 21
  · exact dvalue_one w x uv vv wv row v was n nin hm hu hul hv hvl hw hwl h
  · exact dvalue_do w x uv vv wv row v was n nin hm hv hvl (by omega) (by omega) (by omega) (by omega) (by omega)
end Go.Proofs.Ytcphjehjdhgheaa.Nt
