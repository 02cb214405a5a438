/- A lean reader of expressions: an operand. Conditions: the contracts at less fuel. -/
import Derived.Test.YtobkcdkffcenbaaGreatDoorSa09
import Derived.Deep.RegionHeld3
import Derived.Test.YtobkcdkffcenbaaGreatDoorCa05
import Derived.Test.YtobkcdkffcenbaaGreatDoorCb23
import Derived.Test.YtobkcdkffcenbaaGreatDoorSa01
set_option linter.unusedVariables false
set_option linter.unusedSimpArgs false
namespace Go.Proofs.YtobkcdkffcenbaaGreatDoor.Lr
open Go.ChangeShapes Go.WideShapes Go.ChangeAt Go.RowKit
open Go.Proofs.YtobkcdkffcenbaaGreatDoor.Tr (str ret_bool ret_int Bytes Nd Nodes joinM roomM own_block own_below own_ne own_base ndsOf)
variable {L : List Lx.Tok} {lv : Value}
theorem leaf_ok {op n : Int} {s : Bytes} {S : ByteArray} {z : List Nd} {w : World} (hS : S = str s) (hj : jn op n s [] = some z) : Calls Tryz.prog 10 #[.int .i64 op, .int .i64 n, .string S, .slice none 0 0] w (Mk w z) := by
  subst hS
  obtain ⟨hrm, rfl⟩ := jn_some hj
  exact (Tr.rjoin_all _ [] op n s w (parts_none w) hrm).mono (fun e w' h => mk_of (Below.refl _ _) h)
theorem mk_one {op n : Int} {s : Bytes} {S : ByteArray} {x z : List Nd} {A : Option Addr} {k c : Nat} {w : World} (hS : S = str s) (h : NdW w (.slice A k c) x) (hj : jn op n s [x] = some z) :
    Calls Tryz.prog 10 #[.int .i64 op, .int .i64 n, .string S, .slice (some ⟨w.heap.size, 0, none⟩) 1 1] (w.alloc (.cells #[.slice A k c] 32)) (Mk w z) := by
  subst hS
  obtain ⟨hrm, rfl⟩ := jn_some hj
  exact (Tr.rjoin_all _ [x] op n s _ (parts_one h.nodes) hrm).mono (fun e w' h => mk_of ((Below.refl _ _).alloc (Nat.le_refl _) _) h)
theorem Go1.of {w w1 w' : World} {b : Nat} {j o : Nat} {z : List Nd} {e : Ending} (h : Mk w1 z e w') (q : Rq w1 b L lv j o) (m : Mv w w1 b) : Go1 w b L lv j o z e w' := by
  obtain ⟨v, h1, h2, h3⟩ := h
  exact ⟨v, h1, h2, q.below h3, m.trans (Mv.of h3)⟩
set_option maxRecDepth 100000 in
set_option maxHeartbeats 1600000 in
theorem named_ok {f : Nat} (ha : CP L lv f) (o i : Nat) (t : Lx.Tok) (ht : L[i]? = some t) (z : List Nd) (k b : Nat) (w : World) (hrun : run L (f + 1) .named [] o i = some ([z], k)) (hq : Rq w b L lv i o) :
    Calls Tryz.prog 117 #[.pointer (some ⟨b, 0, none⟩), .string (str t.text)] w (Go1 w b L lv k o z) := by
  simp only [run, ht] at hrun
  have hil := (List.getElem?_eq_some_iff.1 ht).1
  obtain ⟨-, d1, -, -, -, fz⟩ := hq.cells
  have f1 := fz 1
  have hlen := hq.len
  have hlt := hq.lt
  have Q1 := Lib.hid (hq.setI hil)
  have M1 := Lib.hid (mv_set w b 1 (.int .i64 ((i : Int) + 1)))
  have HA := Lib.hid ha
  clear hq fz ht ha
  cases hB : isAt L (i + 1) [40] with
  | true =>
    rw [hB, if_pos rfl] at hrun
    have HT := Lib.hid (take_ok (s := [40]) rfl hB Q1.out)
    cases hP : run L f .args [] o (i + 2) with
    | none => rw [hP] at hrun; cases hrun
    | some pj =>
      obtain ⟨ps, j⟩ := pj
      rw [hP] at hrun
      obtain ⟨hj, rfl⟩ := ok1_some hrun
      have HP := Lib.hid hP
      have HJ := Lib.hid hj
      clear hrun hB hP hj
      go_enter Tryz.func117, Tryz.ntmps117
      go_wp2_with fail
      refine HT.out.mono ?_
      rintro e w2 ⟨rfl, q2, m2⟩
      have Q2 := Lib.hid q2
      have M2 := Lib.hid (M1.out.trans m2)
      have HAC := Lib.hid (HA.out o (i + 2) ps j b w2 HP.out q2)
      clear q2 m2
      go_wp2_with fail
      refine HAC.out.mono ?_
      rintro e w3 ⟨v3, vs, rfl, p3, q3, m3⟩
      obtain ⟨A3, c3, rfl, y3, -⟩ := p3.form
      unfold maxLen at y3
      obtain ⟨-, -, -, z3, -, -⟩ := q3.cells
      have P3 := Lib.hid p3.parts
      have Q3 := Lib.hid q3
      have M3 := Lib.hid (M2.out.trans m3)
      have HJC : Hid (Calls Tryz.prog 10 #[.int .i64 27, .int .i64 0, .string (str t.text), .slice A3 ps.length c3] w3 (Mk w3 z)) := Lib.hid (by
        obtain ⟨hrm, hz⟩ := jn_some HJ.out
        subst hz
        exact (Tr.rjoin_all _ ps 27 0 t.text w3 P3.out hrm).mono (fun e w' h => mk_of (Below.refl _ _) h))
      clear p3 q3 m3
      go_wp2_with fail
      refine HJC.out.mono ?_
      rintro e w4 h4
      have H4 := Lib.hid (Go1.of h4 Q3.out M3.out)
      obtain ⟨v4, rfl, n4, -⟩ := h4
      obtain ⟨A4, c4, rfl, -⟩ := n4.form
      clear n4
      go_wp2
      go_ret
      exact H4.out
  | false =>
    rw [hB, if_neg (by simp)] at hrun
    obtain ⟨hj, rfl⟩ := ok1_some hrun
    have HT := Lib.hid (take_ok (s := [40]) rfl hB Q1.out)
    have HJ := Lib.hid hj
    clear hrun hB hj
    go_enter Tryz.func117, Tryz.ntmps117
    go_wp2_with fail
    refine HT.out.mono ?_
    rintro e w2 ⟨rfl, q2, m2⟩
    have Q2 := Lib.hid q2
    have M2 := Lib.hid (M1.out.trans m2)
    clear q2 m2
    go_wp2_with fail
    refine (leaf_ok rfl HJ.out).mono ?_
    rintro e w4 h4
    have H4 := Lib.hid (Go1.of h4 Q2.out M2.out)
    obtain ⟨v4, rfl, n4, -⟩ := h4
    obtain ⟨A4, c4, rfl, -⟩ := n4.form
    clear n4
    go_wp2
    go_ret
    exact H4.out
end Go.Proofs.YtobkcdkffcenbaaGreatDoor.Lr

/- A lean reader of expressions: what an operand begins with. Conditions: the contracts at less fuel. -/
namespace Go.Proofs.YtobkcdkffcenbaaGreatDoor.Lr
open Go.ChangeShapes Go.WideShapes Go.ChangeAt Go.RowKit
open Go.Proofs.YtobkcdkffcenbaaGreatDoor.Tr (str ret_bool ret_int Bytes Nd Nodes joinM roomM own_block own_below own_ne own_base ndsOf)
variable {L : List Lx.Tok} {lv : Value}
theorem num_ok {t : Lx.Tok} {w : World} (h : numB t = true) : t.kind = 2 ∧ Calls Tryz.prog 78 #[.string (str t.text)] w (fun e w' => e = .returned (.int .i64 (Lx.val t.text : Int)) ∧ w = w') := by
  unfold numB at h
  simp only [Bool.and_eq_true, beq_iff_eq, decide_eq_true_eq] at h
  obtain ⟨⟨⟨h1, h2⟩, h3⟩, h4⟩ := h
  exact ⟨h1, Rf.value_tok h2 h3 h4⟩
theorem Rq.at {w : World} {b : Nat} {i o : Nat} (h : Rq w b L lv i o) {t : Lx.Tok} (ht : L[i]? = some t) : ∃ g c, lv = .slice (some ⟨g, 0, none⟩) L.length c ∧ L.length ≤ c ∧ c ≤ maxLen ∧ g < b ∧
    w.cell? ⟨g, i * 3, none⟩ = some (.int .i64 t.kind) ∧ w.cell? ⟨g, i * 3 + 1, none⟩ = some (.string (str t.text)) ∧ w.cell? ⟨g, i * 3 + 2, none⟩ = some (.int .i64 (t.at_ : Int)) := by
  obtain ⟨A, c, rfl, h1, h2, hA⟩ := h.tok
  obtain ⟨g, rfl, hg, e0, e1, e2⟩ := hA i t ht
  exact ⟨g, c, rfl, h1, h2, hg, e0, e1, e2⟩
set_option maxRecDepth 100000 in
set_option maxHeartbeats 4000000 in
theorem begun_ok {f : Nat} (ho : C1 114 L lv f .oper) (hn : ∀ (o i : Nat) (t : Lx.Tok), L[i]? = some t → ∀ (z : List Nd) (k b : Nat) (w : World), run L f .named [] o i = some ([z], k) → Rq w b L lv i o → Calls Tryz.prog 117 #[.pointer (some ⟨b, 0, none⟩), .string (str t.text)] w (Go1 w b L lv k o z))
    (o i : Nat) (t : Lx.Tok) (ht : L[i]? = some t) (z : List Nd) (k b : Nat) (w : World) (hrun : run L (f + 1) .beg [] o i = some ([z], k)) (hq : Rq w b L lv i o) :
    Calls Tryz.prog 116 #[.pointer (some ⟨b, 0, none⟩), .agg #[.int .i64 t.kind, .string (str t.text), .int .i64 (t.at_ : Int)]] w (Go1 w b L lv k o z) := by
  simp only [run, ht] at hrun
  have hil := (List.getElem?_eq_some_iff.1 ht).1
  have hlt := hq.lt
  have hlen := hq.len
  obtain ⟨w0, hw0⟩ : ∃ W, w.alloc (.cells #[.int .i64 t.kind, .string (str t.text), .int .i64 (t.at_ : Int)] 105) = W := ⟨_, rfl⟩
  have hb0 : Below w.heap.size w w0 := hw0 ▸ (Below.refl _ _).alloc (Nat.le_refl _) _
  have hx : w0.heap[w.heap.size]? = some (.cells #[.int .i64 t.kind, .string (str t.text), .int .i64 (t.at_ : Int)] 105 (0, 0)) := hw0 ▸ heap_alloc_new _ _
  have e0 : w0.cell? ⟨w.heap.size, 0, none⟩ = some (.int .i64 t.kind) := by simp [World.cell?, hx]
  have e1 : w0.cell? ⟨w.heap.size, 1, none⟩ = some (.string (str t.text)) := by simp [World.cell?, hx]
  have Q0 := Lib.hid (hq.below hb0)
  have M0 := Lib.hid (Mv.of (b := b) hb0)
  have HT := Lib.hid ht
  have HW0 := Lib.hid hw0
  obtain ⟨-, d1, -, d3, -, fz⟩ := Q0.out.cells
  have f1 := fz 1
  have hbn : b ≠ w.heap.size := by omega
  have Q1 := Lib.hid (Q0.out.setI hil)
  have M1 := Lib.hid (M0.out.trans (mv_set w0 b 1 (.int .i64 ((i : Int) + 1))))
  clear fz hq hx
  by_cases hnum : numB t = true
  · rw [if_pos hnum] at hrun
    obtain ⟨hj, rfl⟩ := ok1_some hrun
    obtain ⟨hk, -⟩ := num_ok (w := w) hnum
    have hkd : (t.kind == 2) = true := by simp [hk]
    have HV := Lib.hid (fun W => (num_ok (w := W) hnum).2)
    have HJ := Lib.hid hj
    have e1' : (w0.setCell ⟨b, 1, none⟩ (.int .i64 ((i : Int) + 1))).cell? ⟨w.heap.size, 1, none⟩ = some (.string (str t.text)) := by
      rw [World.cell?_of_block (w := w0) (a := ⟨w.heap.size, 1, none⟩) (Below.heap_setCell w0 ⟨b, 1, none⟩ _ w.heap.size (fun e => hbn e.symm))]; exact e1
    clear hrun hj hnum hk hb0 ht
    go_enter Tryz.func116, Tryz.ntmps116
    go_wp2_with fail
    refine (HV.out _).mono ?_
    rintro e w2 ⟨rfl, hw2⟩
    subst hw2
    go_wp2_with fail
    refine (leaf_ok rfl HJ.out).mono ?_
    rintro e w4 h4
    have H4 := Lib.hid (Go1.of h4 Q1.out M1.out)
    obtain ⟨v4, rfl, n4, -⟩ := h4
    obtain ⟨A4, c4, rfl, -⟩ := n4.form
    clear n4
    go_wp2
    go_ret
    exact H4.out
  rw [if_neg hnum] at hrun
  by_cases hk1 : t.kind = 1
  · rw [if_pos hk1] at hrun
    have hkd : (t.kind == 2) = false := by simp [hk1]
    have hkd1 : (t.kind == 1) = true := by simp [hk1]
    have HC := Lib.hid (hn o i t HT.out z k b w0 hrun Q0.out)
    clear hrun hnum hk1 hb0 ht
    go_enter Tryz.func116, Tryz.ntmps116
    go_wp2_with fail
    refine HC.out.mono ?_
    rintro e w2 ⟨v2, rfl, n2, q2, m2⟩
    have H2 : Hid (Go1 w b L lv k o z (.returned v2) w2) := Lib.hid ⟨v2, rfl, n2, q2, M0.out.trans m2⟩
    obtain ⟨A2, c2, rfl, -⟩ := n2.form
    clear n2 q2 m2
    go_wp2
    go_ret
    exact H2.out
  rw [if_neg hk1] at hrun
  by_cases hk3 : t.kind = 3 ∨ t.kind = 4
  · rw [if_pos hk3] at hrun
    have hkd : (t.kind == 2) = false := by rcases hk3 with h | h <;> simp [h]
    have hkd1 : (t.kind == 1) = false := by rcases hk3 with h | h <;> simp [h]
    have hkd3 : (t.kind != 4) = true ∧ (t.kind != 3) = false ∨ (t.kind != 4) = false := by rcases hk3 with h | h <;> simp [h]
    have HPX := Lib.hid (prefix_ok t.text)
    by_cases hp25 : preM t.text = 25
    · rw [if_pos hp25] at hrun; cases hrun
    rw [if_neg hp25] at hrun
    by_cases hp0 : preM t.text = 0
    · rw [if_neg (by simp [hp0])] at hrun
      cases hB : isAt L i [116, 114, 117, 101] with
      | false => rw [hB] at hrun; simp at hrun
      | true =>
        rw [hB, if_pos rfl] at hrun
        obtain ⟨hj, rfl⟩ := ok1_some hrun
        have HTK := Lib.hid (take_ok (s := [116, 114, 117, 101]) rfl hB Q0.out)
        have HJ := Lib.hid hj
        rw [hp0] at HPX
        clear hrun hnum hk1 hk3 hb0 ht hp25 hp0 hB hj
        rcases hkd3 with ⟨k4, k3⟩ | k4
        all_goals
          go_enter Tryz.func116, Tryz.ntmps116
          go_wp2_with fail
          refine (HPX.out _).mono ?_
          rintro e wp ⟨rfl, hwp⟩
          subst hwp
          go_wp2_with fail
          refine HTK.out.mono ?_
          rintro e w2 ⟨rfl, q2, m2⟩
          have Q2 := Lib.hid q2
          have M2 := Lib.hid (M0.out.trans m2)
          clear q2 m2
          go_wp2_with fail
          refine (leaf_ok rfl HJ.out).mono ?_
          rintro e w4 h4
          have H4 := Lib.hid (Go1.of h4 Q2.out M2.out)
          obtain ⟨v4, rfl, n4, -⟩ := h4
          obtain ⟨A4, c4, rfl, -⟩ := n4.form
          clear n4
          go_wp2
          go_ret
          exact H4.out
    · rw [if_pos hp0] at hrun
      obtain ⟨x, j, h1, h2⟩ := bnd_some hrun
      obtain ⟨hj, rfl⟩ := ok1_some h2
      have hpos : 0 < preM t.text := by
        have : 0 ≤ preM t.text := by unfold preM; repeat (split; omega); omega
        omega
      have HC := Lib.hid (ho o (i + 1) x j b _ h1 Q1.out)
      have HJ := Lib.hid hj
      obtain ⟨p, hp⟩ : ∃ p, preM t.text = p := ⟨_, rfl⟩
      rw [hp] at HPX HJ hpos hp25
      have hpd : (p == 25) = false := by simpa using hp25
      have hpd0 : decide (0 < p) = true := decide_eq_true hpos
      clear hrun hnum hk1 hk3 hb0 ht hp25 hp0 h1 h2 hj hp
      rcases hkd3 with ⟨k4, k3⟩ | k4
      all_goals
        go_enter Tryz.func116, Tryz.ntmps116
        go_wp2_with fail
        refine (HPX.out _).mono ?_
        rintro e wp ⟨rfl, hwp⟩
        subst hwp
        go_wp2_with fail
        refine HC.out.mono ?_
        rintro e w2 ⟨v2, rfl, n2, q2, m2⟩
        obtain ⟨A2, c2, rfl, y2, -⟩ := n2.form
        unfold maxLen at y2
        have N2 := Lib.hid n2
        have Q2 := Lib.hid q2
        have M2 := Lib.hid (M1.out.trans m2)
        obtain ⟨-, -, -, z3, -, -⟩ := q2.cells
        have hlt2 := q2.lt
        clear n2 q2 m2
        go_wp2_with fail
        refine (mk_one rfl N2.out HJ.out).mono ?_
        rintro e w4 h4
        have H4 := Lib.hid (Go1.of h4 Q2.out M2.out)
        obtain ⟨v4, rfl, n4, -⟩ := h4
        obtain ⟨A4, c4, rfl, -⟩ := n4.form
        clear n4
        go_wp2
        go_ret
        exact H4.out
  · rw [if_neg hk3] at hrun; cases hrun
end Go.Proofs.YtobkcdkffcenbaaGreatDoor.Lr

/- A lean reader of expressions: an operand, all levels, Parse, Read. Conditions: a source of which the plain reader reads all. -/
namespace Go.Proofs.YtobkcdkffcenbaaGreatDoor.Lr
open Go.ChangeShapes Go.WideShapes Go.ChangeAt Go.RowKit
open Go.Proofs.YtobkcdkffcenbaaGreatDoor.Tr (str ret_bool ret_int Bytes Nd Nodes joinM roomM own_block own_below own_ne own_base ndsOf)
section
variable {L : List Lx.Tok} {lv : Value}
theorem Rq.setO {w : World} {b i o o' : Nat} (h : Rq w b L lv i o) (ho : o' ≤ 200) : Rq (w.setCell ⟨b, 2, none⟩ (.int .i64 (o' : Int))) b L lv i o' :=
  h.turn (by simp [World.setCell, Array.getElem?_modify, h.blk, bxC]) (mv_set _ _ _ _) h.ile ho
set_option maxRecDepth 100000 in
set_option maxHeartbeats 4000000 in
theorem oper_ok {f : Nat} (hb : ∀ (o i : Nat) (t : Lx.Tok), L[i]? = some t → ∀ (z : List Nd) (k b : Nat) (w : World), run L f .beg [] o i = some ([z], k) → Rq w b L lv i o → Calls Tryz.prog 116 #[.pointer (some ⟨b, 0, none⟩), .agg #[.int .i64 t.kind, .string (str t.text), .int .i64 (t.at_ : Int)]] w (Go1 w b L lv k o z)) : C1 114 L lv (f + 1) .oper := by
  intro o i z k b w hrun hq
  simp only [run] at hrun
  by_cases h200 : 200 ≤ o
  · rw [if_pos h200] at hrun; cases hrun
  rw [if_neg h200] at hrun
  by_cases hil : L.length ≤ i
  · rw [if_pos hil] at hrun; cases hrun
  rw [if_neg hil] at hrun
  obtain ⟨t, ht⟩ : ∃ t, L[i]? = some t := ⟨_, List.getElem?_eq_getElem (by omega)⟩
  have HBG := Lib.hid (fun (W : World) (q : Rq W b L lv i (o + 1)) => hb (o + 1) i t ht z k b W hrun q)
  have HQ := Lib.hid hq
  have HT := Lib.hid ht
  obtain ⟨d0, d1, d2, d3, -, fz⟩ := hq.cells
  obtain ⟨g, c, rfl, z1, z2, hg, -⟩ := hq.at ht
  unfold maxLen at z2
  have f2 := fz 2
  have hlt := hq.lt
  have hlen := hq.len
  have g1 : decide ((200 : Int) ≤ (o : Int)) = false := decide_eq_false (by omega)
  have g2 : decide (200 ≤ o) = false := decide_eq_false (by omega)
  have g3 : decide ((L.length : Int) ≤ (i : Int)) = false := decide_eq_false (by omega)
  have g4 : decide (L.length ≤ i) = false := decide_eq_false (by omega)
  clear hb hrun hq ht fz
  go_enter Tryz.func114, Tryz.ntmps114
  go_wp2
  go_quiet (fail)
  go_wp2
  obtain ⟨w1, hw1⟩ : ∃ W, (w.drewN nq).setCell ⟨b, 2, none⟩ (.int .i64 ((o : Int) + 1)) = W := ⟨_, rfl⟩
  have HB0 : Below w.heap.size w (w.drewN nq) := Tr.below_drewN (Below.refl _ _) nq
  have q1 : Rq w1 b L (.slice (some ⟨g, 0, none⟩) L.length c) i (o + 1) := hw1 ▸ (HQ.out.below HB0).setO (o' := o + 1) (by omega)
  have M1 : Hid (Mv w w1 b) := Lib.hid (hw1 ▸ (Mv.of HB0).trans (mv_set _ _ _ _))
  obtain ⟨x0, x1, x2, x3, -, fz⟩ := q1.cells
  obtain ⟨g', c', e', -, -, -, e0, e1, e2⟩ := q1.at HT.out
  obtain ⟨rfl, rfl⟩ : g' = g ∧ c' = c := by simp only [Value.slice.injEq, Option.some.injEq, Addr.mk.injEq, and_true, true_and] at e'; exact ⟨e'.1.symm, e'.2.symm⟩
  have Q1 := Lib.hid q1
  have hlt1 := q1.lt
  have hg1 : g' < w1.heap.size := by omega
  have hbn1 : b ≠ w1.heap.size := by omega
  have hgn1 : g' ≠ w1.heap.size := by omega
  rw [hw1]
  clear hw1 d0 d1 d2 d3 f2 q1 fz HB0 hlt e'
  go_region
  have hb2 : Below w1.heap.size w1 ((w1.alloc (.cells #[.int .i64 t.kind, .string (str t.text), .int .i64 (t.at_ : Int)] 105)).drew) := ((Below.refl _ _).alloc (Nat.le_refl _) _).drew
  have Q2 := Lib.hid (Q1.out.below hb2)
  have M2 := Lib.hid (M1.out.trans (Mv.of hb2))
  clear hb2 x0 x1 x2 x3 e0 e1 e2
  go_wp2_with fail
  refine (HBG.out _ Q2.out).mono ?_
  rintro e w3 ⟨v3, rfl, n3, q3, m3⟩
  obtain ⟨A3, c3, rfl, -⟩ := n3.form
  have M3 := Lib.hid (M2.out.trans (m3.trans (mv_set w3 b 2 (.int .i64 (o : Int)))))
  have Q3 := Lib.hid (q3.setO (o' := o) (by omega))
  have N3 := Lib.hid (n3.mv q3.blk (mv_set w3 b 2 (.int .i64 (o : Int))))
  obtain ⟨-, -, d2, -, -, fz⟩ := q3.cells
  have d2 : w3.cell? ⟨b, 2, none⟩ = some (.int .i64 ((o : Int) + 1)) := d2
  have f2 := fz 2
  clear n3 q3 m3 fz
  go_wp2
  go_ret
  exact ⟨_, rfl, by simpa using N3.out, by simpa using Q3.out, by simpa using M3.out⟩
structure All (L : List Lx.Tok) (lv : Value) (f : Nat) : Prop where
  arrow : C1 76 L lv f .arrow
  imp : C1 93 L lv f .imp
  since : C1 104 L lv f .since
  or : C1 109 L lv f .or
  and : C1 110 L lv f .and
  cmp : C1 111 L lv f .cmp
  sum : C1 112 L lv f .sum
  prod : C1 113 L lv f .prod
  oper : C1 114 L lv f .oper
  args : CP L lv f
  named : ∀ (o i : Nat) (t : Lx.Tok), L[i]? = some t → ∀ (z : List Nd) (k b : Nat) (w : World), run L f .named [] o i = some ([z], k) → Rq w b L lv i o → Calls Tryz.prog 117 #[.pointer (some ⟨b, 0, none⟩), .string (str t.text)] w (Go1 w b L lv k o z)
  beg : ∀ (o i : Nat) (t : Lx.Tok), L[i]? = some t → ∀ (z : List Nd) (k b : Nat) (w : World), run L f .beg [] o i = some ([z], k) → Rq w b L lv i o → Calls Tryz.prog 116 #[.pointer (some ⟨b, 0, none⟩), .agg #[.int .i64 t.kind, .string (str t.text), .int .i64 (t.at_ : Int)]] w (Go1 w b L lv k o z)
theorem all_ok : ∀ (f g : Nat), g ≤ f → All L lv g := by
  have zero : All L lv 0 := ⟨fun o i x j b w h => by simp [run] at h, fun o i x j b w h => by simp [run] at h, fun o i x j b w h => by simp [run] at h, fun o i x j b w h => by simp [run] at h, fun o i x j b w h => by simp [run] at h, fun o i x j b w h => by simp [run] at h, fun o i x j b w h => by simp [run] at h, fun o i x j b w h => by simp [run] at h, fun o i x j b w h => by simp [run] at h, fun o i x j b w h => by simp [run] at h, fun o i t ht x j b w h => by simp [run] at h, fun o i t ht x j b w h => by simp [run] at h⟩
  intro f
  induction f with
  | zero => intro g hg; obtain rfl : g = 0 := by omega
            exact zero
  | succ f ih =>
    intro g hg
    by_cases h : g ≤ f
    · exact ih g h
    · obtain rfl : g = f + 1 := by omega
      have A := ih f (Nat.le_refl _)
      exact ⟨arrow_ok A.imp A.arrow, imp_ok A.since A.imp, since_ok (fun g hg => (ih g hg).or), or_ok A.and, and_ok (fun g hg => (ih g hg).cmp), cmp_ok A.sum, sum_ok (fun g hg => (ih g hg).prod), prod_ok (fun g hg => (ih g hg).oper), oper_ok A.beg, args_ok (fun g hg => (ih g hg).arrow), fun o i t ht z k b w => named_ok A.args o i t ht z k b w, fun o i t ht z k b w => begun_ok A.oper A.named o i t ht z k b w⟩
end
theorem NdW.set2 {w : World} {v : Value} {x : List Nd} {g : Nat} {cs : Array Value} (h : NdW w v x) (hg : w.heap[g]? = some (.cells cs 29 (0, 0))) (a b : Value) : NdW ((w.setCell ⟨g, 0, none⟩ a).setCell ⟨g, 1, none⟩ b).drew v x := by
  obtain ⟨B, h⟩ := h
  refine ⟨B, own_block (w' := ((w.setCell ⟨g, 0, none⟩ a).setCell ⟨g, 1, none⟩ b).drew) h (fun k hk => ?_)⟩
  have hne : k ≠ g := fun e => by
    subst e
    obtain ⟨hl, h0 | ⟨g', cap, cur, hv, hb', hh, _⟩⟩ := h
    · rw [h0.1] at hk; simp [Value.ownBlock] at hk
    · rw [hv] at hk
      have : some g' = some k := hk
      injection this with this
      subst this
      rw [hg] at hh
      injection hh with hh
      injection hh with _ hh _
      exact absurd hh (by decide)
  show ((w.setCell ⟨g, 0, none⟩ a).setCell ⟨g, 1, none⟩ b).heap[k]? = _
  rw [Below.heap_setCell _ ⟨g, 1, none⟩ _ k hne, Below.heap_setCell _ ⟨g, 0, none⟩ _ k hne]
theorem TkAt.of_toks {w : World} {v : Value} {l : List Lx.Tok} (h : Lx.Toks w v l) : TkAt w w.heap.size v l := by
  obtain ⟨A, c, rfl, h1, h2, h3⟩ := h
  refine ⟨A, c, rfl, h1, h2, fun i t hi => ?_⟩
  obtain ⟨g, hg, hlt, c0, c1, c2⟩ := h3 i t hi
  exact ⟨g, hg, hlt, c0, c1, c2⟩
theorem TkAt.up {w : World} {b b' : Nat} {v : Value} {l : List Lx.Tok} (h : TkAt w b v l) (hb : b ≤ b') : TkAt w b' v l := by
  obtain ⟨A, c, rfl, h1, h2, h3⟩ := h
  refine ⟨A, c, rfl, h1, h2, fun i t hi => ?_⟩
  obtain ⟨g, hg, hlt, c⟩ := h3 i t hi
  exact ⟨g, hg, by omega, c⟩
theorem Mv.below {w w' : World} {b n : Nat} (h : Mv w w' b) (hb : n ≤ b) (hn : n ≤ w.heap.size) : Below n w w' :=
  ⟨h.os, h.tape, h.output, h.size, fun g hg => h.block g (by omega) (fun e => by injection e with e; omega)⟩
set_option maxRecDepth 100000 in
set_option maxHeartbeats 4000000 in
theorem parse_ok (L : List Lx.Tok) (lv : Value) (f i j : Nat) (x : List Nd) (w : World) (hl : L.length ≤ 100000) (hi : i ≤ L.length) (ht : TkAt w w.heap.size lv L) (hrun : run L f .arrow [] 0 i = some ([x], j)) (hx : x.length ≤ 5000) (hd : Tr.depthM x ≤ 40) :
    Calls Tryz.prog 52 #[lv, .int .i64 (i : Int)] w (fun e w' => ∃ v, e = .returned (.tuple #[v, .int .i64 (j : Int), .agg #[.int .i64 0, .int .i64 0]]) ∧ NdW w' v x ∧ Below w.heap.size w w') := by
  obtain ⟨w1, hw1⟩ : ∃ W, (w.alloc (.cells #[.int .i64 0, .int .i64 0] 29)).alloc (.cells (bxC lv i 0) 132) = W := ⟨_, rfl⟩
  have hb0 : Below w.heap.size w (w.alloc (.cells #[.int .i64 0, .int .i64 0] 29)) := (Below.refl _ _).alloc (Nat.le_refl _) _
  have hb1 : Below w.heap.size w w1 := hw1 ▸ hb0.alloc hb0.size _
  have hx0 : w1.heap[w.heap.size]? = some (.cells #[.int .i64 0, .int .i64 0] 29 (0, 0)) := by
    rw [← hw1, Below.heap_alloc _ _ _ (by simp)]; exact heap_alloc_new _ _
  have hx1 : w1.heap[w.heap.size + 1]? = some (.cells (bxC lv i 0) 132 (0, 0)) := by
    have := heap_alloc_new (w.alloc (.cells #[.int .i64 0, .int .i64 0] 29)) (.cells (bxC lv i 0) 132)
    rw [hw1] at this; simpa using this
  have q1 : Rq w1 (w.heap.size + 1) L lv i 0 := ⟨hx1, (ht.mv (fun g hg => hb1.block g hg)).up (by omega), hi, hl, by omega⟩
  have HC := Lib.hid ((all_ok (L := L) (lv := lv) f f (Nat.le_refl _)).arrow 0 i x j _ w1 hrun q1)
  have HX0 := Lib.hid hx0
  have hw1' : (w.alloc (.cells #[.int .i64 0, .int .i64 0] 29)).alloc (.cells #[lv, .int .i64 (i : Int), .int .i64 0, .int .i64 0, .int .i64 0] 132) = w1 := hw1
  have HB1 := Lib.hid hb1
  have HD := Lib.hid hd
  have Q1 := Lib.hid q1
  obtain ⟨A, c, rfl, t1, t2, -⟩ := ht
  unfold maxLen at t2
  have g1 : decide ((L.length : Int) < (i : Int)) = false := decide_eq_false (by omega)
  have g2 : decide (L.length < i) = false := decide_eq_false (by omega)
  have hs1 : w1.heap.size = w.heap.size + 2 := by rw [← hw1]; simp
  clear hw1 hrun hb0 hb1 hx0 hx1 q1 hi hd
  go_enter Tryz.func52, Tryz.ntmps52
  go_wp2_with fail
  refine HC.out.mono ?_
  rintro e w2 ⟨v2, rfl, n2, q2, m2⟩
  have N2 := Lib.hid n2
  have Q2 := Lib.hid q2
  have HBX := Lib.hid (HB1.out.trans (m2.below (by omega) (by omega)))
  have hx2 : w2.heap[w.heap.size]? = some (.cells #[.int .i64 0, .int .i64 0] 29 (0, 0)) := (m2.block _ (by omega) (fun e => by injection e with e; omega)).trans HX0.out
  have HX2 := Lib.hid hx2
  have HDP := Lib.hid (Tr.rdepth_any v2 x w2 n2.nodes (by omega))
  obtain ⟨A2, c2, rfl, y2, -⟩ := n2.form
  unfold maxLen at y2
  obtain ⟨-, d1, -, d3, -, -⟩ := q2.cells
  have hlt2 := q2.lt
  have p0 : w2.cell? ⟨w.heap.size, 0, none⟩ = some (.int .i64 0) := by simp [World.cell?, hx2]
  have p1 : w2.cell? ⟨w.heap.size, 1, none⟩ = some (.int .i64 0) := by simp [World.cell?, hx2]
  have g3 : decide ((5000 : Int) < (x.length : Int)) = false := decide_eq_false (by omega)
  have g4 : decide (5000 < x.length) = false := decide_eq_false (by omega)
  obtain ⟨dp, hdp⟩ : ∃ z, Tr.depthM x = z := ⟨_, rfl⟩
  rw [hdp] at HDP HD
  have g5 : decide ((40 : Int) < (dp : Int)) = false := decide_eq_false (by have := HD.out; omega)
  have g6 : decide (40 < dp) = false := decide_eq_false (by have := HD.out; omega)
  clear n2 q2 m2 hx2 hdp hw1'
  go_wp2_with fail
  refine HDP.out.mono ?_
  rintro e w3 ⟨rfl, hb3⟩
  have N3 := Lib.hid (N2.out.below hb3)
  have Q3 := Lib.hid (Q2.out.below hb3)
  have HB3 := Lib.hid (HBX.out.trans (hb3.mono HBX.out.size))
  have hx3 := (hb3.block _ (by omega)).trans HX2.out
  obtain ⟨-, e1, -, -, -, -⟩ := Q3.out.cells
  have hlt3 := Q3.out.lt
  have p30 : w3.cell? ⟨w.heap.size, 0, none⟩ = some (.int .i64 0) := by simp [World.cell?, hx3]
  have p31 : w3.cell? ⟨w.heap.size, 1, none⟩ = some (.int .i64 0) := by simp [World.cell?, hx3]
  have f30 : w3.frozen? ⟨w.heap.size, 0, none⟩ = false := by simp [World.frozen?, hx3]
  have f31 : w3.frozen? ⟨w.heap.size, 1, none⟩ = false := by simp [World.frozen?, hx3]
  have HX3 := Lib.hid hx3
  clear hb3 hx3 d1 d3 p0 p1
  go_wp2
  go_region
  have z0 : ((w3.setCell ⟨w.heap.size, 0, none⟩ (.int .i64 0)).setCell ⟨w.heap.size, 1, none⟩ (.int .i64 0)).drew.heap[w.heap.size]? = some (.cells #[.int .i64 0, .int .i64 0] 29 (0, 0)) := by
    show ((w3.setCell _ _).setCell _ _).heap[w.heap.size]? = _
    simp [World.setCell, Array.getElem?_modify, HX3.out]
  have z1 : ((w3.setCell ⟨w.heap.size, 0, none⟩ (.int .i64 0)).setCell ⟨w.heap.size, 1, none⟩ (.int .i64 0)).drew.cell? ⟨w.heap.size, 0, none⟩ = some (.int .i64 0) := by simp [World.cell?, z0]
  have z2 : ((w3.setCell ⟨w.heap.size, 0, none⟩ (.int .i64 0)).setCell ⟨w.heap.size, 1, none⟩ (.int .i64 0)).drew.cell? ⟨w.heap.size, 1, none⟩ = some (.int .i64 0) := by simp [World.cell?, z0]
  have hB : Below w.heap.size w (((w3.setCell ⟨w.heap.size, 0, none⟩ (.int .i64 0)).setCell ⟨w.heap.size, 1, none⟩ (.int .i64 0)).drew) := ((HB3.out.setCell (p := ⟨w.heap.size, 0, none⟩) (by simp) _).setCell (p := ⟨w.heap.size, 1, none⟩) (by simp) _).drew
  have hN : NdW (((w3.setCell ⟨w.heap.size, 0, none⟩ (.int .i64 0)).setCell ⟨w.heap.size, 1, none⟩ (.int .i64 0)).drew) (.slice A2 x.length c2) x := (N3.out.set2 HX3.out _ _)
  go_wp2
  exact bodyPost_ret (v := .tuple #[.slice A2 x.length c2, .int .i64 (j : Int), .agg #[.int .i64 0, .int .i64 0]]) (by simp [results, Tryz.results52, go_sem, z1, z2]) rfl ⟨_, rfl, hN, hB⟩
def reads (s : Bytes) (x : List Nd) : Bool := match Lx.lexM s with
  | r => r.code == 0 && r.at_ == 0 && decide (r.toks.length ≤ 100000) && decide (x.length ≤ 5000) && decide (Tr.depthM x ≤ 40) && decide (run r.toks 200 .arrow [] 0 0 = some ([x], r.toks.length))
end Go.Proofs.YtobkcdkffcenbaaGreatDoor.Lr

/- A lean reader of expressions: Read. Conditions: a source of which the plain reader reads all. -/
namespace Go.Proofs.YtobkcdkffcenbaaGreatDoor.Lr
open Go.ChangeShapes Go.WideShapes Go.ChangeAt Go.RowKit
open Go.Proofs.YtobkcdkffcenbaaGreatDoor.Tr (str ret_bool ret_int Bytes Nd Nodes joinM roomM own_block own_below own_ne own_base ndsOf)
set_option maxRecDepth 100000 in
set_option maxHeartbeats 4000000 in
theorem read_ok (S : ByteArray) (x : List Nd) (w : World) (hs : S.size ≤ maxLen) (h : reads S.toList x = true) :
    Calls Tryz.prog 33 #[.string S] w (fun e w' => ∃ v, e = .returned (.tuple #[v, .agg #[.int .i64 0, .int .i64 0]]) ∧ NdW w' v x ∧ Below w.heap.size w w') := by
  unfold reads at h
  simp only [Bool.and_eq_true, beq_iff_eq, decide_eq_true_eq] at h
  obtain ⟨⟨⟨⟨⟨r1, r2⟩, r3⟩, r4⟩, r5⟩, r6⟩ := h
  obtain ⟨L, hL⟩ : ∃ l, (Lx.lexM S.toList).toks = l := ⟨_, rfl⟩
  rw [hL] at r3 r6
  obtain ⟨w1, hw1⟩ : ∃ W, w.alloc (.cells #[.int .i64 0, .int .i64 0] 29) = W := ⟨_, rfl⟩
  have hb1 : Below w.heap.size w w1 := hw1 ▸ (Below.refl _ _).alloc (Nat.le_refl _) _
  have hx1 : w1.heap[w.heap.size]? = some (.cells #[.int .i64 0, .int .i64 0] 29 (0, 0)) := hw1 ▸ heap_alloc_new _ _
  have HLX := Lib.hid (Rf.rlex_gives S w1 hs)
  rw [hL, r1, r2] at HLX
  have HX1 := Lib.hid hx1
  have HB1 := Lib.hid hb1
  have HR6 := Lib.hid r6
  have HR5 := Lib.hid r5
  have hl1 := blk_lt hx1
  clear hL r1 r2 r5 r6 hb1 hx1
  go_enter Tryz.func33, Tryz.ntmps33
  go_wp2_with fail
  refine HLX.out.mono ?_
  rintro e w2 ⟨lv, rfl, ht, hb2⟩
  have HTK := Lib.hid (TkAt.of_toks ht)
  have HB2 := Lib.hid (HB1.out.trans (hb2.mono HB1.out.size))
  have HX2 := Lib.hid ((hb2.block _ hl1).trans HX1.out)
  have hl2 := blk_lt HX2.out
  obtain ⟨A, c, rfl, t1, t2, -⟩ := ht
  unfold maxLen at t2
  obtain ⟨w3, hw3⟩ : ∃ W, w2.alloc (.cells #[.int .i64 0, .int .i64 0] 29) = W := ⟨_, rfl⟩
  have hb3 : Below w2.heap.size w2 w3 := hw3 ▸ (Below.refl _ _).alloc (Nat.le_refl _) _
  have hs3 := hb3.size
  have HB3 := Lib.hid (HB2.out.trans (hb3.mono HB2.out.size))
  have HX3 := Lib.hid ((hb3.block _ hl2).trans HX2.out)
  have HP := Lib.hid (parse_ok L (.slice A L.length c) 200 0 L.length x w3 r3 (Nat.zero_le _) ((HTK.out.mv (fun g hg => hb3.block g hg)).up hs3) HR6.out r4 HR5.out)
  have HW3 := Lib.hid hw3
  clear hb2 hb3 hw3 hw1
  go_wp2_with fail
  rw [HW3.out]
  refine HP.out.mono ?_
  rintro e w4 ⟨v, rfl, n4, hb4⟩
  have HB4 := Lib.hid (HB3.out.trans (hb4.mono HB3.out.size))
  have hl3 := blk_lt HX3.out
  have HX4 := Lib.hid ((hb4.block _ hl3).trans HX3.out)
  have hl4 := blk_lt HX4.out
  obtain ⟨A4, c4, rfl, y4, -⟩ := n4.form
  unfold maxLen at y4
  have hx4 := HX4.out
  have p0 : w4.cell? ⟨w.heap.size, 0, none⟩ = some (.int .i64 0) := by simp [World.cell?, hx4]
  have p1 : w4.cell? ⟨w.heap.size, 1, none⟩ = some (.int .i64 0) := by simp [World.cell?, hx4]
  have f0 : w4.frozen? ⟨w.heap.size, 0, none⟩ = false := by simp [World.frozen?, hx4]
  have f1 : w4.frozen? ⟨w.heap.size, 1, none⟩ = false := by simp [World.frozen?, hx4]
  have hne : w.heap.size ≠ w4.heap.size := by omega
  have N4 := Lib.hid n4
  clear n4 hb4 hx4
  go_wp2
  have z00 : ((w4.setCell ⟨w.heap.size, 0, none⟩ (.int .i64 0)).setCell ⟨w.heap.size, 1, none⟩ (.int .i64 0)).heap[w.heap.size]? = some (.cells #[.int .i64 0, .int .i64 0] 29 (0, 0)) := by
    simp [World.setCell, Array.getElem?_modify, HX4.out]
  have z0 : (((w4.setCell ⟨w.heap.size, 0, none⟩ (.int .i64 0)).setCell ⟨w.heap.size, 1, none⟩ (.int .i64 0)).alloc (.cells #[.int .i64 0, .int .i64 0] 29)).heap[w.heap.size]? = some (.cells #[.int .i64 0, .int .i64 0] 29 (0, 0)) :=
    (Below.heap_alloc _ _ _ (blk_lt z00)).trans z00
  have z1 : (((w4.setCell ⟨w.heap.size, 0, none⟩ (.int .i64 0)).setCell ⟨w.heap.size, 1, none⟩ (.int .i64 0)).alloc (.cells #[.int .i64 0, .int .i64 0] 29)).cell? ⟨w.heap.size, 0, none⟩ = some (.int .i64 0) := by unfold World.cell?; rw [z0]; rfl
  have z2 : (((w4.setCell ⟨w.heap.size, 0, none⟩ (.int .i64 0)).setCell ⟨w.heap.size, 1, none⟩ (.int .i64 0)).alloc (.cells #[.int .i64 0, .int .i64 0] 29)).cell? ⟨w.heap.size, 1, none⟩ = some (.int .i64 0) := by unfold World.cell?; rw [z0]; rfl
  have hB0 : Below w.heap.size w ((w4.setCell ⟨w.heap.size, 0, none⟩ (.int .i64 0)).setCell ⟨w.heap.size, 1, none⟩ (.int .i64 0)) := (HB4.out.setCell (p := ⟨w.heap.size, 0, none⟩) (by simp) _).setCell (p := ⟨w.heap.size, 1, none⟩) (by simp) _
  have hN0 : NdW ((w4.setCell ⟨w.heap.size, 0, none⟩ (.int .i64 0)).setCell ⟨w.heap.size, 1, none⟩ (.int .i64 0)) (.slice A4 x.length c4) x := N4.out.set2 HX4.out _ _
  exact bodyPost_ret (v := .tuple #[.slice A4 x.length c4, .agg #[.int .i64 0, .int .i64 0]]) (by simp [results, Tryz.results33, go_sem, z1, z2]) rfl ⟨_, rfl, hN0.below ((Below.refl _ _).alloc (Nat.le_refl _) _), hB0.alloc hB0.size _⟩
end Go.Proofs.YtobkcdkffcenbaaGreatDoor.Lr

/- A lean reader of programs: what tokens read as, where nothing fails, as plain functions. Conditions: none. -/
namespace Go.Proofs.YtobkcdkffcenbaaGreatDoor.Lp
open Go.Proofs.YtobkcdkffcenbaaGreatDoor.Tr (Bytes Nd)
open Go.Proofs.YtobkcdkffcenbaaGreatDoor.Lr (isAt run)
open Go.Proofs.YtobkcdkffcenbaaGreatDoor.Pg (Prm Eqn Itm Unt)
def bd {α β : Type} (r : Option (α × Nat)) (k : α → Nat → Option β) : Option β := match r with
  | some (x, j) => k x j
  | none => none
theorem bd_some {α β : Type} {r : Option (α × Nat)} {k : α → Nat → Option β} {y : β} (h : bd r k = some y) : ∃ x j, r = some (x, j) ∧ k x j = some y := by
  unfold bd at h
  split at h
  · exact ⟨_, _, rfl, h⟩
  · cases h
def nd {β : Type} (L : List Lx.Tok) (i : Nat) (s : Bytes) (k : Option β) : Option β := if isAt L i s then k else none
theorem nd_some {β : Type} {L : List Lx.Tok} {i : Nat} {s : Bytes} {k : Option β} {y : β} (h : nd L i s k = some y) : isAt L i s = true ∧ k = some y := by
  unfold nd at h
  split at h
  · exact ⟨by assumption, h⟩
  · cases h
def isNm (L : List Lx.Tok) (i : Nat) : Bool := match L[i]? with
  | some t => t.kind == 1
  | none => false
def nameL (L : List Lx.Tok) (i : Nat) : Option (Bytes × Nat) := match L[i]? with
  | some t => if t.kind = 1 then some (t.text, i + 1) else none
  | none => none
theorem name_is {L : List Lx.Tok} {i j : Nat} {n : Bytes} (h : nameL L i = some (n, j)) : isNm L i = true ∧ j = i + 1 ∧ ∃ t, L[i]? = some t ∧ t.kind = 1 ∧ t.text = n := by
  unfold nameL at h
  split at h
  · rename_i t ht
    split at h
    · rename_i hk
      injection h with h
      simp only [Prod.mk.injEq] at h
      refine ⟨by unfold isNm; rw [ht]; simp [hk], h.2.symm, t, ht, hk, h.1⟩
    · cases h
  · cases h
def exprL (L : List Lx.Tok) (i : Nat) : Option (List Nd × Nat) := match run L 200 .arrow [] 0 i with
  | some ([x], j) => if x.length ≤ 5000 ∧ Tr.depthM x ≤ 40 then some (x, j) else none
  | _ => none
theorem expr_is {L : List Lx.Tok} {i j : Nat} {x : List Nd} (h : exprL L i = some (x, j)) : run L 200 .arrow [] 0 i = some ([x], j) ∧ x.length ≤ 5000 ∧ Tr.depthM x ≤ 40 := by
  unfold exprL at h
  split at h
  · rename_i y k hr
    split at h
    · rename_i hc
      injection h with h
      simp only [Prod.mk.injEq] at h
      obtain ⟨rfl, rfl⟩ := h
      exact ⟨hr, hc⟩
    · cases h
  · cases h
def paramL (L : List Lx.Tok) (i : Nat) : Option (Prm × Nat) := bd (nameL L i) fun n j => nd L j [58] (if isAt L (j + 1) [98, 111, 111, 108] then some (⟨n, 1⟩, j + 2) else if isAt L (j + 1) [105, 110, 116] then some (⟨n, 2⟩, j + 2) else none)
def inputsF (L : List Lx.Tok) : Nat → List Prm → Nat → Option (List Prm × Nat)
  | 0, _, _ => none
  | f + 1, acc, i => if 200 ≤ acc.length then none else bd (paramL L i) fun p j => if isAt L j [41] then some (acc ++ [p], j + 1) else nd L j [59] (inputsF L f (acc ++ [p]) (j + 1))
def inputsL (L : List Lx.Tok) (i : Nat) : Option (List Prm × Nat) := nd L i [40] (if isAt L (i + 1) [41] then some ([], i + 2) else inputsF L 200 [] (i + 1))
def argsF (L : List Lx.Tok) : Nat → List (List Nd) → Nat → Option (List (List Nd) × Nat)
  | 0, _, _ => none
  | f + 1, acc, i => if 200 ≤ acc.length then none else bd (exprL L i) fun p j => if isAt L j [41] then some (acc ++ [p], j + 1) else nd L j [44] (argsF L f (acc ++ [p]) (j + 1))
def argsL (L : List Lx.Tok) (i : Nat) : Option (List (List Nd) × Nat) := nd L i [40] (if isAt L (i + 1) [41] then some ([], i + 2) else argsF L 200 [] (i + 1))
def wAssume : Bytes := [97, 115, 115, 117, 109, 101]
def wGuar : Bytes := [103, 117, 97, 114, 97, 110, 116, 101, 101]
def wGhost : Bytes := [103, 104, 111, 115, 116]
def wMode : Bytes := [109, 111, 100, 101]
def wImport : Bytes := [105, 109, 112, 111, 114, 116]
def itemL (L : List Lx.Tok) (i : Nat) : Option (Itm × Nat) :=
  if isAt L i wAssume then bd (exprL L (i + 1)) fun e j => nd L j [59] (some (⟨1, [], 0, e, [], []⟩, j + 1))
  else if isAt L i wGuar then bd (exprL L (i + 1)) fun e j => nd L j [59] (some (⟨2, [], 0, e, [], []⟩, j + 1))
  else if isAt L i wGhost then bd (paramL L (i + 1)) fun p j => nd L j [61] (bd (exprL L (j + 1)) fun e k => nd L k [59] (some (⟨3, p.name, p.ty, e, [], []⟩, k + 1)))
  else if isAt L i wMode then bd (nameL L (i + 1)) fun n j => nd L j [114, 101, 113, 117, 105, 114, 101] (bd (exprL L (j + 1)) fun e k => nd L k [101, 110, 115, 117, 114, 101] (bd (exprL L (k + 1)) fun g m => nd L m [59] (some (⟨4, n, 0, e, g, []⟩, m + 1))))
  else if isAt L i wImport then bd (nameL L (i + 1)) fun n j => bd (argsL L j) fun a k => nd L k [59] (some (⟨5, n, 0, [], [], a⟩, k + 1))
  else none
def begB (L : List Lx.Tok) (i : Nat) : Bool := isAt L i wAssume || isAt L i wGuar || isAt L i wGhost || isAt L i wMode || isAt L i wImport
def itemsF (L : List Lx.Tok) : Nat → List Itm → Nat → Option (List Itm × Nat)
  | 0, _, _ => none
  | f + 1, acc, i => if begB L i then (if 200 ≤ acc.length then none else bd (itemL L i) fun x j => itemsF L f (acc ++ [x]) j) else nd L i [101, 110, 100] (some (acc, i + 1))
def eqsF (L : List Lx.Tok) : Nat → List Eqn → Nat → Option (List Eqn × Nat)
  | 0, _, _ => none
  | f + 1, acc, i => if isNm L i then (if 200 ≤ acc.length then none else bd (nameL L i) fun n j => nd L j [61] (bd (exprL L (j + 1)) fun e k => nd L k [59] (eqsF L f (acc ++ [⟨n, e⟩]) (k + 1)))) else nd L i [116, 101, 108] (some (acc, i + 1))
def wContract : Bytes := [99, 111, 110, 116, 114, 97, 99, 116]
def wNode : Bytes := [110, 111, 100, 101]
def unitL (L : List Lx.Tok) (i : Nat) : Option (Unt × Nat) :=
  if isAt L i wContract then bd (nameL L (i + 1)) fun n j => bd (inputsL L j) fun ps k => bd (itemsF L 201 [] k) fun xs m => some (⟨true, n, ps, ⟨[], 0⟩, [], [], xs⟩, m)
  else nd L i wNode (bd (nameL L (i + 1)) fun n j => bd (inputsL L j) fun ps k => nd L k [114, 101, 116, 117, 114, 110, 115] (nd L (k + 1) [40] (bd (paramL L (k + 2)) fun o m => nd L m [41] (
    if isAt L (m + 1) wContract then bd (itemsF L 201 [] (m + 2)) fun xs q => (if isAt L q [118, 97, 114] then none else nd L q [108, 101, 116] (bd (eqsF L 201 [] (q + 1)) fun es z => some (⟨false, n, ps, o, [], es, xs⟩, z)))
    else if isAt L (m + 1) [118, 97, 114] then none else nd L (m + 1) [108, 101, 116] (bd (eqsF L 201 [] (m + 2)) fun es z => some (⟨false, n, ps, o, [], es, []⟩, z))))))
def unitsF (L : List Lx.Tok) : Nat → List Unt → Nat → Option (List Unt × Nat)
  | 0, _, _ => none
  | f + 1, acc, i => if isAt L i wNode || isAt L i wContract then (if 200 ≤ acc.length then none else bd (unitL L i) fun u j => unitsF L f (acc ++ [u]) j) else some (acc, i)
def progL (L : List Lx.Tok) : Option (List Unt × Bytes × Bytes) := bd (unitsF L 201 [] 0) fun us i => nd L i [109, 97, 105, 110] (bd (nameL L (i + 1)) fun m j => nd L j [59] (
  if isAt L (j + 1) [102, 97, 108, 108, 98, 97, 99, 107] then bd (nameL L (j + 2)) fun k q => nd L q [59] (if q + 1 = L.length then some (us, m, k) else none)
  else if j + 1 = L.length then some (us, m, []) else none))
end Go.Proofs.YtobkcdkffcenbaaGreatDoor.Lp

