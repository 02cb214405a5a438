/- A lean reader of expressions: a prefix, arguments, a name. Conditions: the contracts at less fuel. -/
import Derived.Test.YtobkcdkffcenbaaGreatDoorRa10
import Derived.Test.YtobkcdkffcenbaaGreatDoorKb19
import Derived.Maps.AppendAt
import Derived.Deep.RegionHeld3
import Derived.Test.YtobkcdkffcenbaaGreatDoorKa05
import Derived.Test.YtobkcdkffcenbaaGreatDoorKb23
set_option linter.unusedVariables false
set_option linter.unusedSimpArgs false
namespace Go.Proofs.YtobkcdkffcenbaaGreatDoor.Lr
open Go.ChangeShapes Go.WideShapes Go.ChangeAt Go.RowKit Go.Maps Go.WideMaps
open Go.Proofs.YtobkcdkffcenbaaGreatDoor.Tr (str ret_bool ret_int Bytes Nd Nodes joinM roomM own_block own_below own_ne own_base ndsOf)
variable {L : List Lx.Tok} {lv : Value}
set_option maxRecDepth 100000 in
set_option maxHeartbeats 1600000 in
theorem prefix_ok (T : Bytes) (w : World) : Calls Tryz.prog 118 #[.string (str T)] w (fun e w' => e = .returned (.int .i64 (preM T)) ∧ w' = w) := by
  have h : ∀ l, ((str T).toList == l) = (T == l) := fun l => by rw [Tr.str_toList]
  obtain ⟨p, hp⟩ : ∃ p, preM T = p := ⟨_, rfl⟩
  have HP := Lib.hid hp
  rw [hp]
  clear hp
  by_cases h1 : T = [110, 111, 116]
  · have e1 : ((str T).toList == [110, 111, 116]) = true := by rw [h]; simpa using h1
    obtain rfl : 4 = p := by rw [← HP.out, h1]; rfl
    clear h h1
    go_enter Tryz.func118, Tryz.ntmps118
    go_wp2
    go_ret
    exact ⟨rfl, rfl⟩
  have e1 : ((str T).toList == [110, 111, 116]) = false := by rw [h]; simpa using h1
  by_cases h2 : T = [45]
  · have e2 : ((str T).toList == [45]) = true := by rw [h]; simpa using h2
    obtain rfl : 5 = p := by rw [← HP.out, h2]; rfl
    clear h h1 h2
    go_enter Tryz.func118, Tryz.ntmps118
    go_wp2
    go_ret
    exact ⟨rfl, rfl⟩
  have e2 : ((str T).toList == [45]) = false := by rw [h]; simpa using h2
  by_cases h3 : T = [112, 114, 101]
  · have e3 : ((str T).toList == [112, 114, 101]) = true := by rw [h]; simpa using h3
    obtain rfl : 21 = p := by rw [← HP.out, h3]; rfl
    clear h h1 h2 h3
    go_enter Tryz.func118, Tryz.ntmps118
    go_wp2
    go_ret
    exact ⟨rfl, rfl⟩
  have e3 : ((str T).toList == [112, 114, 101]) = false := by rw [h]; simpa using h3
  by_cases h4 : T = [111, 110, 99, 101]
  · have e4 : ((str T).toList == [111, 110, 99, 101]) = true := by rw [h]; simpa using h4
    obtain rfl : 22 = p := by rw [← HP.out, h4]; rfl
    clear h h1 h2 h3 h4
    go_enter Tryz.func118, Tryz.ntmps118
    go_wp2
    go_ret
    exact ⟨rfl, rfl⟩
  have e4 : ((str T).toList == [111, 110, 99, 101]) = false := by rw [h]; simpa using h4
  by_cases h5 : T = [104, 105, 115, 116]
  · have e5 : ((str T).toList == [104, 105, 115, 116]) = true := by rw [h]; simpa using h5
    obtain rfl : 23 = p := by rw [← HP.out, h5]; rfl
    clear h h1 h2 h3 h4 h5
    go_enter Tryz.func118, Tryz.ntmps118
    go_wp2
    go_ret
    exact ⟨rfl, rfl⟩
  have e5 : ((str T).toList == [104, 105, 115, 116]) = false := by rw [h]; simpa using h5
  by_cases h6 : T = [112, 114, 101, 118]
  · have e6 : ((str T).toList == [112, 114, 101, 118]) = true := by rw [h]; simpa using h6
    obtain rfl : 24 = p := by rw [← HP.out, h6]; rfl
    clear h h1 h2 h3 h4 h5 h6
    go_enter Tryz.func118, Tryz.ntmps118
    go_wp2
    go_ret
    exact ⟨rfl, rfl⟩
  have e6 : ((str T).toList == [112, 114, 101, 118]) = false := by rw [h]; simpa using h6
  by_cases h7 : T = [119, 105, 116, 104, 105, 110]
  · have e7 : ((str T).toList == [119, 105, 116, 104, 105, 110]) = true := by rw [h]; simpa using h7
    obtain rfl : 25 = p := by rw [← HP.out, h7]; rfl
    clear h h1 h2 h3 h4 h5 h6 h7
    go_enter Tryz.func118, Tryz.ntmps118
    go_wp2
    go_ret
    exact ⟨rfl, rfl⟩
  have e7 : ((str T).toList == [119, 105, 116, 104, 105, 110]) = false := by rw [h]; simpa using h7
  obtain rfl : 0 = p := by rw [← HP.out]; unfold preM; rw [if_neg h1, if_neg h2, if_neg h3, if_neg h4, if_neg h5, if_neg h6, if_neg h7]
  clear h h1 h2 h3 h4 h5 h6 h7
  go_enter Tryz.func118, Tryz.ntmps118
  go_wp2
  go_ret
  exact ⟨rfl, rfl⟩
theorem infoExp : (Tryz.prog.info? 32).map (fun i => (i.zero, i.size, i.bytes)) = some (some (.slice none 0 0), 1, 24) := by kernel_rfl
structure PsW (w : World) (B : Nat) (v : Value) (ps : List (List Nd)) (vs : List Value) : Prop where
  own : w.ownsRow B 32 1 v ps.length vs
  each : ∀ (i : Nat) (x : List Nd), ps[i]? = some x → ∃ u, vs[i]? = some u ∧ NdW w u x
theorem PsW.below {w w' : World} {B : Nat} {v : Value} {ps : List (List Nd)} {vs : List Value} (h : PsW w B v ps vs) (hb : Below w.heap.size w w') : PsW w' B v ps vs :=
  ⟨own_below h.own hb, fun i x hi => by obtain ⟨u, h1, h2⟩ := h.each i x hi; exact ⟨u, h1, h2.below hb⟩⟩
theorem own_mv {w w' : World} {B T s n b : Nat} {v : Value} {xs : List Value} {cs : Array Value} (h : w.ownsRow B T s v n xs) (hT : 132 ≠ T) (hb : w.heap[b]? = some (.cells cs 132 (0, 0))) (hm : Mv w w' b) : w'.ownsRow B T s v n xs :=
  own_block h (fun g hg => hm.block g (h.lt g hg).2 (fun e => by
    injection e with e
    subst e
    obtain ⟨hl, h0 | ⟨g', cap, cur, hv, hb', hh, _⟩⟩ := h
    · rw [h0.1] at hg; simp [Value.ownBlock] at hg
    · rw [hv] at hg
      have : some g' = some g := hg
      injection this with this
      subst this
      rw [hb] at hh
      injection hh with hh
      injection hh with _ hh _
      exact hT hh))
theorem PsW.mv {w w' : World} {B b : Nat} {v : Value} {ps : List (List Nd)} {vs : List Value} {cs : Array Value} (h : PsW w B v ps vs) (hb : w.heap[b]? = some (.cells cs 132 (0, 0))) (hm : Mv w w' b) : PsW w' B v ps vs :=
  ⟨own_mv h.own (by decide) hb hm, fun i x hi => by obtain ⟨u, h1, h2⟩ := h.each i x hi; exact ⟨u, h1, h2.mv hb hm⟩⟩
theorem NdW.grown {w w' : World} {u v : Value} {x : List Nd} {B s n : Nat} {xs : List Value} (h : NdW w u x) (ho : w.ownsRow B 32 s v n xs) (hg : w.grownBy w' v.ownBlock) : NdW w' u x := by
  obtain ⟨C, h⟩ := h
  exact ⟨C, own_block h (fun g hgo => hg.block g (h.lt g hgo).2 (fun e => own_ne h ho (by decide) g hgo e.symm))⟩
theorem PsW.snoc {w w' : World} {B : Nat} {v v' u : Value} {ps : List (List Nd)} {vs : List Value} {x : List Nd} (h : PsW w B v ps vs) (hu : NdW w u x) (hrow : w'.ownsRow B 32 1 v' (ps.length + 1) (vs ++ [u])) (hg : w.grownBy w' v.ownBlock) : PsW w' B v' (ps ++ [x]) (vs ++ [u]) := by
  have hl : vs.length = ps.length := by have := h.own.1; omega
  refine ⟨by rw [List.length_append]; exact hrow, fun i y hi => ?_⟩
  by_cases e : i < ps.length
  · rw [List.getElem?_append_left e] at hi
    obtain ⟨u', h1, h2⟩ := h.each i y hi
    exact ⟨u', by rw [List.getElem?_append_left (by omega)]; exact h1, h2.grown h.own hg⟩
  · rw [List.getElem?_append_right (by omega)] at hi
    have h0 : i - ps.length = 0 := by
      have := (List.getElem?_eq_some_iff.1 hi).1
      simp at this; omega
    rw [h0] at hi
    simp at hi
    subst hi
    exact ⟨u, by rw [List.getElem?_append_right (by omega), hl, h0]; rfl, hu.grown h.own hg⟩
theorem PsW.parts {w : World} {B : Nat} {v : Value} {ps : List (List Nd)} {vs : List Value} (h : PsW w B v ps vs) : Tr.Parts w w.heap.size v ps := by
  obtain ⟨hl, ⟨e, h0⟩ | ⟨g, cap, cur, e, hb, hh, hnc, hcm, hcs, hct⟩⟩ := h.own
  · refine ⟨none, 0, by rw [e, h0], by omega, by unfold maxLen; omega, fun i x hi => ?_⟩
    have := (List.getElem?_eq_some_iff.1 hi).1
    omega
  · subst e
    refine ⟨some ⟨g, 0, none⟩, cap, rfl, hnc, hcm, fun i x hi => ?_⟩
    obtain ⟨u, h1, h2⟩ := h.each i x hi
    have hil := (List.getElem?_eq_some_iff.1 hi).1
    exact ⟨g, 0, u, rfl, blk_lt hh, blk_lt hh, by rw [Nat.zero_add, h.own.cellAt i (by omega)]; exact h1, h2.nodes, low_of h2.nodes⟩
theorem PsW.form {w : World} {B : Nat} {v : Value} {ps : List (List Nd)} {vs : List Value} (h : PsW w B v ps vs) : ∃ A c, v = .slice A ps.length c ∧ c ≤ maxLen ∧ ps.length ≤ c := by
  obtain ⟨A, c, e, h1, h2, -⟩ := h.parts
  exact ⟨A, c, e, h2, h1⟩
def GoP (w : World) (b : Nat) (L : List Lx.Tok) (lv : Value) (j o : Nat) (ps : List (List Nd)) (e : Ending) (w' : World) : Prop := ∃ v vs, e = .returned v ∧ PsW w' w.heap.size v ps vs ∧ Rq w' b L lv j o ∧ Mv w w' b
abbrev CP (L : List Lx.Tok) (lv : Value) (f : Nat) : Prop := ∀ (o i : Nat) (ps : List (List Nd)) (j b : Nat) (w : World), run L f .args [] o i = some (ps, j) → Rq w b L lv i o → Calls Tryz.prog 122 #[.pointer (some ⟨b, 0, none⟩)] w (GoP w b L lv j o ps)
set_option maxRecDepth 100000 in
set_option maxHeartbeats 1600000 in
theorem args_ok {f : Nat} (hs : ∀ g, g ≤ f → C1 76 L lv g .arrow) : CP L lv (f + 1) := by
  intro o i zs k b w hrun hq
  simp only [run] at hrun
  obtain ⟨s0, hsi, hz⟩ := Option.map_eq_some_iff.1 infoExp
  simp only [Prod.mk.injEq] at hz
  obtain ⟨hsz0, hsz1, hsz2⟩ := hz
  have HQ := Lib.hid hq
  have HR := Lib.hid hs
  clear hq hs
  cases hB : isAt L i [41] with
  | true =>
    rw [hB, if_pos rfl] at hrun
    injection hrun with hrun
    simp only [Prod.mk.injEq] at hrun
    obtain ⟨rfl, rfl⟩ := hrun
    have HT := Lib.hid (take_ok (s := [41]) rfl hB HQ.out)
    clear hB
    go_enter Tryz.func122, Tryz.ntmps122
    go_wp2_with fail
    refine HT.out.mono ?_
    rintro e w1 ⟨rfl, q1, m1⟩
    have Q1 := Lib.hid q1
    have M1 := Lib.hid m1
    clear q1 m1
    go_wp2
    go_ret
    exact ⟨_, [], rfl, ⟨World.ownsRow_nil _ _ _ _, fun i x hi => by simp at hi⟩, Q1.out, M1.out⟩
  | false =>
    rw [hB, if_neg (by simp)] at hrun
    have HRUN := Lib.hid hrun
    have HT := Lib.hid (take_ok (s := [41]) rfl hB HQ.out)
    clear hB hrun
    go_enter Tryz.func122, Tryz.ntmps122
    go_wp2_with fail
    refine HT.out.mono ?_
    rintro e w1 ⟨rfl, q1, m1⟩
    have Q1 := Lib.hid q1
    have M1 := Lib.hid m1
    clear q1 m1
    go_wp2
    go_loopg [3] f (fun g s3 wr => ∃ (ps : List (List Nd)) (vs : List Value) (v' : Value) (j' : Nat), g ≤ f ∧ v' = s3 ∧ ps.length ≤ 200 ∧ PsW wr w.heap.size v' ps vs ∧ Rq wr b L lv j' o ∧ Mv w wr b ∧ run L g .argsL ps o j' = some (zs, k))
    case atStart => exact ⟨[], [], _, i, Nat.le_refl _, rfl, by simp, ⟨World.ownsRow_nil _ _ _ _, fun i x hi => by simp at hi⟩, Q1.out, M1.out, HRUN.out⟩
    case round =>
      obtain ⟨ps, vs, v', j', hgf, rfl, hpl, p0, q0, m0, hr⟩ := hrel
      cases gk with
      | zero => simp [run] at hr
      | succ gk =>
      simp only [run] at hr
      obtain ⟨x, j2, h1, h2⟩ := bnd_some hr
      obtain ⟨A0, c0, rfl, y0, -⟩ := p0.form
      unfold maxLen at y0
      obtain ⟨-, -, -, c3, -, -⟩ := q0.cells
      have HC := Lib.hid (HR.out gk (by omega) o j' x j2 b wr h1 q0)
      have P0 := Lib.hid p0
      have Q0 := Lib.hid q0
      have M0 := Lib.hid m0
      have hsm := m0.size
      clear hr h1 p0 q0 m0
      go_wp2_with fail
      refine HC.out.mono ?_
      rintro e w2 ⟨v2, rfl, n2, q2, m2⟩
      obtain ⟨A2, c2, rfl, y2, -⟩ := n2.form
      unfold maxLen at y2
      have N2 := Lib.hid n2
      have Q2 := Lib.hid q2
      have M2 := Lib.hid (M0.out.trans m2)
      have P2 := Lib.hid (P0.out.mv Q0.out.blk m2)
      have hs2 := m2.size
      have hlt2 := Q2.out.lt
      clear n2 q2 m2
      go_wp2_with (at_builtin; refine wpList_append_own _ rfl (.tmp 12) (.tmp 15) 41 rfl w.heap.size 32 s0 (.slice none 0 0) 1 24 Tryz.underlying41 hsi hsz0 hsz1 hsz2 rfl (by decide) _ _ _ rfl (P2.out.own.alloc _) ⟨w2.heap.size, 0, none⟩ 1 1 [.slice A2 x.length c2] rfl rfl ?a1 ?b1 ?c1 ?d1 ?e1 ?_)
      case a1 => exact World.news_of_block (t := 32) (fr := (0, 0)) (heap_alloc_new _ _)
      case b1 => first | rfl | (intro u hu; simp at hu; subst hu; rfl)
      case c1 => unfold maxLen; omega
      case d1 => omega
      case e1 => simp; omega
      intro v' w5 hown3 hgrow3 _
      have hba : Below w2.heap.size w2 (w2.alloc (.cells #[.slice A2 x.length c2] 32)) := (Below.refl _ _).alloc (Nat.le_refl _) _
      have hps := (P2.out.below hba).snoc (N2.out.below hba) hown3 hgrow3
      have hlow : ∀ g, g < w.heap.size → w5.heap[g]? = w2.heap[g]? := fun g hg =>
        (hgrow3.block g (by simp; omega) (fun e => by have := (P2.out.own.lt g e.symm).1; omega)).trans (hba.block g (by omega))
      have HPS := Lib.hid hps
      have Q5 := Lib.hid (Q2.out.keep (fun g hg => hlow g (by have := HQ.out.lt; omega)))
      have M5 : Hid (Mv w w5 b) := Lib.hid ⟨hgrow3.os.trans (hba.os.trans M2.out.os), hgrow3.tape.trans (hba.tape.trans M2.out.tape), hgrow3.output.trans (hba.output.trans M2.out.output), by have := hgrow3.size; simp at this; omega, fun g hg hne => (hlow g hg).trans (M2.out.block g hg hne)⟩
      obtain ⟨A5, c5, e5, y5, -⟩ := hps.form
      rw [List.length_append] at e5
      have e5 : v' = .slice A5 (ps.length + 1) c5 := e5
      subst e5
      clear hown3 hgrow3 hba hps hlow
      cases hB : isAt L j2 [41] with
      | true =>
        rw [hB, if_pos rfl] at h2
        injection h2 with h2
        simp only [Prod.mk.injEq] at h2
        obtain ⟨rfl, rfl⟩ := h2
        have HT2 := Lib.hid (take_ok (s := [41]) rfl hB Q5.out)
        clear hB
        go_wp2_with fail
        refine HT2.out.mono ?_
        rintro e w6 ⟨rfl, q6, m6⟩
        have P6 := Lib.hid (HPS.out.mv Q5.out.blk m6)
        have Q6 := Lib.hid q6
        have M6 := Lib.hid (M5.out.trans m6)
        clear q6 m6
        go_wp2
        go_ret
        exact ⟨_, _, rfl, P6.out, Q6.out, M6.out⟩
      | false =>
        rw [hB, if_neg (by simp)] at h2
        have HT2 := Lib.hid (take_ok (s := [41]) rfl hB Q5.out)
        split at h2
        · rename_i hC
          simp only [Bool.and_eq_true, decide_eq_true_eq] at hC
          obtain ⟨hC, hlt⟩ := hC
          have HRN := Lib.hid h2
          have HC2 := Lib.hid hC
          clear hB h2 hC
          go_wp2_with fail
          refine HT2.out.mono ?_
          rintro e w6 ⟨rfl, q6, m6⟩
          have P6 := Lib.hid (HPS.out.mv Q5.out.blk m6)
          have Q6 := Lib.hid q6
          have M6 := Lib.hid (M5.out.trans m6)
          have HN := Lib.hid (need_ok (s := [44]) rfl HC2.out Q6.out)
          clear q6 m6
          go_wp2_with fail
          refine HN.out.mono ?_
          rintro e w7 ⟨rfl, q7, m7⟩
          have P7 := Lib.hid (P6.out.mv Q6.out.blk m7)
          have Q7 := Lib.hid q7
          have M7 := Lib.hid (M6.out.trans m7)
          clear q7 m7
          go_wp2
          go_roundg gk
          case measure => omega
          case rel => exact ⟨ps ++ [x], _, _, _, by omega, rfl, by rw [List.length_append]; simp; omega, P7.out, Q7.out, M7.out, HRN.out⟩
        · cases h2
end Go.Proofs.YtobkcdkffcenbaaGreatDoor.Lr

/- A lean reader of expressions: an operand. Conditions: the contracts at less fuel. -/
namespace Go.Proofs.YtobkcdkffcenbaaGreatDoor.Lr
open Go.ChangeShapes Go.WideShapes Go.ChangeAt Go.RowKit
open Go.Proofs.YtobkcdkffcenbaaGreatDoor.Tr (str ret_bool ret_int Bytes Nd Nodes joinM roomM own_block own_below own_ne own_base ndsOf)
variable {L : List Lx.Tok} {lv : Value}
theorem leaf_ok {op n : Int} {s : Bytes} {S : ByteArray} {z : List Nd} {w : World} (hS : S = str s) (hj : jn op n s [] = some z) : Calls Tryz.prog 10 #[.int .i64 op, .int .i64 n, .string S, .slice none 0 0] w (Mk w z) := by
  subst hS
  obtain ⟨hrm, rfl⟩ := jn_some hj
  exact (Tr.rjoin_all _ [] op n s w (parts_none w) hrm).mono (fun e w' h => mk_of (Below.refl _ _) h)
theorem mk_one {op n : Int} {s : Bytes} {S : ByteArray} {x z : List Nd} {A : Option Addr} {k c : Nat} {w : World} (hS : S = str s) (h : NdW w (.slice A k c) x) (hj : jn op n s [x] = some z) :
    Calls Tryz.prog 10 #[.int .i64 op, .int .i64 n, .string S, .slice (some ⟨w.heap.size, 0, none⟩) 1 1] (w.alloc (.cells #[.slice A k c] 32)) (Mk w z) := by
  subst hS
  obtain ⟨hrm, rfl⟩ := jn_some hj
  exact (Tr.rjoin_all _ [x] op n s _ (parts_one h.nodes) hrm).mono (fun e w' h => mk_of ((Below.refl _ _).alloc (Nat.le_refl _) _) h)
theorem Go1.of {w w1 w' : World} {b : Nat} {j o : Nat} {z : List Nd} {e : Ending} (h : Mk w1 z e w') (q : Rq w1 b L lv j o) (m : Mv w w1 b) : Go1 w b L lv j o z e w' := by
  obtain ⟨v, h1, h2, h3⟩ := h
  exact ⟨v, h1, h2, q.below h3, m.trans (Mv.of h3)⟩
set_option maxRecDepth 100000 in
set_option maxHeartbeats 1600000 in
theorem named_ok {f : Nat} (ha : CP L lv f) (o i : Nat) (t : Lx.Tok) (ht : L[i]? = some t) (z : List Nd) (k b : Nat) (w : World) (hrun : run L (f + 1) .named [] o i = some ([z], k)) (hq : Rq w b L lv i o) :
    Calls Tryz.prog 117 #[.pointer (some ⟨b, 0, none⟩), .string (str t.text)] w (Go1 w b L lv k o z) := by
  simp only [run, ht] at hrun
  have hil := (List.getElem?_eq_some_iff.1 ht).1
  obtain ⟨-, d1, -, -, -, fz⟩ := hq.cells
  have f1 := fz 1
  have hlen := hq.len
  have hlt := hq.lt
  have Q1 := Lib.hid (hq.setI hil)
  have M1 := Lib.hid (mv_set w b 1 (.int .i64 ((i : Int) + 1)))
  have HA := Lib.hid ha
  clear hq fz ht ha
  cases hB : isAt L (i + 1) [40] with
  | true =>
    rw [hB, if_pos rfl] at hrun
    have HT := Lib.hid (take_ok (s := [40]) rfl hB Q1.out)
    cases hP : run L f .args [] o (i + 2) with
    | none => rw [hP] at hrun; cases hrun
    | some pj =>
      obtain ⟨ps, j⟩ := pj
      rw [hP] at hrun
      obtain ⟨hj, rfl⟩ := ok1_some hrun
      have HP := Lib.hid hP
      have HJ := Lib.hid hj
      clear hrun hB hP hj
      go_enter Tryz.func117, Tryz.ntmps117
      go_wp2_with fail
      refine HT.out.mono ?_
      rintro e w2 ⟨rfl, q2, m2⟩
      have Q2 := Lib.hid q2
      have M2 := Lib.hid (M1.out.trans m2)
      have HAC := Lib.hid (HA.out o (i + 2) ps j b w2 HP.out q2)
      clear q2 m2
      go_wp2_with fail
      refine HAC.out.mono ?_
      rintro e w3 ⟨v3, vs, rfl, p3, q3, m3⟩
      obtain ⟨A3, c3, rfl, y3, -⟩ := p3.form
      unfold maxLen at y3
      obtain ⟨-, -, -, z3, -, -⟩ := q3.cells
      have P3 := Lib.hid p3.parts
      have Q3 := Lib.hid q3
      have M3 := Lib.hid (M2.out.trans m3)
      have HJC : Hid (Calls Tryz.prog 10 #[.int .i64 27, .int .i64 0, .string (str t.text), .slice A3 ps.length c3] w3 (Mk w3 z)) := Lib.hid (by
        obtain ⟨hrm, hz⟩ := jn_some HJ.out
        subst hz
        exact (Tr.rjoin_all _ ps 27 0 t.text w3 P3.out hrm).mono (fun e w' h => mk_of (Below.refl _ _) h))
      clear p3 q3 m3
      go_wp2_with fail
      refine HJC.out.mono ?_
      rintro e w4 h4
      have H4 := Lib.hid (Go1.of h4 Q3.out M3.out)
      obtain ⟨v4, rfl, n4, -⟩ := h4
      obtain ⟨A4, c4, rfl, -⟩ := n4.form
      clear n4
      go_wp2
      go_ret
      exact H4.out
  | false =>
    rw [hB, if_neg (by simp)] at hrun
    obtain ⟨hj, rfl⟩ := ok1_some hrun
    have HT := Lib.hid (take_ok (s := [40]) rfl hB Q1.out)
    have HJ := Lib.hid hj
    clear hrun hB hj
    go_enter Tryz.func117, Tryz.ntmps117
    go_wp2_with fail
    refine HT.out.mono ?_
    rintro e w2 ⟨rfl, q2, m2⟩
    have Q2 := Lib.hid q2
    have M2 := Lib.hid (M1.out.trans m2)
    clear q2 m2
    go_wp2_with fail
    refine (leaf_ok rfl HJ.out).mono ?_
    rintro e w4 h4
    have H4 := Lib.hid (Go1.of h4 Q2.out M2.out)
    obtain ⟨v4, rfl, n4, -⟩ := h4
    obtain ⟨A4, c4, rfl, -⟩ := n4.form
    clear n4
    go_wp2
    go_ret
    exact H4.out
end Go.Proofs.YtobkcdkffcenbaaGreatDoor.Lr

/- A lean reader of expressions: what an operand begins with. Conditions: the contracts at less fuel. -/
namespace Go.Proofs.YtobkcdkffcenbaaGreatDoor.Lr
open Go.ChangeShapes Go.WideShapes Go.ChangeAt Go.RowKit
open Go.Proofs.YtobkcdkffcenbaaGreatDoor.Tr (str ret_bool ret_int Bytes Nd Nodes joinM roomM own_block own_below own_ne own_base ndsOf)
variable {L : List Lx.Tok} {lv : Value}
theorem num_ok {t : Lx.Tok} {w : World} (h : numB t = true) : t.kind = 2 ∧ Calls Tryz.prog 78 #[.string (str t.text)] w (fun e w' => e = .returned (.int .i64 (Lx.val t.text : Int)) ∧ w = w') := by
  unfold numB at h
  simp only [Bool.and_eq_true, beq_iff_eq, decide_eq_true_eq] at h
  obtain ⟨⟨⟨h1, h2⟩, h3⟩, h4⟩ := h
  exact ⟨h1, Rf.value_tok h2 h3 h4⟩
theorem Rq.at {w : World} {b : Nat} {i o : Nat} (h : Rq w b L lv i o) {t : Lx.Tok} (ht : L[i]? = some t) : ∃ g c, lv = .slice (some ⟨g, 0, none⟩) L.length c ∧ L.length ≤ c ∧ c ≤ maxLen ∧ g < b ∧
    w.cell? ⟨g, i * 3, none⟩ = some (.int .i64 t.kind) ∧ w.cell? ⟨g, i * 3 + 1, none⟩ = some (.string (str t.text)) ∧ w.cell? ⟨g, i * 3 + 2, none⟩ = some (.int .i64 (t.at_ : Int)) := by
  obtain ⟨A, c, rfl, h1, h2, hA⟩ := h.tok
  obtain ⟨g, rfl, hg, e0, e1, e2⟩ := hA i t ht
  exact ⟨g, c, rfl, h1, h2, hg, e0, e1, e2⟩
set_option maxRecDepth 100000 in
set_option maxHeartbeats 4000000 in
theorem begun_ok {f : Nat} (ho : C1 114 L lv f .oper) (hn : ∀ (o i : Nat) (t : Lx.Tok), L[i]? = some t → ∀ (z : List Nd) (k b : Nat) (w : World), run L f .named [] o i = some ([z], k) → Rq w b L lv i o → Calls Tryz.prog 117 #[.pointer (some ⟨b, 0, none⟩), .string (str t.text)] w (Go1 w b L lv k o z))
    (o i : Nat) (t : Lx.Tok) (ht : L[i]? = some t) (z : List Nd) (k b : Nat) (w : World) (hrun : run L (f + 1) .beg [] o i = some ([z], k)) (hq : Rq w b L lv i o) :
    Calls Tryz.prog 116 #[.pointer (some ⟨b, 0, none⟩), .agg #[.int .i64 t.kind, .string (str t.text), .int .i64 (t.at_ : Int)]] w (Go1 w b L lv k o z) := by
  simp only [run, ht] at hrun
  have hil := (List.getElem?_eq_some_iff.1 ht).1
  have hlt := hq.lt
  have hlen := hq.len
  obtain ⟨w0, hw0⟩ : ∃ W, w.alloc (.cells #[.int .i64 t.kind, .string (str t.text), .int .i64 (t.at_ : Int)] 105) = W := ⟨_, rfl⟩
  have hb0 : Below w.heap.size w w0 := hw0 ▸ (Below.refl _ _).alloc (Nat.le_refl _) _
  have hx : w0.heap[w.heap.size]? = some (.cells #[.int .i64 t.kind, .string (str t.text), .int .i64 (t.at_ : Int)] 105 (0, 0)) := hw0 ▸ heap_alloc_new _ _
  have e0 : w0.cell? ⟨w.heap.size, 0, none⟩ = some (.int .i64 t.kind) := by simp [World.cell?, hx]
  have e1 : w0.cell? ⟨w.heap.size, 1, none⟩ = some (.string (str t.text)) := by simp [World.cell?, hx]
  have Q0 := Lib.hid (hq.below hb0)
  have M0 := Lib.hid (Mv.of (b := b) hb0)
  have HT := Lib.hid ht
  have HW0 := Lib.hid hw0
  obtain ⟨-, d1, -, d3, -, fz⟩ := Q0.out.cells
  have f1 := fz 1
  have hbn : b ≠ w.heap.size := by omega
  have Q1 := Lib.hid (Q0.out.setI hil)
  have M1 := Lib.hid (M0.out.trans (mv_set w0 b 1 (.int .i64 ((i : Int) + 1))))
  clear fz hq hx
  by_cases hnum : numB t = true
  · rw [if_pos hnum] at hrun
    obtain ⟨hj, rfl⟩ := ok1_some hrun
    obtain ⟨hk, -⟩ := num_ok (w := w) hnum
    have hkd : (t.kind == 2) = true := by simp [hk]
    have HV := Lib.hid (fun W => (num_ok (w := W) hnum).2)
    have HJ := Lib.hid hj
    have e1' : (w0.setCell ⟨b, 1, none⟩ (.int .i64 ((i : Int) + 1))).cell? ⟨w.heap.size, 1, none⟩ = some (.string (str t.text)) := by
      rw [World.cell?_of_block (w := w0) (a := ⟨w.heap.size, 1, none⟩) (Below.heap_setCell w0 ⟨b, 1, none⟩ _ w.heap.size (fun e => hbn e.symm))]; exact e1
    clear hrun hj hnum hk hb0 ht
    go_enter Tryz.func116, Tryz.ntmps116
    go_wp2_with fail
    refine (HV.out _).mono ?_
    rintro e w2 ⟨rfl, hw2⟩
    subst hw2
    go_wp2_with fail
    refine (leaf_ok rfl HJ.out).mono ?_
    rintro e w4 h4
    have H4 := Lib.hid (Go1.of h4 Q1.out M1.out)
    obtain ⟨v4, rfl, n4, -⟩ := h4
    obtain ⟨A4, c4, rfl, -⟩ := n4.form
    clear n4
    go_wp2
    go_ret
    exact H4.out
  rw [if_neg hnum] at hrun
  by_cases hk1 : t.kind = 1
  · rw [if_pos hk1] at hrun
    have hkd : (t.kind == 2) = false := by simp [hk1]
    have hkd1 : (t.kind == 1) = true := by simp [hk1]
    have HC := Lib.hid (hn o i t HT.out z k b w0 hrun Q0.out)
    clear hrun hnum hk1 hb0 ht
    go_enter Tryz.func116, Tryz.ntmps116
    go_wp2_with fail
    refine HC.out.mono ?_
    rintro e w2 ⟨v2, rfl, n2, q2, m2⟩
    have H2 : Hid (Go1 w b L lv k o z (.returned v2) w2) := Lib.hid ⟨v2, rfl, n2, q2, M0.out.trans m2⟩
    obtain ⟨A2, c2, rfl, -⟩ := n2.form
    clear n2 q2 m2
    go_wp2
    go_ret
    exact H2.out
  rw [if_neg hk1] at hrun
  by_cases hk3 : t.kind = 3 ∨ t.kind = 4
  · rw [if_pos hk3] at hrun
    have hkd : (t.kind == 2) = false := by rcases hk3 with h | h <;> simp [h]
    have hkd1 : (t.kind == 1) = false := by rcases hk3 with h | h <;> simp [h]
    have hkd3 : (t.kind != 4) = true ∧ (t.kind != 3) = false ∨ (t.kind != 4) = false := by rcases hk3 with h | h <;> simp [h]
    have HPX := Lib.hid (prefix_ok t.text)
    by_cases hp25 : preM t.text = 25
    · rw [if_pos hp25] at hrun; cases hrun
    rw [if_neg hp25] at hrun
    by_cases hp0 : preM t.text = 0
    · rw [if_neg (by simp [hp0])] at hrun
      cases hB : isAt L i [116, 114, 117, 101] with
      | false => rw [hB] at hrun; simp at hrun
      | true =>
        rw [hB, if_pos rfl] at hrun
        obtain ⟨hj, rfl⟩ := ok1_some hrun
        have HTK := Lib.hid (take_ok (s := [116, 114, 117, 101]) rfl hB Q0.out)
        have HJ := Lib.hid hj
        rw [hp0] at HPX
        clear hrun hnum hk1 hk3 hb0 ht hp25 hp0 hB hj
        rcases hkd3 with ⟨k4, k3⟩ | k4
        all_goals
          go_enter Tryz.func116, Tryz.ntmps116
          go_wp2_with fail
          refine (HPX.out _).mono ?_
          rintro e wp ⟨rfl, hwp⟩
          subst hwp
          go_wp2_with fail
          refine HTK.out.mono ?_
          rintro e w2 ⟨rfl, q2, m2⟩
          have Q2 := Lib.hid q2
          have M2 := Lib.hid (M0.out.trans m2)
          clear q2 m2
          go_wp2_with fail
          refine (leaf_ok rfl HJ.out).mono ?_
          rintro e w4 h4
          have H4 := Lib.hid (Go1.of h4 Q2.out M2.out)
          obtain ⟨v4, rfl, n4, -⟩ := h4
          obtain ⟨A4, c4, rfl, -⟩ := n4.form
          clear n4
          go_wp2
          go_ret
          exact H4.out
    · rw [if_pos hp0] at hrun
      obtain ⟨x, j, h1, h2⟩ := bnd_some hrun
      obtain ⟨hj, rfl⟩ := ok1_some h2
      have hpos : 0 < preM t.text := by
        have : 0 ≤ preM t.text := by unfold preM; repeat (split; omega); omega
        omega
      have HC := Lib.hid (ho o (i + 1) x j b _ h1 Q1.out)
      have HJ := Lib.hid hj
      obtain ⟨p, hp⟩ : ∃ p, preM t.text = p := ⟨_, rfl⟩
      rw [hp] at HPX HJ hpos hp25
      have hpd : (p == 25) = false := by simpa using hp25
      have hpd0 : decide (0 < p) = true := decide_eq_true hpos
      clear hrun hnum hk1 hk3 hb0 ht hp25 hp0 h1 h2 hj hp
      rcases hkd3 with ⟨k4, k3⟩ | k4
      all_goals
        go_enter Tryz.func116, Tryz.ntmps116
        go_wp2_with fail
        refine (HPX.out _).mono ?_
        rintro e wp ⟨rfl, hwp⟩
        subst hwp
        go_wp2_with fail
        refine HC.out.mono ?_
        rintro e w2 ⟨v2, rfl, n2, q2, m2⟩
        obtain ⟨A2, c2, rfl, y2, -⟩ := n2.form
        unfold maxLen at y2
        have N2 := Lib.hid n2
        have Q2 := Lib.hid q2
        have M2 := Lib.hid (M1.out.trans m2)
        obtain ⟨-, -, -, z3, -, -⟩ := q2.cells
        have hlt2 := q2.lt
        clear n2 q2 m2
        go_wp2_with fail
        refine (mk_one rfl N2.out HJ.out).mono ?_
        rintro e w4 h4
        have H4 := Lib.hid (Go1.of h4 Q2.out M2.out)
        obtain ⟨v4, rfl, n4, -⟩ := h4
        obtain ⟨A4, c4, rfl, -⟩ := n4.form
        clear n4
        go_wp2
        go_ret
        exact H4.out
  · rw [if_neg hk3] at hrun; cases hrun
end Go.Proofs.YtobkcdkffcenbaaGreatDoor.Lr

/- A lean reader of expressions: an operand, all levels, Parse, Read. Conditions: a source of which the plain reader reads all. -/
namespace Go.Proofs.YtobkcdkffcenbaaGreatDoor.Lr
open Go.ChangeShapes Go.WideShapes Go.ChangeAt Go.RowKit
open Go.Proofs.YtobkcdkffcenbaaGreatDoor.Tr (str ret_bool ret_int Bytes Nd Nodes joinM roomM own_block own_below own_ne own_base ndsOf)
section
variable {L : List Lx.Tok} {lv : Value}
theorem Rq.setO {w : World} {b i o o' : Nat} (h : Rq w b L lv i o) (ho : o' ≤ 200) : Rq (w.setCell ⟨b, 2, none⟩ (.int .i64 (o' : Int))) b L lv i o' :=
  h.turn (by simp [World.setCell, Array.getElem?_modify, h.blk, bxC]) (mv_set _ _ _ _) h.ile ho
set_option maxRecDepth 100000 in
set_option maxHeartbeats 4000000 in
theorem oper_ok {f : Nat} (hb : ∀ (o i : Nat) (t : Lx.Tok), L[i]? = some t → ∀ (z : List Nd) (k b : Nat) (w : World), run L f .beg [] o i = some ([z], k) → Rq w b L lv i o → Calls Tryz.prog 116 #[.pointer (some ⟨b, 0, none⟩), .agg #[.int .i64 t.kind, .string (str t.text), .int .i64 (t.at_ : Int)]] w (Go1 w b L lv k o z)) : C1 114 L lv (f + 1) .oper := by
  intro o i z k b w hrun hq
  simp only [run] at hrun
  by_cases h200 : 200 ≤ o
  · rw [if_pos h200] at hrun; cases hrun
  rw [if_neg h200] at hrun
  by_cases hil : L.length ≤ i
  · rw [if_pos hil] at hrun; cases hrun
  rw [if_neg hil] at hrun
  obtain ⟨t, ht⟩ : ∃ t, L[i]? = some t := ⟨_, List.getElem?_eq_getElem (by omega)⟩
  have HBG := Lib.hid (fun (W : World) (q : Rq W b L lv i (o + 1)) => hb (o + 1) i t ht z k b W hrun q)
  have HQ := Lib.hid hq
  have HT := Lib.hid ht
  obtain ⟨d0, d1, d2, d3, -, fz⟩ := hq.cells
  obtain ⟨g, c, rfl, z1, z2, hg, -⟩ := hq.at ht
  unfold maxLen at z2
  have f2 := fz 2
  have hlt := hq.lt
  have hlen := hq.len
  have g1 : decide ((200 : Int) ≤ (o : Int)) = false := decide_eq_false (by omega)
  have g2 : decide (200 ≤ o) = false := decide_eq_false (by omega)
  have g3 : decide ((L.length : Int) ≤ (i : Int)) = false := decide_eq_false (by omega)
  have g4 : decide (L.length ≤ i) = false := decide_eq_false (by omega)
  clear hb hrun hq ht fz
  go_enter Tryz.func114, Tryz.ntmps114
  go_wp2
  go_quiet (fail)
  go_wp2
  obtain ⟨w1, hw1⟩ : ∃ W, (w.drewN nq).setCell ⟨b, 2, none⟩ (.int .i64 ((o : Int) + 1)) = W := ⟨_, rfl⟩
  have HB0 : Below w.heap.size w (w.drewN nq) := Tr.below_drewN (Below.refl _ _) nq
  have q1 : Rq w1 b L (.slice (some ⟨g, 0, none⟩) L.length c) i (o + 1) := hw1 ▸ (HQ.out.below HB0).setO (o' := o + 1) (by omega)
  have M1 : Hid (Mv w w1 b) := Lib.hid (hw1 ▸ (Mv.of HB0).trans (mv_set _ _ _ _))
  obtain ⟨x0, x1, x2, x3, -, fz⟩ := q1.cells
  obtain ⟨g', c', e', -, -, -, e0, e1, e2⟩ := q1.at HT.out
  obtain ⟨rfl, rfl⟩ : g' = g ∧ c' = c := by simp only [Value.slice.injEq, Option.some.injEq, Addr.mk.injEq, and_true, true_and] at e'; exact ⟨e'.1.symm, e'.2.symm⟩
  have Q1 := Lib.hid q1
  have hlt1 := q1.lt
  have hg1 : g' < w1.heap.size := by omega
  have hbn1 : b ≠ w1.heap.size := by omega
  have hgn1 : g' ≠ w1.heap.size := by omega
  rw [hw1]
  clear hw1 d0 d1 d2 d3 f2 q1 fz HB0 hlt e'
  go_region
  have hb2 : Below w1.heap.size w1 ((w1.alloc (.cells #[.int .i64 t.kind, .string (str t.text), .int .i64 (t.at_ : Int)] 105)).drew) := ((Below.refl _ _).alloc (Nat.le_refl _) _).drew
  have Q2 := Lib.hid (Q1.out.below hb2)
  have M2 := Lib.hid (M1.out.trans (Mv.of hb2))
  clear hb2 x0 x1 x2 x3 e0 e1 e2
  go_wp2_with fail
  refine (HBG.out _ Q2.out).mono ?_
  rintro e w3 ⟨v3, rfl, n3, q3, m3⟩
  obtain ⟨A3, c3, rfl, -⟩ := n3.form
  have M3 := Lib.hid (M2.out.trans (m3.trans (mv_set w3 b 2 (.int .i64 (o : Int)))))
  have Q3 := Lib.hid (q3.setO (o' := o) (by omega))
  have N3 := Lib.hid (n3.mv q3.blk (mv_set w3 b 2 (.int .i64 (o : Int))))
  obtain ⟨-, -, d2, -, -, fz⟩ := q3.cells
  have d2 : w3.cell? ⟨b, 2, none⟩ = some (.int .i64 ((o : Int) + 1)) := d2
  have f2 := fz 2
  clear n3 q3 m3 fz
  go_wp2
  go_ret
  exact ⟨_, rfl, by simpa using N3.out, by simpa using Q3.out, by simpa using M3.out⟩
structure All (L : List Lx.Tok) (lv : Value) (f : Nat) : Prop where
  arrow : C1 76 L lv f .arrow
  imp : C1 93 L lv f .imp
  since : C1 104 L lv f .since
  or : C1 109 L lv f .or
  and : C1 110 L lv f .and
  cmp : C1 111 L lv f .cmp
  sum : C1 112 L lv f .sum
  prod : C1 113 L lv f .prod
  oper : C1 114 L lv f .oper
  args : CP L lv f
  named : ∀ (o i : Nat) (t : Lx.Tok), L[i]? = some t → ∀ (z : List Nd) (k b : Nat) (w : World), run L f .named [] o i = some ([z], k) → Rq w b L lv i o → Calls Tryz.prog 117 #[.pointer (some ⟨b, 0, none⟩), .string (str t.text)] w (Go1 w b L lv k o z)
  beg : ∀ (o i : Nat) (t : Lx.Tok), L[i]? = some t → ∀ (z : List Nd) (k b : Nat) (w : World), run L f .beg [] o i = some ([z], k) → Rq w b L lv i o → Calls Tryz.prog 116 #[.pointer (some ⟨b, 0, none⟩), .agg #[.int .i64 t.kind, .string (str t.text), .int .i64 (t.at_ : Int)]] w (Go1 w b L lv k o z)
theorem all_ok : ∀ (f g : Nat), g ≤ f → All L lv g := by
  have zero : All L lv 0 := ⟨fun o i x j b w h => by simp [run] at h, fun o i x j b w h => by simp [run] at h, fun o i x j b w h => by simp [run] at h, fun o i x j b w h => by simp [run] at h, fun o i x j b w h => by simp [run] at h, fun o i x j b w h => by simp [run] at h, fun o i x j b w h => by simp [run] at h, fun o i x j b w h => by simp [run] at h, fun o i x j b w h => by simp [run] at h, fun o i x j b w h => by simp [run] at h, fun o i t ht x j b w h => by simp [run] at h, fun o i t ht x j b w h => by simp [run] at h⟩
  intro f
  induction f with
  | zero => intro g hg; obtain rfl : g = 0 := by omega
            exact zero
  | succ f ih =>
    intro g hg
    by_cases h : g ≤ f
    · exact ih g h
    · obtain rfl : g = f + 1 := by omega
      have A := ih f (Nat.le_refl _)
      exact ⟨arrow_ok A.imp A.arrow, imp_ok A.since A.imp, since_ok (fun g hg => (ih g hg).or), or_ok A.and, and_ok (fun g hg => (ih g hg).cmp), cmp_ok A.sum, sum_ok (fun g hg => (ih g hg).prod), prod_ok (fun g hg => (ih g hg).oper), oper_ok A.beg, args_ok (fun g hg => (ih g hg).arrow), fun o i t ht z k b w => named_ok A.args o i t ht z k b w, fun o i t ht z k b w => begun_ok A.oper A.named o i t ht z k b w⟩
end
theorem NdW.set2 {w : World} {v : Value} {x : List Nd} {g : Nat} {cs : Array Value} (h : NdW w v x) (hg : w.heap[g]? = some (.cells cs 29 (0, 0))) (a b : Value) : NdW ((w.setCell ⟨g, 0, none⟩ a).setCell ⟨g, 1, none⟩ b).drew v x := by
  obtain ⟨B, h⟩ := h
  refine ⟨B, own_block (w' := ((w.setCell ⟨g, 0, none⟩ a).setCell ⟨g, 1, none⟩ b).drew) h (fun k hk => ?_)⟩
  have hne : k ≠ g := fun e => by
    subst e
    obtain ⟨hl, h0 | ⟨g', cap, cur, hv, hb', hh, _⟩⟩ := h
    · rw [h0.1] at hk; simp [Value.ownBlock] at hk
    · rw [hv] at hk
      have : some g' = some k := hk
      injection this with this
      subst this
      rw [hg] at hh
      injection hh with hh
      injection hh with _ hh _
      exact absurd hh (by decide)
  show ((w.setCell ⟨g, 0, none⟩ a).setCell ⟨g, 1, none⟩ b).heap[k]? = _
  rw [Below.heap_setCell _ ⟨g, 1, none⟩ _ k hne, Below.heap_setCell _ ⟨g, 0, none⟩ _ k hne]
theorem TkAt.of_toks {w : World} {v : Value} {l : List Lx.Tok} (h : Lx.Toks w v l) : TkAt w w.heap.size v l := by
  obtain ⟨A, c, rfl, h1, h2, h3⟩ := h
  refine ⟨A, c, rfl, h1, h2, fun i t hi => ?_⟩
  obtain ⟨g, hg, hlt, c0, c1, c2⟩ := h3 i t hi
  exact ⟨g, hg, hlt, c0, c1, c2⟩
theorem TkAt.up {w : World} {b b' : Nat} {v : Value} {l : List Lx.Tok} (h : TkAt w b v l) (hb : b ≤ b') : TkAt w b' v l := by
  obtain ⟨A, c, rfl, h1, h2, h3⟩ := h
  refine ⟨A, c, rfl, h1, h2, fun i t hi => ?_⟩
  obtain ⟨g, hg, hlt, c⟩ := h3 i t hi
  exact ⟨g, hg, by omega, c⟩
theorem Mv.below {w w' : World} {b n : Nat} (h : Mv w w' b) (hb : n ≤ b) (hn : n ≤ w.heap.size) : Below n w w' :=
  ⟨h.os, h.tape, h.output, h.size, fun g hg => h.block g (by omega) (fun e => by injection e with e; omega)⟩
set_option maxRecDepth 100000 in
set_option maxHeartbeats 4000000 in
theorem parse_ok (L : List Lx.Tok) (lv : Value) (f i j : Nat) (x : List Nd) (w : World) (hl : L.length ≤ 100000) (hi : i ≤ L.length) (ht : TkAt w w.heap.size lv L) (hrun : run L f .arrow [] 0 i = some ([x], j)) (hx : x.length ≤ 5000) (hd : Tr.depthM x ≤ 40) :
    Calls Tryz.prog 52 #[lv, .int .i64 (i : Int)] w (fun e w' => ∃ v, e = .returned (.tuple #[v, .int .i64 (j : Int), .agg #[.int .i64 0, .int .i64 0]]) ∧ NdW w' v x ∧ Below w.heap.size w w') := by
  obtain ⟨w1, hw1⟩ : ∃ W, (w.alloc (.cells #[.int .i64 0, .int .i64 0] 29)).alloc (.cells (bxC lv i 0) 132) = W := ⟨_, rfl⟩
  have hb0 : Below w.heap.size w (w.alloc (.cells #[.int .i64 0, .int .i64 0] 29)) := (Below.refl _ _).alloc (Nat.le_refl _) _
  have hb1 : Below w.heap.size w w1 := hw1 ▸ hb0.alloc hb0.size _
  have hx0 : w1.heap[w.heap.size]? = some (.cells #[.int .i64 0, .int .i64 0] 29 (0, 0)) := by
    rw [← hw1, Below.heap_alloc _ _ _ (by simp)]; exact heap_alloc_new _ _
  have hx1 : w1.heap[w.heap.size + 1]? = some (.cells (bxC lv i 0) 132 (0, 0)) := by
    have := heap_alloc_new (w.alloc (.cells #[.int .i64 0, .int .i64 0] 29)) (.cells (bxC lv i 0) 132)
    rw [hw1] at this; simpa using this
  have q1 : Rq w1 (w.heap.size + 1) L lv i 0 := ⟨hx1, (ht.mv (fun g hg => hb1.block g hg)).up (by omega), hi, hl, by omega⟩
  have HC := Lib.hid ((all_ok (L := L) (lv := lv) f f (Nat.le_refl _)).arrow 0 i x j _ w1 hrun q1)
  have HX0 := Lib.hid hx0
  have hw1' : (w.alloc (.cells #[.int .i64 0, .int .i64 0] 29)).alloc (.cells #[lv, .int .i64 (i : Int), .int .i64 0, .int .i64 0, .int .i64 0] 132) = w1 := hw1
  have HB1 := Lib.hid hb1
  have HD := Lib.hid hd
  have Q1 := Lib.hid q1
  obtain ⟨A, c, rfl, t1, t2, -⟩ := ht
  unfold maxLen at t2
  have g1 : decide ((L.length : Int) < (i : Int)) = false := decide_eq_false (by omega)
  have g2 : decide (L.length < i) = false := decide_eq_false (by omega)
  have hs1 : w1.heap.size = w.heap.size + 2 := by rw [← hw1]; simp
  clear hw1 hrun hb0 hb1 hx0 hx1 q1 hi hd
  go_enter Tryz.func52, Tryz.ntmps52
  go_wp2_with fail
  refine HC.out.mono ?_
  rintro e w2 ⟨v2, rfl, n2, q2, m2⟩
  have N2 := Lib.hid n2
  have Q2 := Lib.hid q2
  have HBX := Lib.hid (HB1.out.trans (m2.below (by omega) (by omega)))
  have hx2 : w2.heap[w.heap.size]? = some (.cells #[.int .i64 0, .int .i64 0] 29 (0, 0)) := (m2.block _ (by omega) (fun e => by injection e with e; omega)).trans HX0.out
  have HX2 := Lib.hid hx2
  have HDP := Lib.hid (Tr.rdepth_any v2 x w2 n2.nodes (by omega))
  obtain ⟨A2, c2, rfl, y2, -⟩ := n2.form
  unfold maxLen at y2
  obtain ⟨-, d1, -, d3, -, -⟩ := q2.cells
  have hlt2 := q2.lt
  have p0 : w2.cell? ⟨w.heap.size, 0, none⟩ = some (.int .i64 0) := by simp [World.cell?, hx2]
  have p1 : w2.cell? ⟨w.heap.size, 1, none⟩ = some (.int .i64 0) := by simp [World.cell?, hx2]
  have g3 : decide ((5000 : Int) < (x.length : Int)) = false := decide_eq_false (by omega)
  have g4 : decide (5000 < x.length) = false := decide_eq_false (by omega)
  obtain ⟨dp, hdp⟩ : ∃ z, Tr.depthM x = z := ⟨_, rfl⟩
  rw [hdp] at HDP HD
  have g5 : decide ((40 : Int) < (dp : Int)) = false := decide_eq_false (by have := HD.out; omega)
  have g6 : decide (40 < dp) = false := decide_eq_false (by have := HD.out; omega)
  clear n2 q2 m2 hx2 hdp hw1'
  go_wp2_with fail
  refine HDP.out.mono ?_
  rintro e w3 ⟨rfl, hb3⟩
  have N3 := Lib.hid (N2.out.below hb3)
  have Q3 := Lib.hid (Q2.out.below hb3)
  have HB3 := Lib.hid (HBX.out.trans (hb3.mono HBX.out.size))
  have hx3 := (hb3.block _ (by omega)).trans HX2.out
  obtain ⟨-, e1, -, -, -, -⟩ := Q3.out.cells
  have hlt3 := Q3.out.lt
  have p30 : w3.cell? ⟨w.heap.size, 0, none⟩ = some (.int .i64 0) := by simp [World.cell?, hx3]
  have p31 : w3.cell? ⟨w.heap.size, 1, none⟩ = some (.int .i64 0) := by simp [World.cell?, hx3]
  have f30 : w3.frozen? ⟨w.heap.size, 0, none⟩ = false := by simp [World.frozen?, hx3]
  have f31 : w3.frozen? ⟨w.heap.size, 1, none⟩ = false := by simp [World.frozen?, hx3]
  have HX3 := Lib.hid hx3
  clear hb3 hx3 d1 d3 p0 p1
  go_wp2
  go_region
  have z0 : ((w3.setCell ⟨w.heap.size, 0, none⟩ (.int .i64 0)).setCell ⟨w.heap.size, 1, none⟩ (.int .i64 0)).drew.heap[w.heap.size]? = some (.cells #[.int .i64 0, .int .i64 0] 29 (0, 0)) := by
    show ((w3.setCell _ _).setCell _ _).heap[w.heap.size]? = _
    simp [World.setCell, Array.getElem?_modify, HX3.out]
  have z1 : ((w3.setCell ⟨w.heap.size, 0, none⟩ (.int .i64 0)).setCell ⟨w.heap.size, 1, none⟩ (.int .i64 0)).drew.cell? ⟨w.heap.size, 0, none⟩ = some (.int .i64 0) := by simp [World.cell?, z0]
  have z2 : ((w3.setCell ⟨w.heap.size, 0, none⟩ (.int .i64 0)).setCell ⟨w.heap.size, 1, none⟩ (.int .i64 0)).drew.cell? ⟨w.heap.size, 1, none⟩ = some (.int .i64 0) := by simp [World.cell?, z0]
  have hB : Below w.heap.size w (((w3.setCell ⟨w.heap.size, 0, none⟩ (.int .i64 0)).setCell ⟨w.heap.size, 1, none⟩ (.int .i64 0)).drew) := ((HB3.out.setCell (p := ⟨w.heap.size, 0, none⟩) (by simp) _).setCell (p := ⟨w.heap.size, 1, none⟩) (by simp) _).drew
  have hN : NdW (((w3.setCell ⟨w.heap.size, 0, none⟩ (.int .i64 0)).setCell ⟨w.heap.size, 1, none⟩ (.int .i64 0)).drew) (.slice A2 x.length c2) x := (N3.out.set2 HX3.out _ _)
  go_wp2
  exact bodyPost_ret (v := .tuple #[.slice A2 x.length c2, .int .i64 (j : Int), .agg #[.int .i64 0, .int .i64 0]]) (by simp [results, Tryz.results52, go_sem, z1, z2]) rfl ⟨_, rfl, hN, hB⟩
def reads (s : Bytes) (x : List Nd) : Bool := match Lx.lexM s with
  | r => r.code == 0 && r.at_ == 0 && decide (r.toks.length ≤ 100000) && decide (x.length ≤ 5000) && decide (Tr.depthM x ≤ 40) && decide (run r.toks 200 .arrow [] 0 0 = some ([x], r.toks.length))
end Go.Proofs.YtobkcdkffcenbaaGreatDoor.Lr

