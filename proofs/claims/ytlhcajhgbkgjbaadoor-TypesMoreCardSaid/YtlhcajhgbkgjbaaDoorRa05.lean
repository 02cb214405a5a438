/- The function Sub returns the nodes of which a node is made, in order, or nothing. Conditions: the slice is read as a list of nodes. -/
import Derived.Test.YtlhcajhgbkgjbaaDoorRa04
import Derived.Test.YtlhcajhgbkgjbaaDoorKa10
import Derived.Deep.OwnRows
import Derived.Laws.EntriesVeiled
import Derived.Test.YtlhcajhgbkgjbaaDoorRa03
set_option linter.unusedVariables false
set_option linter.unusedSimpArgs false
namespace Go.Proofs.YtlhcajhgbkgjbaaDoor.Tr
open Go.ChangeShapes Go.WideShapes Go.ChangeAt Go.RowKit
theorem may_lit (v : Value) (e : List Nd) (b : Bool) (w : World) (hv : Nodes w v e) (h : mayB e = b) : Calls Tryd.prog 50 #[v] w fun r w' => r = .returned (.bool b) /\ Below w.heap.size w w' := by rw [<- h]; exact may_any v e w hv
theorem ked (w : World) (o : Obj) (k : Nat) (h : k = w.heap.size) : (w.alloc o).heap[k]? = some o := by subst h; exact heap_alloc_new w o
theorem kjQ (w2 Wn : World) (o0 o1 o2 o3 : Obj) (h : Wn = (((w2.alloc o0).alloc o1).alloc o2).alloc o3) :
    Wn.heap.size = w2.heap.size + 4 /\ Wn.heap[w2.heap.size]? = some o0 /\ Wn.heap[w2.heap.size + 1]? = some o1 /\ Wn.heap[w2.heap.size + 1 + 1]? = some o2 /\ Wn.heap[w2.heap.size + 1 + 1 + 1]? = some o3 /\ Below w2.heap.size w2 Wn := by
  subst h
  refine ⟨by simp, ?_, ?_, ?_, ked _ _ _ (by simp), (((below_new w2 _).alloc (by simp) _).alloc (by simp <;> omega) _).alloc (by simp <;> omega) _⟩
  · rw [Below.heap_alloc _ _ _ (by simp <;> omega), Below.heap_alloc _ _ _ (by simp <;> omega), Below.heap_alloc _ _ _ (by simp)]; exact ked _ _ _ rfl
  · rw [Below.heap_alloc _ _ _ (by simp <;> omega), Below.heap_alloc _ _ _ (by simp)]; exact ked _ _ _ (by simp)
  · rw [Below.heap_alloc _ _ _ (by simp)]; exact ked _ _ _ (by simp)
def layFn (X s : Nat) : Value := .func (.func 51) #[] #[.pointer (some ⟨X, 0, none⟩), .pointer (some ⟨s + 1 + 1 + 1, 0, none⟩), .pointer (some ⟨s, 0, none⟩), .pointer (some ⟨s + 1 + 1, 0, none⟩)]
theorem lay_start {w w2 Wn : World} {ev : Value} {e : List Nd} {E : Nat} (hE : w2.heap.size = E + 1) (hw : w.heap.size <= E) (hn : e.length <= 5000) (hb2 : Below w.heap.size w w2) (q0 : w2.heap[w.heap.size]? = some (.cells #[ev] 23 (0, 0)))
    (hs : Wn.heap.size = w2.heap.size + 4) (b0 : Wn.heap[w2.heap.size]? = some (.cells #[.slice none 0 0] 23 (0, 0))) (b1 : Wn.heap[w2.heap.size + 1]? = some (.cells (madeCells #[.int .i64 0] e.length) 3 (0, 0)))
    (b2 : Wn.heap[w2.heap.size + 1 + 1]? = some (.cells #[.slice (some ⟨w2.heap.size + 1, 0, none⟩) e.length e.length] 59 (0, 0))) (b3 : Wn.heap[w2.heap.size + 1 + 1 + 1]? = some (.cells #[layFn w.heap.size w2.heap.size] 75 (0, 0))) (hb : Below w2.heap.size w2 Wn) :
    Lay w ev e E w.heap.size Wn (.slice none 0 0) [] (List.replicate e.length 0) := by
  have hs2 := hb2.size
  rw [hE] at b0 b1 b2 b3 hs
  refine ⟨hw, hw, hb2.trans (hb.mono (by omega)), ?_, b0, ?_, b2, b3, World.ownsRow_nil _ _ _ _, by simp⟩
  · rw [hb.block _ (by omega)]; exact q0
  · refine ⟨by simp [intsOf], .inr ⟨E + 2, e.length, madeCells #[.int .i64 0] e.length, rfl, Nat.le_refl _, b1, Nat.le_refl _, by unfold maxLen; omega, ?_, ?_⟩⟩
    · have := congrArg List.length (kbY e.length); simp [intsOf] at this ⊢; exact this
    · rw [kbY]; simp [intsOf]
set_option maxRecDepth 100000 in
set_option maxHeartbeats 1000000 in
theorem sub_any (v : Value) (e : List Nd) (i : Int) (w : World) (hv : Nodes w v e) : Calls Tryd.prog 34 #[v, .int .i64 i] w (NodesPost w (subM e i)) := by
  have HV := Lib.hid hv
  obtain ⟨A, c, rfl, h1, h2, hA⟩ := hv
  clear hA
  unfold maxLen at h2
  obtain ⟨i0, hi, hz0, hz1, hz2⟩ := info_parts info3
  by_cases h0 : i < 0
  · have HR := Lib.hid (show subM e i = [] by unfold subM; rw [if_neg (by omega)])
    rw [HR.out]
    go_enter Tryd.func34, Tryd.ntmps34
    go_wp2
    go_ret
    exact kbR _ _ ((Below.refl _ _).alloc (Nat.le_refl _) _)
  have h0' : 0 <= i := by omega
  by_cases hl : (e.length : Int) <= i
  · have HR := Lib.hid (show subM e i = [] by unfold subM; rw [if_neg (by omega)])
    rw [HR.out]
    clear h0
    go_enter Tryd.func34, Tryd.ntmps34
    go_wp2
    go_ret
    exact kbR _ _ ((Below.refl _ _).alloc (Nat.le_refl _) _)
  obtain ⟨m, rfl⟩ := Int.eq_ofNat_of_zero_le h0'
  have hml : m < e.length := by omega
  have hd : decide (e.length <= m) = false := by simp; omega
  clear h0 hl
  have NW := Lib.hid (HV.out.below (below_new w (.cells #[.slice A e.length c] 23)) (Nat.le_refl _))
  rcases Bool.eq_false_or_eq_true (mayB e) with hm | hm
  rotate_left
  · have HR := Lib.hid (show subM e (m : Int) = [] by unfold subM; rw [if_neg (by rw [hm]; simp)])
    have HMM := Lib.hid hm
    clear hm
    rw [HR.out]
    go_enter Tryd.func34, Tryd.ntmps34
    go_wp2_with fail
    refine (may_lit _ e _ _ (by exact NW.out) HMM.out).mono ?_
    rintro r w2 ⟨rfl, hb2⟩
    go_wp2
    go_ret
    exact kbR _ _ ((below_new w _).trans (hb2.mono (by simp)))
  have HM := Lib.hid (kfF hm)
  have HMM := Lib.hid hm
  have HR := Lib.hid (show subM e (m : Int) = (tree e m).flat 0 by unfold subM; rw [if_pos ⟨hm, h0', by omega⟩, Int.toNat_natCast])
  clear hm
  rw [HR.out]
  go_enter Tryd.func34, Tryd.ntmps34
  go_wp2_with fail
  refine (may_lit _ e _ _ (by exact NW.out) HMM.out).mono ?_
  rintro r w2 ⟨rfl, hb2⟩
  have hs2 := hb2.size
  simp at hs2
  have q0 : w2.heap[w.heap.size]? = some (.cells #[.slice A e.length c] 23 (0, 0)) := (hb2.block _ (by simp)).trans (heap_alloc_new w _)
  have c0 := cell_of_one q0
  have HB2 := Lib.hid ((below_new w (.cells #[.slice A e.length c] 23)).trans (hb2.mono (by simp)))
  have HQ0 := Lib.hid q0
  clear hb2 q0
  have hle := HM.out.le
  have hmk := run_make_row' (P := Tryd.prog) 59 3 (.int .i64 0) 8 Tryd.underlying59 info3 rfl .i64 .i64 e.length (by omega) (by omega)
  have hne : w.heap.size ≠ w2.heap.size := by omega
  have hne1 : w.heap.size < w2.heap.size := by omega
  go_wp2_with fail
  obtain ⟨Wn, hWn⟩ : ∃ Wn, Wn = (((w2.alloc (.cells #[.slice none 0 0] 23)).alloc (.cells (madeCells #[.int .i64 0] e.length) 3)).alloc (.cells #[.slice (some ⟨w2.heap.size + 1, 0, none⟩) e.length e.length] 59)).alloc (.cells #[layFn w.heap.size w2.heap.size] 75) := ⟨_, rfl⟩
  show Calls Tryd.prog 51 _ ((((w2.alloc (.cells #[.slice none 0 0] 23)).alloc (.cells (madeCells #[.int .i64 0] e.length) 3)).alloc (.cells #[.slice (some ⟨w2.heap.size + 1, 0, none⟩) e.length e.length] 59)).alloc (.cells #[layFn w.heap.size w2.heap.size] 75)) _
  rw [<- hWn]
  obtain ⟨k0, k1, k2, k3, k4, k5⟩ := kjQ w2 Wn _ _ _ _ hWn
  obtain ⟨E, hE⟩ : ∃ E, w2.heap.size = E + 1 := ⟨w2.heap.size - 1, by omega⟩
  have HE := Lib.hid hE
  have hLay := lay_start (e := e) hE (by omega) hle HB2.out HQ0.out k0 k1 k2 k3 k4 k5
  have HL := Lib.hid hLay
  clear hWn k1 k2 k3 k4 k5 hLay hE
  have hcall := lay_any w (.slice A e.length c) e E w.heap.size HM.out HV.out (m + 1) m _ _ [] _ (by omega) hml HL.out (by have := size_le e HM.out m hml; simp; omega)
  have hE' := HE.out
  rw [show E + 4 = w2.heap.size + 1 + 1 + 1 by omega, show E + 1 = w2.heap.size by omega, show E + 3 = w2.heap.size + 1 + 1 by omega] at hcall
  have HCALL := Lib.hid hcall
  clear hcall hE'
  refine HCALL.out.mono ?_
  rintro r w3 ⟨ov', pos', rfl, hlay, -, -, -, -, -⟩
  have c5 := cell_of_one hlay.res
  rw [show E + 1 = w2.heap.size from HE.out.symm] at c5
  have HLY := Lib.hid hlay
  clear hlay
  go_wp2
  go_ret
  refine ⟨_, rfl, ?_, HLY.out.below⟩
  have h5 := HLY.out.own
  have h6 := HLY.out.base
  rw [List.nil_append] at h5
  exact kbU h5 (by omega)
end Go.Proofs.YtlhcajhgbkgjbaaDoor.Tr

/- Layer types: the type of an expression in a scope. Conditions: the maps and the table lie in memory. -/
namespace Go.Proofs.YtlhcajhgbkgjbaaDoor.Ty
open Go.ChangeShapes Go.WideShapes Go.ChangeAt Go.RowKit
open Tr
theorem ints_own {w : World} {b n : Nat} {v : Value} {L : List Int} (hL : L.length = n) (h : w.ownsRow b 3 1 v n (intsOf L)) : Ints w v L := by subst hL; exact Ints.of_own h
set_option maxRecDepth 100000 in
set_option maxHeartbeats 8000000 in
theorem of_any (sv nv v : Value) (n1 n2 : Nat) (E : Env) (e : List Nd) (w : World) (hS : kbl w sv n1 E.str) (hN : kcY w nv n2 E.nod) (hT : ShAt w) (hv : Nodes w v e) (hs : Short e) : Calls Tryd.prog 14 #[.agg #[sv, nv], v] w (kbT w (tyM E e)) := by
  have HV := Lib.hid hv
  obtain ⟨A, c, rfl, h1, h2, hA⟩ := hv
  unfold maxLen at h2
  clear hA
  obtain ⟨i0, hi, hz0, hz1, hz2⟩ := info_parts info3
  have HC0 := Lib.hid (sub_any _ e ((e.length : Int) - 1) (w.alloc (.cells #[sv, nv] 52)) (HV.out.below (below_new w _) (Nat.le_refl _)))
  obtain ⟨R, hR⟩ : ∃ R, tyM E e = R := ⟨_, rfl⟩
  have HR := Lib.hid hR
  rw [hR]
  clear hR
  obtain ⟨B, hB⟩ : ∃ B, mayB e = B := ⟨_, rfl⟩
  have HM := Lib.hid hB
  clear hB
  cases B with
  | false =>
    have HE : Hid (R = (0, 1)) := Lib.hid (by rw [<- HR.out]; exact of_not E HM.out)
    rw [sub_nil HM.out] at HC0
    clear hS hN hT
    go_enter Tryd.func14, Tryd.ntmps14
    go_wp2_with fail
    refine HC0.out.mono ?_
    rintro r w1 ⟨ov, rfl, hown, hb1⟩
    have HB1 : Hid (Below w.heap.size w w1) := Lib.hid ((below_new w _).trans (hb1.mono (by simp)))
    obtain ⟨A1, c1, rfl, -⟩ := Nodes.of_own hown
    clear hown hb1
    go_wp2
    go_ret2
    exact kdK HE.out HB1.out
  | true =>
    have hmay := kfF HM.out
    have HMAY := Lib.hid hmay
    rw [sub_norm hmay] at HC0
    have HSH := Lib.hid (ki1 hmay hs)
    obtain ⟨l, hl⟩ : ∃ l, kcj e = l := ⟨_, rfl⟩
    have HNM : Hid (Tr.May l) := Lib.hid (by rw [<- hl]; exact hmay.norm)
    have hn := HNM.out.le
    have hp := HNM.out.pos
    have HBAD : Hid (∀ (V : Nat -> Ty) (k : Nat) (c : Int), k < l.length -> OkTo E l V k -> tyT E (tree l k) = .error c -> R = (0, c)) := Lib.hid (fun V k c h1 h2 h3 => by rw [<- HR.out]; subst hl; exact of_bad E hmay V h1 h2 h3)
    have HGOOD : Hid (∀ (V : Nat -> Ty), OkTo E l V l.length -> R = ((V (l.length - 1)).1, 0)) := Lib.hid (fun V h => by rw [<- HR.out]; subst hl; exact of_good E hmay V h)
    rw [hl] at HC0 HSH
    have HW : Hid (∀ W, Below w.heap.size w W -> kbl W sv n1 E.str /\ kcY W nv n2 E.nod /\ ShAt W) := Lib.hid (fun W h => ⟨hS.below h, hN.below h, hT.below h hT.1⟩)
    clear hmay hl hS hN hT
    go_enter Tryd.func14, Tryd.ntmps14
    go_wp2_with fail
    refine HC0.out.mono ?_
    rintro r w1 ⟨ov, rfl, hown, hb1⟩
    have hsw := hb1.size
    simp at hsw
    have HB1 : Hid (Below w.heap.size w w1) := Lib.hid ((below_new w _).trans (hb1.mono (by simp)))
    have hX : w1.heap[w.heap.size]? = some (.cells #[sv, nv] 52 (0, 0)) := (hb1.block _ (by simp)).trans (heap_alloc_new w _)
    have HX := Lib.hid hX
    have HNV := Lib.hid (Nodes.of_own hown)
    obtain ⟨A1, c1, rfl, y1, y2, hA1⟩ := Nodes.of_own hown
    unfold maxLen at y2
    have HA1 := Lib.hid hA1
    clear hown hb1 hX hA1
    go_wp2_with (at_make; refine wpList_make_full _ rfl _ _ 59 rfl w1.heap.size 3 i0 _ 1 Tryd.underlying59 hi hz0 hz1 _ _ _ _ l.length rfl rfl rfl rfl (by rw [hz2]; omega) (by unfold maxLen; omega) (Nat.le_refl _) ?_)
    intro w2 hown hgrow
    have hb2 : Below w1.heap.size w1 w2 := (Below.refl _ _).grown hgrow (Nat.le_refl _) (fun k hk => by simp at hk)
    have hown0 : w2.ownsRow w1.heap.size 3 1 (.slice (some ⟨w1.heap.size, 0, none⟩) l.length l.length) l.length (intsOf (kdo (fun _ => (0, [])) 0 l.length)) := by
      rw [kjM, <- kbY]; exact hown
    have hz := (hown0.lt _ rfl).2
    have HO2 := Lib.hid hown0
    have HB2 := Lib.hid hb2
    clear hown hgrow hown0 hb2
    go_wp2
    go_loopw [25] (fun i wr => ∃ (k : Nat) (V : Nat -> Ty), k <= l.length /\ i = .int .i64 k /\ wr.ownsRow w1.heap.size 3 1 (.slice (some ⟨w1.heap.size, 0, none⟩) l.length l.length) l.length (intsOf (kdo V k l.length)) /\ Below w1.heap.size w1 wr /\ w1.heap.size < wr.heap.size /\ OkTo E l V k) (fun i _ => l.length - (intOf i).toNat)
    case atStart => exact ⟨0, _, Nat.zero_le _, rfl, HO2.out, HB2.out, hz, fun j hj => by omega⟩
    case round =>
      obtain ⟨k, V, hk, rfl, hown, hb, hzr, hV⟩ := hrel
      have HV2 := Lib.hid hV
      have HBr := Lib.hid hb
      have HBw : Hid (Below w.heap.size w wr) := Lib.hid (HB1.out.trans (hb.mono HB1.out.size))
      have hXr := (hb.block _ (by omega)).trans HX.out
      have p0 : wr.cell? ⟨w.heap.size, 0, none⟩ = some sv := (ka3 hXr 0).trans rfl
      have p1 : wr.cell? ⟨w.heap.size, 1, none⟩ = some nv := (ka3 hXr 1).trans rfl
      have lX := lt_of_block hXr
      by_cases hlt : k < l.length
      · obtain ⟨x, hx⟩ : ∃ x, l[k]? = some x := ⟨_, List.getElem?_eq_getElem hlt⟩
        obtain ⟨g, o, rfl, hg, a0, a1, a2, a3, a4, a5⟩ := HA1.out k x hx
        have d0 := (hb.cell (p := ⟨g, o + k * 6, none⟩) hg).trans a0
        have d1 := (hb.cell (p := ⟨g, o + k * 6 + 1, none⟩) hg).trans a1
        have d2 := (hb.cell (p := ⟨g, o + k * 6 + 2, none⟩) hg).trans a2
        have d3 := (hb.cell (p := ⟨g, o + k * 6 + 3, none⟩) hg).trans a3
        have d4 := (hb.cell (p := ⟨g, o + k * 6 + 4, none⟩) hg).trans a4
        have d5 := (hb.cell (p := ⟨g, o + k * 6 + 5, none⟩) hg).trans a5
        have hgr : g < wr.heap.size := by have := hb.size; omega
        obtain ⟨w3, hw3⟩ : ∃ W, wr.alloc (.cells (ndC x) 57) = W := ⟨_, rfl⟩
        have hb3 : Below wr.heap.size wr w3 := hw3 ▸ below_new wr _
        have hbw3 : Below w.heap.size w w3 := HBw.out.trans (hb3.mono HBw.out.size)
        have ho3 := own_below hown hb3
        have HC := Lib.hid (node_any sv nv (.slice (some ⟨w1.heap.size, 0, none⟩) l.length l.length) (.slice (some ⟨g, o, none⟩) l.length c1) n1 n2 E l (kdo V k l.length) k x w3 (HW.out w3 hbw3).1 (HW.out w3 hbw3).2.1 (HW.out w3 hbw3).2.2
          (HNV.out.below (hb.trans (hb3.mono hb.size)) (Nat.le_refl _)) (ints_own (kcv _ _ _) ho3) hx hn (kcv _ _ _) HNM.out.node (HSH.out x (List.mem_of_getElem? hx)))
        rw [node_tree E HNM.out V hx hV] at HC
        have HX3 : Hid (w3.heap[w.heap.size]? = some (.cells #[sv, nv] 52 (0, 0))) := Lib.hid ((hb3.block _ lX).trans hXr)
        have HO3 := Lib.hid ho3
        have HB3 : Hid (Below w1.heap.size w1 w3) := Lib.hid (hb.trans (hb3.mono hb.size))
        have hs3 := hb3.size
        have HW3 := Lib.hid hw3
        cases ht : tyT E (tree l k) with
        | error c0 =>
          rw [ht] at HC
          have hc0 : c0 = 8 ∨ c0 = 10 ∨ c0 = 14 := kd1 E _ _ ht
          have hcb : (c0 != 0) = true := by simp; omega
          have HE := Lib.hid (HBAD.out V k c0 hlt hV ht)
          simp only [ansY] at HC
          clear hx a0 a1 a2 a3 a4 a5 hown hb hV hXr hw3 hb3 hbw3 ho3 ht hc0
          go_wp2_with fail
          rw [HW3.out]
          go_wp2_with fail
          refine HC.out.mono ?_
          rintro r w4 ⟨rfl, hb4⟩
          have HB4 : Hid (Below w.heap.size w w4) := Lib.hid (HB1.out.trans ((HB3.out.trans (hb4.mono HB3.out.size)).mono HB1.out.size))
          clear hb4
          go_wp2
          go_ret2
          exact kdK HE.out HB4.out
        | ok t =>
          rw [ht] at HC
          simp only [ansY] at HC
          have HVN := Lib.hid (hV.next ht)
          obtain ⟨t1, ht1⟩ : ∃ t1, t.1 = t1 := ⟨_, rfl⟩
          have HNX := Lib.hid (kjN V k l.length t hlt)
          rw [ht1] at HC HNX
          clear hx a0 a1 a2 a3 a4 a5 hown hb hV hXr hw3 hb3 hbw3 ho3 ht ht1
          go_wp2_with fail
          rw [HW3.out]
          go_wp2_with fail
          refine HC.out.mono ?_
          rintro r w4 ⟨rfl, hb4⟩
          have HB4 : Hid (Below w1.heap.size w1 w4) := Lib.hid (HB3.out.trans (hb4.mono HB3.out.size))
          have ho4 := own_below HO3.out hb4
          have hs4 := hb4.size
          obtain ⟨z, hzz⟩ : ∃ z, (kdo V k l.length)[k]? = some z := ⟨_, kcw hlt⟩
          have e1 := (ho4.cellAt k (by omega)).trans (kaB _ k z hzz)
          have f1 := ho4.frozenAt k
          have HO4 : Hid ((w4.setCell ⟨w1.heap.size, k, none⟩ (.int .i64 t1)).ownsRow w1.heap.size 3 1 (.slice (some ⟨w1.heap.size, 0, none⟩) l.length l.length) l.length (intsOf (kdo (upd V k t) (k + 1) l.length))) := Lib.hid (by
            rw [<- HNX.out, kb9]
            exact (ho4.stored k (.int .i64 t1)).1)
          clear hb4 ho4 hzz
          go_wp2
          refine ⟨⟨k + 1, upd V k t, by omega, by go_num, HO4.out, HB4.out.setCell (by simp) _, by simp [World.setCell]; omega, HVN.out⟩, by simp [intOf]; omega⟩
      · have hkl : k = l.length := by omega
        subst hkl
        have hll : l.length - 1 < l.length := by omega
        have hget : (kdo V l.length l.length)[l.length - 1]? = some (V (l.length - 1)).1 := by rw [kcw hll, if_pos hll]
        obtain ⟨u, hu⟩ : ∃ u, (V (l.length - 1)).1 = u := ⟨_, rfl⟩
        rw [hu] at hget
        have e1 := (hown.cellAt (l.length - 1) (by omega)).trans (kaB _ _ u hget)
        have HE : Hid (R = (u, 0)) := Lib.hid (by rw [<- hu]; exact HGOOD.out V hV)
        have e2 : (l.length : Int) - 1 = ((l.length - 1 : Nat) : Int) := by omega
        clear hV hown hb hXr hu hget
        go_wp2
        go_ret2
        exact kdK HE.out HBw.out
end Go.Proofs.YtlhcajhgbkgjbaaDoor.Ty

/- Layer types: a unit more in the map of nodes. Conditions: the map lies in memory. -/
namespace Go.Proofs.YtlhcajhgbkgjbaaDoor.Ty
open Go.ChangeShapes Go.WideShapes Go.ChangeAt Go.RowKit Go.Maps
open Tr
open Pg (Prm Unt)
open Go.Proofs.YtlhcajhgbkgjbaaDoor.Ow (PrmN UntN RowN kaQ rown_form)
def addN (g : Bytes -> Option (List Int × Int)) (u : Unt) : Bytes -> Option (List Int × Int) := fun s => if s = u.name /\ (g s).isNone = true /\ u.contract = false then some (u.ins.map (·.ty), u.out.ty) else g s
def kjK (w0 w : World) (b n : Nat) (g : Bytes -> Option (List Int × Int)) (u : Unt) (e : Ending) (w' : World) : Prop :=
  e = .returned (.tuple #[]) /\ kc3 w0 w' b (n + 1) (addN g u) /\ w.heap.size <= w'.heap.size /\ w.grownBy w' (some b)
theorem khU {g : Bytes -> Option (List Int × Int)} {u : Unt} (h : (g u.name).isNone = false ∨ u.contract = true) : addN g u = g := by
  funext s
  unfold addN
  rw [if_neg]
  rintro ⟨rfl, h1, h2⟩
  rcases h with h | h
  · rw [h1] at h; cases h
  · rw [h2] at h; cases h
theorem kf6 (w : World) (o o' o'' : Obj) (b : Nat) : w.grownBy (((w.alloc o).alloc o').alloc o'') (some b) :=
  ⟨rfl, rfl, rfl, by simp; omega, fun i hi _ => (Below.heap_alloc _ _ _ (by simp; omega)).trans ((Below.heap_alloc _ _ _ (by simp; omega)).trans (Below.heap_alloc _ _ _ hi))⟩
theorem kfe (w : World) (o o' o'' : Obj) : Below w.heap.size w (((w.alloc o).alloc o').alloc o'') := (((Below.refl _ _).alloc (Nat.le_refl _) _).alloc (by simp) _).alloc (by simp; omega) _
theorem kc3.mono {w0 w : World} {b n m : Nat} {g : Bytes -> Option (List Int × Int)} (h : kc3 w0 w b n g) (hn : n <= m) : kc3 w0 w b m g := by
  obtain ⟨h1, h2, G, h3, h4⟩ := h
  exact ⟨h1, h2, G, h3.mono hn, h4⟩
set_option maxRecDepth 100000 in
set_option maxHeartbeats 4000000 in
theorem kjH (w0 : World) (sv : Value) (b n : Nat) (g : Bytes -> Option (List Int × Int)) (u : Unt) (x : List Value) (w : World) (hm : kc3 w0 w b n g) (hu : UntN w0 u x) (hn : n < maxLen) :
    Calls Tryd.prog 13 #[.agg #[sv, .map (some b)], .agg x.toArray] w (kjK w0 w b n g u) := by
  have HM := Lib.hid hm
  have HU := Lib.hid hu
  have hbl := hm.lt
  obtain ⟨iv, vv, qv, lv, rfl, u1, u2, u3, u4, hs, -⟩ := hu
  obtain ⟨Ai, ci, rfl, i1, i2, -⟩ := rown_form u1
  obtain ⟨Av, cv, rfl, -, -, -⟩ := rown_form u2
  obtain ⟨Aq, cq, rfl, -, -, -⟩ := rown_form u3
  obtain ⟨Al, cl, rfl, -, -, -⟩ := rown_form u4
  have hat : kcY w (.map (some b)) n g := .inr ⟨w0, b, rfl, hm⟩
  obtain ⟨V, B, hlk, hd⟩ := hat.look u.name hs
  have hl : ∀ o o', (Instr.lookup 50 (.map (some b)) (.string (str u.name)) true).run Tryd.prog ((w.alloc o).alloc o') = .ok (.tuple #[V, .bool B]) ((w.alloc o).alloc o') := fun o o' => hlk _ (kaV w o o').1
  clear u1 u2 u3 u4 hat
  have hend : ∀ w', w' = ((w.alloc (.cells #[sv, .map (some b)] 52)).alloc (.cells #[.bool u.contract, .string (str u.name), .slice Ai u.ins.length ci, .string (str u.out.name), .int .i64 u.out.ty, .slice Av u.vars.length cv, .slice Aq u.eqs.length cq, .slice Al u.items.length cl] 39)) -> True := fun _ _ => trivial
  clear hend
  rcases hd with ⟨hg, rfl, rfl⟩ | ⟨u', x', hu', rfl, rfl, hg⟩
  · cases hc : u.contract with
    | true =>
      have HS := Lib.hid (khU (g := g) (u := u) (.inr hc))
      rw [hc] at *
      clear hg hm hlk
      go_enter Tryd.func13, Tryd.ntmps13
      go_wp2
      go_end0
      exact ⟨rfl, by rw [HS.out]; exact (HM.out.below (kfe w _ _ _)).mono (Nat.le_succ _), by simp; omega, kf6 w _ _ _ b⟩
    | false =>
      obtain ⟨hw0, hb0, G, hG1, hG2⟩ := hm
      obtain ⟨w3, hrun, hm3, hg3⟩ := (((hG1.alloc (.cells #[sv, .map (some b)] 52)).alloc (.cells #[.bool u.contract, .string (str u.name), .slice Ai u.ins.length ci, .string (str u.out.name), .int .i64 u.out.ty, .slice Av u.vars.length cv, .slice Aq u.eqs.length cq, .slice Al u.items.length cl] 39)).alloc (.cells #[.bool false, .string ⟨#[]⟩, .slice none 0 0, .string ⟨#[]⟩, .int .i64 0, .slice none 0 0, .slice none 0 0, .slice none 0 0] 39)).put Tryd.underlying50 hn u.name hs
        (.agg #[.bool u.contract, .string (str u.name), .slice Ai u.ins.length ci, .string (str u.out.name), .int .i64 u.out.ty, .slice Av u.vars.length cv, .slice Aq u.eqs.length cq, .slice Al u.items.length cl])
      have hg4 : w.grownBy w3 (some b) := ⟨hg3.os, hg3.tape, hg3.output, by have := hg3.size; simp at this; omega, fun i hi hne => (hg3.block i (by simp; omega) hne).trans ((kf6 w _ _ _ b).block i hi hne)⟩
      have HG4 := Lib.hid hg4
      have HEND : Hid (kc3 w0 w3 b (n + 1) (addN g u)) := Lib.hid ⟨hw0.grown hg4 hw0.size (fun k hk => by cases hk; exact hb0), hb0,
        fun s => if s = u.name then some (u, [.bool u.contract, .string (str u.name), .slice Ai u.ins.length ci, .string (str u.out.name), .int .i64 u.out.ty, .slice Av u.vars.length cv, .slice Aq u.eqs.length cq, .slice Al u.items.length cl]) else G s, by
          have : (fun s => ((if s = u.name then some (u, [Value.bool u.contract, .string (str u.name), .slice Ai u.ins.length ci, .string (str u.out.name), .int .i64 u.out.ty, .slice Av u.vars.length cv, .slice Aq u.eqs.length cq, .slice Al u.items.length cl]) else G s : Option (Unt × List Value))).map (fun p => Value.agg p.2.toArray)) =
              (fun s => if s = u.name then some (Value.agg #[.bool u.contract, .string (str u.name), .slice Ai u.ins.length ci, .string (str u.out.name), .int .i64 u.out.ty, .slice Av u.vars.length cv, .slice Aq u.eqs.length cq, .slice Al u.items.length cl]) else (G s).map (fun p => Value.agg p.2.toArray)) := by
            funext s
            by_cases h : s = u.name <;> simp [h]
          rw [this]; exact hm3, fun s => by
          by_cases h : s = u.name
          · subst h
            refine ⟨fun h0 => by simp at h0, fun p hp => ?_⟩
            have hp' := (if_pos rfl).symm.trans hp
            injection hp' with hp'
            subst hp'
            exact ⟨HU.out, by unfold addN; rw [if_pos ⟨rfl, by rw [hg]; rfl, hc⟩]⟩
          · have e1 : addN g u s = g s := by unfold addN; rw [if_neg (fun hh => h hh.1)]
            simp only [if_neg h, e1]
            exact hG2 s⟩
      have hs4 := hg4.size
      clear hg hlk hG1 hG2 hm3 hg3 hg4 hw0 hb0
      rw [hc] at hrun
      clear hc
      go_enter Tryd.func13, Tryd.ntmps13
      go_wp2
      go_end0
      exact ⟨rfl, HEND.out, hs4, HG4.out⟩
  · have HS := Lib.hid (khU (g := g) (u := u) (.inl (by rw [hg]; rfl)))
    obtain ⟨iv', vv', qv', lv', rfl, u1, u2, u3, u4, -, -⟩ := hu'
    obtain ⟨Bi, di, rfl, -, -, -⟩ := rown_form u1
    obtain ⟨Bv, dv, rfl, -, -, -⟩ := rown_form u2
    obtain ⟨Bq, dq, rfl, -, -, -⟩ := rown_form u3
    obtain ⟨Bl, dl, rfl, -, -, -⟩ := rown_form u4
    clear hg hm hlk u1 u2 u3 u4
    go_enter Tryd.func13, Tryd.ntmps13
    go_wp2
    go_end0
    exact ⟨rfl, by rw [HS.out]; exact (HM.out.below (kfe w _ _ _)).mono (Nat.le_succ _), by simp; omega, kf6 w _ _ _ b⟩
end Go.Proofs.YtlhcajhgbkgjbaaDoor.Ty

/- Layer types: Of answers what the plain function answers. Conditions: the slices are read as an expression, streams and units; the table lies in memory. -/
namespace Go.Proofs.YtlhcajhgbkgjbaaDoor.Ty
open Go.ChangeShapes Go.WideShapes Go.ChangeAt Go.RowKit Go.Maps
open Tr
open Pg (Prm Unt)
open Go.Proofs.YtlhcajhgbkgjbaaDoor.Ow (PrmN UntN RowN kaQ rown_form)
theorem kfw (l : List Prm) (k : Nat) (p : Prm) (h : l[k]? = some p) : strOf (l.take (k + 1)) = addF (strOf (l.take k)) p := by
  funext s
  unfold addF strOf
  rw [List.take_add_one, h, show (some p).toList = [p] from rfl, List.find?_append]
  cases hf : (l.take k).find? (fun p => p.name == s) with
  | some q => simp
  | none =>
    by_cases hs : s = p.name
    · subst hs; simp
    · have : (p.name == s) = false := by simpa using (fun h => hs h.symm)
      simp [hs, this]
theorem nodOf_next (l : List Unt) (k : Nat) (u : Unt) (h : l[k]? = some u) : kgd (l.take (k + 1)) = addN (kgd (l.take k)) u := by
  funext s
  unfold addN kgd
  rw [List.take_add_one, h, show (some u).toList = [u] from rfl, List.find?_append]
  cases hf : (l.take k).find? (fun u => u.name == s && !u.contract) with
  | some q => simp
  | none =>
    by_cases hs : s = u.name
    · subst hs
      cases hc : u.contract <;> simp [hc]
    · have : (u.name == s) = false := by simpa using (fun h => hs h.symm)
      simp [hs, this]
set_option maxRecDepth 100000 in
set_option maxHeartbeats 8000000 in
theorem Of_any (v pv uv : Value) (e : List Nd) (l : List Prm) (us : List Unt) (w : World) (hT : ShAt w) (hv : Nodes w v e) (hs : Short e) (hp : RowN 2 PrmN w l pv) (hu : RowN 8 UntN w us uv) : Calls Tryd.prog 6 #[v, pv, uv] w (kbT w (tyM (kcG l us) e)) := by
  have hmm := @run_makeMap Tryd.prog
  have HV := Lib.hid hv
  have HP := Lib.hid hp
  have HU := Lib.hid hu
  have HT := Lib.hid hT
  obtain ⟨A, c, rfl, h1, h2, -⟩ := hv
  obtain ⟨Ap, cp, rfl, p1, p2, -⟩ := rown_form hp
  obtain ⟨Au, cu, rfl, u1, u2, -⟩ := rown_form hu
  unfold maxLen at h2 p2 u2
  have e1 : (w.alloc (.map #[] 0)).heap.size = w.heap.size + 1 := by simp
  have e2 : ((w.alloc (.map #[] 0)).alloc (.map #[] 0)).heap.size = w.heap.size + 2 := by simp
  obtain ⟨w3, hw3⟩ : ∃ W, ((w.alloc (.map #[] 0)).alloc (.map #[] 0)).alloc (.cells #[.map (some w.heap.size), .map (some (w.heap.size + 1))] 52) = W := ⟨_, rfl⟩
  have hb3 : Below w.heap.size w w3 := hw3 ▸ (((Below.refl _ _).alloc (Nat.le_refl _) _).alloc (by simp) _).alloc (by simp; omega) _
  have hX : w3.heap[w.heap.size + 2]? = some (.cells #[.map (some w.heap.size), .map (some (w.heap.size + 1))] 52 (0, 0)) := by
    have := heap_alloc_new ((w.alloc (.map #[] 0)).alloc (.map #[] 0)) (.cells #[.map (some w.heap.size), .map (some (w.heap.size + 1))] 52)
    rw [e2, hw3] at this; exact this
  have hS0 : kbl w3 (.map (some w.heap.size)) 0 (strOf (l.take 0)) := ⟨w.heap.size, rfl, by rw [<- hw3]; exact ((kb6.made w).alloc _).alloc _⟩
  have hN0 : kc3 w w3 (w.heap.size + 1) 0 (kgd (us.take 0)) := by
    have := kc3.made (w0 := w) (w := w.alloc (.map #[] 0)) (below_new w _)
    rw [e1] at this
    rw [<- hw3]
    exact this.below (below_new _ _)
  have HX := Lib.hid hX
  have HS0 := Lib.hid hS0
  have HN0 := Lib.hid hN0
  have HB3 := Lib.hid hb3
  have HW3 := Lib.hid hw3
  have hsz : w3.heap.size = w.heap.size + 3 := by rw [<- hw3]; simp
  have HSZ := Lib.hid hsz
  obtain ⟨R, hR⟩ : ∃ R, tyM (kcG l us) e = R := ⟨_, rfl⟩
  have HR := Lib.hid hR
  rw [hR]
  clear hp hu hT hX hS0 hN0 hb3 hw3 hR
  go_enter Tryd.func6, Tryd.ntmps6
  go_wp2_with fail
  rw [HW3.out]
  clear e1 e2 hsz
  go_wp2
  go_loopw [18] (fun i wr => ∃ k : Nat, k <= l.length /\ i = .int .i64 k /\ kbl wr (.map (some w.heap.size)) k (strOf (l.take k)) /\ kc3 w wr (w.heap.size + 1) 0 (kgd (us.take 0)) /\ wr.heap[w.heap.size + 2]? = some (.cells #[.map (some w.heap.size), .map (some (w.heap.size + 1))] 52 (0, 0)) /\ Below w.heap.size w wr) (fun i _ => l.length - (intOf i).toNat)
  case atStart => exact ⟨0, Nat.zero_le _, rfl, HS0.out, HN0.out, HX.out, HB3.out⟩
  case round =>
    obtain ⟨k, hk, rfl, hS, hN, hX, hb⟩ := hrel
    have HSr := Lib.hid hS
    have HNr := Lib.hid hN
    have HBr := Lib.hid hb
    have HXr := Lib.hid hX
    have lX := lt_of_block hX
    have x0 : wr.cell? ⟨w.heap.size + 2, 0, none⟩ = some (.map (some w.heap.size)) := (ka3 hX 0).trans rfl
    have x1 : wr.cell? ⟨w.heap.size + 2, 1, none⟩ = some (.map (some (w.heap.size + 1))) := (ka3 hX 1).trans rfl
    by_cases hlt : k < l.length
    · obtain ⟨p, hp⟩ : ∃ p, l[k]? = some p := ⟨_, List.getElem?_eq_getElem hlt⟩
      obtain ⟨g, o, c', x, hv', hg, hpx, hxl, hcell⟩ := kaQ HP.out hp
      simp only [Value.slice.injEq, true_and] at hv'
      obtain ⟨rfl, rfl⟩ := hv'
      obtain ⟨rfl, hpn⟩ := hpx
      have q0 : wr.cell? ⟨g, o + k * 2 + 0, none⟩ = some (.string (str p.name)) := (hb.cell (p := ⟨g, o + k * 2 + 0, none⟩) hg).trans (hcell 0 (by omega))
      rw [Nat.add_zero] at q0
      have q1 : wr.cell? ⟨g, o + k * 2 + 1, none⟩ = some (.int .i64 p.ty) := (hb.cell (p := ⟨g, o + k * 2 + 1, none⟩) hg).trans (hcell 1 (by omega))
      have hgr : g < wr.heap.size := by have := hb.size; omega
      obtain ⟨w4, hw4⟩ : ∃ W, wr.alloc (.cells #[.string (str p.name), .int .i64 p.ty] 35) = W := ⟨_, rfl⟩
      have hb4 : Below wr.heap.size wr w4 := hw4 ▸ below_new wr _
      have HC := Lib.hid (kgC w.heap.size (.map (some (w.heap.size + 1))) k (strOf (l.take k)) p w4 (hS.below hb4) (by unfold maxLen; omega) hpn)
      have HNX := Lib.hid (kfw l k p hp)
      have HW4 := Lib.hid hw4
      have HB4 := Lib.hid hb4
      clear hp hcell hS hN hX hb hw4 hb4
      go_wp2_with fail
      rw [HW4.out]
      go_wp2_with fail
      refine HC.out.mono ?_
      rintro r w5 ⟨rfl, hS5, hs5, hg5⟩
      rw [<- HNX.out] at hS5
      have HS5 := Lib.hid hS5
      have hw4s := HB4.out.size
      have HN5 : Hid (kc3 w w5 (w.heap.size + 1) 0 (kgd (us.take 0))) := Lib.hid ((HNr.out.below HB4.out).grown hg5 (Nat.le_refl _) (by omega))
      have HX5 : Hid (w5.heap[w.heap.size + 2]? = some (.cells #[.map (some w.heap.size), .map (some (w.heap.size + 1))] 52 (0, 0))) := Lib.hid ((hg5.block _ (by omega) (by simp)).trans ((HB4.out.block _ lX).trans HXr.out))
      have HB5 : Hid (Below w.heap.size w w5) := Lib.hid ((HBr.out.trans (HB4.out.mono HBr.out.size)).grown hg5 (by have := HBr.out.size; omega) (fun j hj => by cases hj; exact Nat.le_refl _))
      clear hS5 hg5
      go_wp2
      refine ⟨⟨k + 1, by omega, by go_num, HS5.out, HN5.out, HX5.out, HB5.out⟩, by simp [intOf]; omega⟩
    · have hkl : k = l.length := by omega
      subst hkl
      have HSe : Hid (kbl wr (.map (some w.heap.size)) l.length (strOf l)) := Lib.hid (by have := HSr.out; rw [List.take_length] at this; exact this)
      have hwr := hb.size
      clear hS hN hX hb HSr x0 x1
      go_wp2
      go_loopw [28] (fun i wq => ∃ k : Nat, k <= us.length /\ i = .int .i64 k /\ kbl wq (.map (some w.heap.size)) l.length (strOf l) /\ kc3 w wq (w.heap.size + 1) k (kgd (us.take k)) /\ wq.heap[w.heap.size + 2]? = some (.cells #[.map (some w.heap.size), .map (some (w.heap.size + 1))] 52 (0, 0)) /\ Below w.heap.size w wq) (fun i _ => us.length - (intOf i).toNat)
      case atStart => exact ⟨0, Nat.zero_le _, rfl, HSe.out, HNr.out, HXr.out, HBr.out⟩
      case round =>
        obtain ⟨k, hk, rfl, hS, hN, hX, hb⟩ := hrel
        have HSq := Lib.hid hS
        have HNq := Lib.hid hN
        have HBq := Lib.hid hb
        have HXq := Lib.hid hX
        have lX := lt_of_block hX
        have x0 : wr.cell? ⟨w.heap.size + 2, 0, none⟩ = some (.map (some w.heap.size)) := (ka3 hX 0).trans rfl
        have x1 : wr.cell? ⟨w.heap.size + 2, 1, none⟩ = some (.map (some (w.heap.size + 1))) := (ka3 hX 1).trans rfl
        by_cases hlt : k < us.length
        · obtain ⟨u, hu⟩ : ∃ u, us[k]? = some u := ⟨_, List.getElem?_eq_getElem hlt⟩
          obtain ⟨g, o, c', x, hv', hg, hux, hxl, hcell⟩ := kaQ HU.out hu
          simp only [Value.slice.injEq, true_and] at hv'
          obtain ⟨rfl, rfl⟩ := hv'
          have HUX := Lib.hid hux
          obtain ⟨iv, vv, qv, lv, rfl, -⟩ := hux
          have q : ∀ j, j < 8 -> wr.cell? ⟨g, o + k * 8 + j, none⟩ = _ := fun j hj => (hb.cell (p := ⟨g, o + k * 8 + j, none⟩) hg).trans (hcell j hj)
          have q0 : wr.cell? ⟨g, o + k * 8, none⟩ = some (.bool u.contract) := q 0 (by omega)
          have q1 : wr.cell? ⟨g, o + k * 8 + 1, none⟩ = some (.string (str u.name)) := q 1 (by omega)
          have q2 : wr.cell? ⟨g, o + k * 8 + 2, none⟩ = some iv := q 2 (by omega)
          have q3 : wr.cell? ⟨g, o + k * 8 + 3, none⟩ = some (.string (str u.out.name)) := q 3 (by omega)
          have q4 : wr.cell? ⟨g, o + k * 8 + 4, none⟩ = some (.int .i64 u.out.ty) := q 4 (by omega)
          have q5 : wr.cell? ⟨g, o + k * 8 + 5, none⟩ = some vv := q 5 (by omega)
          have q6 : wr.cell? ⟨g, o + k * 8 + 6, none⟩ = some qv := q 6 (by omega)
          have q7 : wr.cell? ⟨g, o + k * 8 + 7, none⟩ = some lv := q 7 (by omega)
          have hgr : g < wr.heap.size := by have := hb.size; omega
          obtain ⟨w4, hw4⟩ : ∃ W, wr.alloc (.cells #[.bool u.contract, .string (str u.name), iv, .string (str u.out.name), .int .i64 u.out.ty, vv, qv, lv] 39) = W := ⟨_, rfl⟩
          have hb4 : Below wr.heap.size wr w4 := hw4 ▸ below_new wr _
          have HC := Lib.hid (kjH w (.map (some w.heap.size)) (w.heap.size + 1) k (kgd (us.take k)) u _ w4 (hN.below hb4) HUX.out (by unfold maxLen; omega))
          have HNX := Lib.hid (nodOf_next us k u hu)
          have HW4 := Lib.hid hw4
          have HB4 := Lib.hid hb4
          obtain ⟨iv', vv', qv', lv', hxx, z1, z2, z3, z4, -⟩ := HUX.out
          simp only [List.cons.injEq, and_true, true_and] at hxx
          obtain ⟨rfl, rfl, rfl, rfl⟩ := hxx
          obtain ⟨B1, d1, rfl, -, -, -⟩ := rown_form z1
          obtain ⟨B2, d2, rfl, -, -, -⟩ := rown_form z2
          obtain ⟨B3, d3, rfl, -, -, -⟩ := rown_form z3
          obtain ⟨B4, d4, rfl, -, -, -⟩ := rown_form z4
          clear hu hcell hS hN hX hb hw4 hb4 q z1 z2 z3 z4
          go_wp2_with fail
          rw [HW4.out]
          go_wp2_with fail
          refine HC.out.mono ?_
          rintro r w5 ⟨rfl, hN5, hs5, hg5⟩
          rw [<- HNX.out] at hN5
          have HN5 := Lib.hid hN5
          have hw4s := HB4.out.size
          have HS5 : Hid (kbl w5 (.map (some w.heap.size)) l.length (strOf l)) := Lib.hid (by
            obtain ⟨b', hb', hm'⟩ := HSq.out.below HB4.out
            simp only [Value.map.injEq, Option.some.injEq] at hb'
            subst hb'
            exact ⟨_, rfl, hm'.grown hg5 (by simp)⟩)
          have HX5 : Hid (w5.heap[w.heap.size + 2]? = some (.cells #[.map (some w.heap.size), .map (some (w.heap.size + 1))] 52 (0, 0))) := Lib.hid ((hg5.block _ (by omega) (by simp)).trans ((HB4.out.block _ lX).trans HXq.out))
          have HB5 : Hid (Below w.heap.size w w5) := Lib.hid ((HBq.out.trans (HB4.out.mono HBq.out.size)).grown hg5 (by have := HBq.out.size; omega) (fun j hj => by cases hj; exact Nat.le_succ _))
          clear hN5 hg5
          go_wp2
          refine ⟨⟨k + 1, by omega, by go_num, HS5.out, HN5.out, HX5.out, HB5.out⟩, by simp [intOf]; omega⟩
        · have hkl : k = us.length := by omega
          subst hkl
          have HC := Lib.hid (of_any (.map (some w.heap.size)) (.map (some (w.heap.size + 1))) _ l.length us.length (kcG l us) e wr hS (.inr ⟨w, w.heap.size + 1, rfl, by rw [List.take_length] at hN; exact hN⟩) (HT.out.below hb HT.out.1) (HV.out.below hb (Nat.le_refl _)) hs)
          rw [HR.out] at HC
          clear hS hN hX hb
          go_wp2_with fail
          refine HC.out.mono ?_
          rintro r w5 ⟨rfl, hb5⟩
          have HB5 : Hid (Below w.heap.size w w5) := Lib.hid (HBq.out.trans (hb5.mono HBq.out.size))
          clear hb5
          go_wp2
          go_ret2
          exact ⟨rfl, HB5.out⟩
end Go.Proofs.YtlhcajhgbkgjbaaDoor.Ty

/- Layer types: an expression that must be of a type; an equation; an item. Conditions: the maps and the table lie in memory. -/
namespace Go.Proofs.YtlhcajhgbkgjbaaDoor.Ty
open Go.ChangeShapes Go.WideShapes Go.ChangeAt Go.RowKit
open Tr
open Pg (Prm Eqn Itm Unt)
open Go.Proofs.YtlhcajhgbkgjbaaDoor.Ow (PrmN EqnN ItmN UntN RowN kaQ rown_form)
noncomputable def isM (E : Env) (e : List Nd) (t : Int) : Int := if (tyM E e).2 = 0 /\ (tyM E e).1 ≠ t then 10 else (tyM E e).2
noncomputable def eqnM (E : Env) (q : Eqn) : Int := match E.str q.name with | none => 8 | some t => isM E q.e t
noncomputable def khb (E : Env) (i : Itm) : Int :=
  if i.kind = 1 ∨ i.kind = 2 then isM E i.e 1 else if i.kind = 4 then (if isM E i.e 1 ≠ 0 then isM E i.e 1 else isM E i.f 1) else if i.kind = 3 then isM E i.e i.ty else 0
def ErrP (w : World) (x : Int) (e : Ending) (w' : World) : Prop := e = .returned (.int .i64 x) /\ Below w.heap.size w w'
theorem khh {w w' : World} {x y : Int} (h : x = y) (hb : Below w.heap.size w w') : ErrP w x (.returned (.int .i64 y)) w' := by subst h; exact ⟨rfl, hb⟩
set_option maxRecDepth 100000 in
set_option maxHeartbeats 4000000 in
theorem kfL (sv nv v : Value) (n1 n2 : Nat) (E : Env) (e : List Nd) (t : Int) (w : World) (hS : kbl w sv n1 E.str) (hN : kcY w nv n2 E.nod) (hT : ShAt w) (hv : Nodes w v e) (hs : Short e) :
    Calls Tryd.prog 71 #[.agg #[sv, nv], v, .int .i64 t] w (ErrP w (isM E e t)) := by
  have hb1 := below_new w (.cells #[sv, nv] 52)
  obtain ⟨w1, hw1⟩ : ∃ W, w.alloc (.cells #[sv, nv] 52) = W := ⟨_, rfl⟩
  rw [hw1] at hb1
  have hX : w1.heap[w.heap.size]? = some (.cells #[sv, nv] 52 (0, 0)) := hw1 ▸ heap_alloc_new w _
  have p0 : w1.cell? ⟨w.heap.size, 0, none⟩ = some sv := (ka3 hX 0).trans rfl
  have p1 : w1.cell? ⟨w.heap.size, 1, none⟩ = some nv := (ka3 hX 1).trans rfl
  have HC := Lib.hid (of_any sv nv v n1 n2 E e w1 (hS.below hb1) (hN.below hb1) (hT.below hb1 hT.1) (hv.below hb1 (Nat.le_refl _)) hs)
  have HE := Lib.hid (show isM E e t = if (tyM E e).2 = 0 /\ (tyM E e).1 ≠ t then 10 else (tyM E e).2 from rfl)
  obtain ⟨⟨p, q⟩, hpq⟩ : ∃ y, tyM E e = y := ⟨_, rfl⟩
  rw [hpq] at HC HE
  simp only at HE
  obtain ⟨A, c, rfl, -⟩ := hv
  obtain ⟨R, hR⟩ : ∃ R, isM E e t = R := ⟨_, rfl⟩
  rw [hR] at HE ⊢
  have HB1 := Lib.hid hb1
  have HW1 := Lib.hid hw1
  clear hX hpq hR hS hN hT hb1 hw1
  by_cases hq : q = 0
  · subst hq
    by_cases hpt : p = t
    · have hb : (p != t) = false := by simp [hpt]
      have HR : Hid (R = 0) := Lib.hid (by rw [HE.out, if_neg (by simp [hpt])])
      clear hpt
      go_enter Tryd.func71, Tryd.ntmps71
      go_wp2_with fail
      rw [HW1.out]
      go_wp2_with fail
      refine HC.out.mono ?_
      rintro r w2 ⟨rfl, hb2⟩
      have HB2 : Hid (Below w.heap.size w w2) := Lib.hid (HB1.out.trans (hb2.mono HB1.out.size))
      clear hb2
      go_wp2
      go_ret
      exact khh HR.out HB2.out
    · have hb : (p != t) = true := by simpa using hpt
      have HR : Hid (R = 10) := Lib.hid (by rw [HE.out, if_pos ⟨rfl, hpt⟩])
      clear hpt
      go_enter Tryd.func71, Tryd.ntmps71
      go_wp2_with fail
      rw [HW1.out]
      go_wp2_with fail
      refine HC.out.mono ?_
      rintro r w2 ⟨rfl, hb2⟩
      have HB2 : Hid (Below w.heap.size w w2) := Lib.hid (HB1.out.trans (hb2.mono HB1.out.size))
      clear hb2
      go_wp2
      go_ret
      exact khh HR.out HB2.out
  · have hb : (q == 0) = false := by simpa using hq
    have HR : Hid (R = q) := Lib.hid (by rw [HE.out, if_neg (fun h => hq h.1)])
    clear hq
    go_enter Tryd.func71, Tryd.ntmps71
    go_wp2_with fail
    rw [HW1.out]
    go_wp2_with fail
    refine HC.out.mono ?_
    rintro r w2 ⟨rfl, hb2⟩
    have HB2 : Hid (Below w.heap.size w w2) := Lib.hid (HB1.out.trans (hb2.mono HB1.out.size))
    clear hb2
    go_wp2
    go_ret
    exact khh HR.out HB2.out
set_option maxRecDepth 100000 in
set_option maxHeartbeats 4000000 in
theorem eqn_any (sv nv : Value) (n1 n2 : Nat) (E : Env) (q : Eqn) (x : List Value) (w : World) (hS : kbl w sv n1 E.str) (hN : kcY w nv n2 E.nod) (hT : ShAt w) (hx : EqnN w q x) :
    Calls Tryd.prog 49 #[.agg #[sv, nv], .agg x.toArray] w (ErrP w (eqnM E q)) := by
  obtain ⟨ev, rfl, hv, hn, hs⟩ := hx
  have N := kaV w (.cells #[sv, nv] 52) (.cells #[.string (str q.name), ev] 103)
  obtain ⟨w1, hw1⟩ : ∃ W, (w.alloc (.cells #[sv, nv] 52)).alloc (.cells #[.string (str q.name), ev] 103) = W := ⟨_, rfl⟩
  rw [hw1] at N
  have hb1 := N.1
  have l1 := lt_of_block N.2.1
  have l2 := lt_of_block N.2.2
  have p0 : w1.cell? ⟨w.heap.size, 0, none⟩ = some sv := (ka3 N.2.1 0).trans rfl
  have p1 : w1.cell? ⟨w.heap.size, 1, none⟩ = some nv := (ka3 N.2.1 1).trans rfl
  have p2 : w1.cell? ⟨w.heap.size + 1, 0, none⟩ = some (.string (str q.name)) := (ka3 N.2.2 0).trans rfl
  have HX1 := Lib.hid N.2.1
  have HX2 := Lib.hid N.2.2
  have HC := Lib.hid (kfv sv nv n1 E.str q.name w1 (hS.below hb1) hn)
  have HI : Hid (∀ W t, Below w1.heap.size w1 W -> Calls Tryd.prog 71 #[.agg #[sv, nv], ev, .int .i64 t] W (ErrP W (isM E q.e t))) := Lib.hid (fun W t h => by
    have hb : Below w.heap.size w W := hb1.trans (h.mono hb1.size)
    exact kfL sv nv ev n1 n2 E q.e t W (hS.below hb) (hN.below hb) (hT.below hb hT.1) (hv.below hb (Nat.le_refl _)) hs)
  have HE := Lib.hid (show eqnM E q = match E.str q.name with | none => 8 | some t => isM E q.e t from rfl)
  obtain ⟨R, hR⟩ : ∃ R, eqnM E q = R := ⟨_, rfl⟩
  rw [hR] at HE ⊢
  obtain ⟨A, c, rfl, -⟩ := hv
  have HB1 := Lib.hid hb1
  have HW1 := Lib.hid hw1
  cases hf : E.str q.name with
  | none =>
    rw [hf] at HC HE
    clear hf hR N hb1 hw1 hS hN hT
    go_enter Tryd.func49, Tryd.ntmps49
    go_wp2_with fail
    rw [HW1.out]
    go_wp2_with fail
    refine HC.out.mono ?_
    rintro r w2 ⟨rfl, hb2⟩
    have HB2 : Hid (Below w.heap.size w w2) := Lib.hid (HB1.out.trans (hb2.mono HB1.out.size))
    clear hb2
    simp only [strR]
    go_wp2
    go_ret
    exact khh HE.out HB2.out
  | some t =>
    rw [hf] at HC HE
    clear hf hR N hb1 hw1 hS hN hT
    go_enter Tryd.func49, Tryd.ntmps49
    go_wp2_with fail
    rw [HW1.out]
    go_wp2_with fail
    refine HC.out.mono ?_
    rintro r w2 ⟨rfl, hb2⟩
    have HB2 : Hid (Below w1.heap.size w1 w2) := Lib.hid hb2
    have h1 := (hb2.block _ l1).trans HX1.out
    have h2 := (hb2.block _ l2).trans HX2.out
    have q0 : w2.cell? ⟨w.heap.size, 0, none⟩ = some sv := (ka3 h1 0).trans rfl
    have q1 : w2.cell? ⟨w.heap.size, 1, none⟩ = some nv := (ka3 h1 1).trans rfl
    have q3 : w2.cell? ⟨w.heap.size + 1, 1, none⟩ = some (.slice A q.e.length c) := (ka3 h2 1).trans rfl
    have HI2 := Lib.hid (HI.out w2 t hb2)
    clear hb2 h1 h2
    simp only [strR]
    go_wp2_with fail
    refine HI2.out.mono ?_
    rintro r w3 ⟨rfl, hb3⟩
    have HB3 : Hid (Below w.heap.size w w3) := Lib.hid (HB1.out.trans ((HB2.out.trans (hb3.mono HB2.out.size)).mono HB1.out.size))
    clear hb3
    go_wp2
    go_ret
    exact khh HE.out HB3.out
end Go.Proofs.YtlhcajhgbkgjbaaDoor.Ty

