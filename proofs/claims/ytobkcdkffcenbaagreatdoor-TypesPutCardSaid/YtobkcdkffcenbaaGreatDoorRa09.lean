/- Layer types: a unit. Conditions: the nodes ahead and the table lie in memory. -/
import Derived.Test.YtobkcdkffcenbaaGreatDoorRa08
import Derived.Test.YtobkcdkffcenbaaGreatDoorKb17
import Derived.Test.YtobkcdkffcenbaaGreatDoorKa13
import Derived.Test.YtobkcdkffcenbaaGreatDoorKa10
set_option linter.unusedVariables false
set_option linter.unusedSimpArgs false
namespace Go.Proofs.YtobkcdkffcenbaaGreatDoor.Ty
open Go.ChangeShapes Go.WideShapes Go.ChangeAt Go.RowKit
open Go.Proofs.YtobkcdkffcenbaaGreatDoor.Tr
open Go.Proofs.YtobkcdkffcenbaaGreatDoor.Pg (Prm Eqn Itm Unt)
open Go.Proofs.YtobkcdkffcenbaaGreatDoor.Ow (PrmN EqnN ItmN UntN RowN rown_at rown_form)
noncomputable def itemsM (f : Bytes → Option Int) : List Itm → Int
  | [] => 0
  | i :: r => if itemM ⟨f, noN⟩ i ≠ 0 then itemM ⟨f, noN⟩ i else itemsM (nextF f i) r
noncomputable def eqnsM (E : Env) : List Eqn → Int
  | [] => 0
  | q :: r => if eqnM E q ≠ 0 then eqnM E q else eqnsM E r
noncomputable def unitM (g : Bytes → Option (List Int × Int)) (u : Unt) : Int :=
  if itemsM (strOf (streamsM u)) u.items ≠ 0 then itemsM (strOf (streamsM u)) u.items else eqnsM ⟨strOf (streamsM u), g⟩ u.eqs
theorem drop_at {α : Type} {l : List α} {j : Nat} {e : α} (h : l[j]? = some e) : l.drop j = e :: l.drop (j + 1) := by
  have hj := (List.getElem?_eq_some_iff.1 h).1
  rw [List.drop_eq_getElem_cons hj]; congr 1; exact (List.getElem?_eq_some_iff.1 h).2
theorem grown_tr {w a b : World} {row : Option Nat} (g1 : w.grownBy a row) (g2 : a.grownBy b row) : w.grownBy b row :=
  ⟨g2.os.trans g1.os, g2.tape.trans g1.tape, g2.output.trans g1.output, Nat.le_trans g1.size g2.size, fun k hk hne => (g2.block k (Nat.lt_of_lt_of_le hk g1.size) hne).trans (g1.block k hk hne)⟩
set_option maxRecDepth 100000 in
set_option maxHeartbeats 16000000 in
theorem unit_any (nv : Value) (n2 : Nat) (g : Bytes → Option (List Int × Int)) (u : Unt) (x : List Value) (w : World) (hN : NodAt w nv n2 g) (hT : ShAt w) (hu : UntN w u x) (h1 : u.ins.length ≤ 1000) (h2 : u.vars.length ≤ 1000) (h3 : u.items.length ≤ 1000000) :
    Calls Tryz.prog 15 #[.agg #[.map none, nv], .agg x.toArray] w (ErrP w (unitM g u)) := by
  have hmm := @run_makeMap Tryz.prog
  obtain ⟨nr, rfl⟩ : ∃ r, nv = .map r := by
    rcases hN with ⟨rfl, _⟩ | ⟨_, b, rfl, _⟩
    · exact ⟨_, rfl⟩
    · exact ⟨_, rfl⟩
  have HU := Lib.hid hu
  obtain ⟨iv, vv, qv, lv, rfl, u1, u2, u3, u4, hs, hso⟩ := hu
  have U3 := Lib.hid u3
  have U4 := Lib.hid u4
  obtain ⟨Ai, ci, rfl, -, -, -⟩ := rown_form u1
  obtain ⟨Av, cv, rfl, -, -, -⟩ := rown_form u2
  obtain ⟨Aq, cq, rfl, k1, k2, -⟩ := rown_form u3
  obtain ⟨Al, cl, rfl, k3, k4, -⟩ := rown_form u4
  unfold maxLen at k2 k4
  clear u1 u2 u3 u4
  have N := news_two w (.cells #[.map none, (.map nr)] 60) (.cells #[.bool u.contract, .string (str u.name), .slice Ai u.ins.length ci, .string (str u.out.name), .int .i64 u.out.ty, .slice Av u.vars.length cv, .slice Aq u.eqs.length cq, .slice Al u.items.length cl] 49)
  obtain ⟨w1, hw1⟩ : ∃ W, (w.alloc (.cells #[.map none, (.map nr)] 60)).alloc (.cells #[.bool u.contract, .string (str u.name), .slice Ai u.ins.length ci, .string (str u.out.name), .int .i64 u.out.ty, .slice Av u.vars.length cv, .slice Aq u.eqs.length cq, .slice Al u.items.length cl] 49) = W := ⟨_, rfl⟩
  have n1 : w1.heap.size = w.heap.size + 2 := by rw [← hw1]; simp
  rw [hw1] at N
  have hb1 := N.1
  have l1 := lt_of_block N.2.1
  have l2 := lt_of_block N.2.2
  have N2 := news_two w1 (.map #[] 0) (.cells #[.map (some w1.heap.size), (.map nr)] 60)
  have hm1 : MapIs ((w1.alloc (.map #[] 0)).alloc (.cells #[.map (some w1.heap.size), (.map nr)] 60)) w1.heap.size 0 (fun s => (strOf ([] : List Prm) s).map (Value.int .i64 ·)) := (MapIs.made w1).alloc _
  obtain ⟨w2, hw2⟩ : ∃ W, (w1.alloc (.map #[] 0)).alloc (.cells #[.map (some w1.heap.size), (.map nr)] 60) = W := ⟨_, rfl⟩
  rw [hw2] at N2 hm1
  rw [n1] at N2 hw2 hm1
  have hb2 : Below w.heap.size w w2 := hb1.trans ((n1 ▸ N2.1 : Below w1.heap.size w1 w2).mono hb1.size)
  have hb12 : Below w1.heap.size w1 w2 := n1 ▸ N2.1
  have n2s : w2.heap.size = w.heap.size + 4 := by rw [← hw2]; simp [n1]
  -- what stays of the boxes
  have X1 : w2.heap[w.heap.size + 1]? = some (.cells #[.bool u.contract, .string (str u.name), .slice Ai u.ins.length ci, .string (str u.out.name), .int .i64 u.out.ty, .slice Av u.vars.length cv, .slice Aq u.eqs.length cq, .slice Al u.items.length cl] 49 (0, 0)) := (hb12.block _ l2).trans N.2.2
  have X2 : w2.heap[w.heap.size + 2 + 1]? = some (.cells #[.map (some (w.heap.size + 2)), (.map nr)] 60 (0, 0)) := N2.2.2
  have X0 : w1.heap[w.heap.size]? = some (.cells #[.map none, (.map nr)] 60 (0, 0)) := N.2.1
  have x00 : w1.cell? ⟨w.heap.size, 1, none⟩ = some (.map nr) := (cells_at X0 1).trans rfl
  have hC := streams_any u _ w2 (Ow.UntN.below hb2 _ _ HU.out) h1 h2
  have HC := Lib.hid hC
  have HX1 := Lib.hid X1
  have HX2 := Lib.hid X2
  have y0 : w2.cell? ⟨w.heap.size + 1, 0, none⟩ = some (.bool u.contract) := (cells_at X1 0).trans rfl
  have y1 : w2.cell? ⟨w.heap.size + 1, 1, none⟩ = some (.string (str u.name)) := (cells_at X1 1).trans rfl
  have y2 : w2.cell? ⟨w.heap.size + 1, 2, none⟩ = some (.slice Ai u.ins.length ci) := (cells_at X1 2).trans rfl
  have y3 : w2.cell? ⟨w.heap.size + 1, 3, none⟩ = some (.string (str u.out.name)) := (cells_at X1 3).trans rfl
  have y4 : w2.cell? ⟨w.heap.size + 1, 4, none⟩ = some (.int .i64 u.out.ty) := (cells_at X1 4).trans rfl
  have y5 : w2.cell? ⟨w.heap.size + 1, 5, none⟩ = some (.slice Av u.vars.length cv) := (cells_at X1 5).trans rfl
  have y6 : w2.cell? ⟨w.heap.size + 1, 6, none⟩ = some (.slice Aq u.eqs.length cq) := (cells_at X1 6).trans rfl
  have y7 : w2.cell? ⟨w.heap.size + 1, 7, none⟩ = some (.slice Al u.items.length cl) := (cells_at X1 7).trans rfl
  have HB2 := Lib.hid hb2
  have HM1 := Lib.hid hm1
  have HN2S := Lib.hid n2s
  have HW1 := Lib.hid hw1
  have HW2 := Lib.hid hw2
  have HNW : Hid (∀ W, Below w.heap.size w W → NodAt W (.map nr) n2 g) := Lib.hid (fun W h => hN.below h)
  have HTW : Hid (∀ W, Below w.heap.size w W → ShAt W) := Lib.hid (fun W h => hT.below h hT.1)
  obtain ⟨R, hR⟩ : ∃ R, unitM g u = R := ⟨_, rfl⟩
  have HR := Lib.hid (show (if itemsM (strOf (streamsM u)) u.items ≠ 0 then itemsM (strOf (streamsM u)) u.items else eqnsM ⟨strOf (streamsM u), g⟩ u.eqs) = R from hR)
  rw [hR]
  have HLL : Hid ((streamsM u).length ≤ 2001) := Lib.hid (by
    unfold streamsM
    split
    · omega
    · simp; omega)
  have n1' : ((w.alloc (.cells #[.map none, (.map nr)] 60)).alloc (.cells #[.bool u.contract, .string (str u.name), .slice Ai u.ins.length ci, .string (str u.out.name), .int .i64 u.out.ty, .slice Av u.vars.length cv, .slice Aq u.eqs.length cq, .slice Al u.items.length cl] 49)).heap.size = w.heap.size + 2 := by simp
  obtain ⟨L, hL⟩ : ∃ L, streamsM u = L := ⟨_, rfl⟩
  rw [hL] at HC HR HLL
  clear n1' hR hN hT hC hm1 hb2 hb1 hb12 N N2 X0 X1 X2 l1 l2 hL h1 h2
  go_enter Tryz.func15, Tryz.ntmps15
  go_wp2_with fail
  refine HC.out.mono ?_
  rintro r w3 ⟨lv, rfl, hrow, hb3⟩
  have HB23 := Lib.hid hb3
  have HB3 : Hid (Below w.heap.size w w3) := Lib.hid (HB2.out.trans (hb3.mono HB2.out.size))
  have HROW := Lib.hid hrow
  have hs3 := hb3.size
  have HX2c : Hid (w3.heap[w.heap.size + 2 + 1]? = some (.cells #[.map (some (w.heap.size + 2)), .map nr] 60 (0, 0))) := Lib.hid ((hb3.block _ (by have := HN2S.out; omega)).trans HX2.out)
  have HX1c : Hid (w3.heap[w.heap.size + 1]? = some (.cells #[.bool u.contract, .string (str u.name), .slice Ai u.ins.length ci, .string (str u.out.name), .int .i64 u.out.ty, .slice Av u.vars.length cv, .slice Aq u.eqs.length cq, .slice Al u.items.length cl] 49 (0, 0))) := Lib.hid ((hb3.block _ (by have := HN2S.out; omega)).trans HX1.out)
  have HM3 : Hid (MapIs w3 (w.heap.size + 2) 0 (fun s => (strOf (L.take 0) s).map (Value.int .i64 ·))) := Lib.hid (HM1.out.below hb3 (by have := HN2S.out; omega))
  have hmb : ∀ g o v, w3.cell? ⟨g, o, none⟩ = some v → g ≠ w.heap.size + 2 := fun g o v h hg => by
    subst hg
    obtain ⟨D, ⟨es, clock, hh, _⟩, _⟩ := HM3.out
    simp [World.cell?, hh] at h
  have HMB := Lib.hid hmb
  obtain ⟨A0, c0, rfl, r1, r2, -⟩ := rown_form hrow
  unfold maxLen at r2
  have HSZ3 : Hid (w.heap.size + 4 ≤ w3.heap.size) := Lib.hid (by have := HN2S.out; omega)
  clear hrow hb3 hmb hw1 hw2 y0 y1 y2 y3 y4 y5 y6 y7 x00 n1 n2s hs3
  go_wp2
  go_loopw [22] (fun i wr => ∃ k : Nat, k ≤ L.length ∧ i = .int .i64 k ∧ StrAt wr (.map (some (w.heap.size + 2))) k (strOf (L.take k)) ∧ w3.grownBy wr (some (w.heap.size + 2))) (fun i _ => L.length - (intOf i).toNat)
  case atStart => exact ⟨0, Nat.zero_le _, rfl, ⟨_, rfl, HM3.out⟩, ⟨rfl, rfl, rfl, Nat.le_refl _, fun _ _ _ => rfl⟩⟩
  case round =>
    obtain ⟨k, hk, rfl, hS, hg⟩ := hrel
    have HS := Lib.hid hS
    have HG := Lib.hid hg
    have hsz := hg.size
    have hz3 := HSZ3.out
    have hX := (hg.block (w.heap.size + 2 + 1) (by omega) (by simp)).trans HX2c.out
    have HX := Lib.hid hX
    have p0 : wr.cell? ⟨w.heap.size + 2 + 1, 0, none⟩ = some (.map (some (w.heap.size + 2))) := (cells_at hX 0).trans rfl
    have p1 : wr.cell? ⟨w.heap.size + 2 + 1, 1, none⟩ = some (.map nr) := (cells_at hX 1).trans rfl
    have lX := lt_of_block hX
    by_cases hlt : k < L.length
    · obtain ⟨p, hp⟩ : ∃ p, L[k]? = some p := ⟨_, List.getElem?_eq_getElem hlt⟩
      obtain ⟨gg, o, c', x, hv', hgl, hpx, hxl, hcell⟩ := rown_at HROW.out hp
      simp only [Value.slice.injEq, true_and] at hv'
      obtain ⟨rfl, rfl⟩ := hv'
      obtain ⟨rfl, hpn⟩ := hpx
      have hc0 : w3.cell? ⟨gg, o + k * 2 + 0, none⟩ = some (.string (str p.name)) := hcell 0 (by omega)
      have hne : gg ≠ w.heap.size + 2 := HMB.out _ _ _ hc0
      have hbk := hg.block gg hgl (by simpa using hne)
      have q0 : wr.cell? ⟨gg, o + k * 2 + 0, none⟩ = some (.string (str p.name)) := (World.cell?_of_block (w := w3) (a := ⟨gg, _, none⟩) hbk).trans hc0
      have q1 : wr.cell? ⟨gg, o + k * 2 + 1, none⟩ = some (.int .i64 p.ty) := (World.cell?_of_block (w := w3) (a := ⟨gg, _, none⟩) hbk).trans (hcell 1 (by omega))
      rw [Nat.add_zero] at q0
      have hgr : gg < wr.heap.size := by omega
      obtain ⟨w4, hw4⟩ : ∃ W, wr.alloc (.cells #[.string (str p.name), .int .i64 p.ty] 45) = W := ⟨_, rfl⟩
      have hb4 : Below wr.heap.size wr w4 := hw4 ▸ below_new wr _
      have hll := HLL.out
      have HC4 := Lib.hid (addS_any (w.heap.size + 2) (.map nr) k (strOf (L.take k)) p w4 (hS.below hb4) (by unfold maxLen; omega) hpn)
      have HNX := Lib.hid (strOf_next L k p hp)
      have HW4 := Lib.hid hw4
      have HB4 := Lib.hid hb4
      clear hp hcell hS hg hX hw4 hb4 hc0 hbk
      go_wp2_with fail
      rw [HW4.out]
      go_wp2_with fail
      refine HC4.out.mono ?_
      rintro r w5 ⟨rfl, hS5, hs5, hg5⟩
      rw [← HNX.out] at hS5
      have HS5 := Lib.hid hS5
      have HG5 : Hid (w3.grownBy w5 (some (w.heap.size + 2))) := Lib.hid (grown_tr HG.out (grown_tr (grown_of (w.heap.size + 2) HB4.out) hg5))
      clear hS5 hg5
      go_wp2
      refine ⟨⟨k + 1, by omega, by go_num, HS5.out, HG5.out⟩, by simp [intOf]; omega⟩
    · have hkl : k = L.length := by omega
      subst hkl
      have HSL : Hid (StrAt wr (.map (some (w.heap.size + 2))) L.length (strOf L)) := Lib.hid (by have := HS.out; rw [List.take_length] at this; exact this)
      have hml : MapIs wr (w.heap.size + 2) L.length (fun s => (strOf L s).map (Value.int .i64 ·)) := by
        obtain ⟨b', hb', hm'⟩ := HSL.out
        simp only [Value.map.injEq, Option.some.injEq] at hb'
        subst hb'
        exact hm'
      have HCL : Hid (Calls Tryz.prog 44 #[.map (some (w.heap.size + 2))] wr fun e w' => ∃ m, e = .returned (.map (some m)) ∧ wr.heap.size ≤ m ∧ MapIs w' m L.length (fun s => (strOf L s).map (Value.int .i64 ·)) ∧ Below wr.heap.size wr w') := Lib.hid ((clone_any (w.heap.size + 2) L.length _ wr hml).mono (fun e w' hh => ⟨_, hh.1, Nat.le_refl _, hh.2⟩))
      have HX1r : Hid (wr.heap[w.heap.size + 1]? = some (.cells #[.bool u.contract, .string (str u.name), .slice Ai u.ins.length ci, .string (str u.out.name), .int .i64 u.out.ty, .slice Av u.vars.length cv, .slice Aq u.eqs.length cq, .slice Al u.items.length cl] 49 (0, 0))) := Lib.hid ((hg.block (w.heap.size + 1) (by omega) (by simp)).trans HX1c.out)
      have HBr : Hid (Below w.heap.size w wr) := Lib.hid (HB3.out.grown hg (by omega) (fun j hj => by cases hj; omega))
      have hwrs : w.heap.size + 4 ≤ wr.heap.size := by omega
      clear hS hg hX HS hml
      go_wp2_with fail
      refine HCL.out.mono ?_
      rintro r w5 ⟨m2, rfl, hm2, hm5, hb5⟩
      obtain ⟨w6, hw6⟩ : ∃ W, w5.alloc (.cells #[.map (some m2), .map none] 60) = W := ⟨_, rfl⟩
      have hb6 : Below w5.heap.size w5 w6 := hw6 ▸ below_new w5 _
      have hb56 : Below wr.heap.size wr w6 := hb5.trans (hb6.mono hb5.size)
      have hX6 : w6.heap[w5.heap.size]? = some (.cells #[.map (some m2), .map none] 60 (0, 0)) := hw6 ▸ heap_alloc_new w5 _
      have hm5l := hm5.lt
      have hs6 := hb6.size
      have HS6 : Hid (StrAt w6 (.map (some m2)) L.length (strOf L)) := Lib.hid ⟨_, rfl, hm5.below hb6 hm5l⟩
      have HSL6 : Hid (StrAt w6 (.map (some (w.heap.size + 2))) L.length (strOf L)) := Lib.hid (HSL.out.below hb56)
      have HX6 := Lib.hid hX6
      have l6 := lt_of_block hX6
      have HX16 : Hid (w6.heap[w.heap.size + 1]? = some (.cells #[.bool u.contract, .string (str u.name), .slice Ai u.ins.length ci, .string (str u.out.name), .int .i64 u.out.ty, .slice Av u.vars.length cv, .slice Aq u.eqs.length cq, .slice Al u.items.length cl] 49 (0, 0))) := Lib.hid ((hb56.block _ (by omega)).trans HX1r.out)
      have HX26 : Hid (w6.heap[w.heap.size + 2 + 1]? = some (.cells #[.map (some (w.heap.size + 2)), .map nr] 60 (0, 0))) := Lib.hid ((hb56.block _ (by omega)).trans HX.out)
      have HB6 : Hid (Below w.heap.size w w6) := Lib.hid (HBr.out.trans (hb56.mono HBr.out.size))
      have hX15 : w5.heap[w.heap.size + 1]? = some (.cells #[.bool u.contract, .string (str u.name), .slice Ai u.ins.length ci, .string (str u.out.name), .int .i64 u.out.ty, .slice Av u.vars.length cv, .slice Aq u.eqs.length cq, .slice Al u.items.length cl] 49 (0, 0)) := (hb5.block _ (by omega)).trans HX1r.out
      have z7 : w5.cell? ⟨w.heap.size + 1, 7, none⟩ = some (.slice Al u.items.length cl) := (cells_at hX15 7).trans rfl
      have l15 := lt_of_block hX15
      have y7 : w6.cell? ⟨w.heap.size + 1, 7, none⟩ = some (.slice Al u.items.length cl) := (cells_at HX16.out 7).trans rfl
      have y6 : w6.cell? ⟨w.heap.size + 1, 6, none⟩ = some (.slice Aq u.eqs.length cq) := (cells_at HX16.out 6).trans rfl
      have HW6 := Lib.hid hw6
      have hs56 := hb56.size
      have hm26 : m2 < w6.heap.size := by omega
      have h5w : m2 < w5.heap.size := hm5l
      have hmw : w.heap.size + 4 ≤ m2 := by omega
      have HRE : Hid (itemsM (strOf L) u.items ≠ 0 → R = itemsM (strOf L) u.items) := Lib.hid (fun h => by rw [← HR.out, if_pos h])
      have HRZ : Hid (itemsM (strOf L) u.items = 0 → R = eqnsM ⟨strOf L, g⟩ u.eqs) := Lib.hid (fun h => by rw [← HR.out, if_neg (by simp [h])])
      clear hm2 hm5 hb5 hb6 hb56 hX6 hX15 hw6 p0 p1 y7 y6
      go_wp2
      rw [HW6.out]
      go_loopw [37] (fun i wq => ∃ (k : Nat) (fk : Bytes → Option Int), k ≤ u.items.length ∧ i = .int .i64 k ∧ StrAt wq (.map (some m2)) (L.length + k) fk ∧ w6.grownBy wq (some m2) ∧ Hid (itemsM fk (u.items.drop k) = itemsM (strOf L) u.items)) (fun i _ => u.items.length - (intOf i).toNat)
      case atStart => exact ⟨0, strOf L, Nat.zero_le _, rfl, HS6.out, ⟨rfl, rfl, rfl, Nat.le_refl _, fun _ _ _ => rfl⟩, Lib.hid rfl⟩
      case round =>
        obtain ⟨k, fk, hk, rfl, hS, hg, hR2⟩ := hrel
        have HSk := Lib.hid hS
        have HGk := Lib.hid hg
        have hszk := hg.size
        have HBk : Hid (Below w.heap.size w wr) := Lib.hid (HB6.out.grown hg (by have := HB6.out.size; omega) (fun j hj => by cases hj; omega))
        have hX6r := (hg.block w5.heap.size l6 (by simp; omega)).trans HX6.out
        have p0 : wr.cell? ⟨w5.heap.size, 0, none⟩ = some (.map (some m2)) := (cells_at hX6r 0).trans rfl
        have p1 : wr.cell? ⟨w5.heap.size, 1, none⟩ = some (.map none) := (cells_at hX6r 1).trans rfl
        have hX2r := (hg.block (w.heap.size + 2 + 1) (by omega) (by simp; omega)).trans HX26.out
        have hX1r := (hg.block (w.heap.size + 1) (by omega) (by simp; omega)).trans HX16.out
        have HX2r := Lib.hid hX2r
        have lX6 := lt_of_block hX6r
        have y6 : wr.cell? ⟨w.heap.size + 1, 6, none⟩ = some (.slice Aq u.eqs.length cq) := (cells_at hX1r 6).trans rfl
        have lX1 := lt_of_block hX1r
        by_cases hlt : k < u.items.length
        · obtain ⟨it, hit⟩ : ∃ it, u.items[k]? = some it := ⟨_, List.getElem?_eq_getElem hlt⟩
          obtain ⟨gg, o, c', xs, hv', hgl, hpx, hxl, hcell⟩ := rown_at U4.out hit
          simp only [Value.slice.injEq, true_and] at hv'
          obtain ⟨rfl, rfl⟩ := hv'
          have HPX := Lib.hid hpx
          obtain ⟨ev, fv, Aa, na, ca, rfl, hev, hfv, -⟩ := hpx
          have q : ∀ j, j < 6 → wr.cell? ⟨gg, o + k * 6 + j, none⟩ = _ := fun j hj => (HBk.out.cell (p := ⟨gg, o + k * 6 + j, none⟩) hgl).trans (hcell j hj)
          have q0 : wr.cell? ⟨gg, o + k * 6, none⟩ = some (.int .i64 it.kind) := q 0 (by omega)
          have q1 : wr.cell? ⟨gg, o + k * 6 + 1, none⟩ = some (.string (str it.name)) := q 1 (by omega)
          have q2 : wr.cell? ⟨gg, o + k * 6 + 2, none⟩ = some (.int .i64 it.ty) := q 2 (by omega)
          have q3 : wr.cell? ⟨gg, o + k * 6 + 3, none⟩ = some ev := q 3 (by omega)
          have q4 : wr.cell? ⟨gg, o + k * 6 + 4, none⟩ = some fv := q 4 (by omega)
          have q5 : wr.cell? ⟨gg, o + k * 6 + 5, none⟩ = some (.slice Aa na ca) := q 5 (by omega)
          obtain ⟨Ae, ce, rfl, -⟩ := hev
          obtain ⟨Af, cf, rfl, -⟩ := hfv
          have hgr : gg < wr.heap.size := by have := HBk.out.size; omega
          obtain ⟨w7, hw7⟩ : ∃ W, wr.alloc (.cells #[.int .i64 it.kind, .string (str it.name), .int .i64 it.ty, .slice Ae it.e.length ce, .slice Af it.f.length cf, .slice Aa na ca] 53) = W := ⟨_, rfl⟩
          have hb7 : Below wr.heap.size wr w7 := hw7 ▸ below_new wr _
          have hbw7 : Below w.heap.size w w7 := HBk.out.trans (hb7.mono HBk.out.size)
          have hll := HLL.out
          have HC7 := Lib.hid (item_any m2 (L.length + k) fk it _ w7 (hS.below hb7) (HTW.out w7 hbw7) (Ow.ItmN.below hbw7 _ _ HPX.out) (by unfold maxLen; omega))
          have HD : Hid ((if itemM ⟨fk, noN⟩ it ≠ 0 then itemM ⟨fk, noN⟩ it else itemsM (nextF fk it) (u.items.drop (k + 1))) = itemsM (strOf L) u.items) := Lib.hid (by rw [← hR2.out, drop_at hit]; rfl)
          obtain ⟨z, hz⟩ : ∃ z, itemM ⟨fk, noN⟩ it = z := ⟨_, rfl⟩
          rw [hz] at HC7 HD
          have HW7 := Lib.hid hw7
          have HB7 := Lib.hid hb7
          have HBW7 := Lib.hid hbw7
          clear hit hcell hS hg hX6r hX2r hX1r hw7 hb7 hbw7 q hR2 hz
          go_wp2_with fail
          rw [HW7.out]
          go_wp2_with fail
          refine HC7.out.mono ?_
          rintro r w8 ⟨rfl, hS8, hs8, hg8⟩
          have HS8 := Lib.hid hS8
          have HG8 : Hid (w6.grownBy w8 (some m2)) := Lib.hid (grown_tr HGk.out (grown_tr (grown_of m2 HB7.out) hg8))
          have HB8 : Hid (Below w.heap.size w w8) := Lib.hid (HBW7.out.grown hg8 HBW7.out.size (fun j hj => by cases hj; omega))
          clear hS8 hg8
          by_cases hz0 : z = 0
          · subst hz0
            have HN2 : Hid (itemsM (nextF fk it) (u.items.drop (k + 1)) = itemsM (strOf L) u.items) := Lib.hid (by have := HD.out; rw [if_neg (by simp)] at this; exact this)
            go_wp2
            refine ⟨⟨k + 1, nextF fk it, by omega, by go_num, by rw [← Nat.add_assoc]; exact HS8.out, HG8.out, HN2⟩, by simp [intOf]; omega⟩
          · have hzb : (z != 0) = true := by simpa using hz0
            have HRR : Hid (R = z) := Lib.hid (by
              have h := HD.out
              rw [if_pos hz0] at h
              rw [HRE.out (by rw [← h]; exact hz0), ← h])
            clear hz0
            go_wp2
            go_ret
            exact err_p HRR.out HB8.out
        · have hkl : k = u.items.length := by omega
          subst hkl
          have HRR : Hid (eqnsM ⟨strOf L, g⟩ (u.eqs.drop 0) = R) := Lib.hid (by
            rw [HRZ.out (by rw [← hR2.out, List.drop_length]; rfl)]; rfl)
          have HSLr : Hid (StrAt wr (.map (some (w.heap.size + 2))) L.length (strOf L)) := Lib.hid (by
            obtain ⟨b', hb', hm'⟩ := HSL6.out
            simp only [Value.map.injEq, Option.some.injEq] at hb'
            subst hb'
            exact ⟨_, rfl, hm'.grown hg (by simp; omega)⟩)
          clear hS hg hX6r hX2r hX1r hR2 p0 p1
          go_wp2
          go_loopw [51] (fun i wq => ∃ k : Nat, k ≤ u.eqs.length ∧ i = .int .i64 k ∧ StrAt wq (.map (some (w.heap.size + 2))) L.length (strOf L) ∧ Below w.heap.size w wq ∧ wq.heap[w.heap.size + 2 + 1]? = some (.cells #[.map (some (w.heap.size + 2)), .map nr] 60 (0, 0)) ∧ Hid (eqnsM ⟨strOf L, g⟩ (u.eqs.drop k) = R)) (fun i _ => u.eqs.length - (intOf i).toNat)
          case atStart => exact ⟨0, Nat.zero_le _, rfl, HSLr.out, HBk.out, HX2r.out, HRR⟩
          case round =>
            obtain ⟨k, hk, rfl, hS, hb, hX, hRk⟩ := hrel
            have HSq := Lib.hid hS
            have HBq := Lib.hid hb
            have HXq := Lib.hid hX
            have lX := lt_of_block hX
            have p0 : wr.cell? ⟨w.heap.size + 2 + 1, 0, none⟩ = some (.map (some (w.heap.size + 2))) := (cells_at hX 0).trans rfl
            have p1 : wr.cell? ⟨w.heap.size + 2 + 1, 1, none⟩ = some (.map nr) := (cells_at hX 1).trans rfl
            by_cases hlt : k < u.eqs.length
            · obtain ⟨q, hq⟩ : ∃ q, u.eqs[k]? = some q := ⟨_, List.getElem?_eq_getElem hlt⟩
              obtain ⟨gg, o, c', xs, hv', hgl, hpx, hxl, hcell⟩ := rown_at U3.out hq
              simp only [Value.slice.injEq, true_and] at hv'
              obtain ⟨rfl, rfl⟩ := hv'
              have HPX := Lib.hid hpx
              obtain ⟨ev, rfl, hev, -⟩ := hpx
              have q0 : wr.cell? ⟨gg, o + k * 2 + 0, none⟩ = some (.string (str q.name)) := (hb.cell (p := ⟨gg, o + k * 2 + 0, none⟩) hgl).trans (hcell 0 (by omega))
              have q1 : wr.cell? ⟨gg, o + k * 2 + 1, none⟩ = some ev := (hb.cell (p := ⟨gg, o + k * 2 + 1, none⟩) hgl).trans (hcell 1 (by omega))
              rw [Nat.add_zero] at q0
              obtain ⟨Ae, ce, rfl, -⟩ := hev
              have hgr : gg < wr.heap.size := by have := hb.size; omega
              obtain ⟨w7, hw7⟩ : ∃ W, wr.alloc (.cells #[.string (str q.name), .slice Ae q.e.length ce] 51) = W := ⟨_, rfl⟩
              have hb7 : Below wr.heap.size wr w7 := hw7 ▸ below_new wr _
              have hbw7 : Below w.heap.size w w7 := hb.trans (hb7.mono hb.size)
              have HC7 := Lib.hid (eqn_any (.map (some (w.heap.size + 2))) (.map nr) L.length n2 ⟨strOf L, g⟩ q _ w7 (hS.below hb7) (HNW.out w7 hbw7) (HTW.out w7 hbw7) (Ow.EqnN.below hbw7 _ _ HPX.out))
              have HD : Hid ((if eqnM ⟨strOf L, g⟩ q ≠ 0 then eqnM ⟨strOf L, g⟩ q else eqnsM ⟨strOf L, g⟩ (u.eqs.drop (k + 1))) = R) := Lib.hid (by rw [← hRk.out, drop_at hq]; rfl)
              obtain ⟨z, hz⟩ : ∃ z, eqnM ⟨strOf L, g⟩ q = z := ⟨_, rfl⟩
              rw [hz] at HC7 HD
              have HW7 := Lib.hid hw7
              have HB7 := Lib.hid hb7
              have HBW7 := Lib.hid hbw7
              clear hq hcell hS hb hX hw7 hb7 hbw7 hRk hz
              go_wp2_with fail
              rw [HW7.out]
              go_wp2_with fail
              refine HC7.out.mono ?_
              rintro r w8 ⟨rfl, hb8⟩
              have HB78 : Hid (Below wr.heap.size wr w8) := Lib.hid (HB7.out.trans (hb8.mono HB7.out.size))
              have HB8 : Hid (Below w.heap.size w w8) := Lib.hid (HBW7.out.trans (hb8.mono HBW7.out.size))
              clear hb8
              by_cases hz0 : z = 0
              · subst hz0
                have HN2 : Hid (eqnsM ⟨strOf L, g⟩ (u.eqs.drop (k + 1)) = R) := Lib.hid (by have := HD.out; rw [if_neg (by simp)] at this; exact this)
                go_wp2
                refine ⟨⟨k + 1, by omega, by go_num, HSq.out.below HB78.out, HB8.out, (HB78.out.block _ lX).trans HXq.out, HN2⟩, by simp [intOf]; omega⟩
              · have hzb : (z != 0) = true := by simpa using hz0
                have HRR2 : Hid (R = z) := Lib.hid (by have h := HD.out; rw [if_pos hz0] at h; exact h.symm)
                clear hz0
                go_wp2
                go_ret
                exact err_p HRR2.out HB8.out
            · have hkl : k = u.eqs.length := by omega
              subst hkl
              have HRR2 : Hid (R = 0) := Lib.hid (by rw [← hRk.out, List.drop_length]; rfl)
              clear hS hb hX hRk
              go_wp2
              go_ret
              exact err_p HRR2.out HBq.out
end Go.Proofs.YtobkcdkffcenbaaGreatDoor.Ty

/- A lean reader of expressions: what tokens read as, where nothing fails, as a plain function. Conditions: none. -/
namespace Go.Proofs.YtobkcdkffcenbaaGreatDoor.Lr
open Go.Proofs.YtobkcdkffcenbaaGreatDoor.Tr (Bytes Nd joinM roomM)
def isAt (L : List Lx.Tok) (i : Nat) (s : Bytes) : Bool := match L[i]? with
  | none => false
  | some t => (t.kind == 4 || t.kind == 3) && t.text == s
theorem isAt_lt {L : List Lx.Tok} {i : Nat} {s : Bytes} (h : isAt L i s = true) : i < L.length := by
  unfold isAt at h
  by_cases hl : i < L.length
  · exact hl
  · rw [List.getElem?_eq_none (by omega)] at h; cases h
theorem isAt_ne {L : List Lx.Tok} {i : Nat} {s u : Bytes} (h : isAt L i s = true) (hn : s ≠ u) : isAt L i u = false := by
  unfold isAt at h ⊢
  cases e : L[i]? with
  | none => rfl
  | some t =>
    rw [e] at h
    simp only [Bool.and_eq_true, beq_iff_eq] at h
    simp only [h.2]
    rw [show (s == u) = false by simpa using hn, Bool.and_false]
def jn (o n : Int) (s : Bytes) (ls : List (List Nd)) : Option (List Nd) := if roomM ls ≤ 80000 then some (joinM o n s ls) else none
theorem jn_some {o n : Int} {s : Bytes} {ls : List (List Nd)} {x : List Nd} (h : jn o n s ls = some x) : roomM ls ≤ 80000 ∧ joinM o n s ls = x := by
  unfold jn at h
  split at h
  · injection h with h; exact ⟨by assumption, h⟩
  · cases h
abbrev Rr := Option (List (List Nd) × Nat)
def bnd (r : Rr) (k : List Nd → Nat → Rr) : Rr := match r with
  | some ([x], j) => k x j
  | _ => none
theorem bnd_some {r : Rr} {k : List Nd → Nat → Rr} {y : List (List Nd) × Nat} (h : bnd r k = some y) : ∃ x j, r = some ([x], j) ∧ k x j = some y := by
  unfold bnd at h
  split at h
  · exact ⟨_, _, rfl, h⟩
  · cases h
def ok1 (l : Option (List Nd)) (j : Nat) : Rr := l.map fun x => ([x], j)
theorem ok1_some {l : Option (List Nd)} {j k : Nat} {x : List Nd} (h : ok1 l j = some ([x], k)) : l = some x ∧ j = k := by
  unfold ok1 at h
  cases l with
  | none => cases h
  | some y => simp at h; exact ⟨by rw [h.1], h.2⟩
def preM (s : Bytes) : Int := if s = [110, 111, 116] then 4 else if s = [45] then 5 else if s = [112, 114, 101] then 21 else if s = [111, 110, 99, 101] then 22 else if s = [104, 105, 115, 116] then 23 else if s = [112, 114, 101, 118] then 24 else if s = [119, 105, 116, 104, 105, 110] then 25 else 0
def numB (t : Lx.Tok) : Bool := t.kind == 2 && decide (t.text.length ≤ 1000000) && t.text.all Lx.digitB && decide (Lx.val t.text ≤ 2147483647)
inductive K | arrow | imp | since | sinceL | or | and | andL | cmp | sum | sumL | prod | prodL | oper | beg | named | args | argsL
def run (L : List Lx.Tok) : Nat → K → List (List Nd) → Nat → Nat → Rr
  | 0, _, _, _, _ => none
  | f + 1, .arrow, _, o, i => bnd (run L f .imp [] o i) fun x j => if isAt L j [45, 62] then bnd (run L f .arrow [] o (j + 1)) fun y k => ok1 (jn 19 0 [] [x, y]) k else some ([x], j)
  | f + 1, .imp, _, o, i => bnd (run L f .since [] o i) fun x j => if isAt L j [61, 62] then bnd (run L f .imp [] o (j + 1)) fun y k => ok1 (jn 9 0 [] [x, y]) k else some ([x], j)
  | f + 1, .since, _, o, i => bnd (run L f .or [] o i) fun x j => run L f .sinceL [x] o j
  | f + 1, .sinceL, a, o, i => if isAt L i [115, 105, 110, 99, 101] then bnd (run L f .or [] o (i + 1)) fun y k => bnd (ok1 (jn 20 0 [] [a.headD [], y]) k) fun z k => run L f .sinceL [z] o k else some ([a.headD []], i)
  | f + 1, .or, _, o, i => bnd (run L f .and [] o i) fun x j => if isAt L j [111, 114] || isAt L j [120, 111, 114] then none else some ([x], j)
  | f + 1, .and, _, o, i => bnd (run L f .cmp [] o i) fun x j => run L f .andL [x] o j
  | f + 1, .andL, a, o, i => if isAt L i [97, 110, 100] then bnd (run L f .cmp [] o (i + 1)) fun y k => bnd (ok1 (jn 6 0 [] [a.headD [], y]) k) fun z k => run L f .andL [z] o k else some ([a.headD []], i)
  | f + 1, .cmp, _, o, i => bnd (run L f .sum [] o i) fun x j =>
      if isAt L j [61] || isAt L j [60, 62] then none
      else if isAt L j [60] then bnd (run L f .sum [] o (j + 1)) fun y k => ok1 (jn 12 0 [] [x, y]) k
      else if isAt L j [60, 61] then none
      else if isAt L j [62] then bnd (run L f .sum [] o (j + 1)) fun y k => ok1 (jn 12 0 [] [y, x]) k
      else if isAt L j [62, 61] then none
      else some ([x], j)
  | f + 1, .sum, _, o, i => bnd (run L f .prod [] o i) fun x j => run L f .sumL [x] o j
  | f + 1, .sumL, a, o, i => if isAt L i [43] then bnd (run L f .prod [] o (i + 1)) fun y k => bnd (ok1 (jn 14 0 [] [a.headD [], y]) k) fun z k => run L f .sumL [z] o k else if isAt L i [45] then none else some ([a.headD []], i)
  | f + 1, .prod, _, o, i => bnd (run L f .oper [] o i) fun x j => run L f .prodL [x] o j
  | f + 1, .prodL, a, o, i => if isAt L i [42] then bnd (run L f .oper [] o (i + 1)) fun y k => bnd (ok1 (jn 16 0 [] [a.headD [], y]) k) fun z k => run L f .prodL [z] o k else if isAt L i [100, 105, 118] then bnd (run L f .oper [] o (i + 1)) fun y k => bnd (ok1 (jn 17 0 [] [a.headD [], y]) k) fun z k => run L f .prodL [z] o k else if isAt L i [109, 111, 100] then none else some ([a.headD []], i)
  | f + 1, .oper, _, o, i => if 200 ≤ o then none else if L.length ≤ i then none else run L f .beg [] (o + 1) i
  | f + 1, .beg, _, o, i => match L[i]? with
      | none => none
      | some t =>
        if numB t then ok1 (jn 1 (Lx.val t.text : Int) [] []) (i + 1)
        else if t.kind = 1 then run L f .named [] o i
        else if t.kind = 3 ∨ t.kind = 4 then
          (if preM t.text = 25 then none
          else if preM t.text ≠ 0 then bnd (run L f .oper [] o (i + 1)) fun x j => ok1 (jn (preM t.text) 0 [] [x]) j
          else if isAt L i [116, 114, 117, 101] then ok1 (jn 2 1 [] []) (i + 1)
          else none)
        else none
  | f + 1, .named, _, o, i => match L[i]? with
      | none => none
      | some t => if isAt L (i + 1) [40] then (match run L f .args [] o (i + 2) with
            | none => none
            | some (ps, j) => ok1 (jn 27 0 t.text ps) j) else ok1 (jn 3 0 t.text []) (i + 1)
  | f + 1, .args, _, o, i => if isAt L i [41] then some ([], i + 1) else run L f .argsL [] o i
  | f + 1, .argsL, a, o, i => bnd (run L f .arrow [] o i) fun x j => if isAt L j [41] then some (a ++ [x], j + 1) else if isAt L j [44] && decide (a.length < 200) then run L f .argsL (a ++ [x]) o (j + 1) else none
end Go.Proofs.YtobkcdkffcenbaaGreatDoor.Lr

/- A lean reader of expressions: a reader in memory in which nothing has failed; its is, take, need, join. Conditions: as each says. -/
namespace Go.Proofs.YtobkcdkffcenbaaGreatDoor.Lr
open Go.ChangeShapes Go.WideShapes Go.ChangeAt Go.RowKit
open Go.Proofs.YtobkcdkffcenbaaGreatDoor.Tr (str ret_bool ret_int Bytes Nd Nodes joinM roomM own_block own_below own_ne ndsOf)
theorem blk_lt {w : World} {b : Nat} {o : Obj} (h : w.heap[b]? = some o) : b < w.heap.size := (Array.getElem?_eq_some_iff.mp h).1
def TkAt (w : World) (b : Nat) (v : Value) (l : List Lx.Tok) : Prop :=
  ∃ A c, v = .slice A l.length c ∧ l.length ≤ c ∧ c ≤ maxLen ∧ ∀ i t, l[i]? = some t → ∃ g, A = some ⟨g, 0, none⟩ ∧ g < b ∧
    w.cell? ⟨g, i * 3, none⟩ = some (.int .i64 t.kind) ∧ w.cell? ⟨g, i * 3 + 1, none⟩ = some (.string (str t.text)) ∧ w.cell? ⟨g, i * 3 + 2, none⟩ = some (.int .i64 (t.at_ : Int))
def bxC (lv : Value) (i o : Nat) : Array Value := #[lv, .int .i64 (i : Int), .int .i64 (o : Int), .int .i64 0, .int .i64 0]
structure Rq (w : World) (b : Nat) (L : List Lx.Tok) (lv : Value) (i o : Nat) : Prop where
  blk : w.heap[b]? = some (.cells (bxC lv i o) 132 (0, 0))
  tok : TkAt w b lv L
  ile : i ≤ L.length
  len : L.length ≤ 100000
  ole : o ≤ 200
def Mv (w w' : World) (b : Nat) : Prop := w.grownBy w' (some b)
theorem Mv.refl (w : World) (b : Nat) : Mv w w b := World.grownBy.refl w _
theorem Mv.trans {w w1 w2 : World} {b : Nat} (h : Mv w w1 b) (k : Mv w1 w2 b) : Mv w w2 b :=
  ⟨k.os.trans h.os, k.tape.trans h.tape, k.output.trans h.output, Nat.le_trans h.size k.size, fun i hi hne => (k.block i (Nat.lt_of_lt_of_le hi h.size) hne).trans (h.block i hi hne)⟩
theorem Mv.of {w w' : World} {b : Nat} (hb : Below w.heap.size w w') : Mv w w' b := ⟨hb.os, hb.tape, hb.output, hb.size, fun i hi _ => hb.block i hi⟩
theorem TkAt.mv {w w' : World} {b : Nat} {v : Value} {l : List Lx.Tok} (h : TkAt w b v l) (hm : ∀ g, g < b → w'.heap[g]? = w.heap[g]?) : TkAt w' b v l := by
  obtain ⟨A, c, rfl, h1, h2, h3⟩ := h
  refine ⟨A, c, rfl, h1, h2, fun i t hi => ?_⟩
  obtain ⟨g, hg, hne, c0, c1, c2⟩ := h3 i t hi
  have q : ∀ k, w'.cell? ⟨g, k, none⟩ = w.cell? ⟨g, k, none⟩ := fun k => World.cell?_of_block (w := w) (a := ⟨g, k, none⟩) (hm g hne)
  exact ⟨g, hg, hne, (q _).trans c0, (q _).trans c1, (q _).trans c2⟩
theorem Rq.lt {w : World} {b : Nat} {L : List Lx.Tok} {lv : Value} {i o : Nat} (h : Rq w b L lv i o) : b < w.heap.size := blk_lt h.blk
theorem Rq.below {w w' : World} {b : Nat} {L : List Lx.Tok} {lv : Value} {i o : Nat} (h : Rq w b L lv i o) (hb : Below w.heap.size w w') : Rq w' b L lv i o :=
  ⟨(hb.block b h.lt).trans h.blk, h.tok.mv (fun g hg => hb.block g (Nat.lt_trans hg h.lt)), h.ile, h.len, h.ole⟩
theorem Rq.keep {w w' : World} {b : Nat} {L : List Lx.Tok} {lv : Value} {i o : Nat} (h : Rq w b L lv i o) (hm : ∀ g, g ≤ b → w'.heap[g]? = w.heap[g]?) : Rq w' b L lv i o :=
  ⟨(hm b (Nat.le_refl _)).trans h.blk, h.tok.mv (fun g hg => hm g (Nat.le_of_lt hg)), h.ile, h.len, h.ole⟩
theorem Rq.turn {w W : World} {b : Nat} {L : List Lx.Tok} {lv : Value} {i o i' o' : Nat} (h : Rq w b L lv i o) (hW : W.heap[b]? = some (.cells (bxC lv i' o') 132 (0, 0))) (hm : Mv w W b) (hi : i' ≤ L.length) (ho : o' ≤ 200) : Rq W b L lv i' o' :=
  ⟨hW, h.tok.mv (fun g hg => hm.block g (Nat.lt_trans hg h.lt) (fun e => by injection e with e; omega)), hi, h.len, ho⟩
theorem mv_set (w : World) (b k : Nat) (v : Value) : Mv w (w.setCell ⟨b, k, none⟩ v) b :=
  ⟨rfl, rfl, rfl, by simp [World.setCell], fun g _ hne => Below.heap_setCell w ⟨b, k, none⟩ v g (fun e => hne (by rw [e]))⟩
theorem Rq.setI {w : World} {b : Nat} {L : List Lx.Tok} {lv : Value} {i o : Nat} (h : Rq w b L lv i o) (hi : i < L.length) : Rq (w.setCell ⟨b, 1, none⟩ (.int .i64 ((i : Int) + 1))) b L lv (i + 1) o :=
  h.turn (by simp [World.setCell, Array.getElem?_modify, h.blk, bxC]) (mv_set _ _ _ _) (by omega) h.ole
theorem Rq.cells {w : World} {b : Nat} {L : List Lx.Tok} {lv : Value} {i o : Nat} (h : Rq w b L lv i o) :
    w.cell? ⟨b, 0, none⟩ = some lv ∧ w.cell? ⟨b, 1, none⟩ = some (.int .i64 (i : Int)) ∧ w.cell? ⟨b, 2, none⟩ = some (.int .i64 (o : Int)) ∧ w.cell? ⟨b, 3, none⟩ = some (.int .i64 0) ∧ w.cell? ⟨b, 4, none⟩ = some (.int .i64 0) ∧ ∀ k, w.frozen? ⟨b, k, none⟩ = false := by
  have e := h.blk
  refine ⟨?_, ?_, ?_, ?_, ?_, fun k => ?_⟩ <;> simp [World.cell?, World.frozen?, e, bxC]
def NdW (w : World) (v : Value) (l : List Nd) : Prop := ∃ B, w.ownsRow B 70 6 v l.length (ndsOf l)
theorem NdW.nodes {w : World} {v : Value} {l : List Nd} (h : NdW w v l) : Nodes w v l := by obtain ⟨B, h⟩ := h; exact Tr.Nodes.of_own h
theorem NdW.form {w : World} {v : Value} {l : List Nd} (h : NdW w v l) : ∃ A c, v = .slice A l.length c ∧ c ≤ maxLen ∧ l.length ≤ c := by
  obtain ⟨A, c, e, h1, h2, -⟩ := h.nodes
  exact ⟨A, c, e, h2, h1⟩
theorem NdW.below {w w' : World} {v : Value} {l : List Nd} (h : NdW w v l) (hb : Below w.heap.size w w') : NdW w' v l := by obtain ⟨B, h⟩ := h; exact ⟨B, own_below h hb⟩
theorem NdW.mv {w w' : World} {v : Value} {l : List Nd} {b : Nat} {cs : Array Value} (h : NdW w v l) (hb : w.heap[b]? = some (.cells cs 132 (0, 0))) (hm : Mv w w' b) : NdW w' v l := by
  obtain ⟨B, h⟩ := h
  refine ⟨B, own_block h (fun g hg => hm.block g (h.lt g hg).2 (fun e => ?_))⟩
  injection e with e
  subst e
  obtain ⟨hl, h0 | ⟨g', cap, cur, hv, hb', hh, _⟩⟩ := h
  · rw [h0.1] at hg; simp [Value.ownBlock] at hg
  · rw [hv] at hg
    have : some g' = some g := hg
    injection this with this
    subst this
    rw [hb] at hh
    injection hh with hh
    injection hh with _ hh _
    exact absurd hh (by decide)
set_option maxHeartbeats 1600000 in
theorem is_ok {b : Nat} {L : List Lx.Tok} {lv : Value} {i o : Nat} {s : Bytes} {S : ByteArray} {B : Bool} {w : World} (hS : S = str s) (hB : isAt L i s = B) (hr : Rq w b L lv i o) :
    Calls Tryz.prog 105 #[.pointer (some ⟨b, 0, none⟩), .string S] w (fun e w' => e = .returned (.bool B) ∧ Below w.heap.size w w') := by
  subst hS hB
  obtain ⟨c0, c1, -, c3, -, -⟩ := hr.cells
  have hlt := hr.lt
  have hbn : b ≠ w.heap.size := by omega
  obtain ⟨A, cc, rfl, h1, h2, hA⟩ := hr.tok
  have HA := Lib.hid hA
  have hile := hr.ile
  unfold maxLen at h2
  clear hA hr
  by_cases hl : i < L.length
  · obtain ⟨t, ht⟩ : ∃ t, L[i]? = some t := ⟨_, List.getElem?_eq_getElem hl⟩
    obtain ⟨g, rfl, hg, e0, e1, e2⟩ := HA.out _ t ht
    have hgn : g ≠ w.heap.size := by omega
    have d1 : decide ((L.length : Int) ≤ (i : Int)) = false := decide_eq_false (by omega)
    have d1' : decide (L.length ≤ i) = false := decide_eq_false (by omega)
    have HT : Hid (isAt L i s = ((t.kind == 4 || t.kind == 3) && t.text == s)) := Lib.hid (by unfold isAt; rw [ht])
    rw [HT.out]
    clear ht
    obtain ⟨K, T, P⟩ := t
    simp only at e0 e1 e2 ⊢
    have hts : ((str T).toList == (str s).toList) = (T == s) := by rw [Tr.str_toList, Tr.str_toList]
    clear HT
    rcases Bool.eq_false_or_eq_true (K == 4) with h4 | h4
    all_goals rcases Bool.eq_false_or_eq_true (K == 3) with h3 | h3
    all_goals rcases Bool.eq_false_or_eq_true (T == s) with h5 | h5
    all_goals
      rw [h3, h4, h5]
      rw [h5] at hts
      go_enter Tryz.func105, Tryz.ntmps105
      go_wp2
      go_quiet (fail)
      go_wp2
      obtain ⟨w0, hw0⟩ : ∃ w0, w.drewN nq = w0 := ⟨_, rfl⟩
      have c00 : w0.cell? ⟨b, 0, none⟩ = some (.slice (some ⟨g, 0, none⟩) L.length cc) := hw0 ▸ c0
      have c01 : w0.cell? ⟨b, 1, none⟩ = some (.int .i64 (i : Int)) := hw0 ▸ c1
      have e00 : w0.cell? ⟨g, i * 3, none⟩ = some (.int .i64 K) := hw0 ▸ e0
      have e01 : w0.cell? ⟨g, i * 3 + 1, none⟩ = some (.string (str T)) := hw0 ▸ e1
      have e02 : w0.cell? ⟨g, i * 3 + 2, none⟩ = some (.int .i64 (P : Int)) := hw0 ▸ e2
      have hz0 : w.heap.size = w0.heap.size := hw0 ▸ rfl
      have hlt0 : b < w0.heap.size := by omega
      have hg0 : g < w0.heap.size := by omega
      have hbn0 : b ≠ w0.heap.size := by omega
      have hgn0 : g ≠ w0.heap.size := by omega
      have HB0 : Hid (Below w.heap.size w w0) := Lib.hid (hw0 ▸ Tr.below_drewN (Below.refl _ _) nq)
      rw [hw0]
      clear hw0 c0 c1 c3 e0 e1 e2 hlt hg hbn hgn
      go_region
      go_wp2
      go_ret
      exact ⟨rfl, Tr.below_drewN (n := 1) (HB0.out.alloc HB0.out.size _)⟩
  · have d1 : decide ((L.length : Int) ≤ (i : Int)) = true := decide_eq_true (by omega)
    have d1' : decide (L.length ≤ i) = true := decide_eq_true (by omega)
    have HT : Hid (isAt L i s = false) := Lib.hid (by unfold isAt; rw [List.getElem?_eq_none (by omega)])
    rw [HT.out]
    clear HT
    go_enter Tryz.func105, Tryz.ntmps105
    go_wp2
    go_quiet (fail)
    go_wp2
    go_ret
    exact ⟨rfl, Tr.below_drewN (Below.refl _ _) _⟩
set_option maxRecDepth 100000 in
set_option maxHeartbeats 1600000 in
theorem take_ok {b : Nat} {L : List Lx.Tok} {lv : Value} {i o : Nat} {s : Bytes} {S : ByteArray} {B : Bool} {w : World} (hS : S = str s) (hB : isAt L i s = B) (hr : Rq w b L lv i o) :
    Calls Tryz.prog 94 #[.pointer (some ⟨b, 0, none⟩), .string S] w (fun e w' => e = .returned (.bool B) ∧ Rq w' b L lv (if B then i + 1 else i) o ∧ Mv w w' b) := by
  have HR := Lib.hid hr
  have HC := Lib.hid (is_ok hS hB hr)
  cases B with
  | false =>
    clear hr hB hS
    go_enter Tryz.func94, Tryz.ntmps94
    go_wp2_with fail
    refine HC.out.mono ?_
    rintro e w1 ⟨rfl, hb⟩
    have HBL := Lib.hid hb
    clear hb
    go_wp2
    go_ret
    exact ⟨rfl, HR.out.below HBL.out, Mv.of HBL.out⟩
  | true =>
    have hil := isAt_lt hB
    clear hr hB hS
    go_enter Tryz.func94, Tryz.ntmps94
    go_wp2_with fail
    refine HC.out.mono ?_
    rintro e w1 ⟨rfl, hb⟩
    have HR1 := Lib.hid (HR.out.below hb)
    have HBL := Lib.hid hb
    obtain ⟨-, c1, -, -, -, f⟩ := HR1.out.cells
    have hlen := HR1.out.len
    have f1 := f 1
    clear hb f
    go_wp2
    go_ret
    exact ⟨rfl, HR1.out.setI hil, (Mv.of HBL.out).trans (mv_set _ _ _ _)⟩
set_option maxRecDepth 100000 in
set_option maxHeartbeats 800000 in
theorem need_ok {b : Nat} {L : List Lx.Tok} {lv : Value} {i o : Nat} {s : Bytes} {S : ByteArray} {w : World} (hS : S = str s) (hB : isAt L i s = true) (hr : Rq w b L lv i o) :
    Calls Tryz.prog 120 #[.pointer (some ⟨b, 0, none⟩), .string S] w (fun e w' => e = .returned (.tuple #[]) ∧ Rq w' b L lv (i + 1) o ∧ Mv w w' b) := by
  have HC := Lib.hid (take_ok hS hB hr)
  clear hB hr hS
  go_enter Tryz.func120, Tryz.ntmps120
  go_wp2_with fail
  refine HC.out.mono ?_
  rintro e w1 ⟨rfl, h1, h2⟩
  have H1 := Lib.hid h1
  have H2 := Lib.hid h2
  clear h1 h2
  go_wp2
  go_end0
  exact ⟨rfl, H1.out, H2.out⟩
end Go.Proofs.YtobkcdkffcenbaaGreatDoor.Lr

