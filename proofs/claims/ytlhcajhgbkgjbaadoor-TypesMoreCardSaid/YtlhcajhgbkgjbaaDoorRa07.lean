/- Layer types: a unit. Conditions: the nodes ahead and the table lie in memory. -/
import Derived.Test.YtlhcajhgbkgjbaaDoorRa06
import Derived.Test.YtlhcajhgbkgjbaaDoorRa01
import Derived.Test.YtlhcajhgbkgjbaaDoorKb18
set_option linter.unusedVariables false
set_option linter.unusedSimpArgs false
namespace Go.Proofs.YtlhcajhgbkgjbaaDoor.Ty
open Go.ChangeShapes Go.WideShapes Go.ChangeAt Go.RowKit
open Tr
open Pg (Prm Eqn Itm Unt)
open Go.Proofs.YtlhcajhgbkgjbaaDoor.Ow (PrmN EqnN ItmN UntN RowN kaQ rown_form)
noncomputable def kcp (f : Bytes -> Option Int) : List Itm -> Int
  | [] => 0
  | i :: r => if khb ⟨f, noN⟩ i ≠ 0 then khb ⟨f, noN⟩ i else kcp (nextF f i) r
noncomputable def kfs (E : Env) : List Eqn -> Int
  | [] => 0
  | q :: r => if eqnM E q ≠ 0 then eqnM E q else kfs E r
noncomputable def kg0 (g : Bytes -> Option (List Int × Int)) (u : Unt) : Int :=
  if kcp (strOf (kaS u)) u.items ≠ 0 then kcp (strOf (kaS u)) u.items else kfs ⟨strOf (kaS u), g⟩ u.eqs
theorem drop_at {α : Type} {l : List α} {j : Nat} {e : α} (h : l[j]? = some e) : l.drop j = e :: l.drop (j + 1) := by
  have hj := (List.getElem?_eq_some_iff.1 h).1
  rw [List.drop_eq_getElem_cons hj]; congr 1; exact (List.getElem?_eq_some_iff.1 h).2
theorem keF {w a b : World} {row : Option Nat} (g1 : w.grownBy a row) (g2 : a.grownBy b row) : w.grownBy b row :=
  ⟨g2.os.trans g1.os, g2.tape.trans g1.tape, g2.output.trans g1.output, Nat.le_trans g1.size g2.size, fun k hk hne => (g2.block k (Nat.lt_of_lt_of_le hk g1.size) hne).trans (g1.block k hk hne)⟩
set_option maxRecDepth 100000 in
set_option maxHeartbeats 16000000 in
theorem kfZ (nv : Value) (n2 : Nat) (g : Bytes -> Option (List Int × Int)) (u : Unt) (x : List Value) (w : World) (hN : kcY w nv n2 g) (hT : ShAt w) (hu : UntN w u x) (h1 : u.ins.length <= 1000) (h2 : u.vars.length <= 1000) (h3 : u.items.length <= 1000000) :
    Calls Tryd.prog 33 #[.agg #[.map none, nv], .agg x.toArray] w (ErrP w (kg0 g u)) := by
  have hmm := @run_makeMap Tryd.prog
  obtain ⟨nr, rfl⟩ : ∃ r, nv = .map r := by
    rcases hN with ⟨rfl, _⟩ | ⟨_, b, rfl, _⟩
    · exact ⟨_, rfl⟩
    · exact ⟨_, rfl⟩
  have HU := Lib.hid hu
  obtain ⟨iv, vv, qv, lv, rfl, u1, u2, u3, u4, hs, hso⟩ := hu
  have U3 := Lib.hid u3
  have U4 := Lib.hid u4
  obtain ⟨Ai, ci, rfl, -, -, -⟩ := rown_form u1
  obtain ⟨Av, cv, rfl, -, -, -⟩ := rown_form u2
  obtain ⟨Aq, cq, rfl, k1, k2, -⟩ := rown_form u3
  obtain ⟨Al, cl, rfl, k3, k4, -⟩ := rown_form u4
  unfold maxLen at k2 k4
  clear u1 u2 u3 u4
  have N := kaV w (.cells #[.map none, (.map nr)] 52) (.cells #[.bool u.contract, .string (str u.name), .slice Ai u.ins.length ci, .string (str u.out.name), .int .i64 u.out.ty, .slice Av u.vars.length cv, .slice Aq u.eqs.length cq, .slice Al u.items.length cl] 39)
  obtain ⟨w1, hw1⟩ : ∃ W, (w.alloc (.cells #[.map none, (.map nr)] 52)).alloc (.cells #[.bool u.contract, .string (str u.name), .slice Ai u.ins.length ci, .string (str u.out.name), .int .i64 u.out.ty, .slice Av u.vars.length cv, .slice Aq u.eqs.length cq, .slice Al u.items.length cl] 39) = W := ⟨_, rfl⟩
  have n1 : w1.heap.size = w.heap.size + 2 := by rw [<- hw1]; simp
  rw [hw1] at N
  have hb1 := N.1
  have l1 := lt_of_block N.2.1
  have l2 := lt_of_block N.2.2
  have N2 := kaV w1 (.map #[] 0) (.cells #[.map (some w1.heap.size), (.map nr)] 52)
  have hm1 : kb6 ((w1.alloc (.map #[] 0)).alloc (.cells #[.map (some w1.heap.size), (.map nr)] 52)) w1.heap.size 0 (fun s => (strOf ([] : List Prm) s).map (Value.int .i64 ·)) := (kb6.made w1).alloc _
  obtain ⟨w2, hw2⟩ : ∃ W, (w1.alloc (.map #[] 0)).alloc (.cells #[.map (some w1.heap.size), (.map nr)] 52) = W := ⟨_, rfl⟩
  rw [hw2] at N2 hm1
  rw [n1] at N2 hw2 hm1
  have hb2 : Below w.heap.size w w2 := hb1.trans ((n1 ▸ N2.1 : Below w1.heap.size w1 w2).mono hb1.size)
  have hb12 : Below w1.heap.size w1 w2 := n1 ▸ N2.1
  have n2s : w2.heap.size = w.heap.size + 4 := by rw [<- hw2]; simp [n1]
  -- what stays of the boxes
  have X1 : w2.heap[w.heap.size + 1]? = some (.cells #[.bool u.contract, .string (str u.name), .slice Ai u.ins.length ci, .string (str u.out.name), .int .i64 u.out.ty, .slice Av u.vars.length cv, .slice Aq u.eqs.length cq, .slice Al u.items.length cl] 39 (0, 0)) := (hb12.block _ l2).trans N.2.2
  have X2 : w2.heap[w.heap.size + 2 + 1]? = some (.cells #[.map (some (w.heap.size + 2)), (.map nr)] 52 (0, 0)) := N2.2.2
  have X0 : w1.heap[w.heap.size]? = some (.cells #[.map none, (.map nr)] 52 (0, 0)) := N.2.1
  have x00 : w1.cell? ⟨w.heap.size, 1, none⟩ = some (.map nr) := (ka3 X0 1).trans rfl
  have hC := khX u _ w2 (Ow.UntN.below hb2 _ _ HU.out) h1 h2
  have HC := Lib.hid hC
  have HX1 := Lib.hid X1
  have HX2 := Lib.hid X2
  have y0 : w2.cell? ⟨w.heap.size + 1, 0, none⟩ = some (.bool u.contract) := (ka3 X1 0).trans rfl
  have y1 : w2.cell? ⟨w.heap.size + 1, 1, none⟩ = some (.string (str u.name)) := (ka3 X1 1).trans rfl
  have y2 : w2.cell? ⟨w.heap.size + 1, 2, none⟩ = some (.slice Ai u.ins.length ci) := (ka3 X1 2).trans rfl
  have y3 : w2.cell? ⟨w.heap.size + 1, 3, none⟩ = some (.string (str u.out.name)) := (ka3 X1 3).trans rfl
  have y4 : w2.cell? ⟨w.heap.size + 1, 4, none⟩ = some (.int .i64 u.out.ty) := (ka3 X1 4).trans rfl
  have y5 : w2.cell? ⟨w.heap.size + 1, 5, none⟩ = some (.slice Av u.vars.length cv) := (ka3 X1 5).trans rfl
  have y6 : w2.cell? ⟨w.heap.size + 1, 6, none⟩ = some (.slice Aq u.eqs.length cq) := (ka3 X1 6).trans rfl
  have y7 : w2.cell? ⟨w.heap.size + 1, 7, none⟩ = some (.slice Al u.items.length cl) := (ka3 X1 7).trans rfl
  have HB2 := Lib.hid hb2
  have HM1 := Lib.hid hm1
  have HN2S := Lib.hid n2s
  have HW1 := Lib.hid hw1
  have HW2 := Lib.hid hw2
  have HNW : Hid (∀ W, Below w.heap.size w W -> kcY W (.map nr) n2 g) := Lib.hid (fun W h => hN.below h)
  have HTW : Hid (∀ W, Below w.heap.size w W -> ShAt W) := Lib.hid (fun W h => hT.below h hT.1)
  obtain ⟨R, hR⟩ : ∃ R, kg0 g u = R := ⟨_, rfl⟩
  have HR := Lib.hid (show (if kcp (strOf (kaS u)) u.items ≠ 0 then kcp (strOf (kaS u)) u.items else kfs ⟨strOf (kaS u), g⟩ u.eqs) = R from hR)
  rw [hR]
  have HLL : Hid ((kaS u).length <= 2001) := Lib.hid (by
    unfold kaS
    split
    · omega
    · simp; omega)
  have n1' : ((w.alloc (.cells #[.map none, (.map nr)] 52)).alloc (.cells #[.bool u.contract, .string (str u.name), .slice Ai u.ins.length ci, .string (str u.out.name), .int .i64 u.out.ty, .slice Av u.vars.length cv, .slice Aq u.eqs.length cq, .slice Al u.items.length cl] 39)).heap.size = w.heap.size + 2 := by simp
  obtain ⟨L, hL⟩ : ∃ L, kaS u = L := ⟨_, rfl⟩
  rw [hL] at HC HR HLL
  clear n1' hR hN hT hC hm1 hb2 hb1 hb12 N N2 X0 X1 X2 l1 l2 hL h1 h2
  go_enter Tryd.func33, Tryd.ntmps33
  go_wp2_with fail
  refine HC.out.mono ?_
  rintro r w3 ⟨lv, rfl, hrow, hb3⟩
  have HB23 := Lib.hid hb3
  have HB3 : Hid (Below w.heap.size w w3) := Lib.hid (HB2.out.trans (hb3.mono HB2.out.size))
  have HROW := Lib.hid hrow
  have hs3 := hb3.size
  have HX2c : Hid (w3.heap[w.heap.size + 2 + 1]? = some (.cells #[.map (some (w.heap.size + 2)), .map nr] 52 (0, 0))) := Lib.hid ((hb3.block _ (by have := HN2S.out; omega)).trans HX2.out)
  have HX1c : Hid (w3.heap[w.heap.size + 1]? = some (.cells #[.bool u.contract, .string (str u.name), .slice Ai u.ins.length ci, .string (str u.out.name), .int .i64 u.out.ty, .slice Av u.vars.length cv, .slice Aq u.eqs.length cq, .slice Al u.items.length cl] 39 (0, 0))) := Lib.hid ((hb3.block _ (by have := HN2S.out; omega)).trans HX1.out)
  have HM3 : Hid (kb6 w3 (w.heap.size + 2) 0 (fun s => (strOf (L.take 0) s).map (Value.int .i64 ·))) := Lib.hid (HM1.out.below hb3 (by have := HN2S.out; omega))
  have hmb : ∀ g o v, w3.cell? ⟨g, o, none⟩ = some v -> g ≠ w.heap.size + 2 := fun g o v h hg => by
    subst hg
    obtain ⟨D, ⟨es, clock, hh, _⟩, _⟩ := HM3.out
    simp [World.cell?, hh] at h
  have HMB := Lib.hid hmb
  obtain ⟨A0, c0, rfl, r1, r2, -⟩ := rown_form hrow
  unfold maxLen at r2
  have HSZ3 : Hid (w.heap.size + 4 <= w3.heap.size) := Lib.hid (by have := HN2S.out; omega)
  clear hrow hb3 hmb hw1 hw2 y0 y1 y2 y3 y4 y5 y6 y7 x00 n1 n2s hs3
  go_wp2
  go_loopw [22] (fun i wr => ∃ k : Nat, k <= L.length /\ i = .int .i64 k /\ kbl wr (.map (some (w.heap.size + 2))) k (strOf (L.take k)) /\ w3.grownBy wr (some (w.heap.size + 2))) (fun i _ => L.length - (intOf i).toNat)
  case atStart => exact ⟨0, Nat.zero_le _, rfl, ⟨_, rfl, HM3.out⟩, ⟨rfl, rfl, rfl, Nat.le_refl _, fun _ _ _ => rfl⟩⟩
  case round =>
    obtain ⟨k, hk, rfl, hS, hg⟩ := hrel
    have HS := Lib.hid hS
    have HG := Lib.hid hg
    have hsz := hg.size
    have hz3 := HSZ3.out
    have hX := (hg.block (w.heap.size + 2 + 1) (by omega) (by simp)).trans HX2c.out
    have HX := Lib.hid hX
    have p0 : wr.cell? ⟨w.heap.size + 2 + 1, 0, none⟩ = some (.map (some (w.heap.size + 2))) := (ka3 hX 0).trans rfl
    have p1 : wr.cell? ⟨w.heap.size + 2 + 1, 1, none⟩ = some (.map nr) := (ka3 hX 1).trans rfl
    have lX := lt_of_block hX
    by_cases hlt : k < L.length
    · obtain ⟨p, hp⟩ : ∃ p, L[k]? = some p := ⟨_, List.getElem?_eq_getElem hlt⟩
      obtain ⟨gg, o, c', x, hv', hgl, hpx, hxl, hcell⟩ := kaQ HROW.out hp
      simp only [Value.slice.injEq, true_and] at hv'
      obtain ⟨rfl, rfl⟩ := hv'
      obtain ⟨rfl, hpn⟩ := hpx
      have hc0 : w3.cell? ⟨gg, o + k * 2 + 0, none⟩ = some (.string (str p.name)) := hcell 0 (by omega)
      have hne : gg ≠ w.heap.size + 2 := HMB.out _ _ _ hc0
      have hbk := hg.block gg hgl (by simpa using hne)
      have q0 : wr.cell? ⟨gg, o + k * 2 + 0, none⟩ = some (.string (str p.name)) := (World.cell?_of_block (w := w3) (a := ⟨gg, _, none⟩) hbk).trans hc0
      have q1 : wr.cell? ⟨gg, o + k * 2 + 1, none⟩ = some (.int .i64 p.ty) := (World.cell?_of_block (w := w3) (a := ⟨gg, _, none⟩) hbk).trans (hcell 1 (by omega))
      rw [Nat.add_zero] at q0
      have hgr : gg < wr.heap.size := by omega
      obtain ⟨w4, hw4⟩ : ∃ W, wr.alloc (.cells #[.string (str p.name), .int .i64 p.ty] 35) = W := ⟨_, rfl⟩
      have hb4 : Below wr.heap.size wr w4 := hw4 ▸ below_new wr _
      have hll := HLL.out
      have HC4 := Lib.hid (kgC (w.heap.size + 2) (.map nr) k (strOf (L.take k)) p w4 (hS.below hb4) (by unfold maxLen; omega) hpn)
      have HNX := Lib.hid (kfw L k p hp)
      have HW4 := Lib.hid hw4
      have HB4 := Lib.hid hb4
      clear hp hcell hS hg hX hw4 hb4 hc0 hbk
      go_wp2_with fail
      rw [HW4.out]
      go_wp2_with fail
      refine HC4.out.mono ?_
      rintro r w5 ⟨rfl, hS5, hs5, hg5⟩
      rw [<- HNX.out] at hS5
      have HS5 := Lib.hid hS5
      have HG5 : Hid (w3.grownBy w5 (some (w.heap.size + 2))) := Lib.hid (keF HG.out (keF (grown_of (w.heap.size + 2) HB4.out) hg5))
      clear hS5 hg5
      go_wp2
      refine ⟨⟨k + 1, by omega, by go_num, HS5.out, HG5.out⟩, by simp [intOf]; omega⟩
    · have hkl : k = L.length := by omega
      subst hkl
      have HSL : Hid (kbl wr (.map (some (w.heap.size + 2))) L.length (strOf L)) := Lib.hid (by have := HS.out; rw [List.take_length] at this; exact this)
      have hml : kb6 wr (w.heap.size + 2) L.length (fun s => (strOf L s).map (Value.int .i64 ·)) := by
        obtain ⟨b', hb', hm'⟩ := HSL.out
        simp only [Value.map.injEq, Option.some.injEq] at hb'
        subst hb'
        exact hm'
      have HCL : Hid (Calls Tryd.prog 47 #[.map (some (w.heap.size + 2))] wr fun e w' => ∃ m, e = .returned (.map (some m)) /\ wr.heap.size <= m /\ kb6 w' m L.length (fun s => (strOf L s).map (Value.int .i64 ·)) /\ Below wr.heap.size wr w') := Lib.hid ((clone_any (w.heap.size + 2) L.length _ wr hml).mono (fun e w' hh => ⟨_, hh.1, Nat.le_refl _, hh.2⟩))
      have HX1r : Hid (wr.heap[w.heap.size + 1]? = some (.cells #[.bool u.contract, .string (str u.name), .slice Ai u.ins.length ci, .string (str u.out.name), .int .i64 u.out.ty, .slice Av u.vars.length cv, .slice Aq u.eqs.length cq, .slice Al u.items.length cl] 39 (0, 0))) := Lib.hid ((hg.block (w.heap.size + 1) (by omega) (by simp)).trans HX1c.out)
      have HBr : Hid (Below w.heap.size w wr) := Lib.hid (HB3.out.grown hg (by omega) (fun j hj => by cases hj; omega))
      have hwrs : w.heap.size + 4 <= wr.heap.size := by omega
      clear hS hg hX HS hml
      go_wp2_with fail
      refine HCL.out.mono ?_
      rintro r w5 ⟨m2, rfl, hm2, hm5, hb5⟩
      obtain ⟨w6, hw6⟩ : ∃ W, w5.alloc (.cells #[.map (some m2), .map none] 52) = W := ⟨_, rfl⟩
      have hb6 : Below w5.heap.size w5 w6 := hw6 ▸ below_new w5 _
      have hb56 : Below wr.heap.size wr w6 := hb5.trans (hb6.mono hb5.size)
      have hX6 : w6.heap[w5.heap.size]? = some (.cells #[.map (some m2), .map none] 52 (0, 0)) := hw6 ▸ heap_alloc_new w5 _
      have hm5l := hm5.lt
      have hs6 := hb6.size
      have HS6 : Hid (kbl w6 (.map (some m2)) L.length (strOf L)) := Lib.hid ⟨_, rfl, hm5.below hb6 hm5l⟩
      have HSL6 : Hid (kbl w6 (.map (some (w.heap.size + 2))) L.length (strOf L)) := Lib.hid (HSL.out.below hb56)
      have HX6 := Lib.hid hX6
      have l6 := lt_of_block hX6
      have HX16 : Hid (w6.heap[w.heap.size + 1]? = some (.cells #[.bool u.contract, .string (str u.name), .slice Ai u.ins.length ci, .string (str u.out.name), .int .i64 u.out.ty, .slice Av u.vars.length cv, .slice Aq u.eqs.length cq, .slice Al u.items.length cl] 39 (0, 0))) := Lib.hid ((hb56.block _ (by omega)).trans HX1r.out)
      have HX26 : Hid (w6.heap[w.heap.size + 2 + 1]? = some (.cells #[.map (some (w.heap.size + 2)), .map nr] 52 (0, 0))) := Lib.hid ((hb56.block _ (by omega)).trans HX.out)
      have HB6 : Hid (Below w.heap.size w w6) := Lib.hid (HBr.out.trans (hb56.mono HBr.out.size))
      have hX15 : w5.heap[w.heap.size + 1]? = some (.cells #[.bool u.contract, .string (str u.name), .slice Ai u.ins.length ci, .string (str u.out.name), .int .i64 u.out.ty, .slice Av u.vars.length cv, .slice Aq u.eqs.length cq, .slice Al u.items.length cl] 39 (0, 0)) := (hb5.block _ (by omega)).trans HX1r.out
      have z7 : w5.cell? ⟨w.heap.size + 1, 7, none⟩ = some (.slice Al u.items.length cl) := (ka3 hX15 7).trans rfl
      have l15 := lt_of_block hX15
      have y7 : w6.cell? ⟨w.heap.size + 1, 7, none⟩ = some (.slice Al u.items.length cl) := (ka3 HX16.out 7).trans rfl
      have y6 : w6.cell? ⟨w.heap.size + 1, 6, none⟩ = some (.slice Aq u.eqs.length cq) := (ka3 HX16.out 6).trans rfl
      have HW6 := Lib.hid hw6
      have hs56 := hb56.size
      have hm26 : m2 < w6.heap.size := by omega
      have h5w : m2 < w5.heap.size := hm5l
      have hmw : w.heap.size + 4 <= m2 := by omega
      have HRE : Hid (kcp (strOf L) u.items ≠ 0 -> R = kcp (strOf L) u.items) := Lib.hid (fun h => by rw [<- HR.out, if_pos h])
      have HRZ : Hid (kcp (strOf L) u.items = 0 -> R = kfs ⟨strOf L, g⟩ u.eqs) := Lib.hid (fun h => by rw [<- HR.out, if_neg (by simp [h])])
      clear hm2 hm5 hb5 hb6 hb56 hX6 hX15 hw6 p0 p1 y7 y6
      go_wp2
      rw [HW6.out]
      go_loopw [37] (fun i wq => ∃ (k : Nat) (fk : Bytes -> Option Int), k <= u.items.length /\ i = .int .i64 k /\ kbl wq (.map (some m2)) (L.length + k) fk /\ w6.grownBy wq (some m2) /\ Hid (kcp fk (u.items.drop k) = kcp (strOf L) u.items)) (fun i _ => u.items.length - (intOf i).toNat)
      case atStart => exact ⟨0, strOf L, Nat.zero_le _, rfl, HS6.out, ⟨rfl, rfl, rfl, Nat.le_refl _, fun _ _ _ => rfl⟩, Lib.hid rfl⟩
      case round =>
        obtain ⟨k, fk, hk, rfl, hS, hg, hR2⟩ := hrel
        have HSk := Lib.hid hS
        have HGk := Lib.hid hg
        have hszk := hg.size
        have HBk : Hid (Below w.heap.size w wr) := Lib.hid (HB6.out.grown hg (by have := HB6.out.size; omega) (fun j hj => by cases hj; omega))
        have hX6r := (hg.block w5.heap.size l6 (by simp; omega)).trans HX6.out
        have p0 : wr.cell? ⟨w5.heap.size, 0, none⟩ = some (.map (some m2)) := (ka3 hX6r 0).trans rfl
        have p1 : wr.cell? ⟨w5.heap.size, 1, none⟩ = some (.map none) := (ka3 hX6r 1).trans rfl
        have hX2r := (hg.block (w.heap.size + 2 + 1) (by omega) (by simp; omega)).trans HX26.out
        have hX1r := (hg.block (w.heap.size + 1) (by omega) (by simp; omega)).trans HX16.out
        have HX2r := Lib.hid hX2r
        have lX6 := lt_of_block hX6r
        have y6 : wr.cell? ⟨w.heap.size + 1, 6, none⟩ = some (.slice Aq u.eqs.length cq) := (ka3 hX1r 6).trans rfl
        have lX1 := lt_of_block hX1r
        by_cases hlt : k < u.items.length
        · obtain ⟨it, hit⟩ : ∃ it, u.items[k]? = some it := ⟨_, List.getElem?_eq_getElem hlt⟩
          obtain ⟨gg, o, c', xs, hv', hgl, hpx, hxl, hcell⟩ := kaQ U4.out hit
          simp only [Value.slice.injEq, true_and] at hv'
          obtain ⟨rfl, rfl⟩ := hv'
          have HPX := Lib.hid hpx
          obtain ⟨ev, fv, Aa, na, ca, rfl, hev, hfv, -⟩ := hpx
          have q : ∀ j, j < 6 -> wr.cell? ⟨gg, o + k * 6 + j, none⟩ = _ := fun j hj => (HBk.out.cell (p := ⟨gg, o + k * 6 + j, none⟩) hgl).trans (hcell j hj)
          have q0 : wr.cell? ⟨gg, o + k * 6, none⟩ = some (.int .i64 it.kind) := q 0 (by omega)
          have q1 : wr.cell? ⟨gg, o + k * 6 + 1, none⟩ = some (.string (str it.name)) := q 1 (by omega)
          have q2 : wr.cell? ⟨gg, o + k * 6 + 2, none⟩ = some (.int .i64 it.ty) := q 2 (by omega)
          have q3 : wr.cell? ⟨gg, o + k * 6 + 3, none⟩ = some ev := q 3 (by omega)
          have q4 : wr.cell? ⟨gg, o + k * 6 + 4, none⟩ = some fv := q 4 (by omega)
          have q5 : wr.cell? ⟨gg, o + k * 6 + 5, none⟩ = some (.slice Aa na ca) := q 5 (by omega)
          obtain ⟨Ae, ce, rfl, -⟩ := hev
          obtain ⟨Af, cf, rfl, -⟩ := hfv
          have hgr : gg < wr.heap.size := by have := HBk.out.size; omega
          obtain ⟨w7, hw7⟩ : ∃ W, wr.alloc (.cells #[.int .i64 it.kind, .string (str it.name), .int .i64 it.ty, .slice Ae it.e.length ce, .slice Af it.f.length cf, .slice Aa na ca] 100) = W := ⟨_, rfl⟩
          have hb7 : Below wr.heap.size wr w7 := hw7 ▸ below_new wr _
          have hbw7 : Below w.heap.size w w7 := HBk.out.trans (hb7.mono HBk.out.size)
          have hll := HLL.out
          have HC7 := Lib.hid (kgm m2 (L.length + k) fk it _ w7 (hS.below hb7) (HTW.out w7 hbw7) (Ow.ItmN.below hbw7 _ _ HPX.out) (by unfold maxLen; omega))
          have HD : Hid ((if khb ⟨fk, noN⟩ it ≠ 0 then khb ⟨fk, noN⟩ it else kcp (nextF fk it) (u.items.drop (k + 1))) = kcp (strOf L) u.items) := Lib.hid (by rw [<- hR2.out, drop_at hit]; rfl)
          obtain ⟨z, hz⟩ : ∃ z, khb ⟨fk, noN⟩ it = z := ⟨_, rfl⟩
          rw [hz] at HC7 HD
          have HW7 := Lib.hid hw7
          have HB7 := Lib.hid hb7
          have HBW7 := Lib.hid hbw7
          clear hit hcell hS hg hX6r hX2r hX1r hw7 hb7 hbw7 q hR2 hz
          go_wp2_with fail
          rw [HW7.out]
          go_wp2_with fail
          refine HC7.out.mono ?_
          rintro r w8 ⟨rfl, hS8, hs8, hg8⟩
          have HS8 := Lib.hid hS8
          have HG8 : Hid (w6.grownBy w8 (some m2)) := Lib.hid (keF HGk.out (keF (grown_of m2 HB7.out) hg8))
          have HB8 : Hid (Below w.heap.size w w8) := Lib.hid (HBW7.out.grown hg8 HBW7.out.size (fun j hj => by cases hj; omega))
          clear hS8 hg8
          by_cases hz0 : z = 0
          · subst hz0
            have HN2 : Hid (kcp (nextF fk it) (u.items.drop (k + 1)) = kcp (strOf L) u.items) := Lib.hid (by have := HD.out; rw [if_neg (by simp)] at this; exact this)
            go_wp2
            refine ⟨⟨k + 1, nextF fk it, by omega, by go_num, by rw [<- Nat.add_assoc]; exact HS8.out, HG8.out, HN2⟩, by simp [intOf]; omega⟩
          · have hzb : (z != 0) = true := by simpa using hz0
            have HRR : Hid (R = z) := Lib.hid (by
              have h := HD.out
              rw [if_pos hz0] at h
              rw [HRE.out (by rw [<- h]; exact hz0), <- h])
            clear hz0
            go_wp2
            go_ret
            exact khh HRR.out HB8.out
        · have hkl : k = u.items.length := by omega
          subst hkl
          have HRR : Hid (kfs ⟨strOf L, g⟩ (u.eqs.drop 0) = R) := Lib.hid (by
            rw [HRZ.out (by rw [<- hR2.out, List.drop_length]; rfl)]; rfl)
          have HSLr : Hid (kbl wr (.map (some (w.heap.size + 2))) L.length (strOf L)) := Lib.hid (by
            obtain ⟨b', hb', hm'⟩ := HSL6.out
            simp only [Value.map.injEq, Option.some.injEq] at hb'
            subst hb'
            exact ⟨_, rfl, hm'.grown hg (by simp; omega)⟩)
          clear hS hg hX6r hX2r hX1r hR2 p0 p1
          go_wp2
          go_loopw [51] (fun i wq => ∃ k : Nat, k <= u.eqs.length /\ i = .int .i64 k /\ kbl wq (.map (some (w.heap.size + 2))) L.length (strOf L) /\ Below w.heap.size w wq /\ wq.heap[w.heap.size + 2 + 1]? = some (.cells #[.map (some (w.heap.size + 2)), .map nr] 52 (0, 0)) /\ Hid (kfs ⟨strOf L, g⟩ (u.eqs.drop k) = R)) (fun i _ => u.eqs.length - (intOf i).toNat)
          case atStart => exact ⟨0, Nat.zero_le _, rfl, HSLr.out, HBk.out, HX2r.out, HRR⟩
          case round =>
            obtain ⟨k, hk, rfl, hS, hb, hX, hRk⟩ := hrel
            have HSq := Lib.hid hS
            have HBq := Lib.hid hb
            have HXq := Lib.hid hX
            have lX := lt_of_block hX
            have p0 : wr.cell? ⟨w.heap.size + 2 + 1, 0, none⟩ = some (.map (some (w.heap.size + 2))) := (ka3 hX 0).trans rfl
            have p1 : wr.cell? ⟨w.heap.size + 2 + 1, 1, none⟩ = some (.map nr) := (ka3 hX 1).trans rfl
            by_cases hlt : k < u.eqs.length
            · obtain ⟨q, hq⟩ : ∃ q, u.eqs[k]? = some q := ⟨_, List.getElem?_eq_getElem hlt⟩
              obtain ⟨gg, o, c', xs, hv', hgl, hpx, hxl, hcell⟩ := kaQ U3.out hq
              simp only [Value.slice.injEq, true_and] at hv'
              obtain ⟨rfl, rfl⟩ := hv'
              have HPX := Lib.hid hpx
              obtain ⟨ev, rfl, hev, -⟩ := hpx
              have q0 : wr.cell? ⟨gg, o + k * 2 + 0, none⟩ = some (.string (str q.name)) := (hb.cell (p := ⟨gg, o + k * 2 + 0, none⟩) hgl).trans (hcell 0 (by omega))
              have q1 : wr.cell? ⟨gg, o + k * 2 + 1, none⟩ = some ev := (hb.cell (p := ⟨gg, o + k * 2 + 1, none⟩) hgl).trans (hcell 1 (by omega))
              rw [Nat.add_zero] at q0
              obtain ⟨Ae, ce, rfl, -⟩ := hev
              have hgr : gg < wr.heap.size := by have := hb.size; omega
              obtain ⟨w7, hw7⟩ : ∃ W, wr.alloc (.cells #[.string (str q.name), .slice Ae q.e.length ce] 103) = W := ⟨_, rfl⟩
              have hb7 : Below wr.heap.size wr w7 := hw7 ▸ below_new wr _
              have hbw7 : Below w.heap.size w w7 := hb.trans (hb7.mono hb.size)
              have HC7 := Lib.hid (eqn_any (.map (some (w.heap.size + 2))) (.map nr) L.length n2 ⟨strOf L, g⟩ q _ w7 (hS.below hb7) (HNW.out w7 hbw7) (HTW.out w7 hbw7) (Ow.EqnN.below hbw7 _ _ HPX.out))
              have HD : Hid ((if eqnM ⟨strOf L, g⟩ q ≠ 0 then eqnM ⟨strOf L, g⟩ q else kfs ⟨strOf L, g⟩ (u.eqs.drop (k + 1))) = R) := Lib.hid (by rw [<- hRk.out, drop_at hq]; rfl)
              obtain ⟨z, hz⟩ : ∃ z, eqnM ⟨strOf L, g⟩ q = z := ⟨_, rfl⟩
              rw [hz] at HC7 HD
              have HW7 := Lib.hid hw7
              have HB7 := Lib.hid hb7
              have HBW7 := Lib.hid hbw7
              clear hq hcell hS hb hX hw7 hb7 hbw7 hRk hz
              go_wp2_with fail
              rw [HW7.out]
              go_wp2_with fail
              refine HC7.out.mono ?_
              rintro r w8 ⟨rfl, hb8⟩
              have HB78 : Hid (Below wr.heap.size wr w8) := Lib.hid (HB7.out.trans (hb8.mono HB7.out.size))
              have HB8 : Hid (Below w.heap.size w w8) := Lib.hid (HBW7.out.trans (hb8.mono HBW7.out.size))
              clear hb8
              by_cases hz0 : z = 0
              · subst hz0
                have HN2 : Hid (kfs ⟨strOf L, g⟩ (u.eqs.drop (k + 1)) = R) := Lib.hid (by have := HD.out; rw [if_neg (by simp)] at this; exact this)
                go_wp2
                refine ⟨⟨k + 1, by omega, by go_num, HSq.out.below HB78.out, HB8.out, (HB78.out.block _ lX).trans HXq.out, HN2⟩, by simp [intOf]; omega⟩
              · have hzb : (z != 0) = true := by simpa using hz0
                have HRR2 : Hid (R = z) := Lib.hid (by have h := HD.out; rw [if_pos hz0] at h; exact h.symm)
                clear hz0
                go_wp2
                go_ret
                exact khh HRR2.out HB8.out
            · have hkl : k = u.eqs.length := by omega
              subst hkl
              have HRR2 : Hid (R = 0) := Lib.hid (by rw [<- hRk.out, List.drop_length]; rfl)
              clear hS hb hX hRk
              go_wp2
              go_ret
              exact khh HRR2.out HBq.out
end Go.Proofs.YtlhcajhgbkgjbaaDoor.Ty

/- What the document's reader of programs reads of tokens, as plain functions. Conditions: none. -/
namespace Go.Proofs.YtlhcajhgbkgjbaaDoor.Rp
open Tr Ex
open Pg (Prm Eqn Itm Unt Prg PM kas kbc txt Rd.stop Rd.to kaN kbv failP kaG wBool wInt kdJ kai wMain kcZ kbw wVar wLet wTel wEnd kaP kat kc4 kef kcr kdI keK kaK kj7 sEq kcm)
def kaj (s : Bytes) : PM Unit := fun r => ((), r.need s)
def kaw (s : Bytes) : PM Bool := fun r => if r.isB s then (true, r.adv) else (false, r)
def kbu (n : Nat) : PM Unit := fun r => ((), if 200 <= n then r.fail 7 else r)
def kbh : PM (List Nd) := fun r => if r.code ≠ 0 then ([], r) else if (kaU r.l r.next).2.2.1 ≠ 0 then ([], Pg.Rd.stop (kaU r.l r.next).2.2.1 (kaU r.l r.next).2.2.2 r) else ((kaU r.l r.next).1, Pg.Rd.to (kaU r.l r.next).2.1 r)
def kaI : PM Prm := kas kbv fun n => kas (kaj kj7) fun _ => kas (kaw wBool) fun b => if b then kbc ⟨n, 1⟩ else kas (kaw wInt) fun i => if i then kbc ⟨n, 2⟩ else kas (failP 5) fun _ => kbc ⟨n, 0⟩
def inF {α : Type} (sep : Bytes) (one : PM α) : Nat -> List α -> PM (List α)
  | 0, _ => kbc []
  | k + 1, acc => fun r => if r.code = 0 then kas (kbu acc.length) (fun _ => kas one fun a => kas (kaw [41]) fun b => if b then kbc (acc ++ [a]) else kas (kaj sep) fun _ => inF sep one k (acc ++ [a])) r else ([], r)
def inQ {α : Type} (sep : Bytes) (one : PM α) : PM (List α) := kas (kaj [40]) fun _ => kas (kaw [41]) fun b => if b then kbc [] else inF sep one kaG []
def varF : Nat -> List Prm -> PM (List Prm)
  | 0, _ => kbc []
  | k + 1, acc => fun r => if r.code = 0 then kas (kbu acc.length) (fun _ => kas kaI fun a => kas (kaj kaK) fun _ => fun r' => if kaN r' then varF k (acc ++ [a]) r' else (acc ++ [a], r')) r else ([], r)
def varQ : PM (List Prm) := varF kaG []
def eqnQ : PM Eqn := kas kbv fun n => kas (kaj sEq) fun _ => kas kbh fun e => kas (kaj kaK) fun _ => kbc ⟨n, e⟩
def eqF : Nat -> List Eqn -> PM (List Eqn)
  | 0, acc => kbc acc
  | k + 1, acc => fun r => if kaN r then kas (kbu acc.length) (fun _ => kas eqnQ fun q => eqF k (acc ++ [q])) r else (acc, r)
def eqsQ : PM (List Eqn) := kas (eqF kaG []) fun l => kas (kaj wTel) fun _ => kbc l
def kbE (k : Int) : PM Itm :=
  if k = 3 then kas kaI fun p => kas (kaj sEq) fun _ => kas kbh fun e => kas (kaj kaK) fun _ => kbc ⟨k, p.name, p.ty, e, [], []⟩
  else if k = 4 then kas kbv fun n => kas (kaj kdI) fun _ => kas kbh fun e => kas (kaj keK) fun _ => kas kbh fun f => kas (kaj kaK) fun _ => kbc ⟨k, n, 0, e, f, []⟩
  else if k = 5 then kas kbv fun n => kas (inQ kcm kbh) fun l => kas (kaj kaK) fun _ => kbc ⟨k, n, 0, [], [], l⟩
  else kas kbh fun e => kas (kaj kaK) fun _ => kbc ⟨k, [], 0, e, [], []⟩
def kaZ (r : Rd) : Int := if r.isB kaP then 1 else if r.isB kat then 2 else if r.isB kc4 then 3 else if r.isB kef then 4 else if r.isB kcr then 5 else 0
def kf5 : PM (Option Itm) := fun r => if kaZ r = 0 then (none, r) else kas (kbE (kaZ r)) (fun i => kbc (some i)) r.adv
def itF : Nat -> List Itm -> PM (List Itm)
  | 0, acc => kbc acc
  | k + 1, acc => fun r => if kaZ r ≠ 0 then kas (kbu acc.length) (fun _ => kas kf5 fun x => itF k (acc ++ x.toList)) r else (acc, r)
def kco : PM (List Itm) := kas (itF kaG []) fun l => kas (kaj wEnd) fun _ => kbc l
def ke9 : PM Unt := kas kbv fun n => kas (inQ kaK kaI) fun i => kas kco fun l => kbc ⟨true, n, i, ⟨[], 0⟩, [], [], l⟩
def nodeQ : PM Unt := kas (kaj kdJ) fun _ => kas kbv fun n => kas (inQ kaK kaI) fun i => kas (kaj kbw) fun _ => kas (kaj [40]) fun _ => kas kaI fun o => kas (kaj [41]) fun _ =>
  kas (kaw kai) fun c => kas (if c then kco else kbc []) fun l => kas (kaw wVar) fun v => kas (if v then varQ else kbc []) fun vs => kas (kaj wLet) fun _ => kas eqsQ fun es => kbc ⟨false, n, i, o, vs, es, l⟩
def kgJ : PM Unt := kas (kaw kai) fun c => if c then ke9 else nodeQ
def kdE (r : Rd) : Bool := r.isB kdJ || r.isB kai
def unF : Nat -> List Unt -> PM (List Unt)
  | 0, acc => kbc acc
  | k + 1, acc => fun r => if kdE r then kas (kbu acc.length) (fun _ => kas kgJ fun u => unF k (acc ++ [u])) r else (acc, r)
def kbI {α : Type} (f : PM α) : Prop := ∀ r, r.code ≠ 0 -> (f r).2.code ≠ 0
theorem kbI.bind {α β : Type} {f : PM α} {g : α -> PM β} (hf : kbI f) (hg : ∀ a, kbI (g a)) : kbI (kas f g) := fun r h => hg _ _ (hf r h)
theorem kam {α : Type} (a : α) : kbI (kbc a) := fun r h => h
theorem kca (e : Int) (he : e ≠ 0) (r : Rd) : (r.fail e).code ≠ 0 := by unfold Rd.fail; split <;> simp_all
theorem kag (s : Bytes) : kbI (kaj s) := fun r h => by
  unfold kaj Rd.need; simp only; split
  · exact h
  · exact kca 5 (by decide) r
theorem kfx (n : Nat) : kbI (kbu n) := fun r h => by
  unfold kbu; simp only; split
  · exact kca 7 (by decide) r
  · exact h
theorem kbs (s : Bytes) : kbI (kaw s) := fun r h => by unfold kaw; split <;> exact h
theorem kbM : kbI kbv := fun r h => by
  unfold kbv; split
  · exact h
  · exact kca 5 (by decide) r
theorem kjU (e : Int) (he : e ≠ 0) : kbI (failP e) := fun r h => kca e he r
theorem kbt : kbI kbh := fun r h => by unfold kbh; rw [if_pos h]; exact h
theorem kc7 {α : Type} {c : Prop} [Decidable c] {f g : PM α} (hf : kbI f) (hg : kbI g) : kbI (if c then f else g) := by split; exact hf; exact hg
theorem kbL : kbI kaI := kbM.bind fun n => (kag _).bind fun _ => (kbs _).bind fun b => kc7 (kam _) ((kbs _).bind fun i => kc7 (kam _) ((kjU 5 (by decide)).bind fun _ => kam _))
theorem stick_eqn : kbI eqnQ := kbM.bind fun n => (kag _).bind fun _ => kbt.bind fun e => (kag _).bind fun _ => kam _
end Go.Proofs.YtlhcajhgbkgjbaaDoor.Rp

/- The document's reader of programs in memory. Conditions: none. -/
namespace Go.Proofs.YtlhcajhgbkgjbaaDoor.Rp
open Go.ChangeShapes Go.WideShapes Go.ChangeAt Go.RowKit
open Ex
open Tr (str ka1 ka5 Bytes Nd)
open Pg
def kc1 (lv : Value) (i : Nat) (c a : Int) : Array Value := #[lv, .int .i64 (i : Int), .int .i64 c, .int .i64 a]
structure RpAt (w : World) (b : Nat) (L : List Ex.Tok) (r : Rd) (lv : Value) (i : Nat) (c a : Int) : Prop where
  blk : w.heap[b]? = some (.cells (kc1 lv i c a) 73 (0, 0))
  tok : TokOff w b lv L
  okl : Rf.OkL L
  txt : ∀ t ∈ L, t.text.length <= 1000000
  ile : i <= L.length
  st : (r.code = 0 /\ c = 0 /\ r.l = L /\ i = r.next) ∨ (r.code ≠ 0 /\ c = r.code /\ a = r.at_ /\ r.l = [])
def RdIn (w : World) (b : Nat) (r : Rd) : Prop := ∃ L lv i c a, RpAt w b L r lv i c a
theorem RpAt.keep {w w' : World} {b : Nat} {L : List Ex.Tok} {r : Rd} {lv : Value} {i : Nat} {c a : Int} (h : RpAt w b L r lv i c a) (hs : w.heap.size <= w'.heap.size) (hk : ∀ g, g < b -> g < w.heap.size -> w'.heap[g]? = w.heap[g]?) (hb : w'.heap[b]? = w.heap[b]?) : RpAt w' b L r lv i c a :=
  ⟨hb.trans h.blk, h.tok.keep hs hk, h.okl, h.txt, h.ile, h.st⟩
theorem RdIn.keep {w w' : World} {b : Nat} {r : Rd} (h : RdIn w b r) (hs : w.heap.size <= w'.heap.size) (hk : ∀ g, g < b -> g < w.heap.size -> w'.heap[g]? = w.heap[g]?) (hb : w'.heap[b]? = w.heap[b]?) : RdIn w' b r := by
  obtain ⟨L, lv, i, c, a, h⟩ := h
  exact ⟨L, lv, i, c, a, h.keep hs hk hb⟩
theorem RdIn.lt {w : World} {b : Nat} {r : Rd} (h : RdIn w b r) : b < w.heap.size := by
  obtain ⟨_, _, _, _, _, h⟩ := h; exact lt_of_block h.blk
theorem RdIn.below {w w' : World} {b : Nat} {r : Rd} (h : RdIn w b r) (hb : Below w.heap.size w w') : RdIn w' b r :=
  h.keep hb.size (fun g _ hg => hb.block g hg) (hb.block b h.lt)
structure RdBy (w w' : World) (b : Nat) (r' : Rd) : Prop where
  rd : RdIn w' b r'
  grown : w.grownBy w' (some b)
theorem RdBy.refl {w : World} {b : Nat} {r : Rd} (h : RdIn w b r) : RdBy w w b r := ⟨h, World.grownBy.refl w _⟩
theorem RdBy.below {w w1 w' : World} {b : Nat} {r' : Rd} (hb : Below w.heap.size w w1) (hlt : b < w.heap.size) (h : RdBy w1 w' b r') : RdBy w w' b r' :=
  ⟨h.rd, ⟨h.grown.os.trans hb.os, h.grown.tape.trans hb.tape, h.grown.output.trans hb.output, Nat.le_trans hb.size h.grown.size, fun i hi hne => (h.grown.block i (Nat.lt_of_lt_of_le hi hb.size) hne).trans (hb.block i hi)⟩⟩
theorem RdBy.of_below {w w' : World} {b : Nat} {r : Rd} (h : RdIn w b r) (hb : Below w.heap.size w w') : RdBy w w' b r :=
  ⟨h.below hb, ⟨hb.os, hb.tape, hb.output, hb.size, fun i hi _ => hb.block i hi⟩⟩
theorem RdBy.trans {w w1 w2 : World} {b : Nat} {r1 r2 : Rd} (h : RdBy w w1 b r1) (k : RdBy w1 w2 b r2) : RdBy w w2 b r2 :=
  ⟨k.rd, ⟨k.grown.os.trans h.grown.os, k.grown.tape.trans h.grown.tape, k.grown.output.trans h.grown.output, Nat.le_trans h.grown.size k.grown.size, fun i hi hne => (k.grown.block i (Nat.lt_of_lt_of_le hi h.grown.size) hne).trans (h.grown.block i hi hne)⟩⟩
theorem RdBy.then_below {w w1 w2 : World} {b : Nat} {r1 : Rd} (h : RdBy w w1 b r1) (k : Below w1.heap.size w1 w2) : RdBy w w2 b r1 := h.trans (RdBy.of_below h.rd k)
theorem RdBy.setLocal {w wr : World} {b B k : Nat} {r : Rd} (h : RdBy w wr b r) (hB : w.heap.size <= B) (hlt : b < w.heap.size) (v : Value) : RdBy w (wr.setCell ⟨B, k, none⟩ v) b r := by
  have ho : ∀ g, g < w.heap.size -> (wr.setCell ⟨B, k, none⟩ v).heap[g]? = wr.heap[g]? := fun g hg => Below.heap_setCell _ _ _ _ (by simp; omega)
  refine ⟨h.rd.keep (by simp [World.setCell]) (fun g h1 h2 => ho g (by omega)) (ho b hlt), ⟨h.grown.os, h.grown.tape, h.grown.output, by simpa [World.setCell] using h.grown.size, fun i hi hne => (ho i hi).trans (h.grown.block i hi hne)⟩⟩
theorem kaL {w : World} {b : Nat} {lv : Value} {i : Nat} {c a : Int} (h : w.heap[b]? = some (.cells (kc1 lv i c a) 73 (0, 0))) (k : Nat) : w.cell? ⟨b, k, none⟩ = (kc1 lv i c a)[k]? := by simp [World.cell?, h]
theorem kcs {w : World} {b : Nat} {lv : Value} {i : Nat} {c a : Int} (h : w.heap[b]? = some (.cells (kc1 lv i c a) 73 (0, 0))) (k : Nat) : w.frozen? ⟨b, k, none⟩ = false := by simp [World.frozen?, h]
theorem RdBy.stay {w w' : World} {b : Nat} {r r' : Rd} (h : RdIn w b r) (k : RdBy w w' b r') : Stay (fun t => t = 73) w w' :=
  Stay.grown k.grown (fun B hB => by
    injection hB with hB; subst hB
    obtain ⟨L, lv, i, c, a, h⟩ := h
    exact ⟨_, _, _, h.blk, rfl⟩)
theorem kdS (w : World) (b k : Nat) (v : Value) (g : Nat) (h : g ≠ b) : (w.setCell ⟨b, k, none⟩ v).heap[g]? = w.heap[g]? := Below.heap_setCell w ⟨b, k, none⟩ v g (by simpa using h)
theorem RpAt.turn {w W : World} {b : Nat} {L : List Ex.Tok} {r r' : Rd} {lv : Value} {i i' : Nat} {c a c' a' : Int} (h : RpAt w b L r lv i c a)
    (hW : W.heap[b]? = some (.cells (kc1 lv i' c' a') 73 (0, 0))) (hs : W.heap.size = w.heap.size) (hos : W.os = w.os) (ht : W.tape = w.tape) (hou : W.output = w.output) (ho : ∀ g, g ≠ b -> W.heap[g]? = w.heap[g]?)
    (hi : i' <= L.length) (hst : (r'.code = 0 /\ c' = 0 /\ r'.l = L /\ i' = r'.next) ∨ (r'.code ≠ 0 /\ c' = r'.code /\ a' = r'.at_ /\ r'.l = [])) : RdBy w W b r' :=
  ⟨⟨L, lv, i', c', a', hW, h.tok.keep (by omega) (fun g hg _ => ho g (by omega)), h.okl, h.txt, hi, hst⟩, ⟨hos, ht, hou, by omega, fun g _ hne => ho g (fun e => hne (by rw [e]))⟩⟩
theorem RpAt.setI {w : World} {b : Nat} {L : List Ex.Tok} {r : Rd} {lv : Value} {i : Nat} {c a : Int} (h : RpAt w b L r lv i c a) (hc : r.code = 0) (hi : i < L.length) :
    RdBy w (w.setCell ⟨b, 1, none⟩ (.int .i64 ((i : Int) + 1))) b r.adv := by
  have hst := h.st
  rcases hst with ⟨h1, h2, h3, h4⟩ | ⟨h1, _⟩
  · refine h.turn (i' := i + 1) (c' := c) (a' := a) ?_ (by simp [World.setCell]) rfl rfl rfl (fun g hg => kdS _ _ _ _ _ hg) (by omega) (.inl ⟨h1, h2, h3, by simp [Rd.adv, h4]⟩)
    rw [ka2 h.blk (by simp [kc1])]; simp [kc1]
  · exact absurd hc h1
theorem RpAt.setTo {w : World} {b : Nat} {L : List Ex.Tok} {r : Rd} {lv : Value} {i : Nat} {c a : Int} (h : RpAt w b L r lv i c a) (hc : r.code = 0) {n : Nat} (hi : n <= L.length) :
    RdBy w (w.setCell ⟨b, 1, none⟩ (.int .i64 (n : Int))) b (Pg.Rd.to n r) := by
  have hst := h.st
  rcases hst with ⟨h1, h2, h3, h4⟩ | ⟨h1, _⟩
  · refine h.turn (i' := n) (c' := c) (a' := a) ?_ (by simp [World.setCell]) rfl rfl rfl (fun g hg => kdS _ _ _ _ _ hg) hi (.inl ⟨h1, h2, h3, rfl⟩)
    rw [ka2 h.blk (by simp [kc1])]; simp [kc1]
  · exact absurd hc h1
theorem RpAt.setF {w : World} {b : Nat} {L : List Ex.Tok} {r : Rd} {lv : Value} {i : Nat} {c a : Int} (h : RpAt w b L r lv i c a) (hc : r.code = 0) (e x : Int) (he : e ≠ 0) :
    RdBy w ((w.setCell ⟨b, 2, none⟩ (.int .i64 e)).setCell ⟨b, 3, none⟩ (.int .i64 x)) b (Pg.Rd.stop e x r) := by
  have k1 := ka2 (v := .int .i64 e) h.blk (k := 2) (by simp [kc1])
  have k2 := ka2 (v := .int .i64 x) k1 (k := 3) (by simp [kc1])
  have hf : Pg.Rd.stop e x r = ⟨[], r.next, r.begun, e, x⟩ := by unfold Pg.Rd.stop; rw [if_pos hc]
  rw [hf]
  refine h.turn (i' := i) (c' := e) (a' := x) ?_ (by simp [World.setCell]) rfl rfl rfl (fun g hg => by rw [kdS _ _ _ _ _ hg, kdS _ _ _ _ _ hg]) h.ile (.inr ⟨he, rfl, rfl, rfl⟩)
  rw [k2]; simp [kc1]
theorem RdIn.fine {w : World} {b : Nat} {r : Rd} (h : RdIn w b r) : r.fine := fun hc => by
  obtain ⟨L, lv, i, c, a, h⟩ := h
  rcases h.st with ⟨h1, _⟩ | ⟨_, _, _, h4⟩
  · exact absurd h1 hc
  · exact h4
theorem RdIn.dead {w : World} {b : Nat} {r r' : Rd} (h : RdIn w b r) (h0 : r.code ≠ 0) (hc : r'.code = r.code) (ha : r'.at_ = r.at_) (hl : r'.l = []) : RdIn w b r' := by
  obtain ⟨L, lv, i, c, a, h⟩ := h
  refine ⟨L, lv, i, c, a, h.blk, h.tok, h.okl, h.txt, h.ile, ?_⟩
  rcases h.st with ⟨h1, _⟩ | ⟨_, h2, h3, _⟩
  · exact absurd h1 h0
  · exact .inr ⟨by rw [hc]; exact h0, by rw [hc]; exact h2, by rw [ha]; exact h3, hl⟩
theorem RpAt.below {w w' : World} {b : Nat} {L : List Ex.Tok} {r : Rd} {lv : Value} {i : Nat} {c a : Int} (h : RpAt w b L r lv i c a) (hb : Below w.heap.size w w') : RpAt w' b L r lv i c a :=
  h.keep hb.size (fun g _ hg => hb.block g hg) (hb.block b (lt_of_block h.blk))
theorem RdIn.drew {w : World} {b : Nat} {r : Rd} (h : RdIn w b r) : RdIn w.drew b r := h.keep (Nat.le_refl _) (fun _ _ _ => rfl) rfl
end Go.Proofs.YtlhcajhgbkgjbaaDoor.Rp

