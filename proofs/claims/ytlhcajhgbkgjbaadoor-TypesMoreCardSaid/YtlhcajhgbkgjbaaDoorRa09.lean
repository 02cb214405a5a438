/- Layer types: Check. Conditions: what is checked reads as a program's units, the table lies in memory. -/
import Derived.Test.YtlhcajhgbkgjbaaDoorRa07
import Derived.Test.YtlhcajhgbkgjbaaDoorRa08
import Derived.Test.YtlhcajhgbkgjbaaDoorKb17
import Derived.Test.YtlhcajhgbkgjbaaDoorKb23
set_option linter.unusedVariables false
set_option linter.unusedSimpArgs false
namespace Go.Proofs.YtlhcajhgbkgjbaaDoor.Ty
open Go.ChangeShapes Go.WideShapes Go.ChangeAt Go.RowKit
open Tr
open Pg (Prm Eqn Itm Unt)
open Go.Proofs.YtlhcajhgbkgjbaaDoor.Ow (PrmN EqnN ItmN UntN RowN kaQ rown_form)
noncomputable def kds : Nat -> (Bytes -> Option (List Int × Int)) -> List Unt -> Int × Int
  | _, _, [] => (0, 0)
  | n, g, u :: r => if kg0 g u ≠ 0 then (kg0 g u, (n : Int)) else kds (n + 1) (addN g u) r
def SmallU (u : Unt) : Prop := u.ins.length <= 1000 /\ u.vars.length <= 1000 /\ u.items.length <= 1000000
def kj0 (w : World) (x : Int × Int) (e : Ending) (w' : World) : Prop := e = .returned (.agg #[.int .i64 x.1, .int .i64 x.2]) /\ Below w.heap.size w w'
set_option maxRecDepth 100000 in
set_option maxHeartbeats 8000000 in
theorem check_any (us : List Unt) (uv : Value) (m b : Bytes) (w : World) (hT : ShAt w) (hu : RowN 8 UntN w us uv) (hsm : ∀ u ∈ us, SmallU u) :
    Calls Tryd.prog 11 #[.agg #[uv, .string (str m), .string (str b)]] w (kj0 w (kds 0 noN us)) := by
  have hmm := @run_makeMap Tryd.prog
  obtain ⟨R, hR⟩ : ∃ R, kds 0 noN us = R := ⟨_, rfl⟩
  have HR : Hid (kds 0 noN (us.drop 0) = R) := Lib.hid hR
  rw [hR]
  have HU := Lib.hid hu
  have HSM := Lib.hid hsm
  obtain ⟨A, c, rfl, h1, h2, -⟩ := rown_form hu
  unfold maxLen at h2
  have HTW : Hid (∀ W, Below w.heap.size w W -> ShAt W) := Lib.hid (fun W h => hT.below h hT.1)
  have N := kaV w (.cells #[.slice A us.length c, .string (str m), .string (str b)] 43) (.cells #[.int .i64 0, .int .i64 0] 45)
  obtain ⟨w1, hw1⟩ : ∃ W, (w.alloc (.cells #[.slice A us.length c, .string (str m), .string (str b)] 43)).alloc (.cells #[.int .i64 0, .int .i64 0] 45) = W := ⟨_, rfl⟩
  have n1 : w1.heap.size = w.heap.size + 2 := by rw [<- hw1]; simp
  rw [hw1] at N
  have hm1 := kc3.made (w0 := w) (w := w1) N.1
  have N2 := kaV w1 (.map #[] 0) (.cells #[.map none, .map (some w1.heap.size)] 52)
  have hm2 : kc3 w ((w1.alloc (.map #[] 0)).alloc (.cells #[.map none, .map (some w1.heap.size)] 52)) w1.heap.size 0 noN := hm1.below (below_new _ _)
  obtain ⟨w2, hw2⟩ : ∃ W, (w1.alloc (.map #[] 0)).alloc (.cells #[.map none, .map (some w1.heap.size)] 52) = W := ⟨_, rfl⟩
  rw [hw2] at N2 hm2
  have hb12 : Below w1.heap.size w1 w2 := N2.1
  have lx1 := lt_of_block N.2.1
  have lx2 := lt_of_block N.2.2
  have hX0 := (hb12.block _ lx1).trans N.2.1
  have hX1 := (hb12.block _ lx2).trans N.2.2
  have hX3 := N2.2.2
  rw [n1] at hm2 hX3 hw2
  have HB2 : Hid (Below w.heap.size w w2) := Lib.hid (N.1.trans (hb12.mono N.1.size))
  have HX1 := Lib.hid hX1
  have HX3 := Lib.hid hX3
  have HM2 := Lib.hid hm2
  have HW2 := Lib.hid hw2
  have HW1 := Lib.hid hw1
  have n2 : w2.heap.size = w.heap.size + 4 := by rw [<- hw2]; simp [n1]
  have HN2 := Lib.hid n2
  have x0 : w1.cell? ⟨w.heap.size, 0, none⟩ = some (.slice A us.length c) := (ka3 N.2.1 0).trans rfl
  have x02 : w2.cell? ⟨w.heap.size, 0, none⟩ = some (.slice A us.length c) := (ka3 hX0 0).trans rfl
  have HN1 := Lib.hid n1
  have HEND : Hid (∀ (wr : World) (p q : Int), Below w.heap.size w wr -> (p, q) = R -> ∀ e, e = Ending.returned (.agg #[.int .i64 p, .int .i64 q]) -> kj0 w R e ((wr.setCell ⟨w.heap.size + 1, 0, none⟩ (.int .i64 p)).setCell ⟨w.heap.size + 1, 1, none⟩ (.int .i64 q))) := Lib.hid (fun wr p q hb h e he => by
    subst h; subst he
    exact ⟨rfl, (hb.setCell (by simp) _).setCell (by simp) _⟩)
  clear hR hu hT hsm N N2 hm1 hm2 hb12 hX0 hX1 hX3 n2 HW1 HW2
  go_enter Tryd.func11, Tryd.ntmps11
  go_wp2
  go_loopw [12] (fun i wr => ∃ (k : Nat) (g : Bytes -> Option (List Int × Int)), k <= us.length /\ i = .int .i64 k /\ kc3 w wr (w.heap.size + 2) k g /\ Below w.heap.size w wr /\ wr.heap[w.heap.size + 1]? = some (.cells #[.int .i64 0, .int .i64 0] 45 (0, 0)) /\ wr.heap[w.heap.size + 2 + 1]? = some (.cells #[.map none, .map (some (w.heap.size + 2))] 52 (0, 0)) /\ Hid (kds k g (us.drop k) = R)) (fun i _ => us.length - (intOf i).toNat)
  case atStart => exact ⟨0, noN, Nat.zero_le _, rfl, HM2.out, HB2.out, HX1.out, HX3.out, HR⟩
  case round =>
    obtain ⟨k, g, hk, rfl, hN, hb, hZ, hX, hm⟩ := hrel
    have HNk := Lib.hid hN
    have HBk := Lib.hid hb
    have HZk := Lib.hid hZ
    have HXk := Lib.hid hX
    have lz := lt_of_block hZ
    have lX := lt_of_block hX
    have p0 : wr.cell? ⟨w.heap.size + 2 + 1, 0, none⟩ = some (.map none) := (ka3 hX 0).trans rfl
    have p1 : wr.cell? ⟨w.heap.size + 2 + 1, 1, none⟩ = some (.map (some (w.heap.size + 2))) := (ka3 hX 1).trans rfl
    by_cases hlt : k < us.length
    · obtain ⟨u, hu⟩ : ∃ u, us[k]? = some u := ⟨_, List.getElem?_eq_getElem hlt⟩
      obtain ⟨gg, o, c', x, hv', hgl, hux, hxl, hcell⟩ := kaQ HU.out hu
      simp only [Value.slice.injEq, true_and] at hv'
      obtain ⟨rfl, rfl⟩ := hv'
      have HUX := Lib.hid hux
      obtain ⟨iv, vv, qv, lv, rfl, z1, z2, z3, z4, -⟩ := hux
      obtain ⟨B1, d1, rfl, -, -, -⟩ := rown_form z1
      obtain ⟨B2, d2, rfl, -, -, -⟩ := rown_form z2
      obtain ⟨B3, d3, rfl, -, -, -⟩ := rown_form z3
      obtain ⟨B4, d4, rfl, -, -, -⟩ := rown_form z4
      have q : ∀ j, j < 8 -> wr.cell? ⟨gg, o + k * 8 + j, none⟩ = _ := fun j hj => (hb.cell (p := ⟨gg, o + k * 8 + j, none⟩) hgl).trans (hcell j hj)
      have q0 : wr.cell? ⟨gg, o + k * 8, none⟩ = some (.bool u.contract) := q 0 (by omega)
      have q1 : wr.cell? ⟨gg, o + k * 8 + 1, none⟩ = some (.string (str u.name)) := q 1 (by omega)
      have q2 : wr.cell? ⟨gg, o + k * 8 + 2, none⟩ = some (.slice B1 u.ins.length d1) := q 2 (by omega)
      have q3 : wr.cell? ⟨gg, o + k * 8 + 3, none⟩ = some (.string (str u.out.name)) := q 3 (by omega)
      have q4 : wr.cell? ⟨gg, o + k * 8 + 4, none⟩ = some (.int .i64 u.out.ty) := q 4 (by omega)
      have q5 : wr.cell? ⟨gg, o + k * 8 + 5, none⟩ = some (.slice B2 u.vars.length d2) := q 5 (by omega)
      have q6 : wr.cell? ⟨gg, o + k * 8 + 6, none⟩ = some (.slice B3 u.eqs.length d3) := q 6 (by omega)
      have q7 : wr.cell? ⟨gg, o + k * 8 + 7, none⟩ = some (.slice B4 u.items.length d4) := q 7 (by omega)
      have hgr : gg < wr.heap.size := by have := hb.size; omega
      obtain ⟨w4, hw4⟩ : ∃ W, wr.alloc (.cells #[.bool u.contract, .string (str u.name), .slice B1 u.ins.length d1, .string (str u.out.name), .int .i64 u.out.ty, .slice B2 u.vars.length d2, .slice B3 u.eqs.length d3, .slice B4 u.items.length d4] 39) = W := ⟨_, rfl⟩
      have hb4 : Below wr.heap.size wr w4 := hw4 ▸ below_new wr _
      have hX4 : w4.heap[wr.heap.size]? = some (.cells #[.bool u.contract, .string (str u.name), .slice B1 u.ins.length d1, .string (str u.out.name), .int .i64 u.out.ty, .slice B2 u.vars.length d2, .slice B3 u.eqs.length d3, .slice B4 u.items.length d4] 39 (0, 0)) := hw4 ▸ heap_alloc_new wr _
      have hbw4 : Below w.heap.size w w4 := hb.trans (hb4.mono hb.size)
      have hsm := HSM.out u (List.mem_of_getElem? hu)
      have HC := Lib.hid (kfZ (.map (some (w.heap.size + 2))) k g u _ w4 (.inr ⟨w, w.heap.size + 2, rfl, hN.below hb4⟩) (HTW.out w4 hbw4) (Ow.UntN.below hbw4 _ _ HUX.out) hsm.1 hsm.2.1 hsm.2.2)
      have HD : Hid ((if kg0 g u ≠ 0 then (kg0 g u, (k : Int)) else kds (k + 1) (addN g u) (us.drop (k + 1))) = R) := Lib.hid (by rw [<- hm.out, drop_at hu]; rfl)
      have HADD : Hid (∀ W, Below wr.heap.size wr W -> Calls Tryd.prog 13 #[.agg #[.map none, .map (some (w.heap.size + 2))], .agg #[.bool u.contract, .string (str u.name), .slice B1 u.ins.length d1, .string (str u.out.name), .int .i64 u.out.ty, .slice B2 u.vars.length d2, .slice B3 u.eqs.length d3, .slice B4 u.items.length d4]] W (kjK w W (w.heap.size + 2) k g u)) := Lib.hid (fun W h => kjH w (.map none) (w.heap.size + 2) k g u _ W (HNk.out.below h) HUX.out (by unfold maxLen; omega))
      obtain ⟨z, hz⟩ : ∃ z, kg0 g u = z := ⟨_, rfl⟩
      rw [hz] at HC HD
      have HW4 := Lib.hid hw4
      have HB4 := Lib.hid hb4
      have HX4 := Lib.hid hX4
      have lX4 := lt_of_block hX4
      clear hu hcell hN hb hZ hX hm hw4 hb4 hbw4 hX4 hz q hsm z1 z2 z3 z4
      go_wp2_with fail
      rw [HW4.out]
      go_wp2_with fail
      refine HC.out.mono ?_
      rintro r w5 ⟨rfl, hb5⟩
      have HB45 : Hid (Below wr.heap.size wr w5) := Lib.hid (HB4.out.trans (hb5.mono HB4.out.size))
      have HB5 : Hid (Below w.heap.size w w5) := Lib.hid (HBk.out.trans (HB45.out.mono HBk.out.size))
      have hX5 := (hb5.block _ lX4).trans HX4.out
      have hS5 := (HB45.out.block _ lX).trans HXk.out
      have hZ5 := (HB45.out.block _ lz).trans HZk.out
      have HZ5 := Lib.hid hZ5
      have HS5 := Lib.hid hS5
      have lz5 := lt_of_block hZ5
      have hsz5 := HB45.out.size
      by_cases hz0 : z = 0
      · subst hz0
        have HN2' : Hid (kds (k + 1) (addN g u) (us.drop (k + 1)) = R) := Lib.hid (by have := HD.out; rw [if_neg (by simp)] at this; exact this)
        have s0 : w5.cell? ⟨w.heap.size + 2 + 1, 0, none⟩ = some (.map none) := (ka3 hS5 0).trans rfl
        have s1 : w5.cell? ⟨w.heap.size + 2 + 1, 1, none⟩ = some (.map (some (w.heap.size + 2))) := (ka3 hS5 1).trans rfl
        have t0 : w5.cell? ⟨wr.heap.size, 0, none⟩ = some (.bool u.contract) := (ka3 hX5 0).trans rfl
        have t1 : w5.cell? ⟨wr.heap.size, 1, none⟩ = some (.string (str u.name)) := (ka3 hX5 1).trans rfl
        have t2 : w5.cell? ⟨wr.heap.size, 2, none⟩ = some (.slice B1 u.ins.length d1) := (ka3 hX5 2).trans rfl
        have t3 : w5.cell? ⟨wr.heap.size, 3, none⟩ = some (.string (str u.out.name)) := (ka3 hX5 3).trans rfl
        have t4 : w5.cell? ⟨wr.heap.size, 4, none⟩ = some (.int .i64 u.out.ty) := (ka3 hX5 4).trans rfl
        have t5 : w5.cell? ⟨wr.heap.size, 5, none⟩ = some (.slice B2 u.vars.length d2) := (ka3 hX5 5).trans rfl
        have t6 : w5.cell? ⟨wr.heap.size, 6, none⟩ = some (.slice B3 u.eqs.length d3) := (ka3 hX5 6).trans rfl
        have t7 : w5.cell? ⟨wr.heap.size, 7, none⟩ = some (.slice B4 u.items.length d4) := (ka3 hX5 7).trans rfl
        have HA := Lib.hid (HADD.out w5 HB45.out)
        clear hb5 hX5 hS5 hZ5
        go_wp2_with fail
        refine HA.out.mono ?_
        rintro r w6 ⟨rfl, hN6, hs6, hg6⟩
        have HN6 := Lib.hid hN6
        have HZ6 : Hid (w6.heap[w.heap.size + 1]? = some (.cells #[.int .i64 0, .int .i64 0] 45 (0, 0))) := Lib.hid ((hg6.block _ (by omega) (by simp)).trans HZ5.out)
        have HS6 : Hid (w6.heap[w.heap.size + 2 + 1]? = some (.cells #[.map none, .map (some (w.heap.size + 2))] 52 (0, 0))) := Lib.hid ((hg6.block _ (by omega) (by simp)).trans HS5.out)
        have HB6 : Hid (Below w.heap.size w w6) := Lib.hid (HB5.out.grown hg6 HB5.out.size (fun j hj => by cases hj; omega))
        clear hN6 hg6
        go_wp2
        refine ⟨⟨k + 1, addN g u, by omega, by go_num, HN6.out, HB6.out, HZ6.out, HS6.out, HN2'⟩, by simp [intOf]; omega⟩
      · have hzb : (z != 0) = true := by simpa using hz0
        have HRR : Hid ((z, (k : Int)) = R) := Lib.hid (by have h := HD.out; rw [if_pos hz0] at h; exact h)
        have p0 : w5.cell? ⟨w.heap.size + 1, 0, none⟩ = some (.int .i64 0) := (ka3 hZ5 0).trans rfl
        have p1 : w5.cell? ⟨w.heap.size + 1, 1, none⟩ = some (.int .i64 0) := (ka3 hZ5 1).trans rfl
        have f0 : w5.frozen? ⟨w.heap.size + 1, 0, none⟩ = false := Ex.free_at hZ5 0
        have f1 : w5.frozen? ⟨w.heap.size + 1, 1, none⟩ = false := Ex.free_at hZ5 1
        clear hb5 hX5 hS5 hZ5 hz0
        go_wp2
        have Z := Go.Proofs.YtlhcajhgbkgjbaaDoor.Rp.blk2 HZ5.out (.int .i64 z) (.int .i64 (k : Int))
        have z0 := (ka3 Z 0).trans (show _ = some (.int .i64 z) from rfl)
        have z1 := (ka3 Z 1).trans (show _ = some (.int .i64 (k : Int)) from rfl)
        clear p0 p1 f0 f1
        exact bodyPost_ret (v := .agg #[.int .i64 z, .int .i64 (k : Int)]) (by simp [results, Tryd.results11, go_sem, z0, z1]) rfl (HEND.out w5 z k HB5.out HRR.out _ rfl)
    · have hkl : k = us.length := by omega
      subst hkl
      have HRR : Hid (((0 : Int), (0 : Int)) = R) := Lib.hid (by rw [<- hm.out, List.drop_length]; rfl)
      have p0 : wr.cell? ⟨w.heap.size + 1, 0, none⟩ = some (.int .i64 0) := (ka3 hZ 0).trans rfl
      have p1 : wr.cell? ⟨w.heap.size + 1, 1, none⟩ = some (.int .i64 0) := (ka3 hZ 1).trans rfl
      have f0 : wr.frozen? ⟨w.heap.size + 1, 0, none⟩ = false := Ex.free_at hZ 0
      have f1 : wr.frozen? ⟨w.heap.size + 1, 1, none⟩ = false := Ex.free_at hZ 1
      clear hN hb hZ hX hm
      go_wp2
      have Z := Go.Proofs.YtlhcajhgbkgjbaaDoor.Rp.blk2 HZk.out (.int .i64 0) (.int .i64 0)
      have z0 := (ka3 Z 0).trans (show _ = some (.int .i64 0) from rfl)
      have z1 := (ka3 Z 1).trans (show _ = some (.int .i64 0) from rfl)
      clear p0 p1 f0 f1
      exact bodyPost_ret (v := .agg #[.int .i64 0, .int .i64 0]) (by simp [results, Tryd.results11, go_sem, z0, z1]) rfl (HEND.out wr 0 0 HBk.out HRR.out _ rfl)
end Go.Proofs.YtlhcajhgbkgjbaaDoor.Ty

/- Contracts of the document's reader of programs: whether an item begins. Conditions: a reader lies in memory. -/
namespace Go.Proofs.YtlhcajhgbkgjbaaDoor.Rp
open Go.ChangeShapes Go.WideShapes Go.ChangeAt Go.RowKit
open Ex
open Tr (str ka1 ka5 Bytes Nd)
open Pg
theorem kind_in {r : Rd} (h : kaZ r ≠ 0) : r.next < r.l.length := by
  unfold kaZ at h
  split at h
  · exact keq (by assumption)
  split at h
  · exact keq (by assumption)
  split at h
  · exact keq (by assumption)
  split at h
  · exact keq (by assumption)
  split at h
  · exact keq (by assumption)
  · exact absurd rfl h
theorem stick_in {α : Type} {sep : Bytes} {one : PM α} (h : kbI one) : ∀ (k : Nat) (acc : List α), kbI (inF sep one k acc)
  | 0, acc => kam []
  | k + 1, acc => fun r hr => by rw [kgp hr]; exact hr
theorem keN {α : Type} {sep : Bytes} {one : PM α} (h : kbI one) : kbI (inQ sep one) := (kag _).bind fun _ => (kbs _).bind fun b => kc7 (kam _) (stick_in h _ _)
theorem kgN (k : Int) : kbI (kbE k) := by
  unfold kbE
  refine kc7 ?_ (kc7 ?_ (kc7 ?_ ?_))
  · exact kbL.bind fun _ => (kag _).bind fun _ => kbt.bind fun _ => (kag _).bind fun _ => kam _
  · exact kbM.bind fun _ => (kag _).bind fun _ => kbt.bind fun _ => (kag _).bind fun _ => kbt.bind fun _ => (kag _).bind fun _ => kam _
  · exact kbM.bind fun _ => (keN kbt).bind fun _ => (kag _).bind fun _ => kam _
  · exact kbt.bind fun _ => (kag _).bind fun _ => kam _
theorem keg : kbI kf5 := fun r h => by
  unfold kf5
  split
  · exact h
  · exact ((kgN _).bind fun _ => kam _) r.adv h
theorem room_in {w : World} {b n : Nat} {r r1 : Rd} (h : RdIn w b r) (k : (kbu n r).2 = r1) : r1.code ≠ 0 -> r1.l = [] := by
  subst k
  unfold kbu
  simp only
  split
  · intro _; unfold Rd.fail; split <;> rfl
  · exact h.fine
theorem item_dead {r : Rd} (h : r.code ≠ 0 -> r.l = []) (hc : r.code ≠ 0) : (kf5 r).1 = none := by
  have : kaZ r = 0 := Classical.byContradiction fun hk => by
    have := kind_in hk; rw [h hc] at this; simp at this
  unfold kf5; rw [if_pos this]
set_option maxHeartbeats 4000000 in
theorem begins_any (b : Nat) (r : Rd) (w : World) (hr : RdIn w b r) : Calls Tryd.prog 66 #[.pointer (some ⟨b, 0, none⟩)] w (fun e w' => e = .returned (.bool (decide (kaZ r ≠ 0))) /\ Below w.heap.size w w') := by
  have HR := Lib.hid hr
  clear hr
  have HA : ∀ (s : Bytes) (S : ByteArray) (B : Bool), S = str s -> r.isB s = B -> ∀ w', Below w.heap.size w w' -> Calls Tryd.prog 25 #[.pointer (some ⟨b, 0, none⟩), .string S] w' (fun e w'' => e = .returned (.bool B) /\ Below w.heap.size w w'') := fun s S B hS hB w' hb =>
    (is_lit hS (HR.out.below hb) hB).mono fun e w'' h => ⟨h.1, hb.trans (h.2.mono hb.size)⟩
  have HAA := Lib.hid HA
  clear HA
  rcases Bool.eq_false_or_eq_true (r.isB kaP) with a1 | a1
  · have HT : Hid (decide (kaZ r ≠ 0) = true) := Lib.hid (by unfold kaZ; rw [a1]; rfl)
    rw [HT.out]
    have A1 := Lib.hid a1
    clear a1 HT
    go_enter Tryd.func66, Tryd.ntmps66
    go_wp2_with fail
    refine (HAA.out kaP _ true rfl A1.out _ (Below.refl _ _)).mono ?_
    rintro e w1 ⟨rfl, hb1⟩
    have HB1 := Lib.hid hb1
    clear hb1
    go_wp2
    go_ret
    exact ⟨rfl, HB1.out⟩
  rcases Bool.eq_false_or_eq_true (r.isB kat) with a2 | a2
  · have HT : Hid (decide (kaZ r ≠ 0) = true) := Lib.hid (by unfold kaZ; rw [a1, a2]; rfl)
    rw [HT.out]
    have A1 := Lib.hid a1
    have A2 := Lib.hid a2
    clear a1 a2 HT
    go_enter Tryd.func66, Tryd.ntmps66
    go_wp2_with fail
    refine (HAA.out kaP _ false rfl A1.out _ (Below.refl _ _)).mono ?_
    rintro e w1 ⟨rfl, hb1⟩
    have HB1 := Lib.hid hb1
    clear hb1
    go_wp2_with fail
    refine (HAA.out kat _ true rfl A2.out _ HB1.out).mono ?_
    rintro e w2 ⟨rfl, hb2⟩
    have HB2 := Lib.hid hb2
    clear hb2
    go_wp2
    go_ret
    exact ⟨rfl, HB2.out⟩
  rcases Bool.eq_false_or_eq_true (r.isB kc4) with a3 | a3
  · have HT : Hid (decide (kaZ r ≠ 0) = true) := Lib.hid (by unfold kaZ; rw [a1, a2, a3]; rfl)
    rw [HT.out]
    have A1 := Lib.hid a1
    have A2 := Lib.hid a2
    have A3 := Lib.hid a3
    clear a1 a2 a3 HT
    go_enter Tryd.func66, Tryd.ntmps66
    go_wp2_with fail
    refine (HAA.out kaP _ false rfl A1.out _ (Below.refl _ _)).mono ?_
    rintro e w1 ⟨rfl, hb1⟩
    have HB1 := Lib.hid hb1
    clear hb1
    go_wp2_with fail
    refine (HAA.out kat _ false rfl A2.out _ HB1.out).mono ?_
    rintro e w2 ⟨rfl, hb2⟩
    have HB2 := Lib.hid hb2
    clear hb2
    go_wp2_with fail
    refine (HAA.out kc4 _ true rfl A3.out _ HB2.out).mono ?_
    rintro e w3 ⟨rfl, hb3⟩
    have HB3 := Lib.hid hb3
    clear hb3
    go_wp2
    go_ret
    exact ⟨rfl, HB3.out⟩
  rcases Bool.eq_false_or_eq_true (r.isB kef) with a4 | a4
  · have HT : Hid (decide (kaZ r ≠ 0) = true) := Lib.hid (by unfold kaZ; rw [a1, a2, a3, a4]; rfl)
    rw [HT.out]
    have A1 := Lib.hid a1
    have A2 := Lib.hid a2
    have A3 := Lib.hid a3
    have A4 := Lib.hid a4
    clear a1 a2 a3 a4 HT
    go_enter Tryd.func66, Tryd.ntmps66
    go_wp2_with fail
    refine (HAA.out kaP _ false rfl A1.out _ (Below.refl _ _)).mono ?_
    rintro e w1 ⟨rfl, hb1⟩
    have HB1 := Lib.hid hb1
    clear hb1
    go_wp2_with fail
    refine (HAA.out kat _ false rfl A2.out _ HB1.out).mono ?_
    rintro e w2 ⟨rfl, hb2⟩
    have HB2 := Lib.hid hb2
    clear hb2
    go_wp2_with fail
    refine (HAA.out kc4 _ false rfl A3.out _ HB2.out).mono ?_
    rintro e w3 ⟨rfl, hb3⟩
    have HB3 := Lib.hid hb3
    clear hb3
    go_wp2_with fail
    refine (HAA.out kef _ true rfl A4.out _ HB3.out).mono ?_
    rintro e w4 ⟨rfl, hb4⟩
    have HB4 := Lib.hid hb4
    clear hb4
    go_wp2
    go_ret
    exact ⟨rfl, HB4.out⟩
  rcases Bool.eq_false_or_eq_true (r.isB kcr) with a5 | a5
  · have HT : Hid (decide (kaZ r ≠ 0) = true) := Lib.hid (by unfold kaZ; rw [a1, a2, a3, a4, a5]; rfl)
    rw [HT.out]
    have A1 := Lib.hid a1
    have A2 := Lib.hid a2
    have A3 := Lib.hid a3
    have A4 := Lib.hid a4
    have A5 := Lib.hid a5
    clear a1 a2 a3 a4 a5 HT
    go_enter Tryd.func66, Tryd.ntmps66
    go_wp2_with fail
    refine (HAA.out kaP _ false rfl A1.out _ (Below.refl _ _)).mono ?_
    rintro e w1 ⟨rfl, hb1⟩
    have HB1 := Lib.hid hb1
    clear hb1
    go_wp2_with fail
    refine (HAA.out kat _ false rfl A2.out _ HB1.out).mono ?_
    rintro e w2 ⟨rfl, hb2⟩
    have HB2 := Lib.hid hb2
    clear hb2
    go_wp2_with fail
    refine (HAA.out kc4 _ false rfl A3.out _ HB2.out).mono ?_
    rintro e w3 ⟨rfl, hb3⟩
    have HB3 := Lib.hid hb3
    clear hb3
    go_wp2_with fail
    refine (HAA.out kef _ false rfl A4.out _ HB3.out).mono ?_
    rintro e w4 ⟨rfl, hb4⟩
    have HB4 := Lib.hid hb4
    clear hb4
    go_wp2_with fail
    refine (HAA.out kcr _ true rfl A5.out _ HB4.out).mono ?_
    rintro e w5 ⟨rfl, hb5⟩
    have HB5 := Lib.hid hb5
    clear hb5
    go_wp2
    go_ret
    exact ⟨rfl, HB5.out⟩
  have HT : Hid (decide (kaZ r ≠ 0) = false) := Lib.hid (by unfold kaZ; rw [a1, a2, a3, a4, a5]; rfl)
  rw [HT.out]
  have A1 := Lib.hid a1
  have A2 := Lib.hid a2
  have A3 := Lib.hid a3
  have A4 := Lib.hid a4
  have A5 := Lib.hid a5
  clear a1 a2 a3 a4 a5 HT
  go_enter Tryd.func66, Tryd.ntmps66
  go_wp2_with fail
  refine (HAA.out kaP _ false rfl A1.out _ (Below.refl _ _)).mono ?_
  rintro e w1 ⟨rfl, hb1⟩
  have HB1 := Lib.hid hb1
  clear hb1
  go_wp2_with fail
  refine (HAA.out kat _ false rfl A2.out _ HB1.out).mono ?_
  rintro e w2 ⟨rfl, hb2⟩
  have HB2 := Lib.hid hb2
  clear hb2
  go_wp2_with fail
  refine (HAA.out kc4 _ false rfl A3.out _ HB2.out).mono ?_
  rintro e w3 ⟨rfl, hb3⟩
  have HB3 := Lib.hid hb3
  clear hb3
  go_wp2_with fail
  refine (HAA.out kef _ false rfl A4.out _ HB3.out).mono ?_
  rintro e w4 ⟨rfl, hb4⟩
  have HB4 := Lib.hid hb4
  clear hb4
  go_wp2_with fail
  refine (HAA.out kcr _ false rfl A5.out _ HB4.out).mono ?_
  rintro e w5 ⟨rfl, hb5⟩
  have HB5 := Lib.hid hb5
  clear hb5
  go_wp2
  go_ret
  exact ⟨rfl, HB5.out⟩
theorem begins_lit {b : Nat} {r : Rd} {w : World} {B : Bool} (hr : RdIn w b r) (h : decide (kaZ r ≠ 0) = B) : Calls Tryd.prog 66 #[.pointer (some ⟨b, 0, none⟩)] w (fun e w' => e = .returned (.bool B) /\ Below w.heap.size w w') := by
  subst h; exact begins_any b r w hr
end Go.Proofs.YtlhcajhgbkgjbaaDoor.Rp

/- Contracts of the document's reader of programs: what Parse tells. Conditions: a reader lies in memory. -/
namespace Go.Proofs.YtlhcajhgbkgjbaaDoor.Rp
open Go.ChangeShapes Go.WideShapes Go.ChangeAt Go.RowKit
open Ex
open Tr (str ka1 ka5 Bytes Nd)
open Pg
def ParG (w : World) (x : Prg × Int × Int) (e : Ending) (w' : World) : Prop := ∃ uv, e = .returned (.tuple #[.agg #[uv, .string (str x.1.main), .string (str x.1.back)], .agg #[.int .i64 x.2.1, .int .i64 x.2.2]]) /\ RowR 39 8 UntV w' x.1.units uv /\ Below w.heap.size w w'
theorem kdv (w : World) (o o' : Obj) : Below w.heap.size w ((w.alloc o).alloc o') /\ ((w.alloc o).alloc o').heap[w.heap.size]? = some o /\ ((w.alloc o).alloc o').heap[w.heap.size + 1]? = some o' :=
  ⟨((Below.refl _ _).alloc (Nat.le_refl _) _).alloc (by simp) _, by rw [Below.heap_alloc _ _ _ (by simp)]; exact heap_alloc_new w o, kbk (by simp)⟩
theorem laid5 {W : World} {X Y : Nat} {T U : TypeId} {u0 u1 u2 t0 t1 : Value} (hX : W.heap[X]? = some (.cells #[u0, u1, u2] T (0, 0))) (hY : W.heap[Y]? = some (.cells #[t0, t1] U (0, 0))) (hne : X ≠ Y) (v0 v1 v2 y0 y1 : Value) :
    (((((W.setCell ⟨X, 0, none⟩ v0).setCell ⟨X, 1, none⟩ v1).setCell ⟨X, 2, none⟩ v2).setCell ⟨Y, 0, none⟩ y0).setCell ⟨Y, 1, none⟩ y1).heap[X]? = some (.cells #[v0, v1, v2] T (0, 0)) /\
    (((((W.setCell ⟨X, 0, none⟩ v0).setCell ⟨X, 1, none⟩ v1).setCell ⟨X, 2, none⟩ v2).setCell ⟨Y, 0, none⟩ y0).setCell ⟨Y, 1, none⟩ y1).heap[Y]? = some (.cells #[y0, y1] U (0, 0)) :=
  ⟨ka9 (ka9 (blk3 hX v0 v1 v2) hne) hne, blk2 (ka9 (ka9 (ka9 hY hne.symm) hne.symm) hne.symm) y0 y1⟩
theorem toks_rp {w w' : World} {v : Value} {l : List Tok} {b : Nat} (h : Lx.Toks w v l) (hb : Below w.heap.size w w') (hwb : w.heap.size <= b) : TokOff w' b v l := by
  exact kj4 ((kdL h).keep hb.size (fun g _ hg => hb.block g hg)) hwb
theorem below_by {w wq w' : World} {b : Nat} {r : Rd} (h : Below w.heap.size w wq) (hb : w.heap.size <= b) (k : RdBy wq w' b r) : Below w.heap.size w w' :=
  ⟨k.grown.os.trans h.os, k.grown.tape.trans h.tape, k.grown.output.trans h.output, Nat.le_trans h.size k.grown.size, fun i hi => (k.grown.block i (Nat.lt_of_lt_of_le hi h.size) (fun e => by injection e; omega)).trans (h.block i hi)⟩
theorem stay5n {W : World} {X Y : Nat} {u0 u1 u2 t0 t1 : Value} (hX : W.heap[X]? = some (.cells #[u0, u1, u2] 43 (0, 0))) (hY : W.heap[Y]? = some (.cells #[t0, t1] 45 (0, 0))) (v0 v1 v2 y0 y1 : Value) :
    Stay (fun t => t = 43 ∨ t = 45) W (((((W.setCell ⟨X, 0, none⟩ v0).setCell ⟨X, 1, none⟩ v1).setCell ⟨X, 2, none⟩ v2).setCell ⟨Y, 0, none⟩ y0).setCell ⟨Y, 1, none⟩ y1) := by
  refine ⟨by simp [World.setCell], fun g cs T f hg hp => ?_⟩
  have h1 : g ≠ X := by
    rintro rfl
    rw [hX] at hg
    simp only [Option.some.injEq, Obj.cells.injEq] at hg
    exact hp (.inl hg.2.1.symm)
  have h2 : g ≠ Y := by
    rintro rfl
    rw [hY] at hg
    simp only [Option.some.injEq, Obj.cells.injEq] at hg
    exact hp (.inr hg.2.1.symm)
  simp only [kbJ h1, kbJ h2]
theorem below5n {w W : World} {X Y : Nat} (h : Below w.heap.size w W) (hX : w.heap.size <= X) (hY : w.heap.size <= Y) (v0 v1 v2 y0 y1 : Value) :
    Below w.heap.size w (((((W.setCell ⟨X, 0, none⟩ v0).setCell ⟨X, 1, none⟩ v1).setCell ⟨X, 2, none⟩ v2).setCell ⟨Y, 0, none⟩ y0).setCell ⟨Y, 1, none⟩ y1) :=
  ((((h.setCell hX _).setCell hX _).setCell hX _).setCell hY _).setCell hY _
theorem keM (k : Nat) : ∀ acc, kbI (itF k acc) := by
  induction k with
  | zero => intro acc; exact kam _
  | succ k ih => intro acc r h; show (((if kaZ r ≠ 0 then _ else _) : List Itm × Rd)).2.code ≠ 0; split; exact (kfx _).bind (fun _ => keg.bind fun x => ih _) r h; exact h
theorem stick_eqs (k : Nat) : ∀ acc, kbI (eqF k acc) := by
  induction k with
  | zero => intro acc; exact kam _
  | succ k ih => intro acc r h; show (((if kaN r then _ else _) : List Eqn × Rd)).2.code ≠ 0; split; exact (kfx _).bind (fun _ => stick_eqn.bind fun x => ih _) r h; exact h
theorem kjR : ∀ (k : Nat) (acc : List Prm), kbI (varF k acc)
  | 0, acc => kam []
  | k + 1, acc => fun r hr => by rw [kgF hr]; exact hr
theorem kfn : kbI ke9 := kbM.bind fun _ => (keN kbL).bind fun _ => ((keM _ _).bind fun _ => (kag _).bind fun _ => kam _).bind fun _ => kam _
theorem kjT : kbI nodeQ := (kag _).bind fun _ => kbM.bind fun _ => (keN kbL).bind fun _ => (kag _).bind fun _ => (kag _).bind fun _ => kbL.bind fun _ => (kag _).bind fun _ => (kbs _).bind fun c => (kc7 ((keM _ _).bind fun _ => (kag _).bind fun _ => kam _) (kam _)).bind fun _ => (kbs _).bind fun v => (kc7 (kjR _ _) (kam _)).bind fun _ => (kag _).bind fun _ => ((stick_eqs _ _).bind fun _ => (kag _).bind fun _ => kam _).bind fun _ => kam _
theorem kjS : kbI kgJ := (kbs _).bind fun c => kc7 kfn kjT
theorem khd {w w' : World} {row : Option Nat} (h : w.drew.grownBy w' row) : w.grownBy w' row := ⟨h.os, h.tape, h.output, h.size, h.block⟩
theorem RdBy.undrew {w w' : World} {b : Nat} {r : Rd} (h : RdBy w.drew w' b r) : RdBy w w' b r := ⟨h.rd, khd h.grown⟩
theorem kfB {w : World} {B : Nat} {T : TypeId} {K : Nat} {v : Value} {n : Nat} {xs : List Value} (h : w.ownsRow (B + 1) T K v n xs) : v.ownBlock ≠ some B := fun e => by have := (h.lt _ e).1; omega
end Go.Proofs.YtlhcajhgbkgjbaaDoor.Rp

/- Contracts of the document's reader of programs: a stream's name and type. Conditions: a reader lies in memory. -/
namespace Go.Proofs.YtlhcajhgbkgjbaaDoor.Rp
open Go.ChangeShapes Go.WideShapes Go.ChangeAt Go.RowKit
open Ex
open Tr (str ka1 ka5 Bytes Nd)
open Pg
set_option maxRecDepth 100000 in
set_option maxHeartbeats 4000000 in
theorem kce (b : Nat) (r : Rd) (w : World) (hr : RdIn w b r) : Calls Tryd.prog 41 #[.pointer (some ⟨b, 0, none⟩)] w (PrmG w b (kaI r)) := by
  have HR := Lib.hid hr
  have hlt := hr.lt
  obtain ⟨⟨n, r1⟩, h1⟩ : ∃ x, kbv r = x := ⟨_, rfl⟩
  obtain ⟨r2, h2⟩ : ∃ x, (kaj kj7 r1).2 = x := ⟨_, rfl⟩
  obtain ⟨⟨B, r3⟩, h3⟩ : ∃ x, kaw wBool r2 = x := ⟨_, rfl⟩
  obtain ⟨⟨C, r4⟩, h4⟩ : ∃ x, kaw wInt r3 = x := ⟨_, rfl⟩
  obtain ⟨X, hX⟩ : ∃ X, kaI r = X := ⟨_, rfl⟩
  have HE : Hid ((if B then ((⟨n, 1⟩ : Prm), r3) else if C then (⟨n, 2⟩, r4) else (⟨n, 0⟩, r4.fail 5)) = X) := Lib.hid (by
    rw [<- hX]; unfold kaI; unfold kas; rw [h1]; simp only; rw [h2, h3]; cases B
    · simp only [Bool.false_eq_true, if_false]; rw [h4]; cases C <;> rfl
    · rfl)
  have H1 := Lib.hid h1
  have H2 := Lib.hid h2
  have H3 := Lib.hid h3
  have H4 := Lib.hid h4
  rw [hX]
  clear h1 h2 h3 h4 hX hr
  have hX0 := Lib.hid (heap_alloc_new w (.cells #[.string ⟨#[]⟩, .int .i64 0] 35))
  go_enter Tryd.func41, Tryd.ntmps41
  go_wp2_with fail
  refine (kbV (HR.out.below (below_new w _)) H1.out).mono ?_
  rintro e w1 ⟨rfl, hg1⟩
  have HG1 := Lib.hid (RdBy.below (below_new w _) hlt hg1)
  have x1 := hg1.block hX0.out (by omega)
  have hs1 := hg1.grown.size
  simp at hs1
  have X1 := Lib.hid x1
  clear hg1 x1
  go_wp2_with fail
  refine (kae (s := kj7) rfl (HG1.out.rd.below (below_new w1 _)) H2.out).mono ?_
  rintro e w2 ⟨rfl, hg2⟩
  have HG2 := Lib.hid ((HG1.out.then_below (below_new w1 _)).trans hg2)
  have x2 := hg2.block (((below_new w1 _).block _ (lt_of_block X1.out)).trans X1.out) (by omega)
  have y2 := hg2.block (heap_alloc_new w1 _) (by omega)
  have X2 := Lib.hid x2
  have Y2 := Lib.hid y2
  clear hg2 x2 y2
  go_wp2_with fail
  refine (kad (s := wBool) rfl HG2.out.rd H3.out).mono ?_
  rintro e w3 ⟨rfl, hg3⟩
  have HG3 := Lib.hid (HG2.out.trans hg3)
  have x3 := hg3.block X2.out (by omega)
  have y3 := hg3.block Y2.out (by omega)
  have X3 := Lib.hid x3
  have Y3 := Lib.hid y3
  have lx3 := lt_of_block x3
  have ly3 := lt_of_block y3
  have p0 : w3.cell? ⟨w.heap.size, 0, none⟩ = some (.string ⟨#[]⟩) := (ka0 x3 0).trans rfl
  have p1 : w3.cell? ⟨w.heap.size, 1, none⟩ = some (.int .i64 0) := (ka0 x3 1).trans rfl
  have q0 : w3.cell? ⟨w1.heap.size, 0, none⟩ = some (.string (str n)) := (ka0 y3 0).trans rfl
  have q1 : w3.cell? ⟨w1.heap.size, 1, none⟩ = some (.int .i64 0) := (ka0 y3 1).trans rfl
  have g0 : w3.frozen? ⟨w.heap.size, 0, none⟩ = false := free_at x3 0
  have g1 : w3.frozen? ⟨w.heap.size, 1, none⟩ = false := free_at x3 1
  have k1 : w3.frozen? ⟨w1.heap.size, 1, none⟩ = false := free_at y3 1
  have hne : w.heap.size ≠ w1.heap.size := by omega
  clear hg3 x3 y3
  cases B with
  | true =>
    have HE1 : Hid (((⟨n, 1⟩ : Prm), r3) = X) := Lib.hid HE.out
    go_wp2
    have Z := blk2 (ka9 (k := 1) (v := .int .i64 1) X3.out hne) (.string (str n)) (.int .i64 1)
    have z0 := (ka0 Z 0).trans (show _ = some (.string (str n)) from rfl)
    have z1 := (ka0 Z 1).trans (show _ = some (.int .i64 1) from rfl)
    clear p0 p1 q0 q1 g0 g1 k1
    exact bodyPost_ret (v := .agg #[.string (str n), .int .i64 1]) (by simp [results, Tryd.results41, go_sem, z0, z1]) rfl (PrmG.of HE1.out (((HG3.out.setLocal (by omega) hlt _).setLocal (by omega) hlt _).setLocal (by omega) hlt _))
  | false =>
    go_wp2_with fail
    refine (kad (s := wInt) rfl HG3.out.rd H4.out).mono ?_
    rintro e w4 ⟨rfl, hg4⟩
    have HG4 := Lib.hid (HG3.out.trans hg4)
    have x4 := hg4.block X3.out (by omega)
    have y4 := hg4.block Y3.out (by omega)
    have X4 := Lib.hid x4
    have Y4 := Lib.hid y4
    have lx4 := lt_of_block x4
    have ly4 := lt_of_block y4
    clear p0 p1 q0 q1 g0 g1 k1
    cases C with
    | true =>
      have HE1 : Hid (((⟨n, 2⟩ : Prm), r4) = X) := Lib.hid HE.out
      have p0 : w4.cell? ⟨w.heap.size, 0, none⟩ = some (.string ⟨#[]⟩) := (ka0 x4 0).trans rfl
      have p1 : w4.cell? ⟨w.heap.size, 1, none⟩ = some (.int .i64 0) := (ka0 x4 1).trans rfl
      have q0 : w4.cell? ⟨w1.heap.size, 0, none⟩ = some (.string (str n)) := (ka0 y4 0).trans rfl
      have q1 : w4.cell? ⟨w1.heap.size, 1, none⟩ = some (.int .i64 0) := (ka0 y4 1).trans rfl
      have g0 : w4.frozen? ⟨w.heap.size, 0, none⟩ = false := free_at x4 0
      have g1 : w4.frozen? ⟨w.heap.size, 1, none⟩ = false := free_at x4 1
      have k1 : w4.frozen? ⟨w1.heap.size, 1, none⟩ = false := free_at y4 1
      clear hg4 x4 y4
      go_wp2
      have Z := blk2 (ka9 (k := 1) (v := .int .i64 2) X4.out hne) (.string (str n)) (.int .i64 2)
      have z0 := (ka0 Z 0).trans (show _ = some (.string (str n)) from rfl)
      have z1 := (ka0 Z 1).trans (show _ = some (.int .i64 2) from rfl)
      clear p0 p1 q0 q1 g0 g1 k1
      exact bodyPost_ret (v := .agg #[.string (str n), .int .i64 2]) (by simp [results, Tryd.results41, go_sem, z0, z1]) rfl (PrmG.of HE1.out (((HG4.out.setLocal (by omega) hlt _).setLocal (by omega) hlt _).setLocal (by omega) hlt _))
    | false =>
      have HE1 : Hid (((⟨n, 0⟩ : Prm), r4.fail 5) = X) := Lib.hid HE.out
      clear hg4 x4 y4
      go_wp2_with fail
      refine (keG b r4 5 (by decide) _ HG4.out.rd).mono ?_
      rintro e w5 ⟨rfl, hg5⟩
      have HG5 := Lib.hid (HG4.out.trans hg5)
      have x5 := hg5.block X4.out (by omega)
      have y5 := hg5.block Y4.out (by omega)
      have X5 := Lib.hid x5
      have p0 : w5.cell? ⟨w.heap.size, 0, none⟩ = some (.string ⟨#[]⟩) := (ka0 x5 0).trans rfl
      have p1 : w5.cell? ⟨w.heap.size, 1, none⟩ = some (.int .i64 0) := (ka0 x5 1).trans rfl
      have q0 : w5.cell? ⟨w1.heap.size, 0, none⟩ = some (.string (str n)) := (ka0 y5 0).trans rfl
      have q1 : w5.cell? ⟨w1.heap.size, 1, none⟩ = some (.int .i64 0) := (ka0 y5 1).trans rfl
      have g0 : w5.frozen? ⟨w.heap.size, 0, none⟩ = false := free_at x5 0
      have g1 : w5.frozen? ⟨w.heap.size, 1, none⟩ = false := free_at x5 1
      clear hg5 x5 y5
      go_wp2
      have Z := blk2 X5.out (.string (str n)) (.int .i64 0)
      have z0 := (ka0 Z 0).trans (show _ = some (.string (str n)) from rfl)
      have z1 := (ka0 Z 1).trans (show _ = some (.int .i64 0) from rfl)
      clear p0 p1 q0 q1 g0 g1
      exact bodyPost_ret (v := .agg #[.string (str n), .int .i64 0]) (by simp [results, Tryd.results41, go_sem, z0, z1]) rfl (PrmG.of HE1.out ((HG5.out.setLocal (by omega) hlt _).setLocal (by omega) hlt _))
end Go.Proofs.YtlhcajhgbkgjbaaDoor.Rp

/- Contracts of the document's reader of programs: inputs. Conditions: a reader lies in memory. -/
namespace Go.Proofs.YtlhcajhgbkgjbaaDoor.Rp
open Go.ChangeShapes Go.WideShapes Go.ChangeAt Go.RowKit
open Ex
open Tr (str ka1 ka5 Bytes Nd)
open Pg
theorem kgn : (Tryd.prog.info? 35).map (fun i => (i.zero, i.size, i.bytes)) = some (some (.agg #[.string ⟨#[]⟩, .int .i64 0]), 2, 24) := by kernel_rfl
set_option maxRecDepth 100000 in
set_option maxHeartbeats 8000000 in
theorem kcF (b : Nat) (r : Rd) (w : World) (hr : RdIn w b r) : Calls Tryd.prog 39 #[.pointer (some ⟨b, 0, none⟩)] w (RowG 35 2 PrmV w b (inQ kaK kaI r)) := by
  have HR := Lib.hid hr
  have hlt := hr.lt
  obtain ⟨i0, hi, hz0, hz1, hz2⟩ := info_parts kgn
  obtain ⟨r1, h1⟩ : ∃ x, (kaj [40] r).2 = x := ⟨_, rfl⟩
  obtain ⟨⟨B, r2⟩, h2⟩ : ∃ x, kaw [41] r1 = x := ⟨_, rfl⟩
  obtain ⟨X, hX⟩ : ∃ X, inQ kaK kaI r = X := ⟨_, rfl⟩
  have HX : Hid ((if B then ([], r2) else inF kaK kaI kaG [] r2) = X) := Lib.hid ((inQ_eq h1 h2).symm.trans hX)
  have H1 := Lib.hid h1
  have H2 := Lib.hid h2
  rw [hX]
  clear h1 h2 hX hr
  go_enter Tryd.func39, Tryd.ntmps39
  go_wp2_with fail
  refine (kae (s := [40]) rfl HR.out H1.out).mono ?_
  rintro e wa ⟨rfl, hga⟩
  have HGA := Lib.hid hga
  clear hga
  go_wp2_with fail
  refine (kad (s := [41]) rfl HGA.out.rd H2.out).mono ?_
  rintro e wb ⟨rfl, hgb⟩
  have HGB := Lib.hid (HGA.out.trans hgb)
  clear hgb
  cases B with
  | true =>
    have HE : Hid (([], r2) = X) := Lib.hid HX.out
    go_wp2
    go_ret
    exact RowG.of HE.out (RowR.nil _ _ _ _) HGB.out
  | false =>
  have HE0 : Hid (inF kaK kaI kaG [] r2 = X) := Lib.hid HX.out
  go_wp2
  go_loopg [3] kaG (fun g s3 wr => ∃ (rr : Rd) (ov : Value) (acc : List (Prm)) (xs : List (List Value)), ov = s3 /\ acc.length <= 201 /\ 1 <= g /\ (rr.code = 0 -> acc.length <= 200 /\ 202 <= acc.length + g) /\ OList 35 2 PrmV wr w.heap.size ov acc xs /\ RdBy w wr b rr /\ inF kaK kaI g acc rr = X)
  case atStart => exact ⟨r2, _, [], [], rfl, by simp, by simp [kaG], fun _ => by simp [kaG], OList.nil _ _, HGB.out, HE0.out⟩
  case round =>
    obtain ⟨rr, ov, acc, xs, hov, ha, hg1, hag, hol, hgr, hrow⟩ := hrel
    subst hov
    have HOL := Lib.hid hol
    have HGR := Lib.hid hgr
    have HROW := Lib.hid hrow
    obtain ⟨A0, c0, hv0, hn1, hn2⟩ := kbz hol.own
    subst hv0
    have hs0 := hgr.grown.size
    clear hol hgr hrow
    cases gk with
    | zero => omega
    | succ gk =>
    by_cases hc : rr.code = 0
    rotate_left
    · have HE : Hid (([], rr) = X) := Lib.hid ((kgp hc).symm.trans HROW.out)
      have HOK := Lib.hid (kcX (B := false) HGR.out.rd (by simpa using hc))
      clear hc
      go_wp2_with fail
      refine HOK.out.mono ?_
      rintro e w1 ⟨rfl, rfl⟩
      go_wp2
      go_ret
      exact RowG.of HE.out (RowR.nil _ _ _ _) HGR.out
    have hag' := hag hc
    have HOK := Lib.hid (kcX (B := true) HGR.out.rd (by rw [hc]; rfl))
    clear hag
    obtain ⟨r1, k1⟩ : ∃ x, (kbu acc.length rr).2 = x := ⟨_, rfl⟩
    have HK1 := Lib.hid (kdg (n := acc.length) (by omega) HGR.out.rd k1)
    obtain ⟨⟨a, r2⟩, k2⟩ : ∃ x, kaI r1 = x := ⟨_, rfl⟩
    have HO : Hid (∀ w', RdIn w' b r1 -> Calls Tryd.prog 41 #[.pointer (some ⟨b, 0, none⟩)] w' (PrmG w' b (a, r2))) := Lib.hid (fun w' h => by rw [<- k2]; exact kce b r1 w' h)
    obtain ⟨⟨B, r3⟩, k3⟩ : ∃ x, kaw [41] r2 = x := ⟨_, rfl⟩
    obtain ⟨r4, k4⟩ : ∃ x, (kaj kaK r3).2 = x := ⟨_, rfl⟩
    have HST : Hid (r4.code = 0 -> acc.length < 200) := Lib.hid (fun h => kbX k1 (Classical.byContradiction fun hn => by
      have s1 := kbL r1 hn
      rw [k2] at s1
      have s2 := kbs [41] r2 s1
      rw [k3] at s2
      have s3 := kag kaK r3 s2
      rw [k4] at s3
      exact s3 h))
    have HE : Hid ((if B then (acc ++ [a], r3) else inF kaK kaI gk (acc ++ [a]) r4) = X) := Lib.hid (by
      rw [<- HROW.out]
      cases B with
      | true => exact (inF_end hc k1 k2 k3).symm
      | false => exact (kjv hc k1 k2 k3 k4).symm)
    have K3 := Lib.hid k3
    have K4 := Lib.hid k4
    clear k1 k2 k3 k4 hc
    go_wp2_with fail
    refine HOK.out.mono ?_
    rintro e w0 ⟨rfl, rfl⟩
    go_wp2_with fail
    refine HK1.out.mono ?_
    rintro e w1 ⟨rfl, hg1⟩
    have HG1 := Lib.hid hg1
    have hs1 := hg1.grown.size
    have HOL1 := Lib.hid (HOL.out.stay (RdBy.stay HGR.out.rd hg1) (by decide) (fun a x hx => PrmV.stay (RdBy.stay HGR.out.rd hg1) a x hx))
    clear hg1
    go_wp2_with fail
    refine (HO.out w1 HG1.out.rd).mono ?_
    rintro e w2 ⟨rfl, hg2⟩
    have HG2 := Lib.hid hg2
    have hs2 := hg2.grown.size
    have HOL2 := Lib.hid (HOL1.out.stay (RdBy.stay HG1.out.rd hg2) (by decide) (fun a x hx => PrmV.stay (RdBy.stay HG1.out.rd hg2) a x hx))
    clear hg2
    have HXV : Hid (PrmV w2 a [.string (str a.name), .int .i64 a.ty]) := Lib.hid rfl
    go_wp2_with (at_builtin; refine wpList_append_own _ rfl (.tmp 14) (.tmp 17) 24 rfl w.heap.size 35 i0 _ 2 24 Tryd.underlying24 hi hz0 hz1 hz2 rfl (by decide) _ acc.length xs.flatten rfl (HOL2.out.own.alloc _) ⟨w2.heap.size, 0, none⟩ 1 1 [.string (str a.name), .int .i64 a.ty] rfl rfl ?a1 ?b1 ?c1 ?d1 ?e1 ?_)
    case a1 => first | exact (fun j u h => h) | exact kdW _ #[.string (str a.name), .int .i64 a.ty] _ [.string (str a.name), .int .i64 a.ty] rfl rfl
    case b1 => simp [Value.oneCell']
    case c1 => unfold maxLen; omega
    case d1 => omega
    case e1 => simp; omega
    intro v3 w3 hown3 hg3 _
    have HOL3 := Lib.hid (HOL2.out.snoc HXV.out rfl (below_new w2 _) hown3 hg3 (fun st => PrmV.stay st))
    have HGR3 := Lib.hid (RdBy.row ((HGR.out.trans HG1.out).trans HG2.out) hlt (below_new w2 _) hg3 (fun g hg => (HOL2.out.own.lt g hg).1))
    obtain ⟨A3, c3, hv3, y3, y4⟩ := kbz hown3
    subst hv3
    clear hown3 hg3
    go_wp2_with fail
    refine (kad (s := [41]) rfl HGR3.out.rd K3.out).mono ?_
    rintro e w4 ⟨rfl, hg4⟩
    have HGR4 := Lib.hid (HGR3.out.trans hg4)
    have HOL4 := Lib.hid (HOL3.out.stay (RdBy.stay HGR3.out.rd hg4) (by decide) (fun a x hx => PrmV.stay (RdBy.stay HGR3.out.rd hg4) a x hx))
    clear hg4
    cases B with
    | true =>
      have HE1 : Hid ((acc ++ [a], r3) = X) := Lib.hid HE.out
      go_wp2
      go_ret
      have hol := HOL4.out.row
      exact RowG.of HE1.out hol HGR4.out
    | false =>
      have HE1 : Hid (inF kaK kaI gk (acc ++ [a]) r4 = X) := Lib.hid HE.out
      go_wp2_with fail
      refine (kae (s := kaK) rfl HGR4.out.rd K4.out).mono ?_
      rintro e w5 ⟨rfl, hg5⟩
      have HGR5 := Lib.hid (HGR4.out.trans hg5)
      have HOL5 := Lib.hid (HOL4.out.stay (RdBy.stay HGR4.out.rd hg5) (by decide) (fun a x hx => PrmV.stay (RdBy.stay HGR4.out.rd hg5) a x hx))
      clear hg5
      go_wp2
      go_roundg gk
      case measure => omega
      case rel => exact ⟨r4, _, acc ++ [a], xs ++ [[.string (str a.name), .int .i64 a.ty]], rfl, by simp; omega, by omega, fun h => by have := HST.out h; simp; omega, HOL5.out, HGR5.out, HE1.out⟩
end Go.Proofs.YtlhcajhgbkgjbaaDoor.Rp

/- Contracts of the document's reader of programs: what an item is told as. Conditions: a reader lies in memory. -/
namespace Go.Proofs.YtlhcajhgbkgjbaaDoor.Rp
open Go.ChangeShapes Go.WideShapes Go.ChangeAt Go.RowKit
open Ex
open Tr (str ka1 ka5 Bytes Nd)
open Pg
def ItmO (w : World) (b : Nat) (x : Option Itm × Rd) (e : Ending) (w' : World) : Prop := ∃ (i : Itm) (ev fv av : Value), (∀ j, x.1 = some j -> j = i) /\ e = .returned (.tuple #[.agg #[.int .i64 i.kind, .string (str i.name), .int .i64 i.ty, ev, fv, av], .bool x.1.isSome]) /\ PtW w' (ev, ⟨i.e, 0, 0⟩) /\ PtW w' (fv, ⟨i.f, 0, 0⟩) /\ RowR 23 1 ExpV w' i.args av /\ RdBy w w' b x.2
theorem ItmO.none {w w' : World} {b : Nat} {r : Rd} {X : Option Itm × Rd} (hX : ((none : Option Itm), r) = X) (g : RdBy w w' b r) : ItmO w b X (.returned (.tuple #[.agg #[.int .i64 0, .string ⟨#[]⟩, .int .i64 0, .slice none 0 0, .slice none 0 0, .slice none 0 0], .bool false])) w' := by
  subst hX; exact ⟨⟨0, [], 0, [], [], []⟩, _, _, _, fun j h => by simp at h, rfl, PtW.nil _ _ rfl, PtW.nil _ _ rfl, RowR.nil _ _ _ _, g⟩
theorem ItmO.of {w w' : World} {b : Nat} {k t : Int} {n : Bytes} {e f : List Nd} {a : List (List Nd)} {ev fv av : Value} {r : Rd} {X : Option Itm × Rd} (hX : (some (⟨k, n, t, e, f, a⟩ : Itm), r) = X) (h1 : PtW w' (ev, ⟨e, 0, 0⟩)) (h2 : PtW w' (fv, ⟨f, 0, 0⟩)) (h3 : RowR 23 1 ExpV w' a av) (g : RdBy w w' b r) :
    ItmO w b X (.returned (.tuple #[.agg #[.int .i64 k, .string (str n), .int .i64 t, ev, fv, av], .bool true])) w' := by
  subst hX; exact ⟨⟨k, n, t, e, f, a⟩, ev, fv, av, fun j h => by simpa using h.symm, rfl, h1, h2, h3, g⟩
end Go.Proofs.YtlhcajhgbkgjbaaDoor.Rp

