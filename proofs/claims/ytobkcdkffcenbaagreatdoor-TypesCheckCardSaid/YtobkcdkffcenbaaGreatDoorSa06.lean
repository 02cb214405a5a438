/- Layer types: Of answers what the plain function answers. Conditions: the slices are read as an expression, streams and units; the table lies in memory. -/
import Derived.Test.YtobkcdkffcenbaaGreatDoorSa05
import Derived.Test.YtobkcdkffcenbaaGreatDoorSa02
import Derived.Shelf.SlMaps.Clone
import Derived.Lib.AppendZeros
set_option linter.unusedVariables false
set_option linter.unusedSimpArgs false
namespace Go.Proofs.YtobkcdkffcenbaaGreatDoor.Ty
open Go.ChangeShapes Go.WideShapes Go.ChangeAt Go.RowKit Go.Maps
open Go.Proofs.YtobkcdkffcenbaaGreatDoor.Tr
open Go.Proofs.YtobkcdkffcenbaaGreatDoor.Pg (Prm Unt)
open Go.Proofs.YtobkcdkffcenbaaGreatDoor.Ow (PrmN UntN RowN rown_at rown_form)
theorem strOf_next (l : List Prm) (k : Nat) (p : Prm) (h : l[k]? = some p) : strOf (l.take (k + 1)) = addF (strOf (l.take k)) p := by
  funext s
  unfold addF strOf
  rw [List.take_add_one, h, show (some p).toList = [p] from rfl, List.find?_append]
  cases hf : (l.take k).find? (fun p => p.name == s) with
  | some q => simp
  | none =>
    by_cases hs : s = p.name
    · subst hs; simp
    · have : (p.name == s) = false := by simpa using (fun h => hs h.symm)
      simp [hs, this]
theorem nodOf_next (l : List Unt) (k : Nat) (u : Unt) (h : l[k]? = some u) : nodOf (l.take (k + 1)) = addN (nodOf (l.take k)) u := by
  funext s
  unfold addN nodOf
  rw [List.take_add_one, h, show (some u).toList = [u] from rfl, List.find?_append]
  cases hf : (l.take k).find? (fun u => u.name == s && !u.contract) with
  | some q => simp
  | none =>
    by_cases hs : s = u.name
    · subst hs
      cases hc : u.contract <;> simp [hc]
    · have : (u.name == s) = false := by simpa using (fun h => hs h.symm)
      simp [hs, this]
set_option maxRecDepth 100000 in
set_option maxHeartbeats 8000000 in
theorem Of_any (v pv uv : Value) (e : List Nd) (l : List Prm) (us : List Unt) (w : World) (hT : ShAt w) (hv : Nodes w v e) (hs : Short e) (hp : RowN 2 PrmN w l pv) (hu : RowN 8 UntN w us uv) : Calls Tryz.prog 9 #[v, pv, uv] w (TwoPost w (tyM (envOf l us) e)) := by
  have hmm := @run_makeMap Tryz.prog
  have HV := Lib.hid hv
  have HP := Lib.hid hp
  have HU := Lib.hid hu
  have HT := Lib.hid hT
  obtain ⟨A, c, rfl, h1, h2, -⟩ := hv
  obtain ⟨Ap, cp, rfl, p1, p2, -⟩ := rown_form hp
  obtain ⟨Au, cu, rfl, u1, u2, -⟩ := rown_form hu
  unfold maxLen at h2 p2 u2
  have e1 : (w.alloc (.map #[] 0)).heap.size = w.heap.size + 1 := by simp
  have e2 : ((w.alloc (.map #[] 0)).alloc (.map #[] 0)).heap.size = w.heap.size + 2 := by simp
  obtain ⟨w3, hw3⟩ : ∃ W, ((w.alloc (.map #[] 0)).alloc (.map #[] 0)).alloc (.cells #[.map (some w.heap.size), .map (some (w.heap.size + 1))] 60) = W := ⟨_, rfl⟩
  have hb3 : Below w.heap.size w w3 := hw3 ▸ (((Below.refl _ _).alloc (Nat.le_refl _) _).alloc (by simp) _).alloc (by simp; omega) _
  have hX : w3.heap[w.heap.size + 2]? = some (.cells #[.map (some w.heap.size), .map (some (w.heap.size + 1))] 60 (0, 0)) := by
    have := heap_alloc_new ((w.alloc (.map #[] 0)).alloc (.map #[] 0)) (.cells #[.map (some w.heap.size), .map (some (w.heap.size + 1))] 60)
    rw [e2, hw3] at this; exact this
  have hS0 : StrAt w3 (.map (some w.heap.size)) 0 (strOf (l.take 0)) := ⟨w.heap.size, rfl, by rw [← hw3]; exact ((MapIs.made w).alloc _).alloc _⟩
  have hN0 : NodIn w w3 (w.heap.size + 1) 0 (nodOf (us.take 0)) := by
    have := NodIn.made (w0 := w) (w := w.alloc (.map #[] 0)) (below_new w _)
    rw [e1] at this
    rw [← hw3]
    exact this.below (below_new _ _)
  have HX := Lib.hid hX
  have HS0 := Lib.hid hS0
  have HN0 := Lib.hid hN0
  have HB3 := Lib.hid hb3
  have HW3 := Lib.hid hw3
  have hsz : w3.heap.size = w.heap.size + 3 := by rw [← hw3]; simp
  have HSZ := Lib.hid hsz
  obtain ⟨R, hR⟩ : ∃ R, tyM (envOf l us) e = R := ⟨_, rfl⟩
  have HR := Lib.hid hR
  rw [hR]
  clear hp hu hT hX hS0 hN0 hb3 hw3 hR
  go_enter Tryz.func9, Tryz.ntmps9
  go_wp2_with fail
  rw [HW3.out]
  clear e1 e2 hsz
  go_wp2
  go_loopw [18] (fun i wr => ∃ k : Nat, k ≤ l.length ∧ i = .int .i64 k ∧ StrAt wr (.map (some w.heap.size)) k (strOf (l.take k)) ∧ NodIn w wr (w.heap.size + 1) 0 (nodOf (us.take 0)) ∧ wr.heap[w.heap.size + 2]? = some (.cells #[.map (some w.heap.size), .map (some (w.heap.size + 1))] 60 (0, 0)) ∧ Below w.heap.size w wr) (fun i _ => l.length - (intOf i).toNat)
  case atStart => exact ⟨0, Nat.zero_le _, rfl, HS0.out, HN0.out, HX.out, HB3.out⟩
  case round =>
    obtain ⟨k, hk, rfl, hS, hN, hX, hb⟩ := hrel
    have HSr := Lib.hid hS
    have HNr := Lib.hid hN
    have HBr := Lib.hid hb
    have HXr := Lib.hid hX
    have lX := lt_of_block hX
    have x0 : wr.cell? ⟨w.heap.size + 2, 0, none⟩ = some (.map (some w.heap.size)) := (cells_at hX 0).trans rfl
    have x1 : wr.cell? ⟨w.heap.size + 2, 1, none⟩ = some (.map (some (w.heap.size + 1))) := (cells_at hX 1).trans rfl
    by_cases hlt : k < l.length
    · obtain ⟨p, hp⟩ : ∃ p, l[k]? = some p := ⟨_, List.getElem?_eq_getElem hlt⟩
      obtain ⟨g, o, c', x, hv', hg, hpx, hxl, hcell⟩ := rown_at HP.out hp
      simp only [Value.slice.injEq, true_and] at hv'
      obtain ⟨rfl, rfl⟩ := hv'
      obtain ⟨rfl, hpn⟩ := hpx
      have q0 : wr.cell? ⟨g, o + k * 2 + 0, none⟩ = some (.string (str p.name)) := (hb.cell (p := ⟨g, o + k * 2 + 0, none⟩) hg).trans (hcell 0 (by omega))
      rw [Nat.add_zero] at q0
      have q1 : wr.cell? ⟨g, o + k * 2 + 1, none⟩ = some (.int .i64 p.ty) := (hb.cell (p := ⟨g, o + k * 2 + 1, none⟩) hg).trans (hcell 1 (by omega))
      have hgr : g < wr.heap.size := by have := hb.size; omega
      obtain ⟨w4, hw4⟩ : ∃ W, wr.alloc (.cells #[.string (str p.name), .int .i64 p.ty] 45) = W := ⟨_, rfl⟩
      have hb4 : Below wr.heap.size wr w4 := hw4 ▸ below_new wr _
      have HC := Lib.hid (addS_any w.heap.size (.map (some (w.heap.size + 1))) k (strOf (l.take k)) p w4 (hS.below hb4) (by unfold maxLen; omega) hpn)
      have HNX := Lib.hid (strOf_next l k p hp)
      have HW4 := Lib.hid hw4
      have HB4 := Lib.hid hb4
      clear hp hcell hS hN hX hb hw4 hb4
      go_wp2_with fail
      rw [HW4.out]
      go_wp2_with fail
      refine HC.out.mono ?_
      rintro r w5 ⟨rfl, hS5, hs5, hg5⟩
      rw [← HNX.out] at hS5
      have HS5 := Lib.hid hS5
      have hw4s := HB4.out.size
      have HN5 : Hid (NodIn w w5 (w.heap.size + 1) 0 (nodOf (us.take 0))) := Lib.hid ((HNr.out.below HB4.out).grown hg5 (Nat.le_refl _) (by omega))
      have HX5 : Hid (w5.heap[w.heap.size + 2]? = some (.cells #[.map (some w.heap.size), .map (some (w.heap.size + 1))] 60 (0, 0))) := Lib.hid ((hg5.block _ (by omega) (by simp)).trans ((HB4.out.block _ lX).trans HXr.out))
      have HB5 : Hid (Below w.heap.size w w5) := Lib.hid ((HBr.out.trans (HB4.out.mono HBr.out.size)).grown hg5 (by have := HBr.out.size; omega) (fun j hj => by cases hj; exact Nat.le_refl _))
      clear hS5 hg5
      go_wp2
      refine ⟨⟨k + 1, by omega, by go_num, HS5.out, HN5.out, HX5.out, HB5.out⟩, by simp [intOf]; omega⟩
    · have hkl : k = l.length := by omega
      subst hkl
      have HSe : Hid (StrAt wr (.map (some w.heap.size)) l.length (strOf l)) := Lib.hid (by have := HSr.out; rw [List.take_length] at this; exact this)
      have hwr := hb.size
      clear hS hN hX hb HSr x0 x1
      go_wp2
      go_loopw [28] (fun i wq => ∃ k : Nat, k ≤ us.length ∧ i = .int .i64 k ∧ StrAt wq (.map (some w.heap.size)) l.length (strOf l) ∧ NodIn w wq (w.heap.size + 1) k (nodOf (us.take k)) ∧ wq.heap[w.heap.size + 2]? = some (.cells #[.map (some w.heap.size), .map (some (w.heap.size + 1))] 60 (0, 0)) ∧ Below w.heap.size w wq) (fun i _ => us.length - (intOf i).toNat)
      case atStart => exact ⟨0, Nat.zero_le _, rfl, HSe.out, HNr.out, HXr.out, HBr.out⟩
      case round =>
        obtain ⟨k, hk, rfl, hS, hN, hX, hb⟩ := hrel
        have HSq := Lib.hid hS
        have HNq := Lib.hid hN
        have HBq := Lib.hid hb
        have HXq := Lib.hid hX
        have lX := lt_of_block hX
        have x0 : wr.cell? ⟨w.heap.size + 2, 0, none⟩ = some (.map (some w.heap.size)) := (cells_at hX 0).trans rfl
        have x1 : wr.cell? ⟨w.heap.size + 2, 1, none⟩ = some (.map (some (w.heap.size + 1))) := (cells_at hX 1).trans rfl
        by_cases hlt : k < us.length
        · obtain ⟨u, hu⟩ : ∃ u, us[k]? = some u := ⟨_, List.getElem?_eq_getElem hlt⟩
          obtain ⟨g, o, c', x, hv', hg, hux, hxl, hcell⟩ := rown_at HU.out hu
          simp only [Value.slice.injEq, true_and] at hv'
          obtain ⟨rfl, rfl⟩ := hv'
          have HUX := Lib.hid hux
          obtain ⟨iv, vv, qv, lv, rfl, -⟩ := hux
          have q : ∀ j, j < 8 → wr.cell? ⟨g, o + k * 8 + j, none⟩ = _ := fun j hj => (hb.cell (p := ⟨g, o + k * 8 + j, none⟩) hg).trans (hcell j hj)
          have q0 : wr.cell? ⟨g, o + k * 8, none⟩ = some (.bool u.contract) := q 0 (by omega)
          have q1 : wr.cell? ⟨g, o + k * 8 + 1, none⟩ = some (.string (str u.name)) := q 1 (by omega)
          have q2 : wr.cell? ⟨g, o + k * 8 + 2, none⟩ = some iv := q 2 (by omega)
          have q3 : wr.cell? ⟨g, o + k * 8 + 3, none⟩ = some (.string (str u.out.name)) := q 3 (by omega)
          have q4 : wr.cell? ⟨g, o + k * 8 + 4, none⟩ = some (.int .i64 u.out.ty) := q 4 (by omega)
          have q5 : wr.cell? ⟨g, o + k * 8 + 5, none⟩ = some vv := q 5 (by omega)
          have q6 : wr.cell? ⟨g, o + k * 8 + 6, none⟩ = some qv := q 6 (by omega)
          have q7 : wr.cell? ⟨g, o + k * 8 + 7, none⟩ = some lv := q 7 (by omega)
          have hgr : g < wr.heap.size := by have := hb.size; omega
          obtain ⟨w4, hw4⟩ : ∃ W, wr.alloc (.cells #[.bool u.contract, .string (str u.name), iv, .string (str u.out.name), .int .i64 u.out.ty, vv, qv, lv] 49) = W := ⟨_, rfl⟩
          have hb4 : Below wr.heap.size wr w4 := hw4 ▸ below_new wr _
          have HC := Lib.hid (addU_any w (.map (some w.heap.size)) (w.heap.size + 1) k (nodOf (us.take k)) u _ w4 (hN.below hb4) HUX.out (by unfold maxLen; omega))
          have HNX := Lib.hid (nodOf_next us k u hu)
          have HW4 := Lib.hid hw4
          have HB4 := Lib.hid hb4
          obtain ⟨iv', vv', qv', lv', hxx, z1, z2, z3, z4, -⟩ := HUX.out
          simp only [List.cons.injEq, and_true, true_and] at hxx
          obtain ⟨rfl, rfl, rfl, rfl⟩ := hxx
          obtain ⟨B1, d1, rfl, -, -, -⟩ := rown_form z1
          obtain ⟨B2, d2, rfl, -, -, -⟩ := rown_form z2
          obtain ⟨B3, d3, rfl, -, -, -⟩ := rown_form z3
          obtain ⟨B4, d4, rfl, -, -, -⟩ := rown_form z4
          clear hu hcell hS hN hX hb hw4 hb4 q z1 z2 z3 z4
          go_wp2_with fail
          rw [HW4.out]
          go_wp2_with fail
          refine HC.out.mono ?_
          rintro r w5 ⟨rfl, hN5, hs5, hg5⟩
          rw [← HNX.out] at hN5
          have HN5 := Lib.hid hN5
          have hw4s := HB4.out.size
          have HS5 : Hid (StrAt w5 (.map (some w.heap.size)) l.length (strOf l)) := Lib.hid (by
            obtain ⟨b', hb', hm'⟩ := HSq.out.below HB4.out
            simp only [Value.map.injEq, Option.some.injEq] at hb'
            subst hb'
            exact ⟨_, rfl, hm'.grown hg5 (by simp)⟩)
          have HX5 : Hid (w5.heap[w.heap.size + 2]? = some (.cells #[.map (some w.heap.size), .map (some (w.heap.size + 1))] 60 (0, 0))) := Lib.hid ((hg5.block _ (by omega) (by simp)).trans ((HB4.out.block _ lX).trans HXq.out))
          have HB5 : Hid (Below w.heap.size w w5) := Lib.hid ((HBq.out.trans (HB4.out.mono HBq.out.size)).grown hg5 (by have := HBq.out.size; omega) (fun j hj => by cases hj; exact Nat.le_succ _))
          clear hN5 hg5
          go_wp2
          refine ⟨⟨k + 1, by omega, by go_num, HS5.out, HN5.out, HX5.out, HB5.out⟩, by simp [intOf]; omega⟩
        · have hkl : k = us.length := by omega
          subst hkl
          have HC := Lib.hid (of_any (.map (some w.heap.size)) (.map (some (w.heap.size + 1))) _ l.length us.length (envOf l us) e wr hS (.inr ⟨w, w.heap.size + 1, rfl, by rw [List.take_length] at hN; exact hN⟩) (HT.out.below hb HT.out.1) (HV.out.below hb (Nat.le_refl _)) hs)
          rw [HR.out] at HC
          clear hS hN hX hb
          go_wp2_with fail
          refine HC.out.mono ?_
          rintro r w5 ⟨rfl, hb5⟩
          have HB5 : Hid (Below w.heap.size w w5) := Lib.hid (HBq.out.trans (hb5.mono HBq.out.size))
          clear hb5
          go_wp2
          go_ret2
          exact ⟨rfl, HB5.out⟩
end Go.Proofs.YtobkcdkffcenbaaGreatDoor.Ty

/- Layer types: an expression that must be of a type; an equation; an item. Conditions: the maps and the table lie in memory. -/
namespace Go.Proofs.YtobkcdkffcenbaaGreatDoor.Ty
open Go.ChangeShapes Go.WideShapes Go.ChangeAt Go.RowKit
open Go.Proofs.YtobkcdkffcenbaaGreatDoor.Tr
open Go.Proofs.YtobkcdkffcenbaaGreatDoor.Pg (Prm Eqn Itm Unt)
open Go.Proofs.YtobkcdkffcenbaaGreatDoor.Ow (PrmN EqnN ItmN UntN RowN rown_at rown_form)
noncomputable def isM (E : Env) (e : List Nd) (t : Int) : Int := if (tyM E e).2 = 0 ∧ (tyM E e).1 ≠ t then 10 else (tyM E e).2
noncomputable def eqnM (E : Env) (q : Eqn) : Int := match E.str q.name with | none => 8 | some t => isM E q.e t
noncomputable def itemM (E : Env) (i : Itm) : Int :=
  if i.kind = 1 ∨ i.kind = 2 then isM E i.e 1 else if i.kind = 4 then (if isM E i.e 1 ≠ 0 then isM E i.e 1 else isM E i.f 1) else if i.kind = 3 then isM E i.e i.ty else 0
def ErrP (w : World) (x : Int) (e : Ending) (w' : World) : Prop := e = .returned (.int .i64 x) ∧ Below w.heap.size w w'
theorem err_p {w w' : World} {x y : Int} (h : x = y) (hb : Below w.heap.size w w') : ErrP w x (.returned (.int .i64 y)) w' := by subst h; exact ⟨rfl, hb⟩
set_option maxRecDepth 100000 in
set_option maxHeartbeats 4000000 in
theorem is_any (sv nv v : Value) (n1 n2 : Nat) (E : Env) (e : List Nd) (t : Int) (w : World) (hS : StrAt w sv n1 E.str) (hN : NodAt w nv n2 E.nod) (hT : ShAt w) (hv : Nodes w v e) (hs : Short e) :
    Calls Tryz.prog 63 #[.agg #[sv, nv], v, .int .i64 t] w (ErrP w (isM E e t)) := by
  have hb1 := below_new w (.cells #[sv, nv] 60)
  obtain ⟨w1, hw1⟩ : ∃ W, w.alloc (.cells #[sv, nv] 60) = W := ⟨_, rfl⟩
  rw [hw1] at hb1
  have hX : w1.heap[w.heap.size]? = some (.cells #[sv, nv] 60 (0, 0)) := hw1 ▸ heap_alloc_new w _
  have p0 : w1.cell? ⟨w.heap.size, 0, none⟩ = some sv := (cells_at hX 0).trans rfl
  have p1 : w1.cell? ⟨w.heap.size, 1, none⟩ = some nv := (cells_at hX 1).trans rfl
  have HC := Lib.hid (of_any sv nv v n1 n2 E e w1 (hS.below hb1) (hN.below hb1) (hT.below hb1 hT.1) (hv.below hb1 (Nat.le_refl _)) hs)
  have HE := Lib.hid (show isM E e t = if (tyM E e).2 = 0 ∧ (tyM E e).1 ≠ t then 10 else (tyM E e).2 from rfl)
  obtain ⟨⟨p, q⟩, hpq⟩ : ∃ y, tyM E e = y := ⟨_, rfl⟩
  rw [hpq] at HC HE
  simp only at HE
  obtain ⟨A, c, rfl, -⟩ := hv
  obtain ⟨R, hR⟩ : ∃ R, isM E e t = R := ⟨_, rfl⟩
  rw [hR] at HE ⊢
  have HB1 := Lib.hid hb1
  have HW1 := Lib.hid hw1
  clear hX hpq hR hS hN hT hb1 hw1
  by_cases hq : q = 0
  · subst hq
    by_cases hpt : p = t
    · have hb : (p != t) = false := by simp [hpt]
      have HR : Hid (R = 0) := Lib.hid (by rw [HE.out, if_neg (by simp [hpt])])
      clear hpt
      go_enter Tryz.func63, Tryz.ntmps63
      go_wp2_with fail
      rw [HW1.out]
      go_wp2_with fail
      refine HC.out.mono ?_
      rintro r w2 ⟨rfl, hb2⟩
      have HB2 : Hid (Below w.heap.size w w2) := Lib.hid (HB1.out.trans (hb2.mono HB1.out.size))
      clear hb2
      go_wp2
      go_ret
      exact err_p HR.out HB2.out
    · have hb : (p != t) = true := by simpa using hpt
      have HR : Hid (R = 10) := Lib.hid (by rw [HE.out, if_pos ⟨rfl, hpt⟩])
      clear hpt
      go_enter Tryz.func63, Tryz.ntmps63
      go_wp2_with fail
      rw [HW1.out]
      go_wp2_with fail
      refine HC.out.mono ?_
      rintro r w2 ⟨rfl, hb2⟩
      have HB2 : Hid (Below w.heap.size w w2) := Lib.hid (HB1.out.trans (hb2.mono HB1.out.size))
      clear hb2
      go_wp2
      go_ret
      exact err_p HR.out HB2.out
  · have hb : (q == 0) = false := by simpa using hq
    have HR : Hid (R = q) := Lib.hid (by rw [HE.out, if_neg (fun h => hq h.1)])
    clear hq
    go_enter Tryz.func63, Tryz.ntmps63
    go_wp2_with fail
    rw [HW1.out]
    go_wp2_with fail
    refine HC.out.mono ?_
    rintro r w2 ⟨rfl, hb2⟩
    have HB2 : Hid (Below w.heap.size w w2) := Lib.hid (HB1.out.trans (hb2.mono HB1.out.size))
    clear hb2
    go_wp2
    go_ret
    exact err_p HR.out HB2.out
set_option maxRecDepth 100000 in
set_option maxHeartbeats 4000000 in
theorem eqn_any (sv nv : Value) (n1 n2 : Nat) (E : Env) (q : Eqn) (x : List Value) (w : World) (hS : StrAt w sv n1 E.str) (hN : NodAt w nv n2 E.nod) (hT : ShAt w) (hx : EqnN w q x) :
    Calls Tryz.prog 46 #[.agg #[sv, nv], .agg x.toArray] w (ErrP w (eqnM E q)) := by
  obtain ⟨ev, rfl, hv, hn, hs⟩ := hx
  have N := news_two w (.cells #[sv, nv] 60) (.cells #[.string (str q.name), ev] 51)
  obtain ⟨w1, hw1⟩ : ∃ W, (w.alloc (.cells #[sv, nv] 60)).alloc (.cells #[.string (str q.name), ev] 51) = W := ⟨_, rfl⟩
  rw [hw1] at N
  have hb1 := N.1
  have l1 := lt_of_block N.2.1
  have l2 := lt_of_block N.2.2
  have p0 : w1.cell? ⟨w.heap.size, 0, none⟩ = some sv := (cells_at N.2.1 0).trans rfl
  have p1 : w1.cell? ⟨w.heap.size, 1, none⟩ = some nv := (cells_at N.2.1 1).trans rfl
  have p2 : w1.cell? ⟨w.heap.size + 1, 0, none⟩ = some (.string (str q.name)) := (cells_at N.2.2 0).trans rfl
  have HX1 := Lib.hid N.2.1
  have HX2 := Lib.hid N.2.2
  have HC := Lib.hid (stream_any sv nv n1 E.str q.name w1 (hS.below hb1) hn)
  have HI : Hid (∀ W t, Below w1.heap.size w1 W → Calls Tryz.prog 63 #[.agg #[sv, nv], ev, .int .i64 t] W (ErrP W (isM E q.e t))) := Lib.hid (fun W t h => by
    have hb : Below w.heap.size w W := hb1.trans (h.mono hb1.size)
    exact is_any sv nv ev n1 n2 E q.e t W (hS.below hb) (hN.below hb) (hT.below hb hT.1) (hv.below hb (Nat.le_refl _)) hs)
  have HE := Lib.hid (show eqnM E q = match E.str q.name with | none => 8 | some t => isM E q.e t from rfl)
  obtain ⟨R, hR⟩ : ∃ R, eqnM E q = R := ⟨_, rfl⟩
  rw [hR] at HE ⊢
  obtain ⟨A, c, rfl, -⟩ := hv
  have HB1 := Lib.hid hb1
  have HW1 := Lib.hid hw1
  cases hf : E.str q.name with
  | none =>
    rw [hf] at HC HE
    clear hf hR N hb1 hw1 hS hN hT
    go_enter Tryz.func46, Tryz.ntmps46
    go_wp2_with fail
    rw [HW1.out]
    go_wp2_with fail
    refine HC.out.mono ?_
    rintro r w2 ⟨rfl, hb2⟩
    have HB2 : Hid (Below w.heap.size w w2) := Lib.hid (HB1.out.trans (hb2.mono HB1.out.size))
    clear hb2
    simp only [strR]
    go_wp2
    go_ret
    exact err_p HE.out HB2.out
  | some t =>
    rw [hf] at HC HE
    clear hf hR N hb1 hw1 hS hN hT
    go_enter Tryz.func46, Tryz.ntmps46
    go_wp2_with fail
    rw [HW1.out]
    go_wp2_with fail
    refine HC.out.mono ?_
    rintro r w2 ⟨rfl, hb2⟩
    have HB2 : Hid (Below w1.heap.size w1 w2) := Lib.hid hb2
    have h1 := (hb2.block _ l1).trans HX1.out
    have h2 := (hb2.block _ l2).trans HX2.out
    have q0 : w2.cell? ⟨w.heap.size, 0, none⟩ = some sv := (cells_at h1 0).trans rfl
    have q1 : w2.cell? ⟨w.heap.size, 1, none⟩ = some nv := (cells_at h1 1).trans rfl
    have q3 : w2.cell? ⟨w.heap.size + 1, 1, none⟩ = some (.slice A q.e.length c) := (cells_at h2 1).trans rfl
    have HI2 := Lib.hid (HI.out w2 t hb2)
    clear hb2 h1 h2
    simp only [strR]
    go_wp2_with fail
    refine HI2.out.mono ?_
    rintro r w3 ⟨rfl, hb3⟩
    have HB3 : Hid (Below w.heap.size w w3) := Lib.hid (HB1.out.trans ((HB2.out.trans (hb3.mono HB2.out.size)).mono HB1.out.size))
    clear hb3
    go_wp2
    go_ret
    exact err_p HE.out HB3.out
end Go.Proofs.YtobkcdkffcenbaaGreatDoor.Ty

/- Layer types: an item. Conditions: the map of streams and the table lie in memory. -/
namespace Go.Proofs.YtobkcdkffcenbaaGreatDoor.Ty
open Go.ChangeShapes Go.WideShapes Go.ChangeAt Go.RowKit
open Go.Proofs.YtobkcdkffcenbaaGreatDoor.Tr
open Go.Proofs.YtobkcdkffcenbaaGreatDoor.Pg (Prm Eqn Itm Unt)
open Go.Proofs.YtobkcdkffcenbaaGreatDoor.Ow (PrmN EqnN ItmN UntN RowN rown_at rown_form)
def nextF (f : Bytes → Option Int) (i : Itm) : Bytes → Option Int := if i.kind = 3 then addF f ⟨i.name, i.ty⟩ else f
abbrev noN : Bytes → Option (List Int × Int) := fun _ => none
def ItemPost (w : World) (b n : Nat) (f : Bytes → Option Int) (i : Itm) (x : Int) (e : Ending) (w' : World) : Prop :=
  e = .returned (.int .i64 x) ∧ StrAt w' (.map (some b)) (n + 1) (nextF f i) ∧ w.heap.size ≤ w'.heap.size ∧ w.grownBy w' (some b)
theorem grown_of {w w' : World} (b : Nat) (h : Below w.heap.size w w') : w.grownBy w' (some b) := ⟨h.os, h.tape, h.output, h.size, fun i hi _ => h.block i hi⟩
theorem StrAt.mono {w : World} {v : Value} {n m : Nat} {f : Bytes → Option Int} (h : StrAt w v n f) (hn : n ≤ m) : StrAt w v m f := by
  obtain ⟨b, h1, h2⟩ := h; exact ⟨b, h1, h2.mono hn⟩
theorem item_end {w w' : World} {b n : Nat} {f : Bytes → Option Int} {i : Itm} {x y : Int} (hS : StrAt w (.map (some b)) n f) (h : x = y) (hk : i.kind ≠ 3) (hb : Below w.heap.size w w') : ItemPost w b n f i x (.returned (.int .i64 y)) w' := by
  subst h
  exact ⟨rfl, by unfold nextF; rw [if_neg hk]; exact (hS.below hb).mono (Nat.le_succ _), hb.size, grown_of b hb⟩
set_option maxRecDepth 100000 in
set_option maxHeartbeats 8000000 in
theorem item_any (b n : Nat) (f : Bytes → Option Int) (i : Itm) (x : List Value) (w : World) (hS : StrAt w (.map (some b)) n f) (hT : ShAt w) (hx : ItmN w i x) (hn : n < maxLen) :
    Calls Tryz.prog 45 #[.agg #[.map (some b), .map none], .agg x.toArray] w (ItemPost w b n f i (itemM ⟨f, noN⟩ i)) := by
  obtain ⟨ev, fv, A, na, c, rfl, hev, hfv, hnm, hse, hsf⟩ := hx
  have N := news_two w (.cells #[.map (some b), .map none] 60) (.cells #[.int .i64 i.kind, .string (str i.name), .int .i64 i.ty, ev, fv, .slice A na c] 53)
  obtain ⟨w1, hw1⟩ : ∃ W, (w.alloc (.cells #[.map (some b), .map none] 60)).alloc (.cells #[.int .i64 i.kind, .string (str i.name), .int .i64 i.ty, ev, fv, .slice A na c] 53) = W := ⟨_, rfl⟩
  rw [hw1] at N
  have hb1 := N.1
  have l1 := lt_of_block N.2.1
  have l2 := lt_of_block N.2.2
  have HX : Hid (∀ W, Below w1.heap.size w1 W → (W.cell? ⟨w.heap.size, 0, none⟩ = some (.map (some b)) ∧ W.cell? ⟨w.heap.size, 1, none⟩ = some (.map none)) ∧ W.cell? ⟨w.heap.size + 1, 0, none⟩ = some (.int .i64 i.kind) ∧ W.cell? ⟨w.heap.size + 1, 1, none⟩ = some (.string (str i.name)) ∧ W.cell? ⟨w.heap.size + 1, 2, none⟩ = some (.int .i64 i.ty) ∧ W.cell? ⟨w.heap.size + 1, 3, none⟩ = some ev ∧ W.cell? ⟨w.heap.size + 1, 4, none⟩ = some fv) := Lib.hid (fun W h => by
    have h1 := (h.block _ l1).trans N.2.1
    have h2 := (h.block _ l2).trans N.2.2
    exact ⟨⟨(cells_at h1 0).trans rfl, (cells_at h1 1).trans rfl⟩, (cells_at h2 0).trans rfl, (cells_at h2 1).trans rfl, (cells_at h2 2).trans rfl, (cells_at h2 3).trans rfl, (cells_at h2 4).trans rfl⟩)
  have HBW : Hid (∀ W, Below w1.heap.size w1 W → Below w.heap.size w W) := Lib.hid (fun W h => hb1.trans (h.mono hb1.size))
  have HI : Hid (∀ W t, Below w1.heap.size w1 W → Calls Tryz.prog 63 #[.agg #[.map (some b), .map none], ev, .int .i64 t] W (ErrP W (isM ⟨f, noN⟩ i.e t))) := Lib.hid (fun W t h => by
    have hb := HBW.out W h
    exact is_any _ _ ev n 0 ⟨f, noN⟩ i.e t W (hS.below hb) (.inl ⟨rfl, fun _ => rfl⟩) (hT.below hb hT.1) (hev.below hb (Nat.le_refl _)) hse)
  have HJ : Hid (∀ W t, Below w1.heap.size w1 W → Calls Tryz.prog 63 #[.agg #[.map (some b), .map none], fv, .int .i64 t] W (ErrP W (isM ⟨f, noN⟩ i.f t))) := Lib.hid (fun W t h => by
    have hb := HBW.out W h
    exact is_any _ _ fv n 0 ⟨f, noN⟩ i.f t W (hS.below hb) (.inl ⟨rfl, fun _ => rfl⟩) (hT.below hb hT.1) (hfv.below hb (Nat.le_refl _)) hsf)
  have HE := Lib.hid (show itemM ⟨f, noN⟩ i = if i.kind = 1 ∨ i.kind = 2 then isM ⟨f, noN⟩ i.e 1 else if i.kind = 4 then (if isM ⟨f, noN⟩ i.e 1 ≠ 0 then isM ⟨f, noN⟩ i.e 1 else isM ⟨f, noN⟩ i.f 1) else if i.kind = 3 then isM ⟨f, noN⟩ i.e i.ty else 0 from rfl)
  obtain ⟨R, hR⟩ : ∃ R, itemM ⟨f, noN⟩ i = R := ⟨_, rfl⟩
  rw [hR] at HE ⊢
  obtain ⟨Ae, ce, rfl, -⟩ := hev
  obtain ⟨Af, cf, rfl, -⟩ := hfv
  have HB1 := Lib.hid hb1
  have HW1 := Lib.hid hw1
  have HS := Lib.hid hS
  obtain ⟨⟨q0, q1⟩, q2, q3, q4, q5, q6⟩ := HX.out w1 (Below.refl _ _)
  have lb : b < w.heap.size := by
    obtain ⟨b', hb', hm⟩ := hS
    simp only [Value.map.injEq, Option.some.injEq] at hb'
    subst hb'
    exact hm.lt
  clear hR N hb1 hw1 hS hT
  obtain ⟨kd, nm, ty, e, ff, args⟩ := i
  simp only at HX HI HJ HE hnm hse hsf q2 q3 q4 q5 q6
  by_cases h12 : kd = 1 ∨ kd = 2
  · have HR : Hid (R = isM ⟨f, noN⟩ e 1) := Lib.hid (by rw [HE.out, if_pos h12])
    have HC := Lib.hid (HI.out w1 1 (Below.refl _ _))
    obtain ⟨z, hz⟩ : ∃ z, isM ⟨f, noN⟩ e 1 = z := ⟨_, rfl⟩
    rw [hz] at HC HR
    have hk3 : kd ≠ 3 := by rcases h12 with h | h <;> omega
    have HK := Lib.hid hk3
    clear hz hk3 HE HJ HI
    rcases h12 with rfl | rfl
    all_goals
      go_enter Tryz.func45, Tryz.ntmps45
      go_wp2_with fail
      rw [HW1.out]
      go_wp2_with fail
      refine HC.out.mono ?_
      rintro r w2 ⟨rfl, hb2⟩
      have HB2 : Hid (Below w.heap.size w w2) := Lib.hid (HB1.out.trans (hb2.mono HB1.out.size))
      clear hb2
      go_wp2
      go_ret
      exact item_end HS.out HR.out HK.out HB2.out
  have h1 : kd ≠ 1 := fun h => h12 (.inl h)
  have h2 : kd ≠ 2 := fun h => h12 (.inr h)
  by_cases h4 : kd = 4
  · subst h4
    have HC := Lib.hid (HI.out w1 1 (Below.refl _ _))
    have HR : Hid (R = if isM ⟨f, noN⟩ e 1 ≠ 0 then isM ⟨f, noN⟩ e 1 else isM ⟨f, noN⟩ ff 1) := Lib.hid (by rw [HE.out, if_neg h12, if_pos rfl])
    have HJ1 : Hid (∀ W, Below w1.heap.size w1 W → Calls Tryz.prog 63 #[.agg #[.map (some b), .map none], .slice Af ff.length cf, .int .i64 1] W (ErrP W (isM ⟨f, noN⟩ ff 1))) := Lib.hid (fun W h => HJ.out W 1 h)
    obtain ⟨z, hz⟩ : ∃ z, isM ⟨f, noN⟩ e 1 = z := ⟨_, rfl⟩
    obtain ⟨z', hz'⟩ : ∃ z, isM ⟨f, noN⟩ ff 1 = z := ⟨_, rfl⟩
    rw [hz] at HC HR
    rw [hz'] at HR HJ1
    clear hz hz' HE HJ HI h12 h1 h2
    by_cases hz0 : z = 0
    · subst hz0
      have HR2 : Hid (R = z') := Lib.hid (by rw [HR.out, if_neg (by simp)])
      go_enter Tryz.func45, Tryz.ntmps45
      go_wp2_with fail
      rw [HW1.out]
      go_wp2_with fail
      refine HC.out.mono ?_
      rintro r w2 ⟨rfl, hb2⟩
      have HB2 := Lib.hid hb2
      obtain ⟨⟨r0, r1⟩, r2, r3, r4, r5, r6⟩ := HX.out w2 hb2
      have HJ2 := Lib.hid (HJ1.out w2 hb2)
      clear hb2
      go_wp2_with fail
      refine HJ2.out.mono ?_
      rintro r w3 ⟨rfl, hb3⟩
      have HB3 : Hid (Below w.heap.size w w3) := Lib.hid (HB1.out.trans ((HB2.out.trans (hb3.mono HB2.out.size)).mono HB1.out.size))
      clear hb3
      go_wp2
      go_ret
      exact item_end HS.out HR2.out (show (4 : Int) ≠ 3 by decide) HB3.out
    · have hzb : (z != 0) = true := by simpa using hz0
      have HR2 : Hid (R = z) := Lib.hid (by rw [HR.out, if_pos hz0])
      clear hz0
      go_enter Tryz.func45, Tryz.ntmps45
      go_wp2_with fail
      rw [HW1.out]
      go_wp2_with fail
      refine HC.out.mono ?_
      rintro r w2 ⟨rfl, hb2⟩
      have HB2 : Hid (Below w.heap.size w w2) := Lib.hid (HB1.out.trans (hb2.mono HB1.out.size))
      clear hb2
      go_wp2
      go_ret
      exact item_end HS.out HR2.out (show (4 : Int) ≠ 3 by decide) HB2.out
  by_cases h3 : kd = 3
  · subst h3
    have HC := Lib.hid (HI.out w1 ty (Below.refl _ _))
    have HR : Hid (R = isM ⟨f, noN⟩ e ty) := Lib.hid (by rw [HE.out, if_neg h12, if_neg h4, if_pos rfl])
    obtain ⟨z, hz⟩ : ∃ z, isM ⟨f, noN⟩ e ty = z := ⟨_, rfl⟩
    rw [hz] at HC HR
    clear hz HE HJ HI h12 h1 h2 h4
    have HA : Hid (∀ W, Below w1.heap.size w1 W → Calls Tryz.prog 21 #[.agg #[.map (some b), .map none], .agg #[.string (str nm), .int .i64 ty]] W (AddPost W b n f ⟨nm, ty⟩)) := Lib.hid (fun W h => addS_any b (.map none) n f ⟨nm, ty⟩ W (HS.out.below (HBW.out W h)) hn hnm)
    go_enter Tryz.func45, Tryz.ntmps45
    go_wp2_with fail
    rw [HW1.out]
    go_wp2_with fail
    refine HC.out.mono ?_
    rintro r w2 ⟨rfl, hb2⟩
    have HB2 := Lib.hid hb2
    obtain ⟨⟨r0, r1⟩, r2, r3, r4, r5, r6⟩ := HX.out w2 hb2
    have HA2 := Lib.hid (HA.out w2 hb2)
    clear hb2
    go_wp2_with fail
    refine HA2.out.mono ?_
    rintro r w3 ⟨rfl, hS3, hs3, hg3⟩
    have HS3 := Lib.hid hS3
    have HG3 := Lib.hid hg3
    have HB2w : Hid (Below w.heap.size w w2) := Lib.hid (HBW.out w2 HB2.out)
    clear hS3 hg3
    go_wp2
    go_ret
    rw [HR.out]
    exact ⟨rfl, HS3.out, by have := HB2w.out.size; omega, ⟨HG3.out.os.trans HB2w.out.os, HG3.out.tape.trans HB2w.out.tape, HG3.out.output.trans HB2w.out.output, by have := HB2w.out.size; omega, fun j hj hne => (HG3.out.block j (by have := HB2w.out.size; omega) hne).trans (HB2w.out.block j hj)⟩⟩
  · have HR : Hid (R = 0) := Lib.hid (by rw [HE.out, if_neg h12, if_neg h4, if_neg h3])
    have b1 : (kd == 1) = false := by simpa using h1
    have b2 : (kd == 2) = false := by simpa using h2
    have b3 : (kd == 3) = false := by simpa using h3
    have b4 : (kd == 4) = false := by simpa using h4
    have HK := Lib.hid h3
    clear HE HJ HI h12 h1 h2 h4 h3
    go_enter Tryz.func45, Tryz.ntmps45
    go_wp2_with fail
    rw [HW1.out]
    go_wp2
    go_ret
    exact item_end HS.out HR.out HK.out HB1.out
end Go.Proofs.YtobkcdkffcenbaaGreatDoor.Ty

/- Layer types: a map that is copied; room for a row. Conditions: the map lies in memory. -/
namespace Go.Proofs.YtobkcdkffcenbaaGreatDoor.Ty
open Go.ChangeShapes Go.WideShapes Go.ChangeAt Go.RowKit
open Go.Proofs.YtobkcdkffcenbaaGreatDoor.Tr (str Bytes below_new)
theorem MapIs.copy {w : World} {b n : Nat} {f : Bytes → Option Value} (h : MapIs w b n f) : ∃ es clock, w.heap[b]? = some (.map es clock) ∧ MapIs (w.alloc (.map es clock)) w.heap.size n f := by
  obtain ⟨D, ⟨es, clock, h1, h2⟩, h3⟩ := h
  exact ⟨es, clock, h1, D, ⟨es, clock, heap_alloc_new w _, h2⟩, h3⟩
set_option maxRecDepth 100000 in
set_option maxHeartbeats 2000000 in
theorem clone_any (b n : Nat) (f : Bytes → Option Value) (w : World) (hm : MapIs w b n f) :
    Calls Tryz.prog 44 #[.map (some b)] w fun e w' => e = .returned (.map (some w.heap.size)) ∧ MapIs w' w.heap.size n f ∧ Below w.heap.size w w' := by
  obtain ⟨es, clock, hb, hm2⟩ := hm.copy
  have hq := fun w => run_eql_map_nil_sl (P := Tryz.prog) w 58 _ _ (some b) Tryz.underlying58
  have HM2 := Lib.hid hm2
  clear hm hm2
  go_enter Tryz.func44, Tryz.ntmps44
  go_wp2
  rw [run_callFunc_extern Tryz.func62 (by kernel_rfl) (by kernel_rfl) (by kernel_rfl) (e := Extern.MapsClone.clone) (by kernel_rfl), run_maps_clone_sl w 58 hb]
  simp only [Result.andThen]
  rw [Oper.upon_value]
  go_wp2
  rw [run_typeAssert_map_sl _ 58 _ _ _ _ Tryz.underlying58]
  simp only [Result.andThen]
  rw [Oper.upon_value]
  go_wp2
  go_ret
  exact ⟨rfl, HM2.out, below_new w _⟩
def prmsOf (l : List Pg.Prm) : List Value := l.flatMap fun p => [.string (str p.name), .int .i64 p.ty]
theorem infoPrm : (Tryz.prog.info? 45).map (fun i => (i.zero, i.size, i.bytes)) = some (some (.agg #[.string ⟨#[]⟩, .int .i64 0]), 2, 24) := by kernel_rfl
theorem zeros_len (z : Value) (n : Nat) : (Builtin.zeroCells z.cells n).size = n * z.cells.size := by
  unfold Builtin.zeroCells
  simp
set_option maxRecDepth 100000 in
set_option maxHeartbeats 2000000 in
theorem grow_nil (n : Nat) (w : World) (h0 : 0 < n) (hn : n ≤ 1000000) : Calls Tryz.prog 85 #[.slice none 0 0, .int .i64 (n : Int)] w fun e w' =>
    ∃ c, e = .returned (.slice (some ⟨w.heap.size, 0, none⟩) 0 c) ∧ w'.ownsRow w.heap.size 45 2 (.slice (some ⟨w.heap.size, 0, none⟩) 0 c) 0 [] ∧ Below w.heap.size w w' := by
  obtain ⟨i0, hi, hz0, hz1, hz2⟩ := info_parts infoPrm
  have hrun := Lib.run_append_nil_zeros (P := Tryz.prog) w 33 3 33 45 i0 _ .i64 .i64 Tryz.underlying33 Tryz.underlying3 hi hz0 n h0 (by rw [hz1]; omega) (by omega) (by rw [hz2]; omega)
  have hge := grownCap_ge w n 0 45
  have hle := grownCap_le_maxLen w n 0 45 (by unfold maxLen; omega)
  obtain ⟨cap, hcap⟩ : ∃ c, grownCap w n 0 45 = c := ⟨_, rfl⟩
  rw [hcap] at hrun hge hle
  have HO : Hid ((w.drew.alloc (.cells (Builtin.zeroCells (Value.agg #[.string ⟨#[]⟩, .int .i64 0]).cells n ++ Builtin.zeroCells (Value.agg #[.string ⟨#[]⟩, .int .i64 0]).cells (cap - n)) 45)).ownsRow w.heap.size 45 2 (.slice (some ⟨w.heap.size, 0, none⟩) 0 cap) 0 []) := Lib.hid (by
    refine ⟨by simp, .inr ⟨w.heap.size, cap, _, rfl, Nat.le_refl _, heap_alloc_new w.drew _, by omega, hle, ?_, by simp⟩⟩
    rw [Array.size_append, zeros_len, zeros_len]
    show n * 2 + (cap - n) * 2 = cap * 2
    omega)
  have h1 : ¬ ((n : Int) < 0) := by omega
  have h3 : wrap64 ((n : Int) - 0) = (n : Int) := by unfold wrap64; omega
  have h4 : ((n : Int) > 0) := by omega
  have hlem : cap ≤ 9223372036854775807 := by unfold maxLen at hle; omega
  have HB : Hid (Below w.heap.size w (w.drew.alloc (.cells (Builtin.zeroCells (Value.agg #[.string ⟨#[]⟩, .int .i64 0]).cells n ++ Builtin.zeroCells (Value.agg #[.string ⟨#[]⟩, .int .i64 0]).cells (cap - n)) 45))) := Lib.hid ((Below.refl _ w).drew.alloc (Nat.le_refl _) _)
  clear hcap
  go_enter Tryz.func85, Tryz.ntmps85
  go_wp2_with (at_builtin; refine Lib.wpList_append_run _ rfl _ _ _ _ rfl _ _ rfl rfl _ _ hrun ?_)
  go_wp2
  go_ret
  exact ⟨cap, rfl, HO.out, HB.out⟩
end Go.Proofs.YtobkcdkffcenbaaGreatDoor.Ty

