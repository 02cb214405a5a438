/- Layer types: the type of an expression in a scope. Conditions: the maps and the table lie in memory. -/
import Derived.Test.YtobkcdkffcenbaaGreatDoorRa04
import Derived.Test.YtobkcdkffcenbaaGreatDoorRa05
import Derived.Test.YtobkcdkffcenbaaGreatDoorRa03
set_option linter.unusedVariables false
set_option linter.unusedSimpArgs false
namespace Go.Proofs.YtobkcdkffcenbaaGreatDoor.Ty
open Go.ChangeShapes Go.WideShapes Go.ChangeAt Go.RowKit
open Go.Proofs.YtobkcdkffcenbaaGreatDoor.Tr
theorem ints_own {w : World} {b n : Nat} {v : Value} {L : List Int} (hL : L.length = n) (h : w.ownsRow b 3 1 v n (intsOf L)) : Ints w v L := by subst hL; exact Ints.of_own h
set_option maxRecDepth 100000 in
set_option maxHeartbeats 8000000 in
theorem of_any (sv nv v : Value) (n1 n2 : Nat) (E : Env) (e : List Nd) (w : World) (hS : StrAt w sv n1 E.str) (hN : NodAt w nv n2 E.nod) (hT : ShAt w) (hv : Nodes w v e) (hs : Short e) : Calls Tryz.prog 22 #[.agg #[sv, nv], v] w (TwoPost w (tyM E e)) := by
  have HV := Lib.hid hv
  obtain ⟨A, c, rfl, h1, h2, hA⟩ := hv
  unfold maxLen at h2
  clear hA
  obtain ⟨i0, hi, hz0, hz1, hz2⟩ := info_parts info3
  have HC0 := Lib.hid (sub_any _ e ((e.length : Int) - 1) (w.alloc (.cells #[sv, nv] 60)) (HV.out.below (below_new w _) (Nat.le_refl _)))
  obtain ⟨R, hR⟩ : ∃ R, tyM E e = R := ⟨_, rfl⟩
  have HR := Lib.hid hR
  rw [hR]
  clear hR
  obtain ⟨B, hB⟩ : ∃ B, mayB e = B := ⟨_, rfl⟩
  have HM := Lib.hid hB
  clear hB
  cases B with
  | false =>
    have HE : Hid (R = (0, 1)) := Lib.hid (by rw [← HR.out]; exact of_not E HM.out)
    rw [sub_nil HM.out] at HC0
    clear hS hN hT
    go_enter Tryz.func22, Tryz.ntmps22
    go_wp2_with fail
    refine HC0.out.mono ?_
    rintro r w1 ⟨ov, rfl, hown, hb1⟩
    have HB1 : Hid (Below w.heap.size w w1) := Lib.hid ((below_new w _).trans (hb1.mono (by simp)))
    obtain ⟨A1, c1, rfl, -⟩ := Nodes.of_own hown
    clear hown hb1
    go_wp2
    go_ret2
    exact two_of HE.out HB1.out
  | true =>
    have hmay := may_of HM.out
    have HMAY := Lib.hid hmay
    rw [sub_norm hmay] at HC0
    have HSH := Lib.hid (short_normM hmay hs)
    obtain ⟨l, hl⟩ : ∃ l, normM e = l := ⟨_, rfl⟩
    have HNM : Hid (Tr.May l) := Lib.hid (by rw [← hl]; exact hmay.norm)
    have hn := HNM.out.le
    have hp := HNM.out.pos
    have HBAD : Hid (∀ (V : Nat → Ty) (k : Nat) (c : Int), k < l.length → OkTo E l V k → tyT E (tree l k) = .error c → R = (0, c)) := Lib.hid (fun V k c h1 h2 h3 => by rw [← HR.out]; subst hl; exact of_bad E hmay V h1 h2 h3)
    have HGOOD : Hid (∀ (V : Nat → Ty), OkTo E l V l.length → R = ((V (l.length - 1)).1, 0)) := Lib.hid (fun V h => by rw [← HR.out]; subst hl; exact of_good E hmay V h)
    rw [hl] at HC0 HSH
    have HW : Hid (∀ W, Below w.heap.size w W → StrAt W sv n1 E.str ∧ NodAt W nv n2 E.nod ∧ ShAt W) := Lib.hid (fun W h => ⟨hS.below h, hN.below h, hT.below h hT.1⟩)
    clear hmay hl hS hN hT
    go_enter Tryz.func22, Tryz.ntmps22
    go_wp2_with fail
    refine HC0.out.mono ?_
    rintro r w1 ⟨ov, rfl, hown, hb1⟩
    have hsw := hb1.size
    simp at hsw
    have HB1 : Hid (Below w.heap.size w w1) := Lib.hid ((below_new w _).trans (hb1.mono (by simp)))
    have hX : w1.heap[w.heap.size]? = some (.cells #[sv, nv] 60 (0, 0)) := (hb1.block _ (by simp)).trans (heap_alloc_new w _)
    have HX := Lib.hid hX
    have HNV := Lib.hid (Nodes.of_own hown)
    obtain ⟨A1, c1, rfl, y1, y2, hA1⟩ := Nodes.of_own hown
    unfold maxLen at y2
    have HA1 := Lib.hid hA1
    clear hown hb1 hX hA1
    go_wp2_with (at_make; refine wpList_make_full _ rfl _ _ 72 rfl w1.heap.size 3 i0 _ 1 Tryz.underlying72 hi hz0 hz1 _ _ _ _ l.length rfl rfl rfl rfl (by rw [hz2]; omega) (by unfold maxLen; omega) (Nat.le_refl _) ?_)
    intro w2 hown hgrow
    have hb2 : Below w1.heap.size w1 w2 := (Below.refl _ _).grown hgrow (Nat.le_refl _) (fun k hk => by simp at hk)
    have hown0 : w2.ownsRow w1.heap.size 3 1 (.slice (some ⟨w1.heap.size, 0, none⟩) l.length l.length) l.length (intsOf (tyRow (fun _ => (0, [])) 0 l.length)) := by
      rw [tyRow_zero, ← made_ints]; exact hown
    have hz := (hown0.lt _ rfl).2
    have HO2 := Lib.hid hown0
    have HB2 := Lib.hid hb2
    clear hown hgrow hown0 hb2
    go_wp2
    go_loopw [25] (fun i wr => ∃ (k : Nat) (V : Nat → Ty), k ≤ l.length ∧ i = .int .i64 k ∧ wr.ownsRow w1.heap.size 3 1 (.slice (some ⟨w1.heap.size, 0, none⟩) l.length l.length) l.length (intsOf (tyRow V k l.length)) ∧ Below w1.heap.size w1 wr ∧ w1.heap.size < wr.heap.size ∧ OkTo E l V k) (fun i _ => l.length - (intOf i).toNat)
    case atStart => exact ⟨0, _, Nat.zero_le _, rfl, HO2.out, HB2.out, hz, fun j hj => by omega⟩
    case round =>
      obtain ⟨k, V, hk, rfl, hown, hb, hzr, hV⟩ := hrel
      have HV2 := Lib.hid hV
      have HBr := Lib.hid hb
      have HBw : Hid (Below w.heap.size w wr) := Lib.hid (HB1.out.trans (hb.mono HB1.out.size))
      have hXr := (hb.block _ (by omega)).trans HX.out
      have p0 : wr.cell? ⟨w.heap.size, 0, none⟩ = some sv := (cells_at hXr 0).trans rfl
      have p1 : wr.cell? ⟨w.heap.size, 1, none⟩ = some nv := (cells_at hXr 1).trans rfl
      have lX := lt_of_block hXr
      by_cases hlt : k < l.length
      · obtain ⟨x, hx⟩ : ∃ x, l[k]? = some x := ⟨_, List.getElem?_eq_getElem hlt⟩
        obtain ⟨g, o, rfl, hg, a0, a1, a2, a3, a4, a5⟩ := HA1.out k x hx
        have d0 := (hb.cell (p := ⟨g, o + k * 6, none⟩) hg).trans a0
        have d1 := (hb.cell (p := ⟨g, o + k * 6 + 1, none⟩) hg).trans a1
        have d2 := (hb.cell (p := ⟨g, o + k * 6 + 2, none⟩) hg).trans a2
        have d3 := (hb.cell (p := ⟨g, o + k * 6 + 3, none⟩) hg).trans a3
        have d4 := (hb.cell (p := ⟨g, o + k * 6 + 4, none⟩) hg).trans a4
        have d5 := (hb.cell (p := ⟨g, o + k * 6 + 5, none⟩) hg).trans a5
        have hgr : g < wr.heap.size := by have := hb.size; omega
        obtain ⟨w3, hw3⟩ : ∃ W, wr.alloc (.cells (ndC x) 70) = W := ⟨_, rfl⟩
        have hb3 : Below wr.heap.size wr w3 := hw3 ▸ below_new wr _
        have hbw3 : Below w.heap.size w w3 := HBw.out.trans (hb3.mono HBw.out.size)
        have ho3 := own_below hown hb3
        have HC := Lib.hid (node_any sv nv (.slice (some ⟨w1.heap.size, 0, none⟩) l.length l.length) (.slice (some ⟨g, o, none⟩) l.length c1) n1 n2 E l (tyRow V k l.length) k x w3 (HW.out w3 hbw3).1 (HW.out w3 hbw3).2.1 (HW.out w3 hbw3).2.2
          (HNV.out.below (hb.trans (hb3.mono hb.size)) (Nat.le_refl _)) (ints_own (tyRow_len _ _ _) ho3) hx hn (tyRow_len _ _ _) HNM.out.node (HSH.out x (List.mem_of_getElem? hx)))
        rw [node_tree E HNM.out V hx hV] at HC
        have HX3 : Hid (w3.heap[w.heap.size]? = some (.cells #[sv, nv] 60 (0, 0))) := Lib.hid ((hb3.block _ lX).trans hXr)
        have HO3 := Lib.hid ho3
        have HB3 : Hid (Below w1.heap.size w1 w3) := Lib.hid (hb.trans (hb3.mono hb.size))
        have hs3 := hb3.size
        have HW3 := Lib.hid hw3
        cases ht : tyT E (tree l k) with
        | error c0 =>
          rw [ht] at HC
          have hc0 : c0 = 8 ∨ c0 = 10 ∨ c0 = 14 := tyT_err E _ _ ht
          have hcb : (c0 != 0) = true := by simp; omega
          have HE := Lib.hid (HBAD.out V k c0 hlt hV ht)
          simp only [ansY] at HC
          clear hx a0 a1 a2 a3 a4 a5 hown hb hV hXr hw3 hb3 hbw3 ho3 ht hc0
          go_wp2_with fail
          rw [HW3.out]
          go_wp2_with fail
          refine HC.out.mono ?_
          rintro r w4 ⟨rfl, hb4⟩
          have HB4 : Hid (Below w.heap.size w w4) := Lib.hid (HB1.out.trans ((HB3.out.trans (hb4.mono HB3.out.size)).mono HB1.out.size))
          clear hb4
          go_wp2
          go_ret2
          exact two_of HE.out HB4.out
        | ok t =>
          rw [ht] at HC
          simp only [ansY] at HC
          have HVN := Lib.hid (hV.next ht)
          obtain ⟨t1, ht1⟩ : ∃ t1, t.1 = t1 := ⟨_, rfl⟩
          have HNX := Lib.hid (tyRow_next V k l.length t hlt)
          rw [ht1] at HC HNX
          clear hx a0 a1 a2 a3 a4 a5 hown hb hV hXr hw3 hb3 hbw3 ho3 ht ht1
          go_wp2_with fail
          rw [HW3.out]
          go_wp2_with fail
          refine HC.out.mono ?_
          rintro r w4 ⟨rfl, hb4⟩
          have HB4 : Hid (Below w1.heap.size w1 w4) := Lib.hid (HB3.out.trans (hb4.mono HB3.out.size))
          have ho4 := own_below HO3.out hb4
          have hs4 := hb4.size
          obtain ⟨z, hzz⟩ : ∃ z, (tyRow V k l.length)[k]? = some z := ⟨_, tyRow_get hlt⟩
          have e1 := (ho4.cellAt k (by omega)).trans (intsOf_get _ k z hzz)
          have f1 := ho4.frozenAt k
          have HO4 : Hid ((w4.setCell ⟨w1.heap.size, k, none⟩ (.int .i64 t1)).ownsRow w1.heap.size 3 1 (.slice (some ⟨w1.heap.size, 0, none⟩) l.length l.length) l.length (intsOf (tyRow (upd V k t) (k + 1) l.length))) := Lib.hid (by
            rw [← HNX.out, intsOf_set]
            exact (ho4.stored k (.int .i64 t1)).1)
          clear hb4 ho4 hzz
          go_wp2
          refine ⟨⟨k + 1, upd V k t, by omega, by go_num, HO4.out, HB4.out.setCell (by simp) _, by simp [World.setCell]; omega, HVN.out⟩, by simp [intOf]; omega⟩
      · have hkl : k = l.length := by omega
        subst hkl
        have hll : l.length - 1 < l.length := by omega
        have hget : (tyRow V l.length l.length)[l.length - 1]? = some (V (l.length - 1)).1 := by rw [tyRow_get hll, if_pos hll]
        obtain ⟨u, hu⟩ : ∃ u, (V (l.length - 1)).1 = u := ⟨_, rfl⟩
        rw [hu] at hget
        have e1 := (hown.cellAt (l.length - 1) (by omega)).trans (intsOf_get _ _ u hget)
        have HE : Hid (R = (u, 0)) := Lib.hid (by rw [← hu]; exact HGOOD.out V hV)
        have e2 : (l.length : Int) - 1 = ((l.length - 1 : Nat) : Int) := by omega
        clear hV hown hb hXr hu hget
        go_wp2
        go_ret2
        exact two_of HE.out HBw.out
end Go.Proofs.YtobkcdkffcenbaaGreatDoor.Ty

/- Layer types: a unit more in the map of nodes. Conditions: the map lies in memory. -/
namespace Go.Proofs.YtobkcdkffcenbaaGreatDoor.Ty
open Go.ChangeShapes Go.WideShapes Go.ChangeAt Go.RowKit Go.Maps
open Go.Proofs.YtobkcdkffcenbaaGreatDoor.Tr
open Go.Proofs.YtobkcdkffcenbaaGreatDoor.Pg (Prm Unt)
open Go.Proofs.YtobkcdkffcenbaaGreatDoor.Ow (PrmN UntN RowN rown_at rown_form)
def addN (g : Bytes → Option (List Int × Int)) (u : Unt) : Bytes → Option (List Int × Int) := fun s => if s = u.name ∧ (g s).isNone = true ∧ u.contract = false then some (u.ins.map (·.ty), u.out.ty) else g s
def AddUPost (w0 w : World) (b n : Nat) (g : Bytes → Option (List Int × Int)) (u : Unt) (e : Ending) (w' : World) : Prop :=
  e = .returned (.tuple #[]) ∧ NodIn w0 w' b (n + 1) (addN g u) ∧ w.heap.size ≤ w'.heap.size ∧ w.grownBy w' (some b)
theorem addN_same {g : Bytes → Option (List Int × Int)} {u : Unt} (h : (g u.name).isNone = false ∨ u.contract = true) : addN g u = g := by
  funext s
  unfold addN
  rw [if_neg]
  rintro ⟨rfl, h1, h2⟩
  rcases h with h | h
  · rw [h1] at h; cases h
  · rw [h2] at h; cases h
theorem grown_two (w : World) (o o' o'' : Obj) (b : Nat) : w.grownBy (((w.alloc o).alloc o').alloc o'') (some b) :=
  ⟨rfl, rfl, rfl, by simp; omega, fun i hi _ => (Below.heap_alloc _ _ _ (by simp; omega)).trans ((Below.heap_alloc _ _ _ (by simp; omega)).trans (Below.heap_alloc _ _ _ hi))⟩
theorem below_three (w : World) (o o' o'' : Obj) : Below w.heap.size w (((w.alloc o).alloc o').alloc o'') := (((Below.refl _ _).alloc (Nat.le_refl _) _).alloc (by simp) _).alloc (by simp; omega) _
theorem NodIn.mono {w0 w : World} {b n m : Nat} {g : Bytes → Option (List Int × Int)} (h : NodIn w0 w b n g) (hn : n ≤ m) : NodIn w0 w b m g := by
  obtain ⟨h1, h2, G, h3, h4⟩ := h
  exact ⟨h1, h2, G, h3.mono hn, h4⟩
set_option maxRecDepth 100000 in
set_option maxHeartbeats 4000000 in
theorem addU_any (w0 : World) (sv : Value) (b n : Nat) (g : Bytes → Option (List Int × Int)) (u : Unt) (x : List Value) (w : World) (hm : NodIn w0 w b n g) (hu : UntN w0 u x) (hn : n < maxLen) :
    Calls Tryz.prog 16 #[.agg #[sv, .map (some b)], .agg x.toArray] w (AddUPost w0 w b n g u) := by
  have HM := Lib.hid hm
  have HU := Lib.hid hu
  have hbl := hm.lt
  obtain ⟨iv, vv, qv, lv, rfl, u1, u2, u3, u4, hs, -⟩ := hu
  obtain ⟨Ai, ci, rfl, i1, i2, -⟩ := rown_form u1
  obtain ⟨Av, cv, rfl, -, -, -⟩ := rown_form u2
  obtain ⟨Aq, cq, rfl, -, -, -⟩ := rown_form u3
  obtain ⟨Al, cl, rfl, -, -, -⟩ := rown_form u4
  have hat : NodAt w (.map (some b)) n g := .inr ⟨w0, b, rfl, hm⟩
  obtain ⟨V, B, hlk, hd⟩ := hat.look u.name hs
  have hl : ∀ o o', (Instr.lookup 57 (.map (some b)) (.string (str u.name)) true).run Tryz.prog ((w.alloc o).alloc o') = .ok (.tuple #[V, .bool B]) ((w.alloc o).alloc o') := fun o o' => hlk _ (news_two w o o').1
  clear u1 u2 u3 u4 hat
  have hend : ∀ w', w' = ((w.alloc (.cells #[sv, .map (some b)] 60)).alloc (.cells #[.bool u.contract, .string (str u.name), .slice Ai u.ins.length ci, .string (str u.out.name), .int .i64 u.out.ty, .slice Av u.vars.length cv, .slice Aq u.eqs.length cq, .slice Al u.items.length cl] 49)) → True := fun _ _ => trivial
  clear hend
  rcases hd with ⟨hg, rfl, rfl⟩ | ⟨u', x', hu', rfl, rfl, hg⟩
  · cases hc : u.contract with
    | true =>
      have HS := Lib.hid (addN_same (g := g) (u := u) (.inr hc))
      rw [hc] at *
      clear hg hm hlk
      go_enter Tryz.func16, Tryz.ntmps16
      go_wp2
      go_end0
      exact ⟨rfl, by rw [HS.out]; exact (HM.out.below (below_three w _ _ _)).mono (Nat.le_succ _), by simp; omega, grown_two w _ _ _ b⟩
    | false =>
      obtain ⟨hw0, hb0, G, hG1, hG2⟩ := hm
      obtain ⟨w3, hrun, hm3, hg3⟩ := (((hG1.alloc (.cells #[sv, .map (some b)] 60)).alloc (.cells #[.bool u.contract, .string (str u.name), .slice Ai u.ins.length ci, .string (str u.out.name), .int .i64 u.out.ty, .slice Av u.vars.length cv, .slice Aq u.eqs.length cq, .slice Al u.items.length cl] 49)).alloc (.cells #[.bool false, .string ⟨#[]⟩, .slice none 0 0, .string ⟨#[]⟩, .int .i64 0, .slice none 0 0, .slice none 0 0, .slice none 0 0] 49)).put Tryz.underlying57 hn u.name hs
        (.agg #[.bool u.contract, .string (str u.name), .slice Ai u.ins.length ci, .string (str u.out.name), .int .i64 u.out.ty, .slice Av u.vars.length cv, .slice Aq u.eqs.length cq, .slice Al u.items.length cl])
      have hg4 : w.grownBy w3 (some b) := ⟨hg3.os, hg3.tape, hg3.output, by have := hg3.size; simp at this; omega, fun i hi hne => (hg3.block i (by simp; omega) hne).trans ((grown_two w _ _ _ b).block i hi hne)⟩
      have HG4 := Lib.hid hg4
      have HEND : Hid (NodIn w0 w3 b (n + 1) (addN g u)) := Lib.hid ⟨hw0.grown hg4 hw0.size (fun k hk => by cases hk; exact hb0), hb0,
        fun s => if s = u.name then some (u, [.bool u.contract, .string (str u.name), .slice Ai u.ins.length ci, .string (str u.out.name), .int .i64 u.out.ty, .slice Av u.vars.length cv, .slice Aq u.eqs.length cq, .slice Al u.items.length cl]) else G s, by
          have : (fun s => ((if s = u.name then some (u, [Value.bool u.contract, .string (str u.name), .slice Ai u.ins.length ci, .string (str u.out.name), .int .i64 u.out.ty, .slice Av u.vars.length cv, .slice Aq u.eqs.length cq, .slice Al u.items.length cl]) else G s : Option (Unt × List Value))).map (fun p => Value.agg p.2.toArray)) =
              (fun s => if s = u.name then some (Value.agg #[.bool u.contract, .string (str u.name), .slice Ai u.ins.length ci, .string (str u.out.name), .int .i64 u.out.ty, .slice Av u.vars.length cv, .slice Aq u.eqs.length cq, .slice Al u.items.length cl]) else (G s).map (fun p => Value.agg p.2.toArray)) := by
            funext s
            by_cases h : s = u.name <;> simp [h]
          rw [this]; exact hm3, fun s => by
          by_cases h : s = u.name
          · subst h
            refine ⟨fun h0 => by simp at h0, fun p hp => ?_⟩
            have hp' := (if_pos rfl).symm.trans hp
            injection hp' with hp'
            subst hp'
            exact ⟨HU.out, by unfold addN; rw [if_pos ⟨rfl, by rw [hg]; rfl, hc⟩]⟩
          · have e1 : addN g u s = g s := by unfold addN; rw [if_neg (fun hh => h hh.1)]
            simp only [if_neg h, e1]
            exact hG2 s⟩
      have hs4 := hg4.size
      clear hg hlk hG1 hG2 hm3 hg3 hg4 hw0 hb0
      rw [hc] at hrun
      clear hc
      go_enter Tryz.func16, Tryz.ntmps16
      go_wp2
      go_end0
      exact ⟨rfl, HEND.out, hs4, HG4.out⟩
  · have HS := Lib.hid (addN_same (g := g) (u := u) (.inl (by rw [hg]; rfl)))
    obtain ⟨iv', vv', qv', lv', rfl, u1, u2, u3, u4, -, -⟩ := hu'
    obtain ⟨Bi, di, rfl, -, -, -⟩ := rown_form u1
    obtain ⟨Bv, dv, rfl, -, -, -⟩ := rown_form u2
    obtain ⟨Bq, dq, rfl, -, -, -⟩ := rown_form u3
    obtain ⟨Bl, dl, rfl, -, -, -⟩ := rown_form u4
    clear hg hm hlk u1 u2 u3 u4
    go_enter Tryz.func16, Tryz.ntmps16
    go_wp2
    go_end0
    exact ⟨rfl, by rw [HS.out]; exact (HM.out.below (below_three w _ _ _)).mono (Nat.le_succ _), by simp; omega, grown_two w _ _ _ b⟩
end Go.Proofs.YtobkcdkffcenbaaGreatDoor.Ty

/- Layer types: Of answers what the plain function answers. Conditions: the slices are read as an expression, streams and units; the table lies in memory. -/
namespace Go.Proofs.YtobkcdkffcenbaaGreatDoor.Ty
open Go.ChangeShapes Go.WideShapes Go.ChangeAt Go.RowKit Go.Maps
open Go.Proofs.YtobkcdkffcenbaaGreatDoor.Tr
open Go.Proofs.YtobkcdkffcenbaaGreatDoor.Pg (Prm Unt)
open Go.Proofs.YtobkcdkffcenbaaGreatDoor.Ow (PrmN UntN RowN rown_at rown_form)
theorem strOf_next (l : List Prm) (k : Nat) (p : Prm) (h : l[k]? = some p) : strOf (l.take (k + 1)) = addF (strOf (l.take k)) p := by
  funext s
  unfold addF strOf
  rw [List.take_add_one, h, show (some p).toList = [p] from rfl, List.find?_append]
  cases hf : (l.take k).find? (fun p => p.name == s) with
  | some q => simp
  | none =>
    by_cases hs : s = p.name
    · subst hs; simp
    · have : (p.name == s) = false := by simpa using (fun h => hs h.symm)
      simp [hs, this]
theorem nodOf_next (l : List Unt) (k : Nat) (u : Unt) (h : l[k]? = some u) : nodOf (l.take (k + 1)) = addN (nodOf (l.take k)) u := by
  funext s
  unfold addN nodOf
  rw [List.take_add_one, h, show (some u).toList = [u] from rfl, List.find?_append]
  cases hf : (l.take k).find? (fun u => u.name == s && !u.contract) with
  | some q => simp
  | none =>
    by_cases hs : s = u.name
    · subst hs
      cases hc : u.contract <;> simp [hc]
    · have : (u.name == s) = false := by simpa using (fun h => hs h.symm)
      simp [hs, this]
set_option maxRecDepth 100000 in
set_option maxHeartbeats 8000000 in
theorem Of_any (v pv uv : Value) (e : List Nd) (l : List Prm) (us : List Unt) (w : World) (hT : ShAt w) (hv : Nodes w v e) (hs : Short e) (hp : RowN 2 PrmN w l pv) (hu : RowN 8 UntN w us uv) : Calls Tryz.prog 9 #[v, pv, uv] w (TwoPost w (tyM (envOf l us) e)) := by
  have hmm := @run_makeMap Tryz.prog
  have HV := Lib.hid hv
  have HP := Lib.hid hp
  have HU := Lib.hid hu
  have HT := Lib.hid hT
  obtain ⟨A, c, rfl, h1, h2, -⟩ := hv
  obtain ⟨Ap, cp, rfl, p1, p2, -⟩ := rown_form hp
  obtain ⟨Au, cu, rfl, u1, u2, -⟩ := rown_form hu
  unfold maxLen at h2 p2 u2
  have e1 : (w.alloc (.map #[] 0)).heap.size = w.heap.size + 1 := by simp
  have e2 : ((w.alloc (.map #[] 0)).alloc (.map #[] 0)).heap.size = w.heap.size + 2 := by simp
  obtain ⟨w3, hw3⟩ : ∃ W, ((w.alloc (.map #[] 0)).alloc (.map #[] 0)).alloc (.cells #[.map (some w.heap.size), .map (some (w.heap.size + 1))] 60) = W := ⟨_, rfl⟩
  have hb3 : Below w.heap.size w w3 := hw3 ▸ (((Below.refl _ _).alloc (Nat.le_refl _) _).alloc (by simp) _).alloc (by simp; omega) _
  have hX : w3.heap[w.heap.size + 2]? = some (.cells #[.map (some w.heap.size), .map (some (w.heap.size + 1))] 60 (0, 0)) := by
    have := heap_alloc_new ((w.alloc (.map #[] 0)).alloc (.map #[] 0)) (.cells #[.map (some w.heap.size), .map (some (w.heap.size + 1))] 60)
    rw [e2, hw3] at this; exact this
  have hS0 : StrAt w3 (.map (some w.heap.size)) 0 (strOf (l.take 0)) := ⟨w.heap.size, rfl, by rw [← hw3]; exact ((MapIs.made w).alloc _).alloc _⟩
  have hN0 : NodIn w w3 (w.heap.size + 1) 0 (nodOf (us.take 0)) := by
    have := NodIn.made (w0 := w) (w := w.alloc (.map #[] 0)) (below_new w _)
    rw [e1] at this
    rw [← hw3]
    exact this.below (below_new _ _)
  have HX := Lib.hid hX
  have HS0 := Lib.hid hS0
  have HN0 := Lib.hid hN0
  have HB3 := Lib.hid hb3
  have HW3 := Lib.hid hw3
  have hsz : w3.heap.size = w.heap.size + 3 := by rw [← hw3]; simp
  have HSZ := Lib.hid hsz
  obtain ⟨R, hR⟩ : ∃ R, tyM (envOf l us) e = R := ⟨_, rfl⟩
  have HR := Lib.hid hR
  rw [hR]
  clear hp hu hT hX hS0 hN0 hb3 hw3 hR
  go_enter Tryz.func9, Tryz.ntmps9
  go_wp2_with fail
  rw [HW3.out]
  clear e1 e2 hsz
  go_wp2
  go_loopw [18] (fun i wr => ∃ k : Nat, k ≤ l.length ∧ i = .int .i64 k ∧ StrAt wr (.map (some w.heap.size)) k (strOf (l.take k)) ∧ NodIn w wr (w.heap.size + 1) 0 (nodOf (us.take 0)) ∧ wr.heap[w.heap.size + 2]? = some (.cells #[.map (some w.heap.size), .map (some (w.heap.size + 1))] 60 (0, 0)) ∧ Below w.heap.size w wr) (fun i _ => l.length - (intOf i).toNat)
  case atStart => exact ⟨0, Nat.zero_le _, rfl, HS0.out, HN0.out, HX.out, HB3.out⟩
  case round =>
    obtain ⟨k, hk, rfl, hS, hN, hX, hb⟩ := hrel
    have HSr := Lib.hid hS
    have HNr := Lib.hid hN
    have HBr := Lib.hid hb
    have HXr := Lib.hid hX
    have lX := lt_of_block hX
    have x0 : wr.cell? ⟨w.heap.size + 2, 0, none⟩ = some (.map (some w.heap.size)) := (cells_at hX 0).trans rfl
    have x1 : wr.cell? ⟨w.heap.size + 2, 1, none⟩ = some (.map (some (w.heap.size + 1))) := (cells_at hX 1).trans rfl
    by_cases hlt : k < l.length
    · obtain ⟨p, hp⟩ : ∃ p, l[k]? = some p := ⟨_, List.getElem?_eq_getElem hlt⟩
      obtain ⟨g, o, c', x, hv', hg, hpx, hxl, hcell⟩ := rown_at HP.out hp
      simp only [Value.slice.injEq, true_and] at hv'
      obtain ⟨rfl, rfl⟩ := hv'
      obtain ⟨rfl, hpn⟩ := hpx
      have q0 : wr.cell? ⟨g, o + k * 2 + 0, none⟩ = some (.string (str p.name)) := (hb.cell (p := ⟨g, o + k * 2 + 0, none⟩) hg).trans (hcell 0 (by omega))
      rw [Nat.add_zero] at q0
      have q1 : wr.cell? ⟨g, o + k * 2 + 1, none⟩ = some (.int .i64 p.ty) := (hb.cell (p := ⟨g, o + k * 2 + 1, none⟩) hg).trans (hcell 1 (by omega))
      have hgr : g < wr.heap.size := by have := hb.size; omega
      obtain ⟨w4, hw4⟩ : ∃ W, wr.alloc (.cells #[.string (str p.name), .int .i64 p.ty] 45) = W := ⟨_, rfl⟩
      have hb4 : Below wr.heap.size wr w4 := hw4 ▸ below_new wr _
      have HC := Lib.hid (addS_any w.heap.size (.map (some (w.heap.size + 1))) k (strOf (l.take k)) p w4 (hS.below hb4) (by unfold maxLen; omega) hpn)
      have HNX := Lib.hid (strOf_next l k p hp)
      have HW4 := Lib.hid hw4
      have HB4 := Lib.hid hb4
      clear hp hcell hS hN hX hb hw4 hb4
      go_wp2_with fail
      rw [HW4.out]
      go_wp2_with fail
      refine HC.out.mono ?_
      rintro r w5 ⟨rfl, hS5, hs5, hg5⟩
      rw [← HNX.out] at hS5
      have HS5 := Lib.hid hS5
      have hw4s := HB4.out.size
      have HN5 : Hid (NodIn w w5 (w.heap.size + 1) 0 (nodOf (us.take 0))) := Lib.hid ((HNr.out.below HB4.out).grown hg5 (Nat.le_refl _) (by omega))
      have HX5 : Hid (w5.heap[w.heap.size + 2]? = some (.cells #[.map (some w.heap.size), .map (some (w.heap.size + 1))] 60 (0, 0))) := Lib.hid ((hg5.block _ (by omega) (by simp)).trans ((HB4.out.block _ lX).trans HXr.out))
      have HB5 : Hid (Below w.heap.size w w5) := Lib.hid ((HBr.out.trans (HB4.out.mono HBr.out.size)).grown hg5 (by have := HBr.out.size; omega) (fun j hj => by cases hj; exact Nat.le_refl _))
      clear hS5 hg5
      go_wp2
      refine ⟨⟨k + 1, by omega, by go_num, HS5.out, HN5.out, HX5.out, HB5.out⟩, by simp [intOf]; omega⟩
    · have hkl : k = l.length := by omega
      subst hkl
      have HSe : Hid (StrAt wr (.map (some w.heap.size)) l.length (strOf l)) := Lib.hid (by have := HSr.out; rw [List.take_length] at this; exact this)
      have hwr := hb.size
      clear hS hN hX hb HSr x0 x1
      go_wp2
      go_loopw [28] (fun i wq => ∃ k : Nat, k ≤ us.length ∧ i = .int .i64 k ∧ StrAt wq (.map (some w.heap.size)) l.length (strOf l) ∧ NodIn w wq (w.heap.size + 1) k (nodOf (us.take k)) ∧ wq.heap[w.heap.size + 2]? = some (.cells #[.map (some w.heap.size), .map (some (w.heap.size + 1))] 60 (0, 0)) ∧ Below w.heap.size w wq) (fun i _ => us.length - (intOf i).toNat)
      case atStart => exact ⟨0, Nat.zero_le _, rfl, HSe.out, HNr.out, HXr.out, HBr.out⟩
      case round =>
        obtain ⟨k, hk, rfl, hS, hN, hX, hb⟩ := hrel
        have HSq := Lib.hid hS
        have HNq := Lib.hid hN
        have HBq := Lib.hid hb
        have HXq := Lib.hid hX
        have lX := lt_of_block hX
        have x0 : wr.cell? ⟨w.heap.size + 2, 0, none⟩ = some (.map (some w.heap.size)) := (cells_at hX 0).trans rfl
        have x1 : wr.cell? ⟨w.heap.size + 2, 1, none⟩ = some (.map (some (w.heap.size + 1))) := (cells_at hX 1).trans rfl
        by_cases hlt : k < us.length
        · obtain ⟨u, hu⟩ : ∃ u, us[k]? = some u := ⟨_, List.getElem?_eq_getElem hlt⟩
          obtain ⟨g, o, c', x, hv', hg, hux, hxl, hcell⟩ := rown_at HU.out hu
          simp only [Value.slice.injEq, true_and] at hv'
          obtain ⟨rfl, rfl⟩ := hv'
          have HUX := Lib.hid hux
          obtain ⟨iv, vv, qv, lv, rfl, -⟩ := hux
          have q : ∀ j, j < 8 → wr.cell? ⟨g, o + k * 8 + j, none⟩ = _ := fun j hj => (hb.cell (p := ⟨g, o + k * 8 + j, none⟩) hg).trans (hcell j hj)
          have q0 : wr.cell? ⟨g, o + k * 8, none⟩ = some (.bool u.contract) := q 0 (by omega)
          have q1 : wr.cell? ⟨g, o + k * 8 + 1, none⟩ = some (.string (str u.name)) := q 1 (by omega)
          have q2 : wr.cell? ⟨g, o + k * 8 + 2, none⟩ = some iv := q 2 (by omega)
          have q3 : wr.cell? ⟨g, o + k * 8 + 3, none⟩ = some (.string (str u.out.name)) := q 3 (by omega)
          have q4 : wr.cell? ⟨g, o + k * 8 + 4, none⟩ = some (.int .i64 u.out.ty) := q 4 (by omega)
          have q5 : wr.cell? ⟨g, o + k * 8 + 5, none⟩ = some vv := q 5 (by omega)
          have q6 : wr.cell? ⟨g, o + k * 8 + 6, none⟩ = some qv := q 6 (by omega)
          have q7 : wr.cell? ⟨g, o + k * 8 + 7, none⟩ = some lv := q 7 (by omega)
          have hgr : g < wr.heap.size := by have := hb.size; omega
          obtain ⟨w4, hw4⟩ : ∃ W, wr.alloc (.cells #[.bool u.contract, .string (str u.name), iv, .string (str u.out.name), .int .i64 u.out.ty, vv, qv, lv] 49) = W := ⟨_, rfl⟩
          have hb4 : Below wr.heap.size wr w4 := hw4 ▸ below_new wr _
          have HC := Lib.hid (addU_any w (.map (some w.heap.size)) (w.heap.size + 1) k (nodOf (us.take k)) u _ w4 (hN.below hb4) HUX.out (by unfold maxLen; omega))
          have HNX := Lib.hid (nodOf_next us k u hu)
          have HW4 := Lib.hid hw4
          have HB4 := Lib.hid hb4
          obtain ⟨iv', vv', qv', lv', hxx, z1, z2, z3, z4, -⟩ := HUX.out
          simp only [List.cons.injEq, and_true, true_and] at hxx
          obtain ⟨rfl, rfl, rfl, rfl⟩ := hxx
          obtain ⟨B1, d1, rfl, -, -, -⟩ := rown_form z1
          obtain ⟨B2, d2, rfl, -, -, -⟩ := rown_form z2
          obtain ⟨B3, d3, rfl, -, -, -⟩ := rown_form z3
          obtain ⟨B4, d4, rfl, -, -, -⟩ := rown_form z4
          clear hu hcell hS hN hX hb hw4 hb4 q z1 z2 z3 z4
          go_wp2_with fail
          rw [HW4.out]
          go_wp2_with fail
          refine HC.out.mono ?_
          rintro r w5 ⟨rfl, hN5, hs5, hg5⟩
          rw [← HNX.out] at hN5
          have HN5 := Lib.hid hN5
          have hw4s := HB4.out.size
          have HS5 : Hid (StrAt w5 (.map (some w.heap.size)) l.length (strOf l)) := Lib.hid (by
            obtain ⟨b', hb', hm'⟩ := HSq.out.below HB4.out
            simp only [Value.map.injEq, Option.some.injEq] at hb'
            subst hb'
            exact ⟨_, rfl, hm'.grown hg5 (by simp)⟩)
          have HX5 : Hid (w5.heap[w.heap.size + 2]? = some (.cells #[.map (some w.heap.size), .map (some (w.heap.size + 1))] 60 (0, 0))) := Lib.hid ((hg5.block _ (by omega) (by simp)).trans ((HB4.out.block _ lX).trans HXq.out))
          have HB5 : Hid (Below w.heap.size w w5) := Lib.hid ((HBq.out.trans (HB4.out.mono HBq.out.size)).grown hg5 (by have := HBq.out.size; omega) (fun j hj => by cases hj; exact Nat.le_succ _))
          clear hN5 hg5
          go_wp2
          refine ⟨⟨k + 1, by omega, by go_num, HS5.out, HN5.out, HX5.out, HB5.out⟩, by simp [intOf]; omega⟩
        · have hkl : k = us.length := by omega
          subst hkl
          have HC := Lib.hid (of_any (.map (some w.heap.size)) (.map (some (w.heap.size + 1))) _ l.length us.length (envOf l us) e wr hS (.inr ⟨w, w.heap.size + 1, rfl, by rw [List.take_length] at hN; exact hN⟩) (HT.out.below hb HT.out.1) (HV.out.below hb (Nat.le_refl _)) hs)
          rw [HR.out] at HC
          clear hS hN hX hb
          go_wp2_with fail
          refine HC.out.mono ?_
          rintro r w5 ⟨rfl, hb5⟩
          have HB5 : Hid (Below w.heap.size w w5) := Lib.hid (HBq.out.trans (hb5.mono HBq.out.size))
          clear hb5
          go_wp2
          go_ret2
          exact ⟨rfl, HB5.out⟩
end Go.Proofs.YtobkcdkffcenbaaGreatDoor.Ty

/- Layer types: an expression that must be of a type; an equation; an item. Conditions: the maps and the table lie in memory. -/
namespace Go.Proofs.YtobkcdkffcenbaaGreatDoor.Ty
open Go.ChangeShapes Go.WideShapes Go.ChangeAt Go.RowKit
open Go.Proofs.YtobkcdkffcenbaaGreatDoor.Tr
open Go.Proofs.YtobkcdkffcenbaaGreatDoor.Pg (Prm Eqn Itm Unt)
open Go.Proofs.YtobkcdkffcenbaaGreatDoor.Ow (PrmN EqnN ItmN UntN RowN rown_at rown_form)
noncomputable def isM (E : Env) (e : List Nd) (t : Int) : Int := if (tyM E e).2 = 0 ∧ (tyM E e).1 ≠ t then 10 else (tyM E e).2
noncomputable def eqnM (E : Env) (q : Eqn) : Int := match E.str q.name with | none => 8 | some t => isM E q.e t
noncomputable def itemM (E : Env) (i : Itm) : Int :=
  if i.kind = 1 ∨ i.kind = 2 then isM E i.e 1 else if i.kind = 4 then (if isM E i.e 1 ≠ 0 then isM E i.e 1 else isM E i.f 1) else if i.kind = 3 then isM E i.e i.ty else 0
def ErrP (w : World) (x : Int) (e : Ending) (w' : World) : Prop := e = .returned (.int .i64 x) ∧ Below w.heap.size w w'
theorem err_p {w w' : World} {x y : Int} (h : x = y) (hb : Below w.heap.size w w') : ErrP w x (.returned (.int .i64 y)) w' := by subst h; exact ⟨rfl, hb⟩
set_option maxRecDepth 100000 in
set_option maxHeartbeats 4000000 in
theorem is_any (sv nv v : Value) (n1 n2 : Nat) (E : Env) (e : List Nd) (t : Int) (w : World) (hS : StrAt w sv n1 E.str) (hN : NodAt w nv n2 E.nod) (hT : ShAt w) (hv : Nodes w v e) (hs : Short e) :
    Calls Tryz.prog 63 #[.agg #[sv, nv], v, .int .i64 t] w (ErrP w (isM E e t)) := by
  have hb1 := below_new w (.cells #[sv, nv] 60)
  obtain ⟨w1, hw1⟩ : ∃ W, w.alloc (.cells #[sv, nv] 60) = W := ⟨_, rfl⟩
  rw [hw1] at hb1
  have hX : w1.heap[w.heap.size]? = some (.cells #[sv, nv] 60 (0, 0)) := hw1 ▸ heap_alloc_new w _
  have p0 : w1.cell? ⟨w.heap.size, 0, none⟩ = some sv := (cells_at hX 0).trans rfl
  have p1 : w1.cell? ⟨w.heap.size, 1, none⟩ = some nv := (cells_at hX 1).trans rfl
  have HC := Lib.hid (of_any sv nv v n1 n2 E e w1 (hS.below hb1) (hN.below hb1) (hT.below hb1 hT.1) (hv.below hb1 (Nat.le_refl _)) hs)
  have HE := Lib.hid (show isM E e t = if (tyM E e).2 = 0 ∧ (tyM E e).1 ≠ t then 10 else (tyM E e).2 from rfl)
  obtain ⟨⟨p, q⟩, hpq⟩ : ∃ y, tyM E e = y := ⟨_, rfl⟩
  rw [hpq] at HC HE
  simp only at HE
  obtain ⟨A, c, rfl, -⟩ := hv
  obtain ⟨R, hR⟩ : ∃ R, isM E e t = R := ⟨_, rfl⟩
  rw [hR] at HE ⊢
  have HB1 := Lib.hid hb1
  have HW1 := Lib.hid hw1
  clear hX hpq hR hS hN hT hb1 hw1
  by_cases hq : q = 0
  · subst hq
    by_cases hpt : p = t
    · have hb : (p != t) = false := by simp [hpt]
      have HR : Hid (R = 0) := Lib.hid (by rw [HE.out, if_neg (by simp [hpt])])
      clear hpt
      go_enter Tryz.func63, Tryz.ntmps63
      go_wp2_with fail
      rw [HW1.out]
      go_wp2_with fail
      refine HC.out.mono ?_
      rintro r w2 ⟨rfl, hb2⟩
      have HB2 : Hid (Below w.heap.size w w2) := Lib.hid (HB1.out.trans (hb2.mono HB1.out.size))
      clear hb2
      go_wp2
      go_ret
      exact err_p HR.out HB2.out
    · have hb : (p != t) = true := by simpa using hpt
      have HR : Hid (R = 10) := Lib.hid (by rw [HE.out, if_pos ⟨rfl, hpt⟩])
      clear hpt
      go_enter Tryz.func63, Tryz.ntmps63
      go_wp2_with fail
      rw [HW1.out]
      go_wp2_with fail
      refine HC.out.mono ?_
      rintro r w2 ⟨rfl, hb2⟩
      have HB2 : Hid (Below w.heap.size w w2) := Lib.hid (HB1.out.trans (hb2.mono HB1.out.size))
      clear hb2
      go_wp2
      go_ret
      exact err_p HR.out HB2.out
  · have hb : (q == 0) = false := by simpa using hq
    have HR : Hid (R = q) := Lib.hid (by rw [HE.out, if_neg (fun h => hq h.1)])
    clear hq
    go_enter Tryz.func63, Tryz.ntmps63
    go_wp2_with fail
    rw [HW1.out]
    go_wp2_with fail
    refine HC.out.mono ?_
    rintro r w2 ⟨rfl, hb2⟩
    have HB2 : Hid (Below w.heap.size w w2) := Lib.hid (HB1.out.trans (hb2.mono HB1.out.size))
    clear hb2
    go_wp2
    go_ret
    exact err_p HR.out HB2.out
set_option maxRecDepth 100000 in
set_option maxHeartbeats 4000000 in
theorem eqn_any (sv nv : Value) (n1 n2 : Nat) (E : Env) (q : Eqn) (x : List Value) (w : World) (hS : StrAt w sv n1 E.str) (hN : NodAt w nv n2 E.nod) (hT : ShAt w) (hx : EqnN w q x) :
    Calls Tryz.prog 46 #[.agg #[sv, nv], .agg x.toArray] w (ErrP w (eqnM E q)) := by
  obtain ⟨ev, rfl, hv, hn, hs⟩ := hx
  have N := news_two w (.cells #[sv, nv] 60) (.cells #[.string (str q.name), ev] 51)
  obtain ⟨w1, hw1⟩ : ∃ W, (w.alloc (.cells #[sv, nv] 60)).alloc (.cells #[.string (str q.name), ev] 51) = W := ⟨_, rfl⟩
  rw [hw1] at N
  have hb1 := N.1
  have l1 := lt_of_block N.2.1
  have l2 := lt_of_block N.2.2
  have p0 : w1.cell? ⟨w.heap.size, 0, none⟩ = some sv := (cells_at N.2.1 0).trans rfl
  have p1 : w1.cell? ⟨w.heap.size, 1, none⟩ = some nv := (cells_at N.2.1 1).trans rfl
  have p2 : w1.cell? ⟨w.heap.size + 1, 0, none⟩ = some (.string (str q.name)) := (cells_at N.2.2 0).trans rfl
  have HX1 := Lib.hid N.2.1
  have HX2 := Lib.hid N.2.2
  have HC := Lib.hid (stream_any sv nv n1 E.str q.name w1 (hS.below hb1) hn)
  have HI : Hid (∀ W t, Below w1.heap.size w1 W → Calls Tryz.prog 63 #[.agg #[sv, nv], ev, .int .i64 t] W (ErrP W (isM E q.e t))) := Lib.hid (fun W t h => by
    have hb : Below w.heap.size w W := hb1.trans (h.mono hb1.size)
    exact is_any sv nv ev n1 n2 E q.e t W (hS.below hb) (hN.below hb) (hT.below hb hT.1) (hv.below hb (Nat.le_refl _)) hs)
  have HE := Lib.hid (show eqnM E q = match E.str q.name with | none => 8 | some t => isM E q.e t from rfl)
  obtain ⟨R, hR⟩ : ∃ R, eqnM E q = R := ⟨_, rfl⟩
  rw [hR] at HE ⊢
  obtain ⟨A, c, rfl, -⟩ := hv
  have HB1 := Lib.hid hb1
  have HW1 := Lib.hid hw1
  cases hf : E.str q.name with
  | none =>
    rw [hf] at HC HE
    clear hf hR N hb1 hw1 hS hN hT
    go_enter Tryz.func46, Tryz.ntmps46
    go_wp2_with fail
    rw [HW1.out]
    go_wp2_with fail
    refine HC.out.mono ?_
    rintro r w2 ⟨rfl, hb2⟩
    have HB2 : Hid (Below w.heap.size w w2) := Lib.hid (HB1.out.trans (hb2.mono HB1.out.size))
    clear hb2
    simp only [strR]
    go_wp2
    go_ret
    exact err_p HE.out HB2.out
  | some t =>
    rw [hf] at HC HE
    clear hf hR N hb1 hw1 hS hN hT
    go_enter Tryz.func46, Tryz.ntmps46
    go_wp2_with fail
    rw [HW1.out]
    go_wp2_with fail
    refine HC.out.mono ?_
    rintro r w2 ⟨rfl, hb2⟩
    have HB2 : Hid (Below w1.heap.size w1 w2) := Lib.hid hb2
    have h1 := (hb2.block _ l1).trans HX1.out
    have h2 := (hb2.block _ l2).trans HX2.out
    have q0 : w2.cell? ⟨w.heap.size, 0, none⟩ = some sv := (cells_at h1 0).trans rfl
    have q1 : w2.cell? ⟨w.heap.size, 1, none⟩ = some nv := (cells_at h1 1).trans rfl
    have q3 : w2.cell? ⟨w.heap.size + 1, 1, none⟩ = some (.slice A q.e.length c) := (cells_at h2 1).trans rfl
    have HI2 := Lib.hid (HI.out w2 t hb2)
    clear hb2 h1 h2
    simp only [strR]
    go_wp2_with fail
    refine HI2.out.mono ?_
    rintro r w3 ⟨rfl, hb3⟩
    have HB3 : Hid (Below w.heap.size w w3) := Lib.hid (HB1.out.trans ((HB2.out.trans (hb3.mono HB2.out.size)).mono HB1.out.size))
    clear hb3
    go_wp2
    go_ret
    exact err_p HE.out HB3.out
end Go.Proofs.YtobkcdkffcenbaaGreatDoor.Ty

