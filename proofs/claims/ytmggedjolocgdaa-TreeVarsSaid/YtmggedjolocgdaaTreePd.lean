/- The function Put puts expressions in the places of streams. Conditions: the slices are read as lists; names are as long as texts may be; not too much is put. -/
import Derived.Test.YtmggedjolocgdaaTreePc
import Derived.Deep.RegionWith
import Derived.Deep.RegionHeld3
import Derived.IntWalk
namespace Go.Proofs.Ytmggedjolocgdaa.Tr
open Go.ChangeShapes Go.WideShapes Go.ChangeAt Go.RowKit Go.Maps Go.WideMaps
set_option linter.unusedVariables false
set_option linter.unusedSimpArgs false

/-- Expressions in the places of streams. -/
noncomputable def putM (e : List Nd) (names : List Bytes) (ps : List (List Nd)) : List Nd :=
  if normB e = [] then [] else if names.length = ps.length then (if (∀ p ∈ ps, normB p ≠ []) then (fillF (putP names (ps.map normB)) (normB e)).1 else []) else []
theorem putM_eq (e : List Nd) (names : List Bytes) (ps : List (List Nd)) : putM e names ps = if normB e = [] then [] else if names.length = ps.length then (if (∀ p ∈ ps, normB p ≠ []) then (fillF (putP names (ps.map normB)) (normB e)).1 else []) else [] := rfl
theorem info23 : (Try.prog.info? 23).map (fun i => (i.zero, i.size, i.bytes)) = some (some (.slice none 0 0), 1, 24) := by kernel_rfl
def nilV : Value := .slice none 0 0
/-- The loop's relation: the first expressions are in order, their names noted. -/
structure PutRel (w1 : World) (names : List Bytes) (ps : List (List Nd)) (k i : Nat) (wr : World) (vs : List Value) (D : DataW Unit) : Prop where
  le : k ≤ ps.length
  vlen : vs.length = k
  row : wr.ownsRow w1.heap.size 23 1 (.slice (some ⟨w1.heap.size + 1 + 1, 0, none⟩) ps.length ps.length) ps.length (vs ++ List.replicate (ps.length - k) nilV)
  nds : ∀ (j : Nat) v q, vs[j]? = some v → ps[j]? = some q → wr.ownsRow (w1.heap.size + 4) 30 6 v (normB q).length (ndsOf (normB q)) ∧ normB q ≠ []
  map : wr.ownsMap Try.prog 9 (plainElem Try.prog 3) w1.heap.size i D
  first : First D (names.take i)
  c1 : wr.heap[w1.heap.size + 1]? = some (.cells #[.map (some w1.heap.size)] 64 (0, 0))
  c2 : wr.heap[w1.heap.size + 1 + 1 + 1]? = some (.cells #[.slice (some ⟨w1.heap.size + 1 + 1, 0, none⟩) ps.length ps.length] 38 (0, 0))
  below : Below w1.heap.size w1 wr
  size : w1.heap.size + 4 ≤ wr.heap.size
theorem PutRel.kept {w1 wr w' : World} {names : List Bytes} {ps : List (List Nd)} {k i : Nat} {vs : List Value} {D : DataW Unit} (h : PutRel w1 names ps k i wr vs D) (hb : Below wr.heap.size wr w') : PutRel w1 names ps k i w' vs D := by
  have hs := h.size
  have hs' := hb.size
  exact ⟨h.le, h.vlen, own_below h.row hb, fun j v q hv hq => ⟨own_below (h.nds j v q hv hq).1 hb, (h.nds j v q hv hq).2⟩, h.map.kept (row := none) ⟨hb.os, hb.tape, hb.output, hb.size, fun k hk _ => hb.block k hk⟩ (by simp), h.first,
    (hb.block _ (by omega)).trans h.c1, (hb.block _ (by omega)).trans h.c2, h.below.trans (hb.mono (by omega)), by omega⟩
theorem PutRel.drewN {w1 wr : World} {names : List Bytes} {ps : List (List Nd)} {k i : Nat} {vs : List Value} {D : DataW Unit} (h : PutRel w1 names ps k i wr vs D) (n : Nat) : PutRel w1 names ps k i (wr.drewN n) vs D :=
  h.kept (below_drewN (Below.refl _ _) n)

theorem sub_norm (v : Value) (p q : List Nd) (w : World) (hv : Nodes w v p) (hq : normB p = q) : Calls Try.prog 21 #[v, .int .i64 ((p.length : Int) - 1)] w (NodesPost w q) := by rw [← hq]; exact sub_any v p _ w hv
/-- One expression more, in order. -/
theorem PutRel.store {w1 wr w3 : World} {names : List Bytes} {ps : List (List Nd)} {k i : Nat} {vs : List Value} {D : DataW Unit} {p q : List Nd} {v : Value} (h : PutRel w1 names ps k i wr vs D) (hb : Below wr.heap.size wr w3) (hp : ps[k]? = some p) (hq : normB p = q) (hne : q ≠ [])
    (hown : w3.ownsRow wr.heap.size 30 6 v q.length (ndsOf q)) : PutRel w1 names ps (k + 1) i (w3.setCell ⟨w1.heap.size + 1 + 1, k, none⟩ v) (vs ++ [v]) D := by
  have hk := (List.getElem?_eq_some_iff.1 hp).1
  have h3 := h.kept hb
  have hs := h.size
  have hs3 := h3.size
  have hv := h.vlen
  have keep : ∀ g, g ≠ w1.heap.size + 1 + 1 → (w3.setCell ⟨w1.heap.size + 1 + 1, k, none⟩ v).heap[g]? = w3.heap[g]? := fun g hg => Below.heap_setCell _ _ _ _ hg
  refine ⟨by omega, by rw [List.length_append, hv]; rfl, ?_, fun j u r hj hr => ?_, ?_, h3.first, (keep _ (by omega)).trans h3.c1, (keep _ (by omega)).trans h3.c2, h3.below.setCell (by show w1.heap.size ≤ w1.heap.size + 1 + 1; omega) _, by simp; omega⟩
  · have := (h3.row.stored k v).1
    rw [List.set_append_right _ _ (by omega), hv, Nat.sub_self, show ps.length - k = (ps.length - (k + 1)) + 1 by omega, List.replicate_succ, List.set_cons_zero] at this
    rw [List.append_assoc]; exact this
  · by_cases hjk : j < k
    · rw [List.getElem?_append_left (by omega)] at hj
      have := h3.nds j u r hj hr
      exact ⟨own_block this.1 (fun g hg => keep g (by have := (this.1.lt g hg).1; omega)), this.2⟩
    · have hjk2 : j = k := by have := (List.getElem?_eq_some_iff.1 hj).1; simp at this; omega
      subst hjk2
      rw [List.getElem?_append_right (by omega), hv, Nat.sub_self] at hj
      simp at hj
      subst hj
      rw [hp] at hr
      simp at hr
      subst hr
      rw [hq]
      exact ⟨own_base (own_block hown (fun g hg => keep g (by have := (hown.lt g hg).1; omega))) (by omega), hne⟩
  · exact h3.map.kept (row := some (w1.heap.size + 1 + 1)) (h3.row.stored k v).2 (by simp; omega)
/-- A name is noted. -/
theorem PutRel.noted {w1 W4 w5 : World} {names : List Bytes} {ps : List (List Nd)} {k i i' : Nat} {vs : List Value} {D D' : DataW Unit} (h : PutRel w1 names ps k i W4 vs D) (hm : w5.ownsMap Try.prog 9 (plainElem Try.prog 3) w1.heap.size i' D') (hg : W4.grownBy w5 (some w1.heap.size)) (hf : First D' (names.take i')) : PutRel w1 names ps k i' w5 vs D' := by
  have hs := h.size
  have hg' := hg.size
  refine ⟨h.le, h.vlen, h.row.kept hg (Or.inr (by simp [Value.ownBlock]; omega)), fun j v q hv hq => ⟨(h.nds j v q hv hq).1.kept hg (Or.inr (fun h' => by have := ((h.nds j v q hv hq).1.lt _ h').1; omega)), (h.nds j v q hv hq).2⟩, hm, hf, ?_, ?_, h.below.grown hg (by omega) (fun j hj => by cases hj; exact Nat.le_refl _), by omega⟩
  · exact (hg.block _ (by omega) (by intro h'; injection h' with h'; omega)).trans h.c1
  · exact (hg.block _ (by omega) (by intro h'; injection h' with h'; omega)).trans h.c2
theorem PutRel.parts {w1 wr : World} {names : List Bytes} {ps : List (List Nd)} {i : Nat} {vs : List Value} {D : DataW Unit} (h : PutRel w1 names ps ps.length i wr vs D) : Parts wr wr.heap.size (.slice (some ⟨w1.heap.size + 1 + 1, 0, none⟩) ps.length ps.length) (ps.map normB) := by
  have hs := h.size
  have hv := h.vlen
  obtain ⟨A, c, e, _, hc, _⟩ : ∃ A c, (Value.slice (some ⟨w1.heap.size + 1 + 1, 0, none⟩) ps.length ps.length) = .slice A ps.length c ∧ ps.length ≤ c ∧ c ≤ maxLen ∧ True := by
    rcases h.row.2 with ⟨h0, _⟩ | ⟨g, cap, cur, h1, _, _, h2, h3, _⟩
    · simp at h0
    · exact ⟨_, cap, h1, h2, h3, trivial⟩
  simp only [Value.slice.injEq, true_and] at e
  obtain ⟨rfl, rfl⟩ := e
  refine ⟨some ⟨w1.heap.size + 1 + 1, 0, none⟩, ps.length, by simp, by simp, hc, fun j l hj => ?_⟩
  rw [List.getElem?_map, Option.map_eq_some_iff] at hj
  obtain ⟨p, hp, rfl⟩ := hj
  have hjl := (List.getElem?_eq_some_iff.1 hp).1
  obtain ⟨u, hu⟩ : ∃ u, vs[j]? = some u := ⟨_, List.getElem?_eq_getElem (by omega)⟩
  obtain ⟨ho, hne⟩ := h.nds j u p hu hp
  have hn := Nodes.of_own ho
  have hc := h.row.cellAt j (by omega)
  rw [List.getElem?_append_left (by omega), hu] at hc
  refine ⟨w1.heap.size + 1 + 1, 0, u, rfl, by omega, by omega, by rw [Nat.zero_add]; exact hc, hn, fun hp g o n c hu => ?_⟩
  obtain ⟨A', c', e1, _, _, hA⟩ := hn
  obtain ⟨g2, o2, hA2, hlt, _⟩ := hA 0 _ (List.getElem?_eq_getElem hp)
  rw [e1, hA2] at hu
  simp only [Value.slice.injEq, Option.some.injEq, Addr.mk.injEq, and_true] at hu
  omega
theorem PutRel.all {w1 wr : World} {names : List Bytes} {ps : List (List Nd)} {i : Nat} {vs : List Value} {D : DataW Unit} (h : PutRel w1 names ps ps.length i wr vs D) : ∀ p ∈ ps, normB p ≠ [] := by
  intro p hp
  obtain ⟨j, hj⟩ := List.mem_iff_getElem?.1 hp
  have hjl := (List.getElem?_eq_some_iff.1 hj).1
  have hv := h.vlen
  exact (h.nds j vs[j] p (List.getElem?_eq_getElem (by omega)) hj).2
theorem look_all {W : World} {M m : Nat} {D : DataW Unit} (h : W.ownsMap Try.prog 9 (plainElem Try.prog 3) M m D) (s : Bytes) (hs : s.length ≤ maxLen) (b : Bool) (hb : Maps.has D (.string s) = b) :
    ∃ c : Int, ∀ n, (Instr.lookup 64 (.map (some M)) (.string (str s)) true).run Try.prog (W.drewN n) = .ok (.tuple #[.int .i64 c, .bool b]) (W.drewN n) := by
  subst hb
  have key : ∀ n, ∃ c : Int, (Instr.lookup 64 (.map (some M)) (.string (str s)) true).run Try.prog (W.drewN n) = .ok (.tuple #[.int .i64 c, .bool (Maps.has D (.string s))]) (W.drewN n) ∧ D.atKey (.string s) (.lit (.int .i64 0)) = .lit (.int .i64 c) := fun n => by
    obtain ⟨v, ps, hrun, hv⟩ := World.ownsMap.look_ok (w := W.drewN n) h law9 Try.underlying64 (zero3 _) (zd := .lit (.int .i64 0)) (zp := []) (plainElem_int Try.underlying3 (by decide)) (key_name s hs)
    obtain ⟨c, rfl, hc, _⟩ := plainElem_int_inv Try.underlying3 hv
    simp only [Prod.mk.injEq] at hc
    exact ⟨c, hrun, hc.1⟩
  obtain ⟨c, _, hc⟩ := key 0
  refine ⟨c, fun n => ?_⟩
  obtain ⟨c', hr, hc'⟩ := key n
  rw [hc] at hc'
  injection hc' with hc'
  injection hc' with _ hc'
  rw [hc']; exact hr
theorem First.nil : First (.map []) [] := ⟨fun s => rfl, fun s k h => by simp [placeM] at h⟩
theorem put_start {w1 Wn : World} {names : List Bytes} {ps : List (List Nd)} (hW : Wn = (((w1.alloc (.map #[] 0)).alloc (.cells #[.map (some w1.heap.size)] 64)).alloc (.cells (madeCells #[.slice none 0 0] ps.length) 23)).alloc (.cells #[.slice (some ⟨w1.heap.size + 1 + 1, 0, none⟩) ps.length ps.length] 38)) (hl : ps.length ≤ maxLen) :
    PutRel w1 names ps 0 0 Wn [] (.map []) := by
  have e : (madeCells #[Value.slice none 0 0] ps.length).toList = List.replicate ps.length nilV := by rw [toList_madeCells_one]; rfl
  subst hW
  refine ⟨Nat.zero_le _, rfl, ?_, fun j v q h => by simp at h, (((World.ownsMap_made w1 Try.prog 9 _).alloc _).alloc _).alloc _, First.nil, ?_, alloc_at _ _ _ (by simp), (((below_new w1 _).alloc (by simp) _).alloc (by simp; omega) _).alloc (by simp; omega) _, by simp⟩
  · refine ⟨by simp, .inr ⟨w1.heap.size + 1 + 1, ps.length, madeCells #[.slice none 0 0] ps.length, rfl, by omega, ?_, Nat.le_refl _, hl, ?_, ?_⟩⟩
    · rw [Below.heap_alloc _ _ _ (by simp)]; exact alloc_at _ _ _ (by simp)
    · have := congrArg List.length e; simpa using this
    · rw [e]; simp
  · rw [Below.heap_alloc _ _ _ (by simp), Below.heap_alloc _ _ _ (by simp)]; exact alloc_at _ _ _ (by simp)

set_option maxRecDepth 100000 in
set_option maxHeartbeats 2000000 in
theorem put_any (ev nv bv : Value) (e : List Nd) (names : List Bytes) (ps : List (List Nd)) (w : World) (hv : Nodes w ev e) (hn : Strs w nv names) (hp : Parts w w.heap.size bv ps) (hnl : ∀ s ∈ names, s.length ≤ maxLen)
    (hsh : Short (normB e)) (hpl : ps.length ≤ 1000) (hel : e.length ≤ 5000) (hr : roomOf (putP names (ps.map normB)) (normB e) ≤ 80000) : Calls Try.prog 29 #[ev, nv, bv] w (NodesPost w (putM e names ps)) := by
  have HV := Lib.hid hv
  have HN := Lib.hid hn
  have HP := Lib.hid hp
  have HNL := Lib.hid hnl
  have HSH := Lib.hid hsh
  have HR := Lib.hid hr
  have HPM := Lib.hid (putM_eq e names ps)
  obtain ⟨A, c, rfl, h1, h2, _⟩ := hv
  obtain ⟨An, cn, rfl, h3, h4, hAn⟩ := hn
  obtain ⟨Ap, cp, rfl, h5, h6, hAp⟩ := hp
  unfold maxLen at h2 h4 h6
  have HAN := Lib.hid hAn
  have HAP := Lib.hid hAp
  clear hAn hAp hnl hsh hr
  go_enter Try.func29, Try.ntmps29
  go_wp2_with fail
  refine (sub_any _ e _ _ HV.out).mono ?_
  rintro r w1 ⟨ov, rfl, hown, hb⟩
  obtain ⟨l, hl⟩ : ∃ l, subM e ((e.length : Int) - 1) = l := ⟨_, rfl⟩
  have hl2 : normB e = l := hl
  have HLN := Lib.hid hl2
  rw [hl] at hown
  rw [hl2] at HPM HSH HR
  have hlE : l.length ≤ 5000 := by
    rw [← hl2]
    unfold normB subM
    split
    · rename_i hc
      rw [T.flat_len]
      have hm := may_of hc.1
      exact Nat.le_trans (size_le e hm _ (by omega)) hm.le
    · simp
  have HGOOD := Lib.hid (show ∀ i x, l[i]? = some x → Good l i x by
    rw [← hl2]
    unfold normB subM
    split
    · rename_i hc
      intro i x hx
      have hm := may_of hc.1
      have := good_flat (e := (tree e ((e.length : Int) - 1).toNat).flat 0) (tree e ((e.length : Int) - 1).toNat) 0 (hm.ok _ (by omega)) (Seg.self _) i x hx
      rwa [Nat.zero_add] at this
    · intro i x hx; simp at hx)
  clear hl hl2
  have hs1 := hb.size
  have HB1 := Lib.hid hb
  have HO1 := Lib.hid hown
  obtain ⟨A1, c1, rfl, y1, y2, _⟩ := Nodes.of_own hown
  unfold maxLen at y2
  clear hown hb
  by_cases hl0 : l.length = 0
  · have hl0' : ((l.length : Int) == 0) = true := by rw [beq_iff_eq]; omega
    have HJ := Lib.hid (show putM e names ps = [] by rw [HPM.out, if_pos (List.length_eq_zero_iff.1 hl0)])
    clear hl0
    go_wp2
    go_ret
    rw [HJ.out]
    exact nodes_none _ _ HB1.out
  have hl0' : ((l.length : Int) == 0) = false := by rw [beq_eq_false_iff_ne]; omega
  have HL0 := Lib.hid (show ¬ l = [] from fun h => hl0 (by rw [h]; rfl))
  clear hl0
  by_cases hnp : names.length = ps.length
  rotate_left
  · have hnp' : ((names.length : Int) != (ps.length : Int)) = true := by rw [bne_iff_ne]; omega
    have HJ := Lib.hid (show putM e names ps = [] by rw [HPM.out, if_neg HL0.out, if_neg hnp])
    clear hnp
    go_wp2
    go_ret
    rw [HJ.out]
    exact nodes_none _ _ HB1.out
  have hnp' : ((names.length : Int) != (ps.length : Int)) = false := by simp [hnp]
  have HNP := Lib.hid hnp
  have HJ := Lib.hid (show putM e names ps = if (∀ p ∈ ps, normB p ≠ []) then (fillF (putP names (ps.map normB)) l).1 else [] by rw [HPM.out, if_neg HL0.out, if_pos hnp])
  clear hnp HPM
  have hmk := run_make_row' (P := Try.prog) 38 23 (.slice none 0 0) 24 Try.underlying38 info23 rfl .i64 .i64 ps.length (by omega) (by omega)
  have hmm := @run_makeMap Try.prog
  have HREL0 : Hid (PutRel w1 names ps 0 0 ((((w1.alloc (.map #[] 0)).alloc (.cells #[.map (some w1.heap.size)] 64)).alloc (.cells (madeCells #[.slice none 0 0] ps.length) 23)).alloc (.cells #[.slice (some ⟨w1.heap.size + 1 + 1, 0, none⟩) ps.length ps.length] 38)) [] (.map [])) := Lib.hid (put_start rfl (by unfold maxLen; omega))
  go_wp2
  go_loopw [35] (fun i wr => ∃ (k : Nat) (vs : List Value) (D : DataW Unit), i = .int .i64 k ∧ PutRel w1 names ps k k wr vs D) (fun i _ => ps.length - (intOf i).toNat)
  case atStart => exact ⟨0, _, _, rfl, HREL0.out⟩
  case round =>
    obtain ⟨k, vs, D, rfl, hrel⟩ := hrel
    have hk := hrel.le
    have HREL := Lib.hid hrel
    have hs := hrel.size
    have c8 := cell_of_one hrel.c1
    have c9 := cell_of_one hrel.c2
    have HB := Lib.hid (HB1.out.trans (hrel.below.mono hs1))
    clear hrel
    by_cases hlt : k < ps.length
    · obtain ⟨p, hpk⟩ : ∃ p, ps[k]? = some p := ⟨_, List.getElem?_eq_getElem hlt⟩
      obtain ⟨g, o, u, rfl, hgb, hg, d0, hu, hul⟩ := HAP.out k p hpk
      have c0 := (HB.out.cell (p := ⟨g, o + k, none⟩) hg).trans d0
      have HU := Lib.hid (hu.below HB.out (Nat.le_refl _))
      have HPK := Lib.hid hpk
      obtain ⟨A', c', rfl, y3, y4, _⟩ := hu
      unfold maxLen at y4
      have hv0 := HREL.out.vlen
      have ci := HREL.out.row.cellAt k (by omega)
      have fi := HREL.out.row.frozenAt k
      rw [List.getElem?_append_right (by omega), hv0, Nat.sub_self, List.getElem?_replicate, if_pos (by omega)] at ci
      have HV0 := Lib.hid hv0
      obtain ⟨q, hq⟩ : ∃ q, normB p = q := ⟨_, rfl⟩
      have HQ := Lib.hid hq
      have hwr : IntKind.i64.wrap ((p.length : Int) - 1) = (p.length : Int) - 1 := IntWalk.i64_in _ (by omega)
      clear hpk d0 hul hv0 hq
      go_wp2_with fail
      go_region_with (go_at_call 21; refine (sub_norm _ p q _ (by exact HU.out) HQ.out).mono ?_; rintro r w3 ⟨v, rfl, hown3, hb3⟩; obtain ⟨A3, c3, rfl, z1, z2, _⟩ := Nodes.of_own hown3; have ci3 := (hb3.cell (p := ⟨w1.heap.size + 1 + 1, k, none⟩) (by simp; omega)).trans ci; have fi3 := (hb3.frozen (p := ⟨w1.heap.size + 1 + 1, k, none⟩) (by simp; omega)).trans fi; have c93 := (hb3.cell (p := ⟨w1.heap.size + 1 + 1 + 1, 0, none⟩) (by simp; omega)).trans c9)
      all_goals
        have HB3 : Hid (Below wr.heap.size wr w3) := Lib.hid ⟨hb3.os, hb3.tape, hb3.output, hb3.size, hb3.block⟩
        have HO3 : Hid (w3.ownsRow wr.heap.size 30 6 (.slice A3 q.length c3) q.length (ndsOf q)) := Lib.hid hown3
        unfold maxLen at z2
        clear hb3 hown3 ci fi c93 hwr c8 c9
        by_cases hq0 : q.length = 0
        · have hq0' : ((q.length : Int) == 0) = true := by rw [beq_iff_eq]; omega
          have HJ2 := Lib.hid (show putM e names ps = [] by
            rw [HJ.out, if_neg (fun h => h p (List.mem_of_getElem? HPK.out) (by rw [HQ.out]; exact List.length_eq_zero_iff.1 hq0))])
          have HB4 := Lib.hid ((HB.out.trans (HB3.out.mono (B' := w.heap.size) HB.out.size)).setCell (p := ⟨w1.heap.size + 1 + 1, k, none⟩) (by show w.heap.size ≤ w1.heap.size + 1 + 1; omega) (.slice A3 q.length c3))
          have c93 := (HB3.out.cell (p := ⟨w1.heap.size + 1 + 1 + 1, 0, none⟩) (by simp; omega)).trans (cell_of_one HREL.out.c2)
          clear hq0
          go_wp2
          go_ret
          rw [HJ2.out]
          exact nodes_none _ _ HB4.out
        · have hq0' : ((q.length : Int) == 0) = false := by rw [beq_eq_false_iff_ne]; omega
          have hrel4 := HREL.out.store HB3.out HPK.out HQ.out (fun h => hq0 (by rw [h]; rfl)) HO3.out
          obtain ⟨W4, hW4⟩ : ∃ W4, W4 = w3.setCell ⟨w1.heap.size + 1 + 1, k, none⟩ (.slice A3 q.length c3) := ⟨_, rfl⟩
          rw [← hW4] at hrel4 ⊢
          have HREL4 := Lib.hid hrel4
          have hs4 := hrel4.size
          have c8 := cell_of_one hrel4.c1
          have c9 := cell_of_one hrel4.c2
          have ce := hrel4.row.cellAt k (by omega)
          rw [List.append_assoc, List.getElem?_append_right (by have := HV0.out; omega), HV0.out, Nat.sub_self] at ce
          simp only [List.singleton_append, List.getElem?_cons_zero] at ce
          have hnk : k < names.length := by have := HNP.out; omega
          obtain ⟨s, hsk⟩ : ∃ s, names[k]? = some s := ⟨_, List.getElem?_eq_getElem hnk⟩
          obtain ⟨gn, on, rfl, hgn, cn0⟩ := HAN.out k s hsk
          have HB4 := Lib.hid (HB1.out.trans (hrel4.below.mono hs1))
          have cn1 := (HB4.out.cell (p := ⟨gn, on + k, none⟩) hgn).trans cn0
          have hsl := HNL.out s (List.mem_of_getElem? hsk)
          have hkey := key_name s hsl
          have HSK := Lib.hid (show names.take (k + 1) = names.take k ++ [s] by rw [List.take_add_one, hsk]; rfl)
          have HW4 := Lib.hid hW4
          clear hW4 hrel4 hsk cn0 ci3 fi3 hq0
          rcases Bool.eq_false_or_eq_true ((placeM (names.take k) s).isSome) with hh | hh
          · obtain ⟨cc, hlook⟩ := look_all HREL4.out.map s hsl true (by rw [HREL4.out.first.has]; exact hh)
            have HF := Lib.hid (HREL4.out.first.old hh)
            clear hh
            go_wp2_with fail
            go_quiet (fail)
            go_wp2
            have R := Lib.hid ((HREL4.out.drewN nq).noted ((HREL4.out.drewN nq).map.mono (Nat.le_succ _)) (World.grownBy.refl _ _) (by rw [HSK.out]; exact HF.out))
            refine ⟨⟨k + 1, _, _, by go_num, R.out⟩, by simp [intOf]; omega⟩
          · obtain ⟨cc, hlook⟩ := look_all HREL4.out.map s hsl false (by rw [HREL4.out.first.has]; exact hh)
            have HF := Lib.hid (HREL4.out.first.new (HREL4.out.map.tidy law9) hh)
            clear hh
            go_wp2_with fail
            go_quiet (fail)
            go_wp2
            obtain ⟨w5, hst5, hm5, ht5⟩ := World.ownsMap.store (w := W4.drewN (nq + 1)) HREL4.out.map law9 Try.underlying64 (by unfold maxLen; omega) hkey (plainElem_int Try.underlying3 (WalkArith.wf_i64 (n := (k : Int)) (by omega)))
            go_region
            have R := Lib.hid ((HREL4.out.drewN (nq + 1)).noted hm5 ht5.grown (by
              have h5 := HF.out
              rw [List.length_take, Nat.min_eq_left (by omega)] at h5
              rw [HSK.out]; exact h5))
            clear hst5 hm5 ht5
            go_wp2
            refine ⟨⟨k + 1, _, _, by go_num, R.out⟩, by simp [intOf]; omega⟩
    · have hkl : k = ps.length := by omega
      subst hkl
      have HALL := Lib.hid HREL.out.all
      have HNTK := Lib.hid (show names.take ps.length = names by rw [← HNP.out]; exact List.take_length)
      have HENV : Hid (PutEnv wr.heap.size ⟨w1.heap.size + 1, 0, none⟩ ⟨w1.heap.size + 1 + 1 + 1, 0, none⟩ w1.heap.size ps.length D names (.slice (some ⟨w1.heap.size + 1 + 1, 0, none⟩) ps.length ps.length) (ps.map normB) wr) := Lib.hid
        ⟨c8, c9, HREL.out.parts, HREL.out.map, by have := HREL.out.first; rwa [HNTK.out] at this, by rw [List.length_map]; exact HNP.out, Nat.le_refl _⟩
      have HWL := Lib.hid ((Nodes.of_own HO1.out).below HREL.out.below (Nat.le_refl _))
      have HJ3 := Lib.hid (show putM e names ps = (fillF (putP names (ps.map normB)) l).1 by rw [HJ.out, if_pos HALL.out])
      clear c8 c9
      go_wp2_with fail
      refine (filled_any _ l wr.heap.size _ _ _ _ _ _ _ _ _ HWL.out HENV.out HGOOD.out HSH.out hlE HR.out).mono ?_
      rintro r w5 ⟨v5, rfl, hown5, hb5⟩
      have hsw := HB.out.size
      have HO5 := Lib.hid (own_base hown5 hsw)
      have HB5 := Lib.hid (HB.out.trans (hb5.mono hsw))
      clear hown5 hb5
      go_wp2
      go_ret
      rw [HJ3.out]
      exact ⟨_, rfl, HO5.out, HB5.out⟩
end Go.Proofs.Ytmggedjolocgdaa.Tr
