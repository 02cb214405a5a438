/- The function Vars returns the names of Vars in an expression, in order, each once. Conditions: the slice is read as a list of nodes; each name is as long as a text may be. -/
import Derived.Test.YtmggedjolocgdaaTreeW
import Derived.Test.YtmggedjolocgdaaTreeOp
import Derived.Test.YtmggedjolocgdaaTreeT2
import Derived.Maps.OwnSet
import Derived.Maps.AppendAt
namespace Go.Proofs.Ytmggedjolocgdaa.Tr
open Go.ChangeShapes Go.WideShapes Go.ChangeAt Go.RowKit Go.Maps Go.WideMaps
set_option linter.unusedVariables false
set_option linter.unusedSimpArgs false

theorem law9 : Keyed Try.prog 9 := string_keyed Try.underlying9
theorem zero55 (w : World) : (zeroValue 55).run Try.prog w = .ok (.agg #[]) w := by kernel_rfl
theorem info9 : (Try.prog.info? 9).map (fun i => (i.zero, i.size, i.bytes)) = some (some (.string ⟨#[]⟩), 1, 16) := by kernel_rfl
/-- The set of some names. -/
def setN (l : List Bytes) : DataW Unit := setOf (.agg []) (l.map Lit.string)
theorem has_setN (l : List Bytes) (s : Bytes) : Maps.has (setN l) (.string s) = l.contains s := by
  unfold setN
  rw [has_setOf _ _ _ (fun y hy => by obtain ⟨_, _, rfl⟩ := List.mem_map.1 hy; trivial), List.any_map]
  induction l with
  | nil => rfl
  | cons a r ih =>
    rw [List.any_cons, List.contains_cons, ih]
    congr 1
    show (a == s) = (s == a)
    exact Bool.eq_iff_iff.2 ⟨fun h => by simp at h ⊢; exact h.symm, fun h => by simp at h ⊢; exact h.symm⟩
theorem key_name (s : Bytes) (h : s.length ≤ maxLen) : keyOf Try.prog 9 (.string (str s)) = some (.string s) := by
  rw [keyOf_string_mk Try.underlying9 (by rw [str_size]; exact h)]
  simp [str]
/-- What a call that hands back texts leaves. -/
def StrsPost (w : World) (l : List Bytes) (r : Ending) (w' : World) : Prop :=
  ∃ v, r = .returned v ∧ w'.ownsRow w.heap.size 9 1 v l.length (strsOf l) ∧ Below w.heap.size w w'
noncomputable def varsM (e : List Nd) : List Bytes := varsOf (normB e)

/-- The loop's relation: the names in the first nodes, as a list and as a set. -/
structure VarsRel (w : World) (ov : Value) (l : List Nd) (k : Nat) (wr : World) (nv : Value) : Prop where
  le : k ≤ l.length
  map : wr.ownsMap Try.prog 9 (unitElem (H := Unit)) w.heap.size k (setN (varsOf (l.take k)))
  row : wr.ownsRow (w.heap.size + 1) 9 1 nv (varsOf (l.take k)).length (strsOf (varsOf (l.take k)))
  nds : wr.ownsRow (w.heap.size + 1) 30 6 ov l.length (ndsOf l)
  below : Below w.heap.size w wr
  size : w.heap.size + 1 ≤ wr.heap.size
theorem vars_len_le (e : List Nd) (k : Nat) : (varsOf (e.take k)).length ≤ k := by
  have key : ∀ (l : List Nd) (acc : List Bytes), (l.foldl addName acc).length ≤ acc.length + l.length := by
    intro l
    induction l with
    | nil => intro acc; simp
    | cons a r ih =>
      intro acc
      rw [List.foldl_cons, List.length_cons]
      have h1 := ih (addName acc a)
      have h2 : (addName acc a).length ≤ acc.length + 1 := by
        unfold addName
        repeat' split
        all_goals simp
      omega
  have := key (e.take k) []
  unfold varsOf
  rw [List.length_take] at this
  simp at this; omega
theorem VarsRel.skip {w wr : World} {ov nv : Value} {l : List Nd} {k : Nat} {x : Nd} {o : Obj} (h : VarsRel w ov l k wr nv) (hx : l[k]? = some x) (ho : addName (varsOf (l.take k)) x = varsOf (l.take k)) : VarsRel w ov l (k + 1) (wr.alloc o) nv := by
  have hk := (List.getElem?_eq_some_iff.1 hx).1
  have e := varsOf_next l k x hx
  rw [ho] at e
  exact ⟨by omega, by rw [e]; exact (h.map.alloc _).mono (Nat.le_succ _), by rw [e]; exact h.row.alloc _, h.nds.alloc _, h.below.alloc (by have := h.below.size; omega) _, by have := h.size; simp; omega⟩
theorem VarsRel.alloc {w wr : World} {ov nv : Value} {l : List Nd} {k : Nat} (h : VarsRel w ov l k wr nv) (o : Obj) : VarsRel w ov l k (wr.alloc o) nv :=
  ⟨h.le, h.map.alloc _, h.row.alloc _, h.nds.alloc _, h.below.alloc (by have := h.below.size; omega) _, by have := h.size; simp; omega⟩
theorem VarsRel.step {w wr w1 w2 : World} {ov nv nv' : Value} {l : List Nd} {k : Nat} {x : Nd} {o : Obj} (h : VarsRel w ov l k wr nv) (hx : l[k]? = some x) (ho : x.op = 3) (hc : (varsOf (l.take k)).contains x.name = false)
    (hm : w1.ownsMap Try.prog 9 (unitElem (H := Unit)) w.heap.size (k + 1) ((setN (varsOf (l.take k))).put (.string x.name) (.agg []))) (hg1 : wr.grownBy w1 (some w.heap.size))
    (hrow : w2.ownsRow (w.heap.size + 1) 9 1 nv' ((varsOf (l.take k)).length + 1) (strsOf (varsOf (l.take k)) ++ [.string (str x.name)])) (hg2 : (w1.alloc o).grownBy w2 nv.ownBlock) : VarsRel w ov l (k + 1) w2 nv' := by
  have hk := (List.getElem?_eq_some_iff.1 hx).1
  have e : varsOf (l.take (k + 1)) = varsOf (l.take k) ++ [x.name] := by
    rw [varsOf_next l k x hx]; unfold addName; rw [if_pos ho, if_neg (by rw [hc]; simp)]
  have s1 := hg1.size
  have s2 := hg2.size
  simp at s2
  have hsz := h.size
  have nb : ∀ j, nv.ownBlock = some j → w.heap.size + 1 ≤ j := fun j hj => (h.row.lt j hj).1
  have r1 := h.row.kept hg1 (Or.inr (fun h' => by have := nb _ h'; omega))
  have n1 := h.nds.kept hg1 (Or.inr (fun h' => by have := (h.nds.lt _ h').1; omega))
  have hne := own_ne n1 r1 (by decide)
  refine ⟨by omega, ?_, ?_, ?_, ?_, by omega⟩
  · have e2 : setN (varsOf (l.take k) ++ [x.name]) = (setN (varsOf (l.take k))).put (.string x.name) (.agg []) := by
      unfold setN; rw [List.map_append, List.map_singleton, setOf_snoc]
    rw [e, e2]
    exact (hm.alloc _).kept hg2 (fun h' => by have := nb _ h'.symm; omega)
  · rw [e, strs_snoc, List.length_append]; exact hrow
  · refine (n1.alloc _).kept hg2 ?_
    cases hov : ov.ownBlock with
    | none => exact .inl rfl
    | some j => exact .inr (fun h' => hne j hov h'.symm)
  · exact ((h.below.grown hg1 (by omega) (fun j hj => by cases hj; exact Nat.le_refl _)).alloc (by omega) _).grown hg2 (by simp; omega) (fun j hj => by have := nb j hj; omega)

theorem cell_grown {wr w1 : World} {b t k : Nat} {cs : Array Value} {o : Obj} (hg : ((wr.alloc (.cells cs t)).alloc o).grownBy w1 (some b)) (hb : b < wr.heap.size) : w1.cell? ⟨wr.heap.size, k, none⟩ = cs[k]? := by
  have h := hg.block wr.heap.size (by simp; omega) (fun h => by injection h with h; omega)
  rw [Below.heap_alloc _ _ _ (by simp), heap_alloc_new] at h
  unfold World.cell?
  rw [h]; rfl
theorem VarsRel.row1 {w wr w1 : World} {ov nv : Value} {l : List Nd} {k : Nat} (h : VarsRel w ov l k wr nv) (hg1 : wr.grownBy w1 (some w.heap.size)) : w1.ownsRow (w.heap.size + 1) 9 1 nv (varsOf (l.take k)).length (strsOf (varsOf (l.take k))) :=
  h.row.kept hg1 (Or.inr (fun h' => by have := (h.row.lt _ h').1; omega))

set_option maxRecDepth 100000 in
set_option maxHeartbeats 1600000 in
theorem vars_any (v : Value) (e : List Nd) (w : World) (hv : Nodes w v e) (hsh : Short (normB e)) (hn : e.length ≤ 1000000) (hnn : (normB e).length ≤ 1000000) : Calls Try.prog 24 #[v] w (StrsPost w (varsM e)) := by
  have hmm := @run_makeMap Try.prog
  have HV := Lib.hid (hv.below (below_new w (.map #[] 0)) (Nat.le_refl _))
  obtain ⟨A, c, rfl, h1, h2, hA⟩ := hv
  clear hA
  unfold maxLen at h2
  obtain ⟨i0, hi, hz0, hz1, hz2⟩ := info_parts info9
  have HSH := Lib.hid hsh
  clear hsh
  go_enter Try.func24, Try.ntmps24
  go_wp2_with fail
  refine (sub_any _ e _ _ HV.out).mono ?_
  rintro r w2 ⟨ov, rfl, hown, hb⟩
  obtain ⟨l, hl⟩ : ∃ l, subM e ((e.length : Int) - 1) = l := ⟨_, rfl⟩
  have HL := Lib.hid (show varsM e = varsOf l by unfold varsM normB; rw [hl])
  rw [show normB e = l from hl] at HSH hnn
  rw [hl] at hown
  clear hl
  have hs2 := hb.size
  simp at hs2
  have HREL0 : Hid (VarsRel w ov l 0 w2 (.slice none 0 0)) := Lib.hid
    ⟨Nat.zero_le _, (World.ownsMap_made w Try.prog 9 _).kept ⟨hb.os, hb.tape, hb.output, hb.size, fun k hk _ => hb.block k hk⟩ (row := none) (by simp), World.ownsRow_nil _ _ _ _, by simpa using hown, (below_new w _).trans (hb.mono (by simp)), by omega⟩
  obtain ⟨A2, c2, rfl, y1, y2, _⟩ := Nodes.of_own hown
  unfold maxLen at y2
  clear hown hb
  go_wp2
  go_loopw [3, 16] (fun nv i wr => ∃ (k : Nat) (nv' : Value), nv' = nv ∧ i = .int .i64 k ∧ VarsRel w (.slice A2 l.length c2) l k wr nv') (fun _ i _ => l.length - (intOf i).toNat)
  case atStart => exact ⟨0, _, rfl, rfl, HREL0.out⟩
  case round =>
    obtain ⟨k, nv', rfl, rfl, hrel⟩ := hrel
    have hk := hrel.le
    have HREL := Lib.hid hrel
    have hs := hrel.size
    by_cases hlt : k < l.length
    · obtain ⟨x, hx⟩ : ∃ x, l[k]? = some x := ⟨_, List.getElem?_eq_getElem hlt⟩
      have hnds := Nodes.of_own hrel.nds
      obtain ⟨A', c', e1, _, _, hA⟩ := hnds
      obtain ⟨g, o, hgo, hg, a0, a1, a2, a3, a4, a5⟩ := hA k x hx
      simp only [Value.slice.injEq, true_and] at e1
      obtain ⟨rfl, rfl⟩ := e1
      subst hgo
      have hgw : g ≠ wr.heap.size := by omega
      have hsx := HSH.out x (List.mem_of_getElem? hx)
      have hkey := key_name x.name hsx
      have HX := Lib.hid hx
      clear hA hx hrel
      by_cases ho : x.op = 3
      · have HO := Lib.hid ho
        have ho' : (x.op != 3) = false := by simp [ho]
        clear ho
        have hlen := vars_len_le l k
        rcases Bool.eq_false_or_eq_true ((varsOf (l.take k)).contains x.name) with hc | hc
        · have hh : Maps.has (setN (varsOf (l.take k))) (.string x.name) = true := by rw [has_setN]; exact hc
          have HAN := Lib.hid (show addName (varsOf (l.take k)) x = varsOf (l.take k) by unfold addName; rw [if_pos HO.out, if_pos hc])
          clear hc
          go_wp2_with (at_lookup; refine wpList_lookup_own_unit _ rfl _ _ 54 rfl 9 55 law9 Try.underlying54 (zero55 _) w.heap.size k _ rfl (HREL.out.map.alloc _) _ _ rfl hkey ?_)
          refine ⟨⟨k + 1, _, rfl, by go_num, (HREL.out.skip HX.out HAN.out).alloc _⟩, by simp [intOf]; omega⟩
        · have hh : Maps.has (setN (varsOf (l.take k))) (.string x.name) = false := by rw [has_setN]; exact hc
          have HC := Lib.hid hc
          clear hc
          have hbne : w.heap.size ≠ wr.heap.size := by omega
          go_wp2_with (first
            | (at_lookup; refine wpList_lookup_own_unit _ rfl _ _ 54 rfl 9 55 law9 Try.underlying54 (zero55 _) w.heap.size k _ rfl (HREL.out.map.alloc _) _ _ rfl hkey ?_)
            | (at_mapUpdate; refine wpList_mapUpdate_own _ rfl _ _ _ 54 rfl 9 55 law9 Try.underlying54 (unitElem (H := Unit)) w.heap.size k _ rfl ((HREL.out.map.alloc _).alloc _) (by unfold maxLen; omega) _ _ _ rfl rfl hkey _ [] unitElem_mk ?_; intro w1 hown1 hgrow1; have cN := cell_grown (k := 5) hgrow1 (by omega); have sN := hgrow1.size; simp at cN sN)
            | (at_builtin; refine wpList_append_own _ rfl (.tmp 36) (.tmp 39) 36 rfl (w.heap.size + 1) 9 i0 (.string ⟨#[]⟩) 1 16 Try.underlying36 hi hz0 hz1 hz2 rfl (by decide) _ _ _ rfl ((((HREL.out.alloc _).alloc _).row1 hgrow1).alloc _) ⟨w1.heap.size, 0, none⟩ 1 1 [.string (str x.name)] rfl rfl ?a1 ?b1 ?c1 ?d1 ?e1 ?_))
          case a1 => exact cell_one_new _ _ _
          case b1 => first | rfl | (intro u hu; simp at hu; subst hu; rfl)
          case c1 => unfold maxLen; omega
          case d1 => omega
          case e1 => simp; omega
          intro v' w3 hown3 hgrow3 _
          have R := Lib.hid (((HREL.out.alloc _).alloc _).step HX.out HO.out HC.out hown1 hgrow1 hown3 hgrow3)
          clear hown3 hgrow3 hown1 hgrow1
          go_wp2
          refine ⟨⟨k + 1, _, rfl, by go_num, R.out⟩, by simp [intOf]; omega⟩
      · have ho' : (x.op != 3) = true := by simp [ho]
        have HAN := Lib.hid (show addName (varsOf (l.take k)) x = varsOf (l.take k) by unfold addName; rw [if_neg ho])
        clear ho
        go_wp2
        refine ⟨⟨k + 1, _, rfl, by go_num, HREL.out.skip HX.out HAN.out⟩, by simp [intOf]; omega⟩
    · have hkl : k = l.length := by omega
      subst hkl
      clear hrel
      go_wp2
      go_ret
      have h5 := HREL.out.row
      have h6 := HREL.out.below
      rw [List.take_length] at h5
      rw [HL.out]
      exact ⟨_, rfl, own_base h5 (Nat.le_succ _), h6⟩
end Go.Proofs.Ytmggedjolocgdaa.Tr
