/- Slices of expressions that a call lays; streams put in their own places. Conditions: the expression may be. -/
import Derived.Test.YtmggedjolocgdaaTreeT6
namespace Go.Proofs.Ytmggedjolocgdaa.Tr
open Go.ChangeShapes Go.WideShapes Go.ChangeAt Go.RowKit
set_option linter.unusedVariables false
set_option linter.unusedSimpArgs false

/-- The loop's relation: the first expressions are laid. -/
structure RowsRel (w2 : World) (ls : List (List Nd)) (k : Nat) (wr : World) (ov : Value) (vs : List Value) : Prop where
  le : k ≤ ls.length
  vlen : vs.length = k
  row : wr.ownsRow w2.heap.size 23 1 ov k vs
  nds : ∀ (j : Nat) v q, vs[j]? = some v → ls[j]? = some q → wr.ownsRow w2.heap.size 30 6 v q.length (ndsOf q)
  below : Below w2.heap.size w2 wr
theorem RowsRel.start (w2 : World) (ls : List (List Nd)) : RowsRel w2 ls 0 w2 (.slice none 0 0) [] := ⟨Nat.zero_le _, rfl, World.ownsRow_nil _ _ _ _, fun j v q h => by simp at h, Below.refl _ _⟩
theorem RowsRel.kept {w2 wr w' : World} {ls : List (List Nd)} {k : Nat} {ov : Value} {vs : List Value} (h : RowsRel w2 ls k wr ov vs) (hb : Below wr.heap.size wr w') : RowsRel w2 ls k w' ov vs :=
  ⟨h.le, h.vlen, own_below h.row hb, fun j v q hv hq => own_below (h.nds j v q hv hq) hb, h.below.trans (hb.mono h.below.size)⟩
theorem RowsRel.step {w2 wr wj w4 : World} {ls : List (List Nd)} {k : Nat} {ov ov' v : Value} {vs : List Value} {q : List Nd} {o : Obj} (h : RowsRel w2 ls k wr ov vs) (hb : Below wr.heap.size wr wj) (hv : wj.ownsRow wr.heap.size 30 6 v q.length (ndsOf q)) (hq : ls[k]? = some q)
    (hrow : w4.ownsRow w2.heap.size 23 1 ov' (k + 1) (vs ++ [v])) (hg : (wj.alloc o).grownBy w4 ov.ownBlock) : RowsRel w2 ls (k + 1) w4 ov' (vs ++ [v]) := by
  have hk := (List.getElem?_eq_some_iff.1 hq).1
  have h3 := h.kept hb
  have hs := h.below.size
  have hs3 := hb.size
  have hs4 := hg.size
  simp at hs4
  have hvl := h.vlen
  have keep : ∀ {b n : Nat} {u : Value} {xs : List Value}, wj.ownsRow b 30 6 u n xs → w4.ownsRow b 30 6 u n xs := fun {b n u xs} hu => own_block hu (fun g hgb => by
    rw [hg.block g (by have := (hu.lt g hgb).2; simp; omega) (fun h' => own_ne hu h3.row (by decide) g hgb h'.symm), Below.heap_alloc _ _ _ (hu.lt g hgb).2])
  refine ⟨by omega, by rw [List.length_append, hvl]; rfl, hrow, fun j u r hj hr => ?_, (h3.below.alloc (by omega) _).grown hg (by simp; omega) (fun j hj => (h3.row.lt j hj).1)⟩
  by_cases hjk : j < k
  · rw [List.getElem?_append_left (by omega)] at hj
    exact keep (h3.nds j u r hj hr)
  · have hjk2 : j = k := by have := (List.getElem?_eq_some_iff.1 hj).1; simp at this; omega
    subst hjk2
    rw [List.getElem?_append_right (by omega), hvl, Nat.sub_self] at hj
    simp at hj
    subst hj
    rw [hq] at hr
    simp at hr
    subst hr
    exact own_base (keep hv) (by omega)
theorem RowsRel.parts {w2 wr : World} {ls : List (List Nd)} {ov : Value} {vs : List Value} (h : RowsRel w2 ls ls.length wr ov vs) : Parts wr wr.heap.size ov ls := by
  have hv := h.vlen
  rcases h.row.2 with ⟨rfl, h0⟩ | ⟨g, cap, cur, rfl, hb, hh, hnc, hcm, hcs, hct⟩
  · have : ls = [] := List.length_eq_zero_iff.1 h0
    subst this
    exact ⟨none, 0, rfl, by simp, by unfold maxLen; omega, fun i t h => by simp at h⟩
  · refine ⟨some ⟨g, 0, none⟩, cap, rfl, hnc, hcm, fun j l hj => ?_⟩
    have hjl := (List.getElem?_eq_some_iff.1 hj).1
    obtain ⟨u, hu⟩ : ∃ u, vs[j]? = some u := ⟨_, List.getElem?_eq_getElem (by omega)⟩
    have hn := Nodes.of_own (h.nds j u l hu hj)
    have hc := h.row.cellAt j (by omega)
    rw [hu] at hc
    exact ⟨g, 0, u, rfl, lt_of_block hh, lt_of_block hh, by rw [Nat.zero_add]; exact hc, hn, nodes_low hn⟩
/-- A stream by itself. -/
def leafL (s : Bytes) : List Nd := [mkL ⟨3, 0, s⟩ []]
theorem join_var (s : Bytes) : joinM 3 0 s [] = leafL s := by
  unfold joinM leafL
  have : kidsM (overM 3 0 s []) = [] := kids_none (by rfl) (by show (3 : Int) ≠ 26; decide) (by show (3 : Int) ≠ 27; decide) (by show (3 : Int) ≠ 28; decide) (by rfl)
  rw [this]
  simp [layF, overM, mkL]
theorem may_leaf (s : Bytes) (hs : s ≠ []) : May (leafL s) ∧ root (leafL s) = .l0 ⟨3, 0, s⟩ := by
  have hok : (T.l0 ⟨3, 0, s⟩).okB = true := by
    simp [T.okB, plainB, fitsB, unaryB, binaryB, hs]
  exact ⟨may_flat (.l0 ⟨3, 0, s⟩) hok (by simp [T.lab]) (by simp [T.size]) (by simp [T.depth]), root_flat (.l0 ⟨3, 0, s⟩) hok⟩
theorem plain_name {x : Lab} (h : plainB x = true) (ho : x.op = 3) : x.n = 0 ∧ x.name ≠ [] := by
  unfold plainB at h
  rw [ho] at h
  simp only [Bool.and_eq_true, decide_eq_true_eq, beq_iff_eq] at h
  obtain ⟨⟨⟨_, h2⟩, h3⟩, h4⟩ := h
  refine ⟨?_, ?_⟩
  · simp at h4; omega
  · intro he; rw [he] at h2; simp at h2
/-- Streams that are put in their own places change nothing but the order. -/
theorem put_self {a : List Nd} (ha : May a) : putM a (varsM a) ((varsM a).map leafL) = normB a := by
  have hne : ∀ s ∈ varsM a, s ≠ [] := fun s hs => by
    obtain ⟨x, hx, ho, rfl⟩ := (name_mem ha s).1 hs
    exact (plain_name (ok_labs _ ha.root_ok x hx) ho).2
  have hps : ∀ p ∈ (varsM a).map leafL, May p := fun p hp => by
    rw [List.mem_map] at hp
    obtain ⟨s, hs, rfl⟩ := hp
    exact (may_leaf s (hne s hs)).1
  rw [putM_flat ha _ _ (by simp) hps (fun p hp => by rw [List.mem_map] at hp; obtain ⟨s, _, rfl⟩ := hp; simp [leafL]), norm_eq ha, put_same]
  · rfl
  intro x hx
  cases hf : putF (varsM a) ((varsM a).map leafL) x with
  | none => exact .inl rfl
  | some u =>
    right
    have ho := putF_op _ _ _ _ hf
    obtain ⟨hn, hnm⟩ := plain_name (ok_labs _ ha.root_ok x hx) ho
    unfold putF at hf
    rw [if_pos ho] at hf
    cases hp : placeM (varsM a) x.name with
    | none => rw [hp] at hf; simp at hf
    | some k =>
      rw [hp] at hf
      have hk := place_some _ _ _ hp
      simp only [List.getElem?_map, hk, Option.map_some, Option.some.injEq] at hf
      rw [(may_leaf x.name hnm).2] at hf
      rw [← hf]
      congr 2
      obtain ⟨o, n, s⟩ := x
      simp only at ho hn
      subst ho hn; rfl
theorem room_all (ps : List (List Nd)) (m : Nat) (h : ∀ p ∈ ps, p.length ≤ m) : roomM ps ≤ ps.length * (m + 1) := by
  unfold roomM
  induction ps with
  | nil => simp
  | cons a r ih =>
    have h1 := ih (fun p hp => h p (by simp [hp]))
    have h2 := h a (by simp)
    rw [List.map_cons, List.sum_cons, List.length_cons, Nat.add_mul, Nat.one_mul]
    omega
theorem ints_lit2 (u v : Value) (l m : List Int) (b : Bool) (w : World) (hu : Ints w u l) (hv : Ints w v m) (h : decide (l = m) = b) : Calls Try.prog 13 #[u, v] w fun e w' => e = .returned (.bool b) ∧ ∃ n, w' = w.drewN n := by rw [← h]; exact ints_any u v l m w hu hv
theorem rdepth_lit (v : Value) (e : List Nd) (d : Nat) (w : World) (hv : Nodes w v e) (hn : e.length ≤ 100000) (h : depthM e = d) : Calls Try.prog 19 #[v] w fun r w' => r = .returned (.int .i64 (d : Int)) ∧ Below w.heap.size w w' := by rw [← h]; exact rdepth_any v e w hv hn
end Go.Proofs.Ytmggedjolocgdaa.Tr
