/- The queue in memory: the rows of those that wait, the counts, the heap of those that are free; what each step leaves of it. Conditions: none. Layer sched: an operator is counted as taken. Conditions: the queue lies in memory; at most 1000 operators. -/
import Derived.Test.YtcphjehjdhgheaaNhE
import Derived.Test.YtcphjehjdhgheaaNtP
namespace Go.Proofs.Ytcphjehjdhgheaa.Nt
open Go.ChangeShapes Go.WideShapes Go.ChangeAt Go.RowKit Go.Proofs.Ytcphjehjdhgheaa.Tr
set_option linter.unusedVariables false
set_option linter.unusedSimpArgs false

abbrev nilS : Value := .slice none 0 0
abbrev rowV (g n : Nat) : Value := .slice (some ⟨g, 0, none⟩) n n
structure QAt (w : World) (base B gw gc n : Nat) (vr : Value) (wv : Nat → Value) (WL : Nat → List Nat) (C H : List Int) : Prop where
  hp : HpAt w base B (rowV gw n) (rowV gc n) vr H
  wrow : w.ownsRow base 23 1 (rowV gw n) n ((List.range n).map wv)
  wl : ∀ i, i < n → w.ownsRow base 3 1 (wv i) (WL i).length (intsOf (natI (WL i)))
  cnt : w.ownsRow base 3 1 (rowV gc n) n (intsOf C)
  clen : C.length = n
  lo : base ≤ B ∧ base ≤ w.heap.size
  s1 : vr.ownBlock ≠ some gc
  s2 : ∀ i, i < n → (wv i).ownBlock ≠ some gc
  s3 : ∀ i k, i < n → (wv i).ownBlock = some k → vr.ownBlock ≠ some k
  s4 : ∀ i j k, i < n → j < n → i ≠ j → (wv i).ownBlock = some k → (wv j).ownBlock ≠ some k
section
variable {w w' : World} {base B gw gc n : Nat} {vr : Value} {wv : Nat → Value} {WL : Nat → List Nat} {C H : List Int}
/-- Which blocks the queue lies in. -/
def Qb (B gw gc n : Nat) (vr : Value) (wv : Nat → Value) (k : Nat) : Prop := k = B ∨ k = gw ∨ k = gc ∨ vr.ownBlock = some k ∨ ∃ i, i < n ∧ (wv i).ownBlock = some k
theorem QAt.row_ne (h : QAt w base B gw gc n vr wv WL C H) {k : Nat} {cs : Array Value} (hc : w.heap[k]? = some (.cells cs 3 (0, 0))) : k ≠ B ∧ k ≠ gw := by
  refine ⟨fun e => ?_, fun e => ?_⟩
  · subst e; have := h.hp.row.cell; rw [hc] at this; simp at this
  · subst e
    obtain ⟨cs', hc'⟩ := own_cells h.wrow (k := k) rfl
    rw [hc] at hc'; simp at hc'
theorem QAt.gc_ne (h : QAt w base B gw gc n vr wv WL C H) : gc ≠ B ∧ gc ≠ gw := by
  obtain ⟨cs, hc⟩ := own_cells h.cnt (k := gc) rfl
  exact h.row_ne hc
theorem QAt.vr_ne (h : QAt w base B gw gc n vr wv WL C H) {k : Nat} (hk : vr.ownBlock = some k) : k ≠ B ∧ k ≠ gw := by
  obtain ⟨cs, hc⟩ := own_cells h.hp.row.own hk
  exact h.row_ne hc
theorem QAt.w_ne (h : QAt w base B gw gc n vr wv WL C H) {i k : Nat} (hi : i < n) (hk : (wv i).ownBlock = some k) : k ≠ B ∧ k ≠ gw := by
  obtain ⟨cs, hc⟩ := own_cells (h.wl i hi) hk
  exact h.row_ne hc
theorem QAt.B_ne (h : QAt w base B gw gc n vr wv WL C H) : B ≠ gw := by
  intro e
  obtain ⟨cs', hc'⟩ := own_cells h.wrow (k := gw) rfl
  have := h.hp.row.cell
  rw [e, hc'] at this; simp at this
theorem QAt.lts (h : QAt w base B gw gc n vr wv WL C H) : B < w.heap.size ∧ gw < w.heap.size ∧ gc < w.heap.size := ⟨h.hp.row.lt, (h.wrow.lt gw rfl).2, (h.cnt.lt gc rfl).2⟩
theorem some_nat {a b : Nat} (h : (Value.slice (some ⟨a, 0, none⟩) n n).ownBlock = some b) : a = b := by
  have e : some a = some b := h
  injection e
/-- All its blocks stay: it stays. -/
theorem QAt.keep (h : QAt w base B gw gc n vr wv WL C H) (hs : w.heap.size ≤ w'.heap.size) (hk : ∀ k, k < w.heap.size → Qb B gw gc n vr wv k → w'.heap[k]? = w.heap[k]?) : QAt w' base B gw gc n vr wv WL C H := by
  obtain ⟨l1, l2, l3⟩ := h.lts
  exact ⟨⟨⟨(hk B l1 (.inl rfl)).trans h.hp.row.cell, own_block h.hp.row.own (fun k e => hk k (h.hp.row.ne k e).2 (.inr (.inr (.inr (.inl e)))))⟩, h.hp.heap⟩,
    own_block h.wrow (fun k e => by rw [← some_nat e]; exact hk gw l2 (.inr (.inl rfl))), fun i hi => own_block (h.wl i hi) (fun k e => hk k ((h.wl i hi).lt k e).2 (.inr (.inr (.inr (.inr ⟨i, hi, e⟩))))),
    own_block h.cnt (fun k e => by rw [← some_nat e]; exact hk gc l3 (.inr (.inr (.inl rfl)))), h.clen, ⟨h.lo.1, by have := h.lo.2; omega⟩, h.s1, h.s2, h.s3, h.s4⟩
theorem QAt.below (h : QAt w base B gw gc n vr wv WL C H) (hb : Below w.heap.size w w') : QAt w' base B gw gc n vr wv WL C H := h.keep hb.size (fun k hk _ => hb.block k hk)
/-- For how many one waits is counted anew. -/
theorem QAt.cntSet (h : QAt w base B gw gc n vr wv WL C H) (k : Nat) (x : Int) : QAt (w.setCell ⟨gc, k, none⟩ (.int .i64 x)) base B gw gc n vr wv WL (C.set k x) H := by
  have st : ∀ j, j ≠ gc → (w.setCell ⟨gc, k, none⟩ (.int .i64 x)).heap[j]? = w.heap[j]? := fun j hj => Below.heap_setCell _ _ _ _ hj
  obtain ⟨n1, n2⟩ := h.gc_ne
  refine ⟨⟨⟨(st B n1.symm).trans h.hp.row.cell, own_block h.hp.row.own (fun j e => st j (fun e2 => h.s1 (e2 ▸ e)))⟩, h.hp.heap⟩, own_block h.wrow (fun j e => by rw [← some_nat e]; exact st gw n2.symm),
    fun i hi => own_block (h.wl i hi) (fun j e => st j (fun e2 => h.s2 i hi (e2 ▸ e))), ?_, by rw [List.length_set]; exact h.clen, ⟨h.lo.1, by have := h.lo.2; simpa using this⟩, h.s1, h.s2, h.s3, h.s4⟩
  rw [intsOf_set]
  exact (h.cnt.stored k (.int .i64 x)).1
/-- The heap has turned; its row is the old one or a new one. -/
theorem QAt.heap (h : QAt w base B gw gc n vr wv WL C H) {vr' : Value} {H' : List Int} (hp : HpAt w' base B (rowV gw n) (rowV gc n) vr' H') (hv : vr'.ownBlock = vr.ownBlock ∨ ∀ k, vr'.ownBlock = some k → w.heap.size ≤ k) (hk : Kp (fun i => i = B ∨ vr.ownBlock = some i) w w') :
    QAt w' base B gw gc n vr' wv WL C H' := by
  have st : ∀ k, k < w.heap.size → k ≠ B → vr.ownBlock ≠ some k → w'.heap[k]? = w.heap[k]? := fun k h1 h2 h3 => hk.block k h1 (fun e => e.elim h2 h3)
  obtain ⟨l1, l2, l3⟩ := h.lts
  have new : ∀ k, k < w.heap.size → vr.ownBlock ≠ some k → vr'.ownBlock ≠ some k := fun k h1 h2 e => by
    rcases hv with hv | hv
    · exact h2 (hv ▸ e)
    · have := hv k e; omega
  refine ⟨hp, own_block h.wrow (fun k e => ?_), fun i hi => own_block (h.wl i hi) (fun k e => st k ((h.wl i hi).lt k e).2 (h.w_ne hi e).1 (h.s3 i k hi e)), own_block h.cnt (fun k e => ?_), h.clen, ⟨h.lo.1, by have := h.lo.2; have := hk.size; omega⟩,
    new gc l3 h.s1, h.s2, fun i k hi e => new k ((h.wl i hi).lt k e).2 (h.s3 i k hi e), h.s4⟩
  · rw [← some_nat e]; exact st gw l2 h.B_ne.symm (fun e2 => (h.vr_ne e2).2 rfl)
  · rw [← some_nat e]; exact st gc l3 h.gc_ne.1 h.s1
/-- One more waits: the row has grown, and stands in its place. -/
theorem QAt.waitPut (h : QAt w base B gw gc n vr wv WL C H) {wa w1 : World} (hb : Below w.heap.size w wa) {s : Nat} (hs : s < n) (i : Nat) {g1 c1 : Nat}
    (hown : w1.ownsRow base 3 1 (.slice (some ⟨g1, 0, none⟩) ((WL s).length + 1) c1) ((WL s).length + 1) (intsOf (natI (WL s)) ++ [.int .i64 (i : Int)])) (hg : wa.grownBy w1 (wv s).ownBlock) (hat : (wv s).ownBlock = some g1 ∨ g1 = wa.heap.size) :
    QAt (w1.setCell ⟨gw, s, none⟩ (.slice (some ⟨g1, 0, none⟩) ((WL s).length + 1) c1)) base B gw gc n vr (fun x => if x = s then .slice (some ⟨g1, 0, none⟩) ((WL s).length + 1) c1 else wv x) (fun x => if x = s then WL s ++ [i] else WL x) C H := by
  obtain ⟨l1, l2, l3⟩ := h.lts
  have hz := hb.size
  have hz1 := hg.size
  have st1 : ∀ k, k < w.heap.size → (wv s).ownBlock ≠ some k → w1.heap[k]? = w.heap[k]? := fun k h1 h2 => (hg.block k (by omega) (fun e => h2 e.symm)).trans (hb.block k h1)
  have st : ∀ k, k < w.heap.size → (wv s).ownBlock ≠ some k → k ≠ gw → (w1.setCell ⟨gw, s, none⟩ (.slice (some ⟨g1, 0, none⟩) ((WL s).length + 1) c1)).heap[k]? = w.heap[k]? := fun k h1 h2 h3 => (Below.heap_setCell _ _ _ _ h3).trans (st1 k h1 h2)
  have hg1 : ∃ cs, w1.heap[g1]? = some (.cells cs 3 (0, 0)) := own_cells hown (k := g1) rfl
  have hwr1 : w1.heap[gw]? = w.heap[gw]? := st1 gw l2 (fun e => (h.w_ne hs e).2 rfl)
  have hg1w : g1 ≠ gw := fun e => by
    obtain ⟨cs, hc⟩ := hg1
    obtain ⟨cs', hc'⟩ := own_cells h.wrow (k := gw) rfl
    rw [e, hwr1, hc'] at hc; simp at hc
  have far : ∀ k, k < w.heap.size → (wv s).ownBlock ≠ some k → g1 ≠ k := fun k h1 h2 e => by
    rcases hat with e2 | e2
    · exact h2 (e ▸ e2)
    · omega
  have ob : (Value.slice (some ⟨g1, 0, none⟩) ((WL s).length + 1) c1).ownBlock = some g1 := rfl
  have w0 : w1.ownsRow base 23 1 (rowV gw n) n ((List.range n).map wv) := own_block h.wrow (fun k e => by rw [← some_nat e]; exact hwr1)
  refine ⟨⟨⟨(st B l1 (fun e => (h.w_ne hs e).1 rfl) h.B_ne).trans h.hp.row.cell, own_block h.hp.row.own (fun k e => st k (h.hp.row.ne k e).2 (fun e2 => h.s3 s k hs e2 e) (h.vr_ne e).2)⟩, h.hp.heap⟩, ?_, fun x hx => ?_, own_block h.cnt (fun k e => ?_), h.clen, ⟨h.lo.1, by have := h.lo.2; simp; omega⟩, h.s1, fun x hx => ?_, fun x k hx hk => ?_, fun x y k hx hy hxy hk => ?_⟩
  · have := (w0.stored s (.slice (some ⟨g1, 0, none⟩) ((WL s).length + 1) c1)).1
    have e : ((List.range n).map wv).set s (.slice (some ⟨g1, 0, none⟩) ((WL s).length + 1) c1) = (List.range n).map fun x => if x = s then .slice (some ⟨g1, 0, none⟩) ((WL s).length + 1) c1 else wv x := by
      refine List.ext_getElem? (fun j => ?_)
      rw [List.getElem?_set, List.getElem?_map, List.getElem?_map, List.length_map, List.length_range]
      by_cases hj : j < n
      · rw [List.getElem?_range hj]
        by_cases e : s = j
        · subst e; rw [if_pos rfl, if_pos hj]; simp
        · rw [if_neg e]; simp [Ne.symm e]
      · rw [List.getElem?_eq_none (by simpa using hj)]
        by_cases e : s = j
        · omega
        · rw [if_neg e]; rfl
    rw [e] at this; exact this
  · show World.ownsRow _ base 3 1 (if x = s then _ else wv x) (if x = s then WL s ++ [i] else WL x).length (intsOf (natI (if x = s then WL s ++ [i] else WL x)))
    by_cases hxs : x = s
    · rw [if_pos hxs, if_pos hxs]
      have e1 : (WL s ++ [i]).length = (WL s).length + 1 := by simp
      have e2 : intsOf (natI (WL s ++ [i])) = intsOf (natI (WL s)) ++ [.int .i64 (i : Int)] := by unfold natI intsOf; simp
      rw [e1, e2]
      exact own_block hown (fun k e => by
        rw [ob] at e; injection e with e; subst e
        exact Below.heap_setCell _ _ _ _ hg1w)
    · rw [if_neg hxs, if_neg hxs]
      exact own_block (h.wl x hx) (fun k e => st k ((h.wl x hx).lt k e).2 (h.s4 x s k hx hs hxs e) (h.w_ne hx e).2)
  · rw [← some_nat e]; exact st gc l3 (h.s2 s hs) h.gc_ne.2
  · show (if x = s then _ else wv x : Value).ownBlock ≠ some gc
    by_cases hxs : x = s
    · rw [if_pos hxs, ob]
      intro e; injection e with e
      exact far gc l3 (h.s2 s hs) e
    · rw [if_neg hxs]; exact h.s2 x hx
  · have hk : (if x = s then (Value.slice (some ⟨g1, 0, none⟩) ((WL s).length + 1) c1) else wv x).ownBlock = some k := hk
    by_cases hxs : x = s
    · rw [if_pos hxs, ob] at hk
      injection hk with hk
      subst hk
      intro e
      exact far g1 (h.hp.row.ne g1 e).2 (fun e2 => h.s3 s g1 hs e2 e) rfl
    · rw [if_neg hxs] at hk; exact h.s3 x k hx hk
  · have hk : (if x = s then (Value.slice (some ⟨g1, 0, none⟩) ((WL s).length + 1) c1) else wv x).ownBlock = some k := hk
    show (if y = s then (Value.slice (some ⟨g1, 0, none⟩) ((WL s).length + 1) c1) else wv y).ownBlock ≠ some k
    by_cases hxs : x = s
    · rw [if_pos hxs, ob] at hk
      injection hk with hk
      subst hk
      rw [if_neg (fun e => hxy (hxs.trans e.symm))]
      intro e
      exact far g1 ((h.wl y hy).lt g1 e).2 (h.s4 y s g1 hy hs (fun e3 => hxy (hxs.trans e3.symm)) e) rfl
    · rw [if_neg hxs] at hk
      by_cases hys : y = s
      · rw [if_pos hys, ob]
        intro e; injection e with e
        exact far k ((h.wl x hx).lt k hk).2 (h.s4 x s k hx hs hxs hk) e
      · rw [if_neg hys]; exact h.s4 x y k hx hy hxy hk
/-- The queue, copied into another block. -/
theorem QAt.copy (h : QAt w base B gw gc n vr wv WL C H) : QAt (w.alloc (.cells #[rowV gw n, rowV gc n, vr] 85)) base w.heap.size gw gc n vr wv WL C H := by
  have h1 := h.below (below_new w (.cells #[rowV gw n, rowV gc n, vr] 85))
  exact ⟨⟨⟨heap_alloc_new _ _, h1.hp.row.own⟩, h1.hp.heap⟩, h1.wrow, h1.wl, h1.cnt, h1.clen, ⟨h.lo.2, h1.lo.2⟩, h1.s1, h1.s2, h1.s3, h1.s4⟩
/-- What a step of the queue leaves. -/
def QKp (w w' : World) (B gc : Nat) (vr vr' : Value) : Prop := Kp (fun k => k = B ∨ k = gc ∨ vr.ownBlock = some k) w w' ∧ (vr'.ownBlock = vr.ownBlock ∨ ∀ k, vr'.ownBlock = some k → w.heap.size ≤ k)
theorem QKp.refl (w : World) (B gc : Nat) (vr : Value) : QKp w w B gc vr vr := ⟨Kp.refl _ _, .inl rfl⟩
theorem QKp.set {k : Nat} {u : Value} {vr' : Value} (h : QKp w w' B gc vr vr') : QKp w (w'.setCell ⟨gc, k, none⟩ u) B gc vr vr' := ⟨h.1.setCell (A := fun k => k = B ∨ k = gc ∨ vr.ownBlock = some k) (p := ⟨gc, k, none⟩) (.inr (.inl rfl)) u, h.2⟩
theorem QKp.push {w1 w2 : World} {v1 v2 : Value} (h : QKp w w1 B gc vr v1) (hk : Kp (fun i => i = B ∨ v1.ownBlock = some i) w1 w2) (hv : v2.ownBlock = v1.ownBlock ∨ ∀ k, v2.ownBlock = some k → w1.heap.size ≤ k) : QKp w w2 B gc vr v2 := by
  refine ⟨h.1.trans2 hk (fun i hi e => ?_), ?_⟩
  · rcases e with e | e
    · exact .inl e
    · rcases h.2 with h2 | h2
      · exact .inr (.inr (h2 ▸ e))
      · have := h2 i e; omega
  · rcases hv with hv | hv
    · rw [hv]; exact h.2
    · right; intro k hk'; have := hv k hk'; have := h.1.size; omega
end
end Go.Proofs.Ytcphjehjdhgheaa.Nt

namespace Go.Proofs.Ytcphjehjdhgheaa.Nt
open Go.ChangeShapes Go.WideShapes Go.ChangeAt Go.RowKit Go.Proofs.Ytcphjehjdhgheaa.Tr
set_option linter.unusedVariables false
set_option linter.unusedSimpArgs false

theorem filter_len (n : Nat) (p : Nat → Bool) : ((List.range n).filter p).length ≤ n := by have := List.length_filter_le p (List.range n); simpa using this
theorem natI_len (l : List Nat) : (natI l).length = l.length := by unfold natI; simp
def TookPost (w : World) (base B gw gc : Nat) (vr : Value) (wv : Nat → Value) (G : Gr) (t : List Nat) (e : Ending) (w' : World) : Prop :=
  e = .returned (.tuple #[]) ∧ ∃ vr' H', QAt w' base B gw gc G.n vr' wv (wlA G) (cntA G t) H' ∧ H'.Perm (natI ((List.range G.n).filter (freeB G t))) ∧ QKp w w' B gc vr vr'
theorem wt_le {G : Gr} (hG : ∀ j, (G.nd j).length ≤ 3) (t wl : List Nat) (p j : Nat) : wtP G t wl p j ≤ 3 := by
  unfold wtP wt
  have := List.length_filter_le (fun k => !t.contains k) (G.nd j)
  have := hG j
  omega
set_option maxRecDepth 100000 in
set_option maxHeartbeats 8000000 in
theorem took_any (w : World) (base B gw gc : Nat) (vr : Value) (wv : Nat → Value) (G : Gr) (hG : ∀ j, (G.nd j).length ≤ 3) (t : List Nat) (i : Nat) (H : List Int)
    (h : QAt w base B gw gc G.n vr wv (wlA G) (cntA G t) H) (hv : Valid G t) (hi : i < G.n) (hf : freeB G t i = true) (hH : H.Perm (natI (rdP G t i (wlA G i) 0))) (hn : G.n ≤ 1000) :
    Calls Try.prog 49 #[.pointer (some ⟨B, 0, none⟩), .int .i64 (i : Int)] w (TookPost w base B gw gc vr wv G (t ++ [i])) := by
  have hit := (free_iff.1 hf).1
  have hL4 : (wlA G i).length ≤ 4000 := by have := wlP_len G hG G.n 0 i; unfold wlA; omega
  obtain ⟨n, hnn⟩ : ∃ n, G.n = n := ⟨_, rfl⟩
  have HG3 := Lib.hid hG
  have HV := Lib.hid hv
  have HF := Lib.hid hf
  have HNN := Lib.hid hnn
  obtain ⟨L, hL⟩ : ∃ L, (wlA G i).length = L := ⟨_, rfl⟩
  have HL := Lib.hid hL
  rw [hL] at hL4
  have HPS : Hid (∀ vr' (H' : List Int) W, QAt W base B gw gc G.n vr' wv (wlA G) (cntA G (t ++ [i])) H' → H'.Perm (natI ((List.range G.n).filter (freeB G (t ++ [i])))) → QKp w W B gc vr vr' → TookPost w base B gw gc vr wv G (t ++ [i]) (.returned (.tuple #[])) W) := Lib.hid (fun vr' H' W h1 h2 h3 => ⟨rfl, vr', H', h1, h2, h3⟩)
  rw [hnn] at h hi hn HPS
  have HQ0 := Lib.hid h
  have HH := Lib.hid hH
  have HIT := Lib.hid hit
  have hcB := h.hp.row.cell
  have k0 : w.cell? ⟨B, 0, none⟩ = some (rowV gw n) := by simp [World.cell?, hcB]
  have cw := (h.wrow.cellAt i (by omega)).trans (show ((List.range n).map wv)[i]? = some (wv i) by rw [List.getElem?_map, List.getElem?_range hi]; rfl)
  have hgl := h.lts.2.1
  obtain ⟨A3, c3, e3, z1, z2⟩ := ints_form (Ints.of_own (l := natI (wlA G i)) (by rw [natI_len]; exact h.wl i hi))
  rw [natI_len, hL] at e3 z1
  rw [e3] at cw
  have HE3 := Lib.hid e3
  unfold maxLen at z2
  clear h hv hf hH hit hcB e3 hnn hL hG
  go_enter Try.func49, Try.ntmps49
  go_wp2_with fail
  go_loopw [14] (fun vi wr => ∃ (p : Nat) (vr' : Value) (H' : List Int), p ≤ L ∧ vi = .int .i64 (p : Int) ∧ QAt wr base B gw gc n vr' wv (wlA G) (cntT G t (wlA G i) p) H' ∧ H'.Perm (natI (rdP G t i (wlA G i) p)) ∧ QKp w wr B gc vr vr') (fun vi _ => L - (intOf vi).toNat)
  case atStart => exact ⟨0, vr, H, Nat.zero_le _, rfl, by rw [cntT_zero]; exact HQ0.out, HH.out, QKp.refl _ _ _ _⟩
  case round =>
    obtain ⟨p, vr', H', hp, rfl, hq, hpm, hkp⟩ := hrel
    have HQ := Lib.hid hq
    have HP := Lib.hid hpm
    have HK := Lib.hid hkp
    by_cases hpl : p < L
    · obtain ⟨k, hk⟩ : ∃ k, (wlA G i)[p]? = some k := ⟨_, List.getElem?_eq_getElem (by rw [HL.out]; exact hpl)⟩
      have hkn : k < n := by have := (wlA_mem (List.mem_of_getElem? hk)).1; rw [HNN.out] at this; exact this
      have hk2 : (natI (wlA G i))[p]? = some (k : Int) := by unfold natI; rw [List.getElem?_map, hk]; rfl
      have hwi := Ints.of_own (l := natI (wlA G i)) (by rw [natI_len]; exact hq.wl i hi)
      rw [HE3.out] at hwi
      obtain ⟨g, o, rfl, hg, d0⟩ := ints_at hwi hk2
      have hx0 := wtP_pos (G := G) (t := t) HIT.out hk
      obtain ⟨x, hx⟩ : ∃ x, wtP G t (wlA G i) p k = x := ⟨_, rfl⟩
      have hx3 := wt_le HG3.out t (wlA G i) p k
      rw [hx] at hx0 hx3
      have cc := (hq.cnt.cellAt k (by omega)).trans (intsOf_get _ k _ (cntT_at (G := G) (t := t) (wl := wlA G i) (p := p) (by rw [HNN.out]; exact hkn)))
      rw [hx] at cc
      have fc := hq.cnt.frozenAt k
      have hcB2 := hq.hp.row.cell
      have b1 : wr.cell? ⟨B, 1, none⟩ = some (rowV gc n) := by simp [World.cell?, hcB2]
      have hgc := hq.gc_ne.1
      have hgc2 := hgc.symm
      have hll := hq.lts.1
      have HQS : Hid (QAt (wr.setCell ⟨gc, k, none⟩ (.int .i64 ((x : Int) - 1))) base B gw gc n vr' wv (wlA G) (cntT G t (wlA G i) (p + 1)) H') := Lib.hid (by
        have := hq.cntSet k ((x : Int) - 1)
        rw [← hx, cntT_set hk (by rw [hx]; exact hx0)] at this
        rw [← hx]; exact this)
      have HKS : Hid (QKp w (wr.setCell ⟨gc, k, none⟩ (.int .i64 ((x : Int) - 1))) B gc vr vr') := Lib.hid HK.out.set
      have HX := Lib.hid hx
      have HKK := Lib.hid hk
      have hwx : wrap64 ((x : Int) - 1) = (x : Int) - 1 := by unfold wrap64; omega
      clear hq hpm hkp hk hk2 hwi hx hcB2 hgc
      by_cases hx1 : x = 1
      · subst hx1
        have HPU := Lib.hid (hpush_any _ base B _ _ vr' H' (k : Int) HQS.out.hp HQS.out.lo.2 (by rw [HP.out.length_eq, natI_len]; have := filter_len G.n (fun j => !(t ++ [i]).contains j && wtP G t (wlA G i) p j == 0); unfold rdP; have := HNN.out; omega))
        go_wp2_with fail
        refine HPU.out.mono ?_
        rintro e w5 ⟨rfl, v5, l5, hp5, hh5, ho5, hk5⟩
        have HQ5 := Lib.hid (HQS.out.heap hh5 ho5 hk5)
        have HK5 := Lib.hid (HKS.out.push hk5 ho5)
        have HP5 : Hid (l5.Perm (natI (rdP G t i (wlA G i) (p + 1)))) := Lib.hid (by
          refine hp5.trans ((List.Perm.cons _ HP.out).trans ?_)
          have h1 := wait_not HV.out HIT.out (List.mem_of_getElem? HKK.out) HF.out
          have := (rdP_more (G := G) (t := t) (i := i) HKK.out (by rw [HNN.out]; exact hkn) h1 HX.out).symm
          have e := List.Perm.map Int.ofNat this
          unfold natI; exact e)
        clear hp5 hh5 ho5 hk5
        go_wp2_with fail
        exact ⟨⟨p + 1, v5, l5, by omega, by go_num, HQ5.out, HP5.out, HK5.out⟩, by simp [intOf]; omega⟩
      · have HP6 : Hid (H'.Perm (natI (rdP G t i (wlA G i) (p + 1)))) := Lib.hid (by rw [rdP_same HKK.out (by rw [HX.out]; exact hx1) (by rw [HX.out]; exact hx0)]; exact HP.out)
        have hxd : (((x : Int) - 1) == 0) = false := by simp; omega
        go_wp2_with fail
        exact ⟨⟨p + 1, vr', H', by omega, by go_num, HQS.out, HP6.out, HKS.out⟩, by simp [intOf]; omega⟩
    · have hpe : p = L := by omega
      subst hpe
      clear hq hpm hkp
      go_wp2_with fail
      go_end0
      refine HPS.out vr' H' _ ?_ ?_ HK.out
      · have := HQ.out
        rw [← HL.out, cntT_end HIT.out (Nat.le_refl _)] at this
        exact this
      · have := HP.out
        rw [← HL.out, rdP_end HIT.out (Nat.le_refl _)] at this
        rw [← HNN.out]; exact this
end Go.Proofs.Ytcphjehjdhgheaa.Nt
