/- What the closure of Sub works on and leaves, and how one operand more and the node itself are laid. Conditions: the expression may be. -/
import Derived.Test.YtmggedjolocgdaaTreeR
import Derived.Test.YtmggedjolocgdaaTreeJ
import Derived.Deep.RegionLaw
import Derived.Deep.AppendLies
namespace Go.Proofs.Ytmggedjolocgdaa.Tr
open Go.ChangeShapes Go.WideShapes Go.ChangeAt Go.RowKit
set_option linter.unusedVariables false
set_option linter.unusedSimpArgs false

/-- What the closure of Sub works on: the expression, itself, what is laid so far, and where. -/
structure Lay (W0 : World) (ev : Value) (e : List Nd) (E X : Nat) (w : World) (ov : Value) (out : List Nd) (pos : List Int) : Prop where
  base : W0.heap.size ≤ E
  hX : X ≤ E
  below : Below W0.heap.size W0 w
  exp : w.heap[X]? = some (.cells #[ev] 23 (0, 0))
  res : w.heap[E + 1]? = some (.cells #[ov] 23 (0, 0))
  row : w.ownsRow (E + 2) 3 1 (.slice (some ⟨E + 2, 0, none⟩) e.length e.length) e.length (intsOf pos)
  lst : w.heap[E + 3]? = some (.cells #[.slice (some ⟨E + 2, 0, none⟩) e.length e.length] 27 (0, 0))
  fn : w.heap[E + 4]? = some (.cells #[.func (.func 38) #[] #[.pointer (some ⟨X, 0, none⟩), .pointer (some ⟨E + 4, 0, none⟩), .pointer (some ⟨E + 1, 0, none⟩), .pointer (some ⟨E + 3, 0, none⟩)]] 50 (0, 0))
  own : w.ownsRow (E + 5) 30 6 ov out.length (ndsOf out)
  len : pos.length = e.length

theorem Lay.kept {W0 w w' : World} {ev ov : Value} {e out : List Nd} {E X : Nat} {pos : List Int} (h : Lay W0 ev e E X w ov out pos) (hb : Below w.heap.size w w') : Lay W0 ev e E X w' ov out pos := by
  have h1 := lt_of_block h.exp
  have h4 := lt_of_block h.fn
  have h0 := h.base
  refine ⟨h.base, h.hX, h.below.trans (hb.mono (by omega)), ?_, ?_, own_below h.row hb, ?_, ?_, own_below h.own hb, h.len⟩
  · rw [hb.block _ h1]; exact h.exp
  · rw [hb.block _ (by omega)]; exact h.res
  · rw [hb.block _ (by omega)]; exact h.lst
  · rw [hb.block _ h4]; exact h.fn
/-- A place is noted. -/
theorem Lay.put {W0 w : World} {ev ov : Value} {e out : List Nd} {E X : Nat} {pos : List Int} (h : Lay W0 ev e E X w ov out pos) (i : Nat) (v : Int) : Lay W0 ev e E X (w.setCell ⟨E + 2, i, none⟩ (.int .i64 v)) ov out (pos.set i v) := by
  have h0 := h.base
  have hx := h.hX
  refine ⟨h.base, h.hX, h.below.setCell (by show _ ≤ E + 2; omega) _, ?_, ?_, ?_, ?_, ?_, ?_, by rw [List.length_set]; exact h.len⟩
  · rw [Below.heap_setCell _ _ _ _ (by show X ≠ E + 2; omega)]; exact h.exp
  · rw [Below.heap_setCell _ _ _ _ (by simp)]; exact h.res
  · rw [intsOf_set]; exact (h.row.stored i (.int .i64 v)).1
  · rw [Below.heap_setCell _ _ _ _ (by simp)]; exact h.lst
  · rw [Below.heap_setCell _ _ _ _ (by simp)]; exact h.fn
  · exact ownsRow_setCell_below h.own (by simp) _
theorem Lay.ints {W0 w : World} {ev ov : Value} {e out : List Nd} {E X : Nat} {pos : List Int} (h : Lay W0 ev e E X w ov out pos) : Ints w (.slice (some ⟨E + 2, 0, none⟩) e.length e.length) pos := by
  have := h.row
  rw [← h.len] at this ⊢
  exact Ints.of_own this

theorem Lay.moved {W0 w w4 : World} {ev ov : Value} {e out : List Nd} {E X : Nat} {pos : List Int} (h : Lay W0 ev e E X w ov out pos) (hb : Below w.heap.size w.drew w4) :
    w.heap.size ≤ w4.heap.size ∧ w4.cell? ⟨E + 1, 0, none⟩ = some ov ∧ w4.heap[E + 1]? = some (.cells #[ov] 23 (0, 0)) ∧ w4.ownsRow (E + 5) 30 6 ov out.length (ndsOf out) ∧ E + 5 ≤ w4.heap.size := by
  have h4 := lt_of_block h.fn
  have hz : w.heap.size ≤ w4.heap.size := hb.size
  have r4 : w4.heap[E + 1]? = some (.cells #[ov] 23 (0, 0)) := (hb.block _ (by omega)).trans h.res
  exact ⟨hz, cell_of_one r4, r4, own_below (w := w) h.own { os := hb.os, tape := hb.tape, output := hb.output, size := hb.size, block := hb.block }, by omega⟩
theorem grown_one {w4 w5 : World} {E : Nat} {ov : Value} {o : Obj} {n : Nat} {xs : List Value} (own4 : w4.ownsRow (E + 5) 30 6 ov n xs) (r4 : w4.heap[E + 1]? = some (.cells #[ov] 23 (0, 0))) (hz : E + 5 ≤ w4.heap.size) (hg : (w4.alloc o).grownBy w5 ov.ownBlock) :
    w5.heap[E + 1]? = some (.cells #[ov] 23 (0, 0)) := by
  have e5 := hg.block (E + 1) (by simp; omega) (fun h => by have := own4.lt _ h.symm; omega)
  rw [Below.heap_alloc _ _ _ (by omega), r4] at e5
  exact e5

/-- What a call of the closure leaves. -/
def LayPost (W0 : World) (ev : Value) (e : List Nd) (E X : Nat) (w : World) (ov : Value) (out : List Nd) (pos : List Int) (i : Nat) (r : Ending) (w' : World) : Prop :=
  ∃ ov' pos', r = .returned (.tuple #[]) ∧ Lay W0 ev e E X w' ov' (out ++ (tree e i).flat out.length) pos' ∧
    pos'[i]? = some ((out.length + (tree e i).size - 1 : Nat) : Int) ∧ (∀ j : Nat, j ∉ desc e i → pos'[j]? = pos[j]?) ∧
    w.heap.size ≤ w'.heap.size ∧ (∀ b, ov'.ownBlock = some b → ov.ownBlock = some b ∨ w.heap.size ≤ b) ∧
    ∀ p : Addr, p.block < w.heap.size → p.block ≠ E + 1 → p.block ≠ E + 2 → ov.ownBlock ≠ some p.block → w'.cell? p = w.cell? p

/-- The sizes of the first operands' trees, together. -/
def upTo (e : List Nd) (L : List Int) : Nat := (L.map (fun k => (tree e k.toNat).size)).sum
/-- The nodes of operands' trees, in order. -/
def flats (e : List Nd) (b : Nat) : List Int → List Nd
  | [] => []
  | k :: r => (tree e k.toNat).flat b ++ flats e (b + (tree e k.toNat).size) r
theorem upTo_snoc (e : List Nd) (L : List Int) (k : Int) : upTo e (L ++ [k]) = upTo e L + (tree e k.toNat).size := by unfold upTo; simp
theorem flats_snoc (e : List Nd) (L : List Int) : ∀ (b : Nat) (k : Int), flats e b (L ++ [k]) = flats e b L ++ (tree e k.toNat).flat (b + upTo e L) := by
  induction L with
  | nil => intro b k; simp [flats, upTo]
  | cons a r ih =>
    intro b k
    simp only [List.cons_append, flats, ih, List.append_assoc, upTo, List.map_cons, List.sum_cons]
    rw [Nat.add_assoc]
theorem flats_len (e : List Nd) (L : List Int) : ∀ b, (flats e b L).length = upTo e L := by
  induction L with
  | nil => intro b; rfl
  | cons a r ih => intro b; simp only [flats, List.length_append, T.flat_len, ih, upTo, List.map_cons, List.sum_cons]
/-- Where an operand's last node comes to stand. -/
def posOf (e : List Nd) (b : Nat) (L : List Int) (j : Nat) : Int := ((b + upTo e (L.take (j + 1)) - 1 : Nat) : Int)
theorem tree_size (e : List Nd) (h : Ahead e) (i : Nat) (x : Nd) (hx : e[i]? = some x) : (tree e i).size = upTo e (kidsM x) + 1 := by
  rw [tree_eq h hx, mkT_size _ _ (by rw [List.length_map]; exact kids_small x), List.map_map]; rfl
theorem tree_flat (e : List Nd) (h : Ahead e) (i : Nat) (x : Nd) (hx : e[i]? = some x) (b : Nat) : (tree e i).flat b = flats e b (kidsM x) ++ [mkL x.lab ((List.range (kidsM x).length).map (posOf e b (kidsM x)))] := by
  rw [tree_eq h hx]
  have hl := kids_small x
  generalize kidsM x = L at hl
  match L, hl with
  | [], _ => rfl
  | [p], _ => simp [mkT, T.flat, flats, posOf, upTo, List.range_succ]
  | [p, q], _ => simp [mkT, T.flat, flats, posOf, upTo, List.range_succ, Nat.add_assoc]
  | [p, q, r], _ => simp [mkT, T.flat, flats, posOf, upTo, List.range_succ, Nat.add_assoc]
theorem moved_mk (x : Nd) (L : List Int) (tf : Int → Int) (h : x = mkL x.lab L) (hL : ∀ k ∈ L, 0 ≤ k) :
    (⟨x.op, toM tf x.a, toM tf x.b, toM tf x.c, x.n, x.name⟩ : Nd) = mkL x.lab (L.map tf) := by
  obtain ⟨o, a, b, c, n, s⟩ := x
  have m1 : toM tf (-1) = -1 := by unfold toM; rw [if_neg (by omega)]
  have m0 : ∀ k, 0 ≤ k → toM tf k = tf k := fun k hk => by unfold toM; rw [if_pos hk]
  simp only [Nd.lab] at h ⊢
  match L with
  | [] =>
    simp only [mkL, Nd.mk.injEq, true_and, and_true] at h
    obtain ⟨rfl, rfl, rfl⟩ := h
    simp [mkL, m1]
  | [i] =>
    simp only [mkL, Nd.mk.injEq, true_and, and_true] at h
    obtain ⟨rfl, rfl, rfl⟩ := h
    simp [mkL, m1, m0 a (hL a (by simp))]
  | [i, j] =>
    simp only [mkL] at h
    by_cases ho : o = 28
    · subst ho
      simp only [if_true, Nd.mk.injEq, true_and, and_true] at h
      obtain ⟨rfl, rfl, rfl⟩ := h
      simp [mkL, m1, m0 a (hL a (by simp)), m0 b (hL b (by simp))]
    · simp only [ho, if_false, Nd.mk.injEq, true_and, and_true] at h
      obtain ⟨rfl, rfl, rfl⟩ := h
      simp [mkL, ho, m1, m0 a (hL a (by simp)), m0 b (hL b (by simp))]
  | i :: j :: k :: r =>
    simp only [mkL, Nd.mk.injEq, true_and, and_true] at h
    obtain ⟨rfl, rfl, rfl⟩ := h
    simp [mkL, m0 a (hL a (by simp)), m0 b (hL b (by simp)), m0 c (hL c (by simp))]
/-- The loop's relation: the first operands are laid. -/
structure LayRel (W0 : World) (ev : Value) (e : List Nd) (E X : Nat) (w w2 : World) (ov : Value) (out : List Nd) (pos : List Int) (L : List Int) (j : Nat) (wr : World) (ov' : Value) (pos' : List Int) : Prop where
  le : j ≤ L.length
  lay : Lay W0 ev e E X wr ov' (out ++ flats e out.length (L.take j)) pos'
  at_ : ∀ t q, t < j → L[t]? = some q → pos'[q.toNat]? = some (posOf e out.length L t)
  same : ∀ m : Nat, (∀ k ∈ L, m ∉ desc e k.toNat) → pos'[m]? = pos[m]?
  size : w2.heap.size ≤ wr.heap.size
  keep : ∀ p : Addr, w.heap.size ≤ p.block → p.block < w2.heap.size → wr.cell? p = w2.cell? p
  blk : ∀ b, ov'.ownBlock = some b → b < w.heap.size ∨ w2.heap.size ≤ b
  blk0 : ∀ b, ov'.ownBlock = some b → ov.ownBlock = some b ∨ w2.heap.size ≤ b
  frame : ∀ p : Addr, p.block < w.heap.size → p.block ≠ E + 1 → p.block ≠ E + 2 → ov.ownBlock ≠ some p.block → wr.cell? p = w.cell? p

theorem upTo_le (e : List Nd) (L : List Int) (j : Nat) : upTo e (L.take j) ≤ upTo e L := by
  conv => rhs; rw [← List.take_append_drop j L]
  unfold upTo; rw [List.map_append, List.sum_append]; omega
theorem fields_in (x : Nd) (L : List Int) (h : x = mkL x.lab L) : (x.a ≠ -1 → x.a ∈ L) ∧ (x.b ≠ -1 → x.b ∈ L) ∧ (x.c ≠ -1 → x.c ∈ L) := by
  obtain ⟨o, a, b, c, n, s⟩ := x
  simp only [Nd.lab] at h ⊢
  match L with
  | [] =>
    simp only [mkL, Nd.mk.injEq, true_and, and_true] at h
    obtain ⟨rfl, rfl, rfl⟩ := h; simp
  | [i] =>
    simp only [mkL, Nd.mk.injEq, true_and, and_true] at h
    obtain ⟨rfl, rfl, rfl⟩ := h; simp
  | [i, j] =>
    simp only [mkL] at h
    by_cases ho : o = 28
    · subst ho
      simp only [if_true, Nd.mk.injEq, true_and, and_true] at h
      obtain ⟨rfl, rfl, rfl⟩ := h; simp
    · simp only [ho, if_false, Nd.mk.injEq, true_and, and_true] at h
      obtain ⟨rfl, rfl, rfl⟩ := h; simp
  | i :: j :: k :: r =>
    simp only [mkL, Nd.mk.injEq, true_and, and_true] at h
    obtain ⟨rfl, rfl, rfl⟩ := h; simp
theorem nodup_two {l : List Int} (h : l.Nodup) {i j : Nat} {a : Int} (hij : i < j) (h1 : l[i]? = some a) (h2 : l[j]? = some a) : False := by
  obtain ⟨hi, e1⟩ := List.getElem?_eq_some_iff.1 h1
  obtain ⟨hj, e2⟩ := List.getElem?_eq_some_iff.1 h2
  exact (List.pairwise_iff_getElem.1 h) i j hi hj hij (e1.trans e2.symm)
/-- One operand more is laid. -/
theorem rel_step {W0 : World} {ev : Value} {e : List Nd} {E X : Nat} {w w2 : World} {ov : Value} {out : List Nd} {pos : List Int} {L : List Int} {j : Nat} {wr : World} {ov' : Value} {pos' : List Int} {i m : Nat} {x : Nd} {w' : World} {r : Ending}
    (hm : May e) (hx : e[i]? = some x) (hL : kidsM x = L) (hj : L[j]? = some (m : Int)) (hE : E + 4 < w.heap.size) (hw : w.heap.size ≤ w2.heap.size) (h : LayRel W0 ev e E X w w2 ov out pos L j wr ov' pos')
    (hp : LayPost W0 ev e E X wr ov' (out ++ flats e out.length (L.take j)) pos' m r w') :
    ∃ ov'' pos'', r = .returned (.tuple #[]) ∧ LayRel W0 ev e E X w w2 ov out pos L (j + 1) w' ov'' pos'' := by
  obtain ⟨ov'', pos'', hr, hlay, hat, hsame, hsize, hblk, hfr⟩ := hp
  have hjl := (List.getElem?_eq_some_iff.1 hj).1
  have hmem : (m : Int) ∈ kidsM x := by rw [hL]; exact List.mem_of_getElem? hj
  have htk : L.take (j + 1) = L.take j ++ [(m : Int)] := by rw [List.take_add_one, hj]; rfl
  have hlen : (out ++ flats e out.length (L.take j)).length = out.length + upTo e (L.take j) := by rw [List.length_append, flats_len]
  have hmt : ((m : Int)).toNat = m := Int.toNat_natCast m
  refine ⟨ov'', pos'', hr, by omega, ?_, ?_, ?_, by have := h.size; omega, ?_, ?_, ?_, ?_⟩
  · rw [hlen, List.append_assoc] at hlay
    rw [htk, flats_snoc, hmt]; exact hlay
  · intro t q ht hq
    by_cases htj : t = j
    · subst htj
      have : q = (m : Int) := Option.some.inj (hq.symm.trans hj)
      subst this
      rw [hmt, hat, hlen]
      unfold posOf
      rw [htk, upTo_snoc, hmt]
      congr 3
      omega
    · rw [hsame q.toNat ?_]
      · exact h.at_ t q (by omega) hq
      · intro hd
        have hqm : q ∈ kidsM x := by rw [hL]; exact List.mem_of_getElem? hq
        have hql := hm.ahead i x hx q hqm
        have hil := (List.getElem?_eq_some_iff.1 hx).1
        have hne : q ≠ (m : Int) := by
          intro e1
          subst e1
          have hnd := once_nodup hm.once hm.ahead hx
          rw [hL] at hnd
          have htl := (List.getElem?_eq_some_iff.1 hq).1
          exact nodup_two hnd (show t < j by omega) hq hj
        exact apart hm.once hm.ahead hx hqm hmem hne q.toNat (desc_self hm.ahead (by omega)) (by rw [hmt]; exact hd)
  · intro p hp
    rw [hsame p (by have := hp (m : Int) (List.mem_of_getElem? hj); rwa [hmt] at this)]
    exact h.same p hp
  · intro p hp1 hp2
    have hs := h.size
    rw [hfr p (by omega) (by omega) (by omega) (fun hb => by have := h.blk _ hb; omega)]
    exact h.keep p hp1 hp2
  · intro b hb
    rcases hblk b hb with h1 | h1
    · exact h.blk b h1
    · have := h.size; exact .inr (by omega)
  · intro b hb
    rcases hblk b hb with h1 | h1
    · exact h.blk0 b h1
    · have := h.size; exact .inr (by omega)
  · intro p hp1 hp2 hp3 hp4
    have hs := h.size
    rw [hfr p (by omega) hp2 hp3 (fun hb => by
      rcases h.blk0 _ hb with h1 | h1
      · exact hp4 h1
      · omega)]
    exact h.frame p hp1 hp2 hp3 hp4

theorem own_block {w w' : World} {b : Nat} {e : TypeId} {s : Nat} {v : Value} {n : Nat} {xs : List Value} (h : w.ownsRow b e s v n xs) (hk : ∀ g, v.ownBlock = some g → w'.heap[g]? = w.heap[g]?) : w'.ownsRow b e s v n xs := by
  refine ⟨h.1, ?_⟩
  rcases h.2 with h0 | ⟨g, cap, cur, h1, h2, h3, h4⟩
  · exact .inl h0
  · exact .inr ⟨g, cap, cur, h1, h2, by rw [hk g (by rw [h1]; rfl)]; exact h3, h4⟩
theorem lay_end {W0 : World} {ev : Value} {e : List Nd} {E X : Nat} {w w2 wr w3 w4 w5 : World} {ov ov' : Value} {out : List Nd} {pos pos' : List Int} {L : List Int} {i N gg cap : Nat} {x : Nd} {tf : Int → Int} {o : Obj} {ov2 : Value}
    (hm : May e) (hx : e[i]? = some x) (hL : kidsM x = L) (hE : E + 4 < w.heap.size) (hw : w.heap.size ≤ w2.heap.size) (hrel : LayRel W0 ev e E X w w2 ov out pos L L.length wr ov' pos')
    (hN : (out ++ flats e out.length L).length = N) (hput : Lay W0 ev e E X w3 ov' (out ++ flats e out.length L) (pos'.set i ((N : Nat) : Int))) (hw3 : w3 = wr.setCell ⟨E + 2, i, none⟩ (.int .i64 (N : Int)))
    (htf : ∀ k ∈ L, (pos'.set i ((N : Nat) : Int))[k.toNat]? = some (tf k)) (hb4 : Below w3.heap.size w3.drew w4) (hov2 : ov2.ownBlock = ov'.ownBlock) (hg : (w4.alloc o).grownBy w5 ov2.ownBlock)
    (hown : w5.ownsRow (E + 5) 30 6 (.slice (some ⟨gg, 0, none⟩) (N + 1) cap) (N + 1) (ndsOf (out ++ flats e out.length L) ++ ndCells ⟨x.op, toM tf x.a, toM tf x.b, toM tf x.c, x.n, x.name⟩))
    (hat : ov2.ownBlock = some gg ∨ gg = w4.heap.size + 1) :
    LayPost W0 ev e E X w ov out pos i (.returned (.tuple #[])) (w5.setCell ⟨E + 1, 0, none⟩ (.slice (some ⟨gg, 0, none⟩) (N + 1) cap)) := by
  rw [hov2] at hg hat
  have hil := (List.getElem?_eq_some_iff.1 hx).1
  have hs3 : w3.heap.size = wr.heap.size := by rw [hw3]; simp
  have hz4 : w3.heap.size ≤ w4.heap.size := hb4.size
  have hz5 := hg.size
  simp at hz5
  have hr2 := hrel.size
  have hE3 := lt_of_block hput.fn
  have K : ∀ b, b < w3.heap.size → ov'.ownBlock ≠ some b → w5.heap[b]? = w3.heap[b]? := fun b hb hn => by
    rw [hg.block b (by simp; omega) (fun h => hn h.symm), Below.heap_alloc _ _ _ (by omega)]
    exact hb4.block b hb
  have low : ∀ b, b < E + 5 → ov'.ownBlock ≠ some b := fun b hb h => by have := hput.own.lt b h; omega
  have hNU : N = out.length + upTo e L := by rw [← hN, List.length_append, flats_len]
  have hsz := tree_size e hm.ahead i x hx
  rw [hL] at hsz
  have hmap : L.map tf = (List.range L.length).map (posOf e out.length L) := by
    apply List.ext_getElem?
    intro t
    rw [List.getElem?_map, List.getElem?_map]
    by_cases ht : t < L.length
    · rw [List.getElem?_range ht]
      have hq : L[t]? = some L[t] := List.getElem?_eq_getElem ht
      rw [hq]
      have hmem := List.mem_of_getElem? hq
      have h1 := htf _ hmem
      have h2 := hm.ahead i x hx L[t] (by rw [hL]; exact hmem)
      rw [List.getElem?_set_ne (by omega), hrel.at_ t _ ht hq] at h1
      exact h1.symm
    · rw [List.getElem?_eq_none (by omega), List.getElem?_eq_none (by simp; omega)]; rfl
  have hnode : (⟨x.op, toM tf x.a, toM tf x.b, toM tf x.c, x.n, x.name⟩ : Nd) = mkL x.lab ((List.range L.length).map (posOf e out.length L)) := by
    rw [moved_mk x L tf (by rw [← hL]; exact (hm.node i x hx).bare) (fun k hk => (hm.ahead i x hx k (by rw [hL]; exact hk)).1), hmap]
  have hflat : out ++ (tree e i).flat out.length = (out ++ flats e out.length L) ++ [⟨x.op, toM tf x.a, toM tf x.b, toM tf x.c, x.n, x.name⟩] := by
    rw [tree_flat e hm.ahead i x hx, hL, hnode, List.append_assoc]
  refine ⟨.slice (some ⟨gg, 0, none⟩) (N + 1) cap, pos'.set i ((N : Nat) : Int), rfl, ⟨hput.base, hput.hX, ?_, ?_, ?_, ?_, ?_, ?_, ?_, hput.len⟩, ?_, ?_, ?_, ?_, ?_⟩
  · have h0 := hput.base
    have h1 : Below W0.heap.size W0 w4 := hput.below.drew.trans (hb4.mono (by omega))
    exact ((h1.alloc (by omega) _).grown hg (by simp; omega) (fun b hb => by have := hput.own.lt b hb; omega)).setCell (by show _ ≤ E + 1; omega) _
  · have hx := hput.hX
    rw [Below.heap_setCell _ _ _ _ (by show X ≠ E + 1; omega), K _ (by omega) (low _ (by omega))]; exact hput.exp
  · exact one_setCell ((K _ (by omega) (low _ (by omega))).trans hput.res)
  · refine own_block hput.row (fun g hgb => ?_)
    have : g = E + 2 := by simp [Value.ownBlock] at hgb; omega
    subst this
    rw [Below.heap_setCell _ _ _ _ (by simp), K _ (by omega) (low _ (by omega))]
  · rw [Below.heap_setCell _ _ _ _ (by simp), K _ (by omega) (low _ (by omega))]; exact hput.lst
  · rw [Below.heap_setCell _ _ _ _ (by simp), K _ (by omega) (low _ (by omega))]; exact hput.fn
  · rw [hflat, nds_snoc, List.length_append, hN]
    exact ownsRow_setCell_below hown (by simp) _
  · rw [List.getElem?_set_self (by have := hput.len; rw [List.length_set] at this; omega)]
    congr 2; omega
  · intro j hj
    have hji : i ≠ j := fun h => hj (by rw [← h]; exact desc_self hm.ahead hil)
    rw [List.getElem?_set_ne hji]
    exact hrel.same j (fun k hk hd => hj (desc_kid hm.ahead hx (by rw [hL]; exact hk) hd))
  · simp; omega
  · intro b hb
    have hb' : gg = b := by simpa [Value.ownBlock] using hb
    subst hb'
    rcases hat with h | h
    · rcases hrel.blk0 _ h with h1 | h1
      · exact .inl h1
      · exact .inr (by omega)
    · exact .inr (by omega)
  · intro p hp1 hp2 hp3 hp4
    have hn : ov'.ownBlock ≠ some p.block := fun h => by
      rcases hrel.blk0 _ h with h1 | h1
      · exact hp4 h1
      · omega
    rw [World.cell?_setCell_other _ _ _ _ (fun h => hp2 (by rw [← h])), World.cell?_of_block (w := w3) (K p.block (by omega) hn), hw3, World.cell?_setCell_other _ _ _ _ (fun h => hp3 (by rw [← h]))]
    exact hrel.frame p hp1 hp2 hp3 hp4
end Go.Proofs.Ytmggedjolocgdaa.Tr
