/- What the closure of Sub works on and leaves, and how one operand more and the node itself are laid. Conditions: the expression may be. -/
import Derived.Test.YtgohhnbdicdenaaDoorPk08
import Derived.Test.YtgohhnbdicdenaaDoorPk09
import Derived.Deep.RegionLaw
import Derived.Deep.AppendLies
namespace Go.Proofs.YtgohhnbdicdenaaDoor.Tr
open Go.ChangeShapes Go.WideShapes Go.ChangeAt Go.RowKit
set_option linter.unusedVariables false
set_option linter.unusedSimpArgs false

theorem grown_one {w4 w5 : World} {E : Nat} {ov : Value} {o : Obj} {n : Nat} {xs : List Value} (own4 : w4.ownsRow (E + 5) 36 6 ov n xs) (r4 : w4.heap[E + 1]? = some (.cells #[ov] 24 (0, 0))) (hz : E + 5 ≤ w4.heap.size) (hg : (w4.alloc o).grownBy w5 ov.ownBlock) :
    w5.heap[E + 1]? = some (.cells #[ov] 24 (0, 0)) := by
  have e5 := hg.block (E + 1) (by simp; omega) (fun h => by have := own4.lt _ h.symm; omega)
  rw [Below.heap_alloc _ _ _ (by omega), r4] at e5
  exact e5

/-- The sizes of the first operands' trees, together. -/
def upTo (e : List Nd) (L : List Int) : Nat := (L.map (fun k => (tree e k.toNat).size)).sum
/-- The nodes of operands' trees, in order. -/
def flats (e : List Nd) (b : Nat) : List Int → List Nd
  | [] => []
  | k :: r => (tree e k.toNat).flat b ++ flats e (b + (tree e k.toNat).size) r
theorem upTo_snoc (e : List Nd) (L : List Int) (k : Int) : upTo e (L ++ [k]) = upTo e L + (tree e k.toNat).size := by unfold upTo; simp
theorem flats_snoc (e : List Nd) (L : List Int) : ∀ (b : Nat) (k : Int), flats e b (L ++ [k]) = flats e b L ++ (tree e k.toNat).flat (b + upTo e L) := by
  induction L with
  | nil => intro b k; simp [flats, upTo]
  | cons a r ih =>
    intro b k
    simp only [List.cons_append, flats, ih, List.append_assoc, upTo, List.map_cons, List.sum_cons]
    rw [Nat.add_assoc]
theorem flats_len (e : List Nd) (L : List Int) : ∀ b, (flats e b L).length = upTo e L := by
  induction L with
  | nil => intro b; rfl
  | cons a r ih => intro b; simp only [flats, List.length_append, T.flat_len, ih, upTo, List.map_cons, List.sum_cons]
/-- Where an operand's last node comes to stand. -/
def posOf (e : List Nd) (b : Nat) (L : List Int) (j : Nat) : Int := ((b + upTo e (L.take (j + 1)) - 1 : Nat) : Int)
theorem tree_size (e : List Nd) (h : Ahead e) (i : Nat) (x : Nd) (hx : e[i]? = some x) : (tree e i).size = upTo e (kidsM x) + 1 := by
  rw [tree_eq h hx, mkT_size _ _ (by rw [List.length_map]; exact kids_small x), List.map_map]; rfl
theorem tree_flat (e : List Nd) (h : Ahead e) (i : Nat) (x : Nd) (hx : e[i]? = some x) (b : Nat) : (tree e i).flat b = flats e b (kidsM x) ++ [mkL x.lab ((List.range (kidsM x).length).map (posOf e b (kidsM x)))] := by
  rw [tree_eq h hx]
  have hl := kids_small x
  generalize kidsM x = L at hl
  match L, hl with
  | [], _ => rfl
  | [p], _ => simp [mkT, T.flat, flats, posOf, upTo, List.range_succ]
  | [p, q], _ => simp [mkT, T.flat, flats, posOf, upTo, List.range_succ, Nat.add_assoc]
  | [p, q, r], _ => simp [mkT, T.flat, flats, posOf, upTo, List.range_succ, Nat.add_assoc]
theorem moved_mk (x : Nd) (L : List Int) (tf : Int → Int) (h : x = mkL x.lab L) (hL : ∀ k ∈ L, 0 ≤ k) :
    (⟨x.op, toM tf x.a, toM tf x.b, toM tf x.c, x.n, x.name⟩ : Nd) = mkL x.lab (L.map tf) := by
  obtain ⟨o, a, b, c, n, s⟩ := x
  have m1 : toM tf (-1) = -1 := by unfold toM; rw [if_neg (by omega)]
  have m0 : ∀ k, 0 ≤ k → toM tf k = tf k := fun k hk => by unfold toM; rw [if_pos hk]
  simp only [Nd.lab] at h ⊢
  match L with
  | [] =>
    simp only [mkL, Nd.mk.injEq, true_and, and_true] at h
    obtain ⟨rfl, rfl, rfl⟩ := h
    simp [mkL, m1]
  | [i] =>
    simp only [mkL, Nd.mk.injEq, true_and, and_true] at h
    obtain ⟨rfl, rfl, rfl⟩ := h
    simp [mkL, m1, m0 a (hL a (by simp))]
  | [i, j] =>
    simp only [mkL] at h
    by_cases ho : o = 28
    · subst ho
      simp only [if_true, Nd.mk.injEq, true_and, and_true] at h
      obtain ⟨rfl, rfl, rfl⟩ := h
      simp [mkL, m1, m0 a (hL a (by simp)), m0 b (hL b (by simp))]
    · simp only [ho, if_false, Nd.mk.injEq, true_and, and_true] at h
      obtain ⟨rfl, rfl, rfl⟩ := h
      simp [mkL, ho, m1, m0 a (hL a (by simp)), m0 b (hL b (by simp))]
  | i :: j :: k :: r =>
    simp only [mkL, Nd.mk.injEq, true_and, and_true] at h
    obtain ⟨rfl, rfl, rfl⟩ := h
    simp [mkL, m0 a (hL a (by simp)), m0 b (hL b (by simp)), m0 c (hL c (by simp))]
theorem upTo_le (e : List Nd) (L : List Int) (j : Nat) : upTo e (L.take j) ≤ upTo e L := by
  conv => rhs; rw [← List.take_append_drop j L]
  unfold upTo; rw [List.map_append, List.sum_append]; omega
theorem fields_in (x : Nd) (L : List Int) (h : x = mkL x.lab L) : (x.a ≠ -1 → x.a ∈ L) ∧ (x.b ≠ -1 → x.b ∈ L) ∧ (x.c ≠ -1 → x.c ∈ L) := by
  obtain ⟨o, a, b, c, n, s⟩ := x
  simp only [Nd.lab] at h ⊢
  match L with
  | [] =>
    simp only [mkL, Nd.mk.injEq, true_and, and_true] at h
    obtain ⟨rfl, rfl, rfl⟩ := h; simp
  | [i] =>
    simp only [mkL, Nd.mk.injEq, true_and, and_true] at h
    obtain ⟨rfl, rfl, rfl⟩ := h; simp
  | [i, j] =>
    simp only [mkL] at h
    by_cases ho : o = 28
    · subst ho
      simp only [if_true, Nd.mk.injEq, true_and, and_true] at h
      obtain ⟨rfl, rfl, rfl⟩ := h; simp
    · simp only [ho, if_false, Nd.mk.injEq, true_and, and_true] at h
      obtain ⟨rfl, rfl, rfl⟩ := h; simp
  | i :: j :: k :: r =>
    simp only [mkL, Nd.mk.injEq, true_and, and_true] at h
    obtain ⟨rfl, rfl, rfl⟩ := h; simp
theorem nodup_two {l : List Int} (h : l.Nodup) {i j : Nat} {a : Int} (hij : i < j) (h1 : l[i]? = some a) (h2 : l[j]? = some a) : False := by
  obtain ⟨hi, e1⟩ := List.getElem?_eq_some_iff.1 h1
  obtain ⟨hj, e2⟩ := List.getElem?_eq_some_iff.1 h2
  exact (List.pairwise_iff_getElem.1 h) i j hi hj hij (e1.trans e2.symm)
theorem own_block {w w' : World} {b : Nat} {e : TypeId} {s : Nat} {v : Value} {n : Nat} {xs : List Value} (h : w.ownsRow b e s v n xs) (hk : ∀ g, v.ownBlock = some g → w'.heap[g]? = w.heap[g]?) : w'.ownsRow b e s v n xs := by
  refine ⟨h.1, ?_⟩
  rcases h.2 with h0 | ⟨g, cap, cur, h1, h2, h3, h4⟩
  · exact .inl h0
  · exact .inr ⟨g, cap, cur, h1, h2, by rw [hk g (by rw [h1]; rfl)]; exact h3, h4⟩
end Go.Proofs.YtgohhnbdicdenaaDoor.Tr

/- The document's aim gives a node other operands; order lays the nodes of which a node is made, in order. Conditions: the expression may be. -/
namespace Go.Proofs.YtgohhnbdicdenaaDoor.Tr
open Go.ChangeShapes Go.WideShapes Go.ChangeAt Go.RowKit
set_option linter.unusedVariables false
set_option linter.unusedSimpArgs false

/-- A node with other operands, in order. -/
def aimM (x : Nd) : List Int → Nd
  | [] => x
  | [i] => { x with a := i }
  | [i, j] => if x.op = 28 then { x with a := j, b := i } else { x with a := i, b := j }
  | i :: j :: k :: _ => { x with a := i, b := j, c := k }
theorem aim_mk (x : Nd) (K l : List Int) (h : x = mkL x.lab K) (hl : K.length = l.length) (h3 : l.length ≤ 3) : aimM x l = mkL x.lab l := by
  obtain ⟨o, a, b, c, n, s⟩ := x
  simp only [Nd.lab] at h ⊢
  match K, l, hl, h3 with
  | [], [], _, _ => exact h
  | [_], [_], _, _ =>
    simp only [mkL, Nd.mk.injEq, true_and, and_true] at h
    obtain ⟨-, rfl, rfl⟩ := h; rfl
  | [_, _], [_, _], _, _ =>
    simp only [mkL] at h
    by_cases ho : o = 28
    · subst ho
      simp only [if_true, Nd.mk.injEq, true_and, and_true] at h
      obtain ⟨-, -, rfl⟩ := h; simp [aimM, mkL]
    · simp only [ho, if_false, Nd.mk.injEq, true_and, and_true] at h
      obtain ⟨-, -, rfl⟩ := h; simp [aimM, mkL, ho]
  | _ :: _ :: _ :: _, [_, _, _], _, _ => rfl
  | _, _ :: _ :: _ :: _ :: _, _, h3 => simp at h3

set_option maxHeartbeats 3200000 in
theorem aim_any (x : Nd) (v : Value) (l : List Int) (w : World) (hv : Ints w v l) (h3 : l.length ≤ 3) : Calls Tryd.prog 46 #[.agg #[.int .i64 x.op, .int .i64 x.a, .int .i64 x.b, .int .i64 x.c, .int .i64 x.n, .string (str x.name)], v] w
    fun r w' => r = .returned (.agg #[.int .i64 (aimM x l).op, .int .i64 (aimM x l).a, .int .i64 (aimM x l).b, .int .i64 (aimM x l).c, .int .i64 (aimM x l).n, .string (str (aimM x l).name)]) ∧ Below w.heap.size w w' := by
  obtain ⟨A, c, rfl, h1, h2, hA⟩ := hv
  unfold maxLen at h2
  match l, h3 with
  | [], _ =>
    clear hA
    rcases Bool.eq_false_or_eq_true (x.op == 28) with h28 | h28
    all_goals
      go_enter Tryd.func46, Tryd.ntmps46
      go_wp2
      refine bodyPost_ret (v := .agg #[.int .i64 x.op, .int .i64 x.a, .int .i64 x.b, .int .i64 x.c, .int .i64 x.n, .string (str x.name)]) ?_ rfl ⟨rfl, ?_⟩
      · simp [results, Tryd.results46, go_sem]
      · repeat (first | with_reducible refine Below.setCell ?_ (by simp) _ | with_reducible refine Below.alloc ?_ (by simp) _ | exact Below.refl _ _)
  | [i], _ =>
    obtain ⟨g, o, rfl, hg, a0⟩ := hA 0 i rfl
    clear hA
    have hgn : w.heap.size ≠ g := by omega
    have hgn2 : w.heap.size + 1 ≠ g := by omega
    simp only [Nat.add_zero] at a0
    rcases Bool.eq_false_or_eq_true (x.op == 28) with h28 | h28
    all_goals
      go_enter Tryd.func46, Tryd.ntmps46
      go_wp2
      refine bodyPost_ret (v := .agg #[.int .i64 x.op, .int .i64 i, .int .i64 x.b, .int .i64 x.c, .int .i64 x.n, .string (str x.name)]) ?_ rfl ⟨rfl, ?_⟩
      · simp [results, Tryd.results46, go_sem]
      · repeat (first | with_reducible refine Below.setCell ?_ (by simp) _ | with_reducible refine Below.alloc ?_ (by simp) _ | exact Below.refl _ _)
  | [i, j], _ =>
    obtain ⟨g, o, rfl, hg, a0⟩ := hA 0 i rfl
    obtain ⟨g', o', e, hg', a1⟩ := hA 1 j rfl
    simp only [Option.some.injEq, Addr.mk.injEq, and_true] at e
    obtain ⟨rfl, rfl⟩ := e
    clear hA
    have hgn : w.heap.size ≠ g := by omega
    have hgn2 : w.heap.size + 1 ≠ g := by omega
    simp only [Nat.add_zero] at a0
    rcases Bool.eq_false_or_eq_true (x.op == 28) with h28 | h28
    · have HE := Lib.hid (show aimM x [i, j] = { x with a := j, b := i } by have h : x.op = 28 := (by simpa using h28); simp [aimM, h])
      go_enter Tryd.func46, Tryd.ntmps46
      go_wp2
      refine bodyPost_ret (v := .agg #[.int .i64 x.op, .int .i64 j, .int .i64 i, .int .i64 x.c, .int .i64 x.n, .string (str x.name)]) ?_ rfl ⟨by rw [HE.out], ?_⟩
      · simp [results, Tryd.results46, go_sem]
      · repeat (first | with_reducible refine Below.setCell ?_ (by simp) _ | with_reducible refine Below.alloc ?_ (by simp) _ | exact Below.refl _ _)
    · have HE := Lib.hid (show aimM x [i, j] = { x with a := i, b := j } by have h : x.op ≠ 28 := (by simpa using h28); simp [aimM, h])
      go_enter Tryd.func46, Tryd.ntmps46
      go_wp2
      refine bodyPost_ret (v := .agg #[.int .i64 x.op, .int .i64 i, .int .i64 j, .int .i64 x.c, .int .i64 x.n, .string (str x.name)]) ?_ rfl ⟨by rw [HE.out], ?_⟩
      · simp [results, Tryd.results46, go_sem]
      · repeat (first | with_reducible refine Below.setCell ?_ (by simp) _ | with_reducible refine Below.alloc ?_ (by simp) _ | exact Below.refl _ _)
  | [i, j, k], _ =>
    obtain ⟨g, o, rfl, hg, a0⟩ := hA 0 i rfl
    obtain ⟨g', o', e, hg', a1⟩ := hA 1 j rfl
    simp only [Option.some.injEq, Addr.mk.injEq, and_true] at e
    obtain ⟨rfl, rfl⟩ := e
    obtain ⟨g', o', e, hg', a2⟩ := hA 2 k rfl
    simp only [Option.some.injEq, Addr.mk.injEq, and_true] at e
    obtain ⟨rfl, rfl⟩ := e
    clear hA
    have hgn : w.heap.size ≠ g := by omega
    have hgn2 : w.heap.size + 1 ≠ g := by omega
    simp only [Nat.add_zero] at a0
    rcases Bool.eq_false_or_eq_true (x.op == 28) with h28 | h28
    all_goals
      go_enter Tryd.func46, Tryd.ntmps46
      go_wp2
      refine bodyPost_ret (v := .agg #[.int .i64 x.op, .int .i64 i, .int .i64 j, .int .i64 k, .int .i64 x.n, .string (str x.name)]) ?_ rfl ⟨rfl, ?_⟩
      · simp [results, Tryd.results46, go_sem]
      · repeat (first | with_reducible refine Below.setCell ?_ (by simp) _ | with_reducible refine Below.alloc ?_ (by simp) _ | exact Below.refl _ _)

/-- What lies in one row lies not in one of another type. -/
theorem own_ne {w : World} {b b' : Nat} {e e' : TypeId} {s s' : Nat} {v v' : Value} {n n' : Nat} {xs xs' : List Value} (h : w.ownsRow b e s v n xs) (h' : w.ownsRow b' e' s' v' n' xs') (hne : e ≠ e') : ∀ k, v.ownBlock = some k → v'.ownBlock ≠ some k := by
  intro k hk hk'
  rcases h.2 with ⟨h0, _⟩ | ⟨g, cap, cur, h1, _, h3, _⟩
  · rw [h0] at hk; simp [Value.ownBlock] at hk
  rcases h'.2 with ⟨h0, _⟩ | ⟨g', cap', cur', h1', _, h3', _⟩
  · rw [h0] at hk'; simp [Value.ownBlock] at hk'
  rw [h1] at hk; rw [h1'] at hk'
  simp [Value.ownBlock] at hk hk'
  subst hk hk'
  rw [h3] at h3'
  simp only [Option.some.injEq, Obj.cells.injEq] at h3'
  exact hne h3'.2.1

/-- What a call of order leaves. -/
def OrderPost (w : World) (b : Nat) (ov : Value) (out : List Nd) (new : List Nd) (r : Ending) (w' : World) : Prop :=
  ∃ ov', r = .returned ov' ∧ w'.ownsRow b 36 6 ov' (out ++ new).length (ndsOf (out ++ new)) ∧ w.grownBy w' ov.ownBlock ∧ ∀ k, ov'.ownBlock = some k → ov.ownBlock = some k ∨ w.heap.size ≤ k
/-- The loop's relation: the first operands are laid. -/
structure OrdRel (w w2 : World) (b : Nat) (ov : Value) (out : List Nd) (e : List Nd) (L : List Int) (j : Nat) (wr : World) (ov' tv : Value) : Prop where
  le : j ≤ L.length
  own : wr.ownsRow b 36 6 ov' (out ++ flats e out.length (L.take j)).length (ndsOf (out ++ flats e out.length (L.take j)))
  row : wr.ownsRow w2.heap.size 3 1 tv j (intsOf ((List.range j).map (posOf e out.length L)))
  size : w2.heap.size ≤ wr.heap.size
  grown : w.grownBy wr ov.ownBlock
  keep : ∀ k, w.heap.size ≤ k → k < w2.heap.size → wr.heap[k]? = w2.heap[k]?
  blk : ∀ k, ov'.ownBlock = some k → ov.ownBlock = some k ∨ w2.heap.size ≤ k
theorem posOf_next (e : List Nd) (b : Nat) (L : List Int) (j : Nat) : (List.range (j + 1)).map (posOf e b L) = (List.range j).map (posOf e b L) ++ [posOf e b L j] := by
  rw [List.range_succ, List.map_append]; rfl
/-- One operand more: laid, and noted. -/
theorem ord_step {w w2 wr w3 w4 : World} {b : Nat} {ov ov' ov'' tv tv' : Value} {out : List Nd} {e : List Nd} {L : List Int} {j m : Nat} {o : Obj} (hj : L[j]? = some (m : Int)) (hb : b ≤ w.heap.size) (hw : w.heap.size ≤ w2.heap.size)
    (hov : ∀ k, ov.ownBlock = some k → k < w.heap.size) (h : OrdRel w w2 b ov out e L j wr ov' tv)
    (hown : w3.ownsRow b 36 6 ov'' ((out ++ flats e out.length (L.take j)) ++ (tree e m).flat (out ++ flats e out.length (L.take j)).length).length (ndsOf ((out ++ flats e out.length (L.take j)) ++ (tree e m).flat (out ++ flats e out.length (L.take j)).length)))
    (hg : wr.grownBy w3 ov'.ownBlock) (hblk : ∀ k, ov''.ownBlock = some k → ov'.ownBlock = some k ∨ wr.heap.size ≤ k)
    (hrow : w4.ownsRow w2.heap.size 3 1 tv' (j + 1) (intsOf ((List.range j).map (posOf e out.length L)) ++ [.int .i64 (posOf e out.length L j)])) (hg4 : (w3.alloc o).grownBy w4 tv.ownBlock)
    (htv : w3.ownsRow w2.heap.size 3 1 tv j (intsOf ((List.range j).map (posOf e out.length L)))) :
    OrdRel w w2 b ov out e L (j + 1) w4 ov'' tv' := by
  have hjl := (List.getElem?_eq_some_iff.1 hj).1
  have htk : L.take (j + 1) = L.take j ++ [(m : Int)] := by rw [List.take_add_one, hj]; rfl
  have hlen : (out ++ flats e out.length (L.take j)).length = out.length + upTo e (L.take j) := by rw [List.length_append, flats_len]
  have hs := h.size
  have hs3 := hg.size
  have hs4 := hg4.size
  simp at hs4
  have hne := own_ne hown htv (by decide)
  have hout : (out ++ flats e out.length (L.take j)) ++ (tree e m).flat (out ++ flats e out.length (L.take j)).length = out ++ flats e out.length (L.take (j + 1)) := by
    rw [htk, flats_snoc, Int.toNat_natCast, hlen, List.append_assoc]
  rw [hout] at hown
  have k4 : ∀ k, k < w3.heap.size → tv.ownBlock ≠ some k → w4.heap[k]? = w3.heap[k]? := fun k hk hn => by
    rw [hg4.block k (by simp; omega) (fun h => hn h.symm), Below.heap_alloc _ _ _ hk]
  have htl : ∀ k, tv.ownBlock = some k → w2.heap.size ≤ k := fun k hk => (htv.lt k hk).1
  refine ⟨by omega, ?_, ?_, by omega, ?_, ?_, ?_⟩
  · refine own_block hown (fun g hgb => k4 g (hown.lt g hgb).2 (hne g hgb))
  · rw [posOf_next, ints_snoc]; exact hrow
  · have g1 := h.grown
    refine ⟨?_, ?_, ?_, by omega, fun k hk hn => ?_⟩
    · exact (hg4.os).trans ((show (w3.alloc o).os = w3.os from rfl).trans (hg.os.trans g1.os)) 
    · exact (hg4.tape).trans ((show (w3.alloc o).tape = w3.tape from rfl).trans (hg.tape.trans g1.tape))
    · exact (hg4.output).trans ((show (w3.alloc o).output = w3.output from rfl).trans (hg.output.trans g1.output))
    · rw [k4 k (by omega) (fun h => by have := htl k h; omega), hg.block k (by omega) (fun h2 => by
        rcases h.blk k h2.symm with h3 | h3
        · exact hn h3.symm
        · omega)]
      exact g1.block k hk hn
  · intro k hk1 hk2
    rw [k4 k (by omega) (fun h => by have := htl k h; omega), hg.block k (by omega) (fun h2 => by
      rcases h.blk k h2.symm with h3 | h3
      · have := hov k h3; omega
      · omega)]
    exact h.keep k hk1 hk2
  · intro k hk
    rcases hblk k hk with h1 | h1
    · exact h.blk k h1
    · exact .inr (by omega)
end Go.Proofs.YtgohhnbdicdenaaDoor.Tr

/- The document's order, Sub and Norm. Conditions: the slice is read as a list of nodes. -/
namespace Go.Proofs.YtgohhnbdicdenaaDoor.Tr
open Go.ChangeShapes Go.WideShapes Go.ChangeAt Go.RowKit
set_option linter.unusedVariables false
set_option linter.unusedSimpArgs false

theorem ord_end {w w2 wr w3 w4 : World} {b : Nat} {ov ov' tv : Value} {out : List Nd} {e : List Nd} {L : List Int} {i N gg cap : Nat} {y : Nd} {o : Obj} (hw : w.heap.size ≤ w2.heap.size) (h : OrdRel w w2 b ov out e L L.length wr ov' tv)
    (hb3 : Below wr.heap.size wr w3) (hg : (w3.alloc o).grownBy w4 ov'.ownBlock) (hN : (out ++ flats e out.length (L.take L.length)).length = N)
    (hown : w4.ownsRow b 36 6 (.slice (some ⟨gg, 0, none⟩) (N + 1) cap) (N + 1) (ndsOf (out ++ flats e out.length L) ++ ndCells y)) (hat : ov'.ownBlock = some gg ∨ gg = w3.heap.size + 1)
    (hfl : (tree e i).flat out.length = flats e out.length L ++ [y]) :
    OrderPost w b ov out ((tree e i).flat out.length) (.returned (.slice (some ⟨gg, 0, none⟩) (N + 1) cap)) w4 := by
  rw [List.take_length] at hN
  have hs := h.size
  have hs3 := hb3.size
  have hs4 := hg.size
  simp at hs4
  have g1 := h.grown
  refine ⟨_, rfl, ?_, ⟨?_, ?_, ?_, by omega, fun k hk hn => ?_⟩, fun k hk => ?_⟩
  · rw [hfl, ← List.append_assoc, nds_snoc, List.length_append, hN]; exact hown
  · exact hg.os.trans ((show (w3.alloc o).os = w3.os from rfl).trans (hb3.os.trans g1.os))
  · exact hg.tape.trans ((show (w3.alloc o).tape = w3.tape from rfl).trans (hb3.tape.trans g1.tape))
  · exact hg.output.trans ((show (w3.alloc o).output = w3.output from rfl).trans (hb3.output.trans g1.output))
  · rw [hg.block k (by simp; omega) (fun h2 => by
      rcases h.blk k h2.symm with h3 | h3
      · exact hn h3.symm
      · omega), Below.heap_alloc _ _ _ (by omega), hb3.block k (by omega)]
    exact g1.block k hk hn
  · have hk' : gg = k := by simpa [Value.ownBlock] using hk
    subst hk'
    rcases hat with h1 | h1
    · rcases h.blk _ h1 with h2 | h2
      · exact .inl h2
      · exact .inr (by omega)
    · exact .inr (by omega)
theorem Nodes.at_block {w w' : World} {g o n c : Nat} {l : List Nd} (h : Nodes w (.slice (some ⟨g, o, none⟩) n c) l) (hk : w'.heap[g]? = w.heap[g]?) (hs : g < w'.heap.size) : Nodes w' (.slice (some ⟨g, o, none⟩) n c) l := by
  obtain ⟨A', c', e, h1, h2, h3⟩ := h
  refine ⟨A', c', e, h1, h2, fun i t hi => ?_⟩
  obtain ⟨g', o', hg, hlt, c0, c1, c2, c3, c4, c5⟩ := h3 i t hi
  have hA : A' = some ⟨g, o, none⟩ := by injection e with e1; exact e1.symm
  rw [hA] at hg
  simp only [Option.some.injEq, Addr.mk.injEq, and_true] at hg
  obtain ⟨rfl, rfl⟩ := hg
  have q : ∀ k, w'.cell? ⟨g, k, none⟩ = w.cell? ⟨g, k, none⟩ := fun k => World.cell?_of_block (w := w) (a := ⟨g, k, none⟩) hk
  exact ⟨g, o, hA, hs, (q _).trans c0, (q _).trans c1, (q _).trans c2, (q _).trans c3, (q _).trans c4, (q _).trans c5⟩

set_option maxRecDepth 100000 in
set_option maxHeartbeats 1000000 in
theorem order_any (ev : Value) (e : List Nd) (hm : May e) (b : Nat) : ∀ (f i : Nat) (w : World) (ov : Value) (out : List Nd), i < f → i < e.length → Nodes w ev e → w.ownsRow b 36 6 ov out.length (ndsOf out) → b ≤ w.heap.size →
    (∀ g o n c, ev = .slice (some ⟨g, o, none⟩) n c → g < b) → out.length + (tree e i).size ≤ 100000 →
    Calls Tryd.prog 75 #[ev, .int .i64 i, ov] w (OrderPost w b ov out ((tree e i).flat out.length)) := by
  intro f
  induction f with
  | zero => intro i w ov out h; omega
  | succ f ih =>
    intro i w ov out hif hie hv hown hb hlow hsz
    have IH := Lib.hid ih
    clear ih
    have HV := Lib.hid hv
    have hv2 := hv
    obtain ⟨A, c, rfl, h1, h2, hA⟩ := hv2
    unfold maxLen at h2
    obtain ⟨x, hx⟩ : ∃ x, e[i]? = some x := ⟨_, List.getElem?_eq_getElem hie⟩
    obtain ⟨g, o, rfl, hg, a0, a1, a2, a3, a4, a5⟩ := hA i x hx
    have hgb := hlow g o _ _ rfl
    have HLOW := Lib.hid hlow
    have HC := Lib.hid (And.intro a0 (And.intro a1 (And.intro a2 (And.intro a3 (And.intro a4 a5)))))
    have HM := Lib.hid hm
    have HX := Lib.hid hx
    have HO := Lib.hid hown
    have hovl : ∀ k, ov.ownBlock = some k → k < w.heap.size := fun k hk => (hown.lt k hk).2
    have HOVL := Lib.hid hovl
    have HOB := Lib.hid (show ∀ k, ov.ownBlock = some k → b ≤ k from fun k hk => (hown.lt k hk).1)
    clear hA hx hm hv hown hlow hovl
    obtain ⟨L, hL⟩ : ∃ L, kidsM x = L := ⟨_, rfl⟩
    have HL := Lib.hid hL
    have hLs : L.length ≤ 3 := by rw [← hL]; exact kids_small x
    have HIN := Lib.hid (show ∀ q ∈ L, 0 ≤ q ∧ q < (i : Int) by rw [← hL]; exact HM.out.ahead i x HX.out)
    have HSZ := Lib.hid (show (tree e i).size = upTo e L + 1 by rw [← hL]; exact tree_size e HM.out.ahead i x HX.out)
    have HFL := Lib.hid (show (tree e i).flat out.length = flats e out.length L ++ [mkL x.lab ((List.range L.length).map (posOf e out.length L))] by rw [← hL]; exact tree_flat e HM.out.ahead i x HX.out _)
    clear hL
    obtain ⟨i0, hi, hz0, hz1, hz2⟩ := info_parts info3
    obtain ⟨i1, hi', hz0', hz1', hz2'⟩ := info_parts info30
    go_enter Tryd.func75, Tryd.ntmps75
    go_wp2_with fail
    refine (rkids_any x _).mono ?_
    rintro r w2 ⟨kv, rfl, hok, hb2⟩
    rw [HL.out] at hok
    obtain ⟨A2, c2, rfl, y1, y2, hA2⟩ := Ints.of_own hok
    have HA2 := Lib.hid hA2
    have hz2w := hb2.size
    have HW2 := Lib.hid hz2w
    have HKO := Lib.hid (show ∀ g2 o2, A2 = some ⟨g2, o2, none⟩ → w.heap.size ≤ g2 from fun g2 o2 h => by subst h; have := hok.lt g2 rfl; omega)
    have HREL0 : Hid (OrdRel w w2 b ov out e L 0 w2 ov (.slice none 0 0)) := Lib.hid
      { le := Nat.zero_le _, own := by have := own_below HO.out hb2; simpa [flats] using this, row := World.ownsRow_nil _ _ _ _, size := Nat.le_refl _,
        grown := ⟨hb2.os, hb2.tape, hb2.output, hb2.size, fun k hk _ => hb2.block k hk⟩, keep := fun k _ _ => rfl, blk := fun k hk => .inl hk }
    clear hok hA2 hb2 a0 a1 a2 a3 a4 a5
    unfold maxLen at y2
    go_wp2
    go_loopw [2, 8, 9] (fun s1 s2 cv wr => ∃ (j : Nat) (ov' tv : Value), ov' = s1 ∧ tv = s2 ∧ cv = .int .i64 j ∧ OrdRel w w2 b ov out e L j wr ov' tv) (fun _ _ cv _ => L.length - (intOf cv).toNat)
    case atStart => exact ⟨0, _, _, rfl, rfl, rfl, HREL0.out⟩
    case round =>
      obtain ⟨j, ov', tv, rfl, rfl, rfl, hrel⟩ := hrel
      have hj := hrel.le
      have hs2 := hrel.size
      have HREL := Lib.hid hrel
      have kp : ∀ k, w.heap.size ≤ k → k < w2.heap.size → wr.heap[k]? = w2.heap[k]? := hrel.keep
      have KP := Lib.hid kp
      have HGB : Hid (wr.heap[g]? = w.heap[g]?) := Lib.hid (hrel.grown.block g hg (fun h => by have := HOB.out g h.symm; omega))
      have NV : Hid (Nodes wr (.slice (some ⟨g, o, none⟩) e.length c) e) := Lib.hid (HV.out.at_block (hrel.grown.block g hg (fun h => by have := HOB.out g h.symm; omega)) (by omega))
      clear hrel kp
      by_cases hlj : j < L.length
      · obtain ⟨q, hq⟩ : ∃ q, L[j]? = some q := ⟨_, List.getElem?_eq_getElem hlj⟩
        obtain ⟨g2, o2, rfl, hg2, d0'⟩ := HA2.out j q hq
        have hgb2 := HKO.out g2 o2 rfl
        have d0 := (World.cell?_of_block (w := w2) (a := ⟨g2, o2 + j, none⟩) (KP.out g2 hgb2 hg2)).trans d0'
        obtain ⟨hq0, hqi⟩ := HIN.out q (List.mem_of_getElem? hq)
        obtain ⟨m, rfl⟩ := Int.eq_ofNat_of_zero_le hq0
        have HQ := Lib.hid hq
        clear hq d0'
        have hup := upTo_le e L (j + 1)
        have HUP := Lib.hid (show out.length + upTo e (L.take j) + (tree e m).size ≤ 100000 by
          rw [List.take_add_one, HQ.out] at hup
          have h3 := upTo_snoc e (L.take j) (m : Int)
          simp only [Option.toList] at hup
          rw [h3, Int.toNat_natCast] at hup
          have h4 := HSZ.out
          omega)
        clear hup
        go_wp2_with fail
        refine (IH.out m _ ov' _ (by omega) (by omega) NV.out HREL.out.own (by omega) HLOW.out (by rw [List.length_append, flats_len]; exact HUP.out)).mono ?_
        rintro r w3 ⟨ov'', rfl, hown3, hg3, hblk3⟩
        obtain ⟨A3, c3, rfl, z1, z2, _⟩ := Nodes.of_own hown3
        have hs3 := hg3.size
        have htv : w3.ownsRow w2.heap.size 3 1 tv j (intsOf ((List.range j).map (posOf e out.length L))) := own_block HREL.out.row (fun k hk => hg3.block k (HREL.out.row.lt k hk).2 (fun h => own_ne HREL.out.own HREL.out.row (by decide) k h.symm hk))
        obtain ⟨N, hN⟩ : ∃ N, ((out ++ flats e out.length (L.take j)) ++ (tree e m).flat (out ++ flats e out.length (L.take j)).length).length = N := ⟨_, rfl⟩
        have HN := Lib.hid hN
        have HPO := Lib.hid (show posOf e out.length L j = ((N - 1 : Nat) : Int) by
          rw [← hN]
          unfold posOf
          rw [List.length_append, List.length_append, flats_len, T.flat_len, List.take_add_one, HQ.out]
          rw [show (some (m : Int)).toList = [(m : Int)] from rfl, upTo_snoc, Int.toNat_natCast]
          congr 1; omega)
        have hNp : 1 ≤ N := by rw [← hN, List.length_append, T.flat_len]; have := (tree e m).size_pos; omega
        have hNm : N ≤ 100000 := by rw [← hN, List.length_append, List.length_append, flats_len, T.flat_len]; exact HUP.out
        have H3 := Lib.hid (And.intro hown3 (And.intro hg3 hblk3))
        have HTV := Lib.hid htv
        rw [hN] at z1
        clear hown3 hg3 hblk3 hN
        have e1 : (N : Int) - 1 = ((N - 1 : Nat) : Int) := by omega
        have HE1 := Lib.hid e1
        unfold maxLen at z2
        rw [HN.out]
        clear e1 htv
        go_wp2_with (at_builtin; refine wpList_append_own _ rfl (.tmp 28) (.tmp 32) 34 rfl w2.heap.size 3 i0 _ 1 8 Tryd.underlying34 hi hz0 hz1 hz2 rfl (by decide) _ _ _ rfl (HTV.out.alloc _) ⟨w3.heap.size, 0, none⟩ 1 1 [.int .i64 ((N : Int) - 1)] rfl rfl ?a1 ?b1 ?c1 ?d1 ?e1 ?_)
        case a1 => exact cell_one_new _ _ _
        case b1 => intro u hu; simp at hu; subst hu; rfl
        case c1 => unfold maxLen; omega
        case d1 => omega
        case e1 => simp; omega
        intro tv' w4 hrow4 hg4 _
        rw [HE1.out, ← HPO.out] at hrow4
        have R := Lib.hid (ord_step HQ.out hb HW2.out HOVL.out HREL.out H3.out.1 H3.out.2.1 H3.out.2.2 hrow4 hg4 HTV.out)
        clear hrow4 hg4
        go_wp2
        refine ⟨⟨j + 1, _, _, rfl, rfl, by go_num, ?_⟩, by simp [intOf]; omega⟩
        rw [← HN.out]; exact R.out
      · have hjl : j = L.length := by omega
        subst hjl
        have HL2 : Hid (Ints wr tv ((List.range L.length).map (posOf e out.length L))) := Lib.hid (Ints.of_own (by have := HREL.out.row; simpa using this))
        obtain ⟨l, hl⟩ : ∃ l, (List.range L.length).map (posOf e out.length L) = l := ⟨_, rfl⟩
        have hll : l.length = L.length := by rw [← hl]; simp
        rw [hl] at HL2 HFL
        have HAIM := Lib.hid (aim_mk x L l (by rw [← HL.out]; exact (HM.out.node i x HX.out).bare) hll.symm (by omega))
        obtain ⟨N, hN⟩ : ∃ N, (out ++ flats e out.length (L.take L.length)).length = N := ⟨_, rfl⟩
        have HN := Lib.hid hN
        have hNm : N ≤ 100000 := by
          rw [← hN, List.length_append, flats_len, List.take_length]; have := HSZ.out; omega
        have b0 := (World.cell?_of_block (w := w) (a := ⟨g, o + i * 6, none⟩) HGB.out).trans HC.out.1
        have b1 := (World.cell?_of_block (w := w) (a := ⟨g, o + i * 6 + 1, none⟩) HGB.out).trans HC.out.2.1
        have b2 := (World.cell?_of_block (w := w) (a := ⟨g, o + i * 6 + 2, none⟩) HGB.out).trans HC.out.2.2.1
        have b3 := (World.cell?_of_block (w := w) (a := ⟨g, o + i * 6 + 3, none⟩) HGB.out).trans HC.out.2.2.2.1
        have b4 := (World.cell?_of_block (w := w) (a := ⟨g, o + i * 6 + 4, none⟩) HGB.out).trans HC.out.2.2.2.2.1
        have b5 := (World.cell?_of_block (w := w) (a := ⟨g, o + i * 6 + 5, none⟩) HGB.out).trans HC.out.2.2.2.2.2
        clear hl hN
        go_wp2_with fail
        refine (aim_any x tv l _ HL2.out (by omega)).mono ?_
        rintro r w3 ⟨rfl, hb3⟩
        obtain ⟨y, hy⟩ : ∃ y, aimM x l = y := ⟨_, rfl⟩
        have HY := Lib.hid hy
        rw [hy]
        have HB3 := Lib.hid hb3
        have hs3 := hb3.size
        have HO3 := Lib.hid (own_below HREL.out.own hb3)
        rw [HN.out] at HO3
        clear hy hb3 b0 b1 b2 b3 b4 b5
        go_wp2_with (at_builtin; refine wpList_append_lies _ rfl (.tmp 34) (.tmp 41) 24 rfl b 36 i1 _ 6 56 Tryd.underlying24 hi' hz0' hz1' hz2' rfl (by decide) ov' N _ rfl (HO3.out.alloc _) ⟨w3.heap.size, 0, none⟩ 1 1 (ndCells y) rfl rfl ?a2 ?b2 (by omega) ?c2 ?d2 ?e2 (w3.heap.size + 1) ?f2 ?_)
        case a2 => exact World.news_of_block (t := 36) (fr := (0, 0)) (heap_alloc_new _ _)
        case b2 => simp [ndCells, Value.oneCell']
        case c2 => unfold maxLen; omega
        case d2 => omega
        case e2 => simp; omega
        case f2 => simp
        intro gg cap w4 hown4 hg4 hat _
        have R := Lib.hid (ord_end (i := i) HW2.out HREL.out HB3.out hg4 HN.out hown4 hat (by rw [HFL.out, ← HAIM.out, HY.out]))
        clear hown4 hg4 hat
        go_wp2
        go_ret
        exact R.out

/-- What the expression of a node is. -/
noncomputable def subM (e : List Nd) (i : Int) : List Nd := if mayB e = true ∧ 0 ≤ i ∧ i < (e.length : Int) then (tree e i.toNat).flat 0 else []
/-- What a call that hands back nodes leaves. -/
def NodesPost (w : World) (l : List Nd) (r : Ending) (w' : World) : Prop :=
  ∃ v, r = .returned v ∧ w'.ownsRow w.heap.size 36 6 v l.length (ndsOf l) ∧ Below w.heap.size w w'
theorem nodes_none (w w' : World) (h : Below w.heap.size w w') : NodesPost w [] (.returned (.slice none 0 0)) w' := ⟨_, rfl, World.ownsRow_nil _ _ _ _, h⟩
theorem rmay_lit (v : Value) (e : List Nd) (b : Bool) (w : World) (hv : Nodes w v e) (h : mayB e = b) : Calls Tryd.prog 15 #[v] w fun r w' => r = .returned (.bool b) ∧ Below w.heap.size w w' := by rw [← h]; exact rmay_any v e w hv
theorem size_le (e : List Nd) (h : May e) (i : Nat) (hi : i < e.length) : (tree e i).size ≤ e.length := by
  rw [← desc_size h.ahead i hi]
  exact nodup_le e.length _ (desc_nodup h.once h.ahead i hi) (fun x hx => by have := desc_le h.ahead i hi x hx; omega)

set_option maxHeartbeats 1000000 in
theorem rsub_any (v : Value) (e : List Nd) (i : Int) (w : World) (hv : Nodes w v e) : Calls Tryd.prog 43 #[v, .int .i64 i] w (NodesPost w (subM e i)) := by
  have HV := Lib.hid hv
  obtain ⟨A, c, rfl, h1, h2, hA⟩ := hv
  clear hA
  unfold maxLen at h2
  rcases Bool.eq_false_or_eq_true (mayB e) with hm | hm
  · by_cases h0 : 0 ≤ i
    · by_cases hl : i < (e.length : Int)
      · obtain ⟨m, rfl⟩ := Int.eq_ofNat_of_zero_le h0
        have hml : m < e.length := by omega
        have HM := Lib.hid (may_of hm)
        have HR := Lib.hid (show subM e (m : Int) = (tree e m).flat 0 by unfold subM; rw [if_pos ⟨hm, h0, hl⟩, Int.toNat_natCast])
        have hd : decide (e.length ≤ m) = false := by simp; omega
        have HMM := Lib.hid hm
        clear hm
        rw [HR.out]
        go_enter Tryd.func43, Tryd.ntmps43
        go_wp2_with fail
        refine (rmay_lit _ e _ _ HV.out HMM.out).mono ?_
        rintro r w2 ⟨rfl, hb2⟩
        have HB2 := Lib.hid hb2
        have hs2 := hb2.size
        have HV2 := Lib.hid (HV.out.below hb2 (Nat.le_refl _))
        clear hb2
        go_wp2_with fail
        refine (order_any _ e HM.out w.heap.size (m + 1) m _ _ [] (by omega) hml HV2.out (World.ownsRow_nil _ _ _ _) hs2 (fun g o n c' he => by
          obtain ⟨A', c'', e1, _, _, hA⟩ := HV.out
          obtain ⟨g', o', hg, hlt, _⟩ := hA m _ (List.getElem?_eq_getElem hml)
          injection e1 with e2
          injection he with e3
          rw [← e2, e3] at hg
          simp at hg
          omega) (by have := size_le e HM.out m hml; have := HM.out.le; simp; omega)).mono ?_
        rintro r w3 ⟨ov, rfl, hown, hg, -⟩
        have HO := Lib.hid hown
        have HG := Lib.hid (HB2.out.grown hg hs2 (fun k hk => by simp [Value.ownBlock] at hk))
        clear hown hg
        go_wp2
        go_ret
        exact ⟨_, rfl, by simpa using HO.out, HG.out⟩
      · have HR := Lib.hid (show subM e i = [] by unfold subM; rw [if_neg (by omega)])
        have HMM := Lib.hid hm
        have hl' : (e.length : Int) ≤ i := by omega
        clear hm
        rw [HR.out]
        go_enter Tryd.func43, Tryd.ntmps43
        go_wp2_with fail
        refine (rmay_lit _ e _ _ HV.out HMM.out).mono ?_
        rintro r w2 ⟨rfl, hb2⟩
        go_wp2
        go_ret
        exact nodes_none _ _ hb2
    · have HR := Lib.hid (show subM e i = [] by unfold subM; rw [if_neg (by omega)])
      have HMM := Lib.hid hm
      have hl' : i < 0 := by omega
      clear hm h0
      rw [HR.out]
      go_enter Tryd.func43, Tryd.ntmps43
      go_wp2_with fail
      refine (rmay_lit _ e _ _ HV.out HMM.out).mono ?_
      rintro r w2 ⟨rfl, hb2⟩
      go_wp2
      go_ret
      exact nodes_none _ _ hb2
  · have HR := Lib.hid (show subM e i = [] by unfold subM; rw [if_neg (by rw [hm]; simp)])
    have HMM := Lib.hid hm
    clear hm
    rw [HR.out]
    go_enter Tryd.func43, Tryd.ntmps43
    go_wp2_with fail
    refine (rmay_lit _ e _ _ HV.out HMM.out).mono ?_
    rintro r w2 ⟨rfl, hb2⟩
    go_wp2
    go_ret
    exact nodes_none _ _ hb2
/-- An expression in order, or nothing. -/
noncomputable def normB (e : List Nd) : List Nd := subM e ((e.length : Int) - 1)
theorem rnorm_any (v : Value) (e : List Nd) (w : World) (hv : Nodes w v e) : Calls Tryd.prog 23 #[v] w (NodesPost w (normB e)) := by
  have HV := Lib.hid hv
  obtain ⟨A, c, rfl, h1, h2, hA⟩ := hv
  clear hA
  unfold maxLen at h2
  go_enter Tryd.func23, Tryd.ntmps23
  go_wp2_with fail
  refine (rsub_any _ e _ _ HV.out).mono ?_
  rintro r w2 ⟨ov, rfl, hown, hb⟩
  go_wp2
  go_ret
  exact ⟨_, rfl, hown, hb⟩
end Go.Proofs.YtgohhnbdicdenaaDoor.Tr

/- The functions laid and behind lay an expression's nodes behind others. Conditions: the slices are read as lists of nodes; what is laid stands apart from what it is laid of. -/
namespace Go.Proofs.YtgohhnbdicdenaaDoor.Tr
open Go.ChangeShapes Go.WideShapes Go.ChangeAt Go.RowKit
set_option linter.unusedVariables false
set_option linter.unusedSimpArgs false

/-- A node, its operands counted on. -/
def onNd (f : Int) (x : Nd) : Nd := ⟨x.op, onM f x.a, onM f x.b, onM f x.c, x.n, x.name⟩
/-- Nodes behind others, counted on by how many stand ahead. -/
def behindM (a p : List Nd) : List Nd := a ++ p.map (onNd (a.length : Int))
/-- The loop's relation: the first nodes are laid behind. -/
structure BehRel (w : World) (b : Nat) (av : Value) (a p : List Nd) (k : Nat) (wr : World) (ov : Value) : Prop where
  le : k ≤ p.length
  own : wr.ownsRow b 36 6 ov (a.length + k) (ndsOf (a ++ (p.map (onNd (a.length : Int))).take k))
  grown : w.grownBy wr av.ownBlock
  blk : ∀ j, ov.ownBlock = some j → av.ownBlock = some j ∨ w.heap.size ≤ j
theorem grown_chain {w wr w3 w4 : World} {row row2 : Option Nat} {o : Obj} (g1 : w.grownBy wr row) (hb : Below wr.heap.size wr w3) (hg : (w3.alloc o).grownBy w4 row2) (hr : ∀ k, row2 = some k → row = some k ∨ w.heap.size ≤ k) : w.grownBy w4 row := by
  have hs := g1.size
  have hs3 := hb.size
  have hs4 := hg.size
  simp at hs4
  refine ⟨?_, ?_, ?_, by omega, fun k hk hn => ?_⟩
  · exact hg.os.trans ((show (w3.alloc o).os = w3.os from rfl).trans (hb.os.trans g1.os))
  · exact hg.tape.trans ((show (w3.alloc o).tape = w3.tape from rfl).trans (hb.tape.trans g1.tape))
  · exact hg.output.trans ((show (w3.alloc o).output = w3.output from rfl).trans (hb.output.trans g1.output))
  · rw [hg.block k (by simp; omega) (fun h2 => by
      rcases hr k h2.symm with h3 | h3
      · exact hn h3.symm
      · omega), Below.heap_alloc _ _ _ (by omega), hb.block k (by omega)]
    exact g1.block k hk hn
theorem beh_step {w wr w3 w4 : World} {b : Nat} {av ov : Value} {a p : List Nd} {k gg cap : Nat} {x : Nd} {o : Obj} (hx : p[k]? = some x) (h : BehRel w b av a p k wr ov) (hb : Below wr.heap.size wr w3) (hg : (w3.alloc o).grownBy w4 ov.ownBlock)
    (hown : w4.ownsRow b 36 6 (.slice (some ⟨gg, 0, none⟩) (a.length + k + 1) cap) (a.length + k + 1) (ndsOf (a ++ (p.map (onNd (a.length : Int))).take k) ++ ndCells (onNd (a.length : Int) x))) (hat : ov.ownBlock = some gg ∨ gg = w3.heap.size + 1) :
    BehRel w b av a p (k + 1) w4 (.slice (some ⟨gg, 0, none⟩) (a.length + k + 1) cap) := by
  have hk := (List.getElem?_eq_some_iff.1 hx).1
  have hs := h.grown.size
  have hs3 := hb.size
  refine ⟨by omega, ?_, grown_chain h.grown hb hg h.blk, fun j hj => ?_⟩
  · rw [List.take_add_one, List.getElem?_map, hx, show (Option.map (onNd (a.length : Int)) (some x)).toList = [onNd (a.length : Int) x] from rfl, ← List.append_assoc, nds_snoc]
    exact hown
  · have hj' : gg = j := by simpa [Value.ownBlock] using hj
    subst hj'
    rcases hat with h1 | h1
    · exact h.blk _ h1
    · exact .inr (by omega)

set_option maxRecDepth 100000 in
set_option maxHeartbeats 1000000 in
theorem behind_own (av pv : Value) (a p : List Nd) (b : Nat) (w : World) (hown : w.ownsRow b 36 6 av a.length (ndsOf a)) (hb : b ≤ w.heap.size) (hp : Nodes w pv p) (hlow : 0 < p.length → ∀ g o n c, pv = .slice (some ⟨g, o, none⟩) n c → av.ownBlock ≠ some g) (hn : a.length + p.length ≤ 100000) :
    Calls Tryd.prog 45 #[av, pv] w (OrderPost w b av a (p.map (onNd (a.length : Int)))) := by
  obtain ⟨A, c, rfl, h1, h2, hA⟩ := hp
  unfold maxLen at h2
  have HA := Lib.hid hA
  have HLOW := Lib.hid hlow
  have HOB := Lib.hid (show ∀ k, av.ownBlock = some k → b ≤ k from fun k hk => (hown.lt k hk).1)
  have HREL0 : Hid (BehRel w b av a p 0 w av) := Lib.hid ⟨Nat.zero_le _, by simpa using hown, World.grownBy.refl _ _, fun j hj => .inl hj⟩
  obtain ⟨A1, c1, rfl, y1, y2, _⟩ := Nodes.of_own hown
  unfold maxLen at y2
  obtain ⟨i1, hi', hz0', hz1', hz2'⟩ := info_parts info30
  clear hA hown hlow
  go_enter Tryd.func45, Tryd.ntmps45
  go_wp2
  go_loopw [0, 6] (fun s0 i wr => ∃ (k : Nat) (ov : Value), ov = s0 ∧ i = .int .i64 k ∧ BehRel w b (.slice A1 a.length c1) a p k wr ov) (fun _ i _ => p.length - (intOf i).toNat)
  case atStart => exact ⟨0, _, rfl, rfl, HREL0.out⟩
  case round =>
    obtain ⟨k, ov, rfl, rfl, hrel⟩ := hrel
    have hk := hrel.le
    have HREL := Lib.hid hrel
    have hs := hrel.grown.size
    by_cases hlt : k < p.length
    · obtain ⟨x, hx⟩ : ∃ x, p[k]? = some x := ⟨_, List.getElem?_eq_getElem hlt⟩
      obtain ⟨g, o, rfl, hg, a0, a1, a2, a3, a4, a5⟩ := HA.out k x hx
      have hgb := HLOW.out (by omega) g o _ _ rfl
      have HGB := Lib.hid (hrel.grown.block g hg (fun h => hgb h.symm))
      have b0 := (World.cell?_of_block (w := w) (a := ⟨g, o + k * 6, none⟩) HGB.out).trans a0
      have b1 := (World.cell?_of_block (w := w) (a := ⟨g, o + k * 6 + 1, none⟩) HGB.out).trans a1
      have b2 := (World.cell?_of_block (w := w) (a := ⟨g, o + k * 6 + 2, none⟩) HGB.out).trans a2
      have b3 := (World.cell?_of_block (w := w) (a := ⟨g, o + k * 6 + 3, none⟩) HGB.out).trans a3
      have b4 := (World.cell?_of_block (w := w) (a := ⟨g, o + k * 6 + 4, none⟩) HGB.out).trans a4
      have b5 := (World.cell?_of_block (w := w) (a := ⟨g, o + k * 6 + 5, none⟩) HGB.out).trans a5
      have HX := Lib.hid hx
      clear hx a0 a1 a2 a3 a4 a5 hrel
      go_wp2_with fail
      refine (move_any _ _ _ _ _ _ _ _).mono ?_
      rintro r w3 ⟨rfl, hb3⟩
      have hs3 := hb3.size
      have HB3 := Lib.hid hb3
      have HO3 := Lib.hid (own_below HREL.out.own hb3)
      clear hb3 b0 b1 b2 b3 b4 b5
      go_wp2_with (at_builtin; refine wpList_append_lies _ rfl (.tmp 15) (.tmp 22) 24 rfl b 36 i1 _ 6 56 Tryd.underlying24 hi' hz0' hz1' hz2' rfl (by decide) ov (a.length + k) _ rfl (HO3.out.alloc _) ⟨w3.heap.size, 0, none⟩ 1 1 (ndCells (onNd (a.length : Int) x)) rfl rfl ?a2 ?b2 (by omega) ?c2 ?d2 ?e2 (w3.heap.size + 1) ?f2 ?_)
      case a2 => exact World.news_of_block (t := 36) (fr := (0, 0)) (heap_alloc_new _ _)
      case b2 => simp [ndCells, Value.oneCell']
      case c2 => unfold maxLen; omega
      case d2 => omega
      case e2 => simp; omega
      case f2 => simp
      intro gg cap w4 hown4 hg4 hat _
      have R := Lib.hid (beh_step HX.out HREL.out HB3.out hg4 hown4 hat)
      clear hown4 hg4 hat
      go_wp2
      refine ⟨⟨k + 1, _, rfl, by go_num, R.out⟩, by simp [intOf]; omega⟩
    · have hkl : k = p.length := by omega
      subst hkl
      clear hrel
      go_wp2
      go_ret
      refine ⟨_, rfl, ?_, HREL.out.grown, HREL.out.blk⟩
      have := HREL.out.own
      rw [List.take_of_length_le (by simp)] at this
      rw [List.length_append, List.length_map]; exact this
theorem behind_any (av pv : Value) (a p : List Nd) (b : Nat) (w : World) (hown : w.ownsRow b 36 6 av a.length (ndsOf a)) (hb : b ≤ w.heap.size) (hp : Nodes w pv p) (hlow : 0 < p.length → ∀ g o n c, pv = .slice (some ⟨g, o, none⟩) n c → g < b) (hn : a.length + p.length ≤ 100000) :
    Calls Tryd.prog 45 #[av, pv] w (OrderPost w b av a (p.map (onNd (a.length : Int)))) :=
  behind_own av pv a p b w hown hb hp (fun h g o n c hh hk => by have := hlow h g o n c hh; have := (hown.lt g hk).1; omega) hn
end Go.Proofs.YtgohhnbdicdenaaDoor.Tr

/- The function laid lays an expression's nodes behind others. Conditions: the slices are read as lists of nodes; what is laid stands apart from what it is laid of. -/
namespace Go.Proofs.YtgohhnbdicdenaaDoor.Tr
open Go.ChangeShapes Go.WideShapes Go.ChangeAt Go.RowKit
set_option linter.unusedVariables false
set_option linter.unusedSimpArgs false

set_option maxRecDepth 100000 in
set_option maxHeartbeats 1000000 in
theorem laid_any (av pv : Value) (a p : List Nd) (b : Nat) (w : World) (hown : w.ownsRow b 36 6 av a.length (ndsOf a)) (hb : b ≤ w.heap.size) (hp : Nodes w pv p) (hlow : 0 < p.length → ∀ g o n c, pv = .slice (some ⟨g, o, none⟩) n c → g < b) (hn : a.length + p.length ≤ 100000) :
    Calls Tryd.prog 121 #[av, pv] w (OrderPost w b av a (p.map (onNd (a.length : Int)))) := by
  obtain ⟨A, c, rfl, h1, h2, hA⟩ := hp
  unfold maxLen at h2
  have HA := Lib.hid hA
  have HLOW := Lib.hid hlow
  have HOB := Lib.hid (show ∀ k, av.ownBlock = some k → b ≤ k from fun k hk => (hown.lt k hk).1)
  have HREL0 : Hid (BehRel (w.alloc (.cells #[.int .i64 (a.length : Int)] 3)) b av a p 0 (w.alloc (.cells #[.int .i64 (a.length : Int)] 3)) av) := Lib.hid ⟨Nat.zero_le _, by simpa using hown.alloc _, World.grownBy.refl _ _, fun j hj => .inl hj⟩
  have HOL := Lib.hid (show ∀ k, av.ownBlock = some k → k < w.heap.size from fun k hk => (hown.lt k hk).2)
  obtain ⟨A1, c1, rfl, y1, y2, _⟩ := Nodes.of_own hown
  unfold maxLen at y2
  obtain ⟨i1, hi', hz0', hz1', hz2'⟩ := info_parts info30
  clear hA hown hlow
  go_enter Tryd.func121, Tryd.ntmps121
  go_wp2
  go_loopw [0, 12] (fun s0 i wr => ∃ (k : Nat) (ov : Value), ov = s0 ∧ i = .int .i64 k ∧ BehRel (w.alloc (.cells #[.int .i64 (a.length : Int)] 3)) b (.slice A1 a.length c1) a p k wr ov) (fun _ i _ => p.length - (intOf i).toNat)
  case atStart => exact ⟨0, _, rfl, rfl, HREL0.out⟩
  case round =>
    obtain ⟨k, ov, rfl, rfl, hrel⟩ := hrel
    have hk := hrel.le
    have HREL := Lib.hid hrel
    have hs := hrel.grown.size
    simp at hs
    have HF := Lib.hid ((hrel.grown.block w.heap.size (by simp) (fun h => by have := HOL.out _ h.symm; omega)).trans (heap_alloc_new w _))
    have cF := cell_of_one HF.out
    have hneF : w.heap.size ≠ wr.heap.size := by omega
    by_cases hlt : k < p.length
    · obtain ⟨x, hx⟩ : ∃ x, p[k]? = some x := ⟨_, List.getElem?_eq_getElem hlt⟩
      obtain ⟨g, o, rfl, hg, a0, a1, a2, a3, a4, a5⟩ := HA.out k x hx
      have hgb := HLOW.out (by omega) g o _ _ rfl
      have HGB := Lib.hid ((hrel.grown.block g (by simp; omega) (fun h => by have := HOB.out g h.symm; omega)).trans (Below.heap_alloc w _ g hg))
      have hgnw : g ≠ wr.heap.size := by omega
      have b0 := (World.cell?_of_block (w := w) (a := ⟨g, o + k * 6, none⟩) HGB.out).trans a0
      have b1 := (World.cell?_of_block (w := w) (a := ⟨g, o + k * 6 + 1, none⟩) HGB.out).trans a1
      have b2 := (World.cell?_of_block (w := w) (a := ⟨g, o + k * 6 + 2, none⟩) HGB.out).trans a2
      have b3 := (World.cell?_of_block (w := w) (a := ⟨g, o + k * 6 + 3, none⟩) HGB.out).trans a3
      have b4 := (World.cell?_of_block (w := w) (a := ⟨g, o + k * 6 + 4, none⟩) HGB.out).trans a4
      have b5 := (World.cell?_of_block (w := w) (a := ⟨g, o + k * 6 + 5, none⟩) HGB.out).trans a5
      have HX := Lib.hid hx
      clear hx a0 a1 a2 a3 a4 a5 hrel
      go_wp2_with fail
      refine (moved54 _ _ _ _ _ _ ⟨w.heap.size, 0, none⟩ (a.length : Int) _ (by exact (World.cell?_alloc_lt _ _ _ (by simp; omega)).trans cF)).mono ?_
      rintro r w3 ⟨rfl, hb3⟩
      have hs3 := hb3.size
      simp at hs3
      have HB3 := Lib.hid ((below_new wr _).trans (hb3.mono (by simp)))
      have HO3 := Lib.hid (own_below HREL.out.own HB3.out)
      clear hb3 b0 b1 b2 b3 b4 b5
      go_wp2_with (at_builtin; refine wpList_append_lies _ rfl (.tmp 16) (.tmp 20) 24 rfl b 36 i1 _ 6 56 Tryd.underlying24 hi' hz0' hz1' hz2' rfl (by decide) ov (a.length + k) _ rfl (HO3.out.alloc _) ⟨w3.heap.size, 0, none⟩ 1 1 (ndCells (onNd (a.length : Int) x)) rfl rfl ?a2 ?b2 (by omega) ?c2 ?d2 ?e2 (w3.heap.size + 1) ?f2 ?_)
      case a2 => exact World.news_of_block (t := 36) (fr := (0, 0)) (heap_alloc_new _ _)
      case b2 => simp [ndCells, Value.oneCell']
      case c2 => unfold maxLen; omega
      case d2 => omega
      case e2 => simp; omega
      case f2 => simp
      intro gg cap w4 hown4 hg4 hat _
      have R := Lib.hid (beh_step HX.out HREL.out HB3.out hg4 hown4 hat)
      clear hown4 hg4 hat
      go_wp2
      refine ⟨⟨k + 1, _, rfl, by go_num, R.out⟩, by simp [intOf]; omega⟩
    · have hkl : k = p.length := by omega
      subst hkl
      clear hrel
      go_wp2
      go_ret
      have g1 := HREL.out.grown
      refine ⟨_, rfl, ?_, ⟨g1.os, g1.tape, g1.output, by have := g1.size; simp at this; omega, fun k hk hn => (g1.block k (by simp; omega) hn).trans (Below.heap_alloc w _ k hk)⟩, fun j hj => by
        rcases HREL.out.blk j hj with h1 | h1
        · exact .inl h1
        · exact .inr (by simp at h1; omega)⟩
      have := HREL.out.own
      rw [List.take_of_length_le (by simp)] at this
      rw [List.length_append, List.length_map]; exact this
end Go.Proofs.YtgohhnbdicdenaaDoor.Tr

/- The function call lays the parts of a Call, an Args behind each, and the Call. Conditions: the slices are read as lists; the parts stand apart from what they are laid behind. -/
namespace Go.Proofs.YtgohhnbdicdenaaDoor.Tr
open Go.ChangeShapes Go.WideShapes Go.ChangeAt Go.RowKit
set_option linter.unusedVariables false
set_option linter.unusedSimpArgs false

/-- A slice value reads as a list of expressions, all of it below a block. -/
def Parts (w : World) (b : Nat) (v : Value) (ls : List (List Nd)) : Prop :=
  ∃ A c, v = .slice A ls.length c ∧ ls.length ≤ c ∧ c ≤ maxLen ∧ ∀ i l, ls[i]? = some l → ∃ g o u, A = some ⟨g, o, none⟩ ∧ g < b ∧ g < w.heap.size ∧ w.cell? ⟨g, o + i, none⟩ = some u ∧ Nodes w u l ∧
    (0 < l.length → ∀ g o n c, u = .slice (some ⟨g, o, none⟩) n c → g < b)
theorem Nodes.low {w w' : World} {u : Value} {l : List Nd} {b : Nat} (h : Nodes w u l) (hl : 0 < l.length → ∀ g o n c, u = .slice (some ⟨g, o, none⟩) n c → g < b) (hs : w.heap.size ≤ w'.heap.size) (hk : ∀ g, g < b → g < w.heap.size → w'.heap[g]? = w.heap[g]?) : Nodes w' u l := by
  obtain ⟨A, c, rfl, h1, h2, h3⟩ := h
  refine ⟨A, c, rfl, h1, h2, fun i t hi => ?_⟩
  obtain ⟨g, o, rfl, hlt, c0, c1, c2, c3, c4, c5⟩ := h3 i t hi
  have q : ∀ k, w'.cell? ⟨g, k, none⟩ = w.cell? ⟨g, k, none⟩ := fun k => World.cell?_of_block (w := w) (a := ⟨g, k, none⟩) (hk g (hl (by have := (List.getElem?_eq_some_iff.1 hi).1; omega) _ _ _ _ rfl) hlt)
  exact ⟨g, o, rfl, by omega, (q _).trans c0, (q _).trans c1, (q _).trans c2, (q _).trans c3, (q _).trans c4, (q _).trans c5⟩
/-- One part more of a Call: the nodes, the last one's number. -/
def callStep (s : List Nd × Int) (p : List Nd) : List Nd × Int :=
  (behindM s.1 p ++ [overM 28 0 [] [((behindM s.1 p).length : Int) - 1, s.2]], ((behindM s.1 p).length : Int))
def callF (out : List Nd) (ls : List (List Nd)) : List Nd × Int := ls.foldl callStep (out, -1)
def callM (out : List Nd) (n : Int) (s : Bytes) (ls : List (List Nd)) : List Nd := (callF out ls).1 ++ [overM 27 n s [(callF out ls).2]]
theorem callF_next (out : List Nd) (ls : List (List Nd)) (k : Nat) (p : List Nd) (h : ls[k]? = some p) : callF out (ls.take (k + 1)) = callStep (callF out (ls.take k)) p := by
  unfold callF; rw [List.take_add_one, h, show (some p).toList = [p] from rfl, List.foldl_append]; rfl
theorem behind_len (a p : List Nd) : (behindM a p).length = a.length + p.length := by unfold behindM; simp
theorem callF_len (out : List Nd) (ls : List (List Nd)) : (callF out ls).1.length = out.length + (ls.map (fun p => p.length + 1)).sum := by
  unfold callF
  generalize (-1 : Int) = z
  induction ls generalizing out z with
  | nil => simp
  | cons p r ih =>
    rw [List.foldl_cons]
    show (r.foldl callStep (behindM out p ++ _, _)).1.length = _
    rw [ih, List.length_append, behind_len, List.map_cons, List.sum_cons]; simp; omega
theorem callF_mono (out : List Nd) (ls : List (List Nd)) (k : Nat) : (callF out (ls.take k)).1.length ≤ (callF out ls).1.length := by
  rw [callF_len, callF_len]
  conv => rhs; rw [← List.take_append_drop k ls]
  rw [List.map_append, List.sum_append]; omega
theorem callF_step_len (out : List Nd) (ls : List (List Nd)) (k : Nat) (p : List Nd) (h : ls[k]? = some p) : (callF out (ls.take k)).1.length + p.length + 1 ≤ (callF out ls).1.length := by
  have := callF_mono out ls (k + 1)
  rw [callF_next out ls k p h] at this
  unfold callStep at this
  rw [List.length_append, behind_len] at this
  simpa using this
theorem grown_trans {w wr w3 : World} {row row2 : Option Nat} (g1 : w.grownBy wr row) (g2 : wr.grownBy w3 row2) (hr : ∀ k, row2 = some k → row = some k ∨ w.heap.size ≤ k) : w.grownBy w3 row := by
  have hs := g1.size
  have hs2 := g2.size
  refine ⟨g2.os.trans g1.os, g2.tape.trans g1.tape, g2.output.trans g1.output, by omega, fun k hk hn => ?_⟩
  rw [g2.block k (by omega) (fun h2 => by
    rcases hr k h2.symm with h3 | h3
    · exact hn h3.symm
    · omega)]
  exact g1.block k hk hn
theorem over2 (o n x y : Int) (s : ByteArray) (v : Value) (w : World) (hv : Ints w v [x, y]) : Calls Tryd.prog 120 #[.int .i64 o, .int .i64 n, .string s, v] w
    fun e w' => e = .returned (.agg #[.int .i64 o, .int .i64 x, .int .i64 y, .int .i64 (-1), .int .i64 n, .string s]) ∧ Below w.heap.size w w' := over_any o n s v [x, y] w hv (by simp)
theorem over1 (o n x : Int) (s : ByteArray) (v : Value) (w : World) (hv : Ints w v [x]) : Calls Tryd.prog 120 #[.int .i64 o, .int .i64 n, .string s, v] w
    fun e w' => e = .returned (.agg #[.int .i64 o, .int .i64 x, .int .i64 (-1), .int .i64 (-1), .int .i64 n, .string s]) ∧ Below w.heap.size w w' := over_any o n s v [x] w hv (by simp)
/-- The loop's relation: the first parts are laid. -/
structure CallRel (w : World) (b : Nat) (av : Value) (out : List Nd) (ls : List (List Nd)) (k : Nat) (wr : World) (ov : Value) : Prop where
  le : k ≤ ls.length
  own : wr.ownsRow b 36 6 ov (callF out (ls.take k)).1.length (ndsOf (callF out (ls.take k)).1)
  grown : w.grownBy wr av.ownBlock
  blk : ∀ j, ov.ownBlock = some j → av.ownBlock = some j ∨ w.heap.size ≤ j
/-- What a call leaves that lays nodes into a row. -/
def RowPost (w : World) (b : Nat) (av : Value) (l : List Nd) (r : Ending) (w' : World) : Prop :=
  ∃ ov', r = .returned ov' ∧ w'.ownsRow b 36 6 ov' l.length (ndsOf l) ∧ w.grownBy w' av.ownBlock ∧ ∀ k, ov'.ownBlock = some k → av.ownBlock = some k ∨ w.heap.size ≤ k
/-- An append's end, where the world stands behind one that is grown. -/
theorem row_end {w wr w3 w4 : World} {b : Nat} {av ov : Value} {l : List Nd} {N gg cap : Nat} {y : Nd} {o : Obj} (g1 : w.grownBy wr av.ownBlock) (hblk : ∀ j, ov.ownBlock = some j → av.ownBlock = some j ∨ w.heap.size ≤ j)
    (hb3 : Below wr.heap.size wr w3) (hg : (w3.alloc o).grownBy w4 ov.ownBlock) (hN : l.length = N)
    (hown : w4.ownsRow b 36 6 (.slice (some ⟨gg, 0, none⟩) (N + 1) cap) (N + 1) (ndsOf l ++ ndCells y)) (hat : ov.ownBlock = some gg ∨ gg = w3.heap.size + 1) :
    w4.ownsRow b 36 6 (.slice (some ⟨gg, 0, none⟩) (N + 1) cap) (l ++ [y]).length (ndsOf (l ++ [y])) ∧ w.grownBy w4 av.ownBlock ∧ ∀ k, (Value.slice (some ⟨gg, 0, none⟩) (N + 1) cap).ownBlock = some k → av.ownBlock = some k ∨ w.heap.size ≤ k := by
  have hs := g1.size
  have hs3 := hb3.size
  refine ⟨?_, grown_chain g1 hb3 hg hblk, fun j hj => ?_⟩
  · rw [nds_snoc, List.length_append, hN]; exact hown
  · have hj' : gg = j := by simpa [Value.ownBlock] using hj
    subst hj'
    rcases hat with h1 | h1
    · exact hblk _ h1
    · exact .inr (by omega)

set_option maxRecDepth 100000 in
set_option maxHeartbeats 1000000 in
theorem call_any (av pv : Value) (out : List Nd) (ls : List (List Nd)) (n : Int) (s : Bytes) (b : Nat) (w : World) (hown : w.ownsRow b 36 6 av out.length (ndsOf out)) (hb : b ≤ w.heap.size) (hp : Parts w b pv ls) (hn : (callF out ls).1.length ≤ 90000) :
    Calls Tryd.prog 119 #[av, .int .i64 n, .string (str s), pv] w (RowPost w b av (callM out n s ls)) := by
  obtain ⟨A, c, rfl, h1, h2, hA⟩ := hp
  unfold maxLen at h2
  have HA := Lib.hid hA
  have HOB := Lib.hid (show ∀ k, av.ownBlock = some k → b ≤ k from fun k hk => (hown.lt k hk).1)
  have HREL0 : Hid (CallRel w b av out ls 0 w av) := Lib.hid ⟨Nat.zero_le _, by simpa [callF] using hown, World.grownBy.refl _ _, fun j hj => .inl hj⟩
  obtain ⟨i1, hi', hz0', hz1', hz2'⟩ := info_parts info30
  clear hA hown
  go_enter Tryd.func119, Tryd.ntmps119
  go_wp2
  go_loopw [0, 9, 14] (fun s0 la i wr => ∃ (k : Nat) (ov : Value), ov = s0 ∧ la = .int .i64 (callF out (ls.take k)).2 ∧ i = .int .i64 k ∧ CallRel w b av out ls k wr ov) (fun _ _ i _ => ls.length - (intOf i).toNat)
  case atStart => exact ⟨0, _, rfl, by simp [callF], rfl, HREL0.out⟩
  case round =>
    obtain ⟨k, ov, rfl, rfl, rfl, hrel⟩ := hrel
    have hk := hrel.le
    have HREL := Lib.hid hrel
    have hs := hrel.grown.size
    have HLO := Lib.hid (show ∀ g, g < b → g < w.heap.size → wr.heap[g]? = w.heap[g]? from fun g h1 h2 => hrel.grown.block g h2 (fun h => by have := HOB.out g h.symm; omega))
    clear hrel
    by_cases hlt : k < ls.length
    · obtain ⟨p, hp⟩ : ∃ p, ls[k]? = some p := ⟨_, List.getElem?_eq_getElem hlt⟩
      obtain ⟨g, o, u, rfl, hgb, hg, d0, hu, hul⟩ := HA.out k p hp
      have c0 := (World.cell?_of_block (w := w) (a := ⟨g, o + k, none⟩) (HLO.out g hgb hg)).trans d0
      have HU := Lib.hid (hu.low hul hs HLO.out)
      have HUL := Lib.hid hul
      have HP := Lib.hid hp
      clear hp hu d0 hul
      have HLEN := Lib.hid (callF_step_len out ls k p HP.out)
      have hln := Nat.le_trans HLEN.out hn
      go_wp2_with fail
      refine (laid_any ov u (callF out (ls.take k)).1 p b _ HREL.out.own (by omega) HU.out HUL.out (by omega)).mono ?_
      rintro r w3 ⟨ov2, rfl, hown3, hg3, hblk3⟩
      obtain ⟨A3, c3, rfl, z1, z2, _⟩ := Nodes.of_own hown3
      have hs3 := hg3.size
      obtain ⟨N, hN⟩ : ∃ N, ((callF out (ls.take k)).1 ++ p.map (onNd ((callF out (ls.take k)).1.length : Int))).length = N := ⟨_, rfl⟩
      have HN := Lib.hid hN
      have hNm : N ≤ 90000 := by rw [← hN, List.length_append, List.length_map]; omega
      have HG3 := Lib.hid (grown_trans HREL.out.grown hg3 HREL.out.blk)
      have HB3 := Lib.hid (show ∀ j, (Value.slice A3 ((callF out (ls.take k)).1 ++ p.map (onNd ((callF out (ls.take k)).1.length : Int))).length c3).ownBlock = some j → av.ownBlock = some j ∨ w.heap.size ≤ j from fun j hj => by
        rcases hblk3 j hj with h1 | h1
        · exact HREL.out.blk j h1
        · exact .inr (by omega))
      have HO3 := Lib.hid hown3
      have HNX := Lib.hid (callF_next out ls k p HP.out)
      clear hown3 hg3 hblk3 hln hN
      rw [HN.out] at z1
      unfold maxLen at z2
      obtain ⟨la, hla⟩ : ∃ la, (callF out (ls.take k)).2 = la := ⟨_, rfl⟩
      have HLA := Lib.hid hla
      clear hla
      rw [HN.out]
      go_wp2_with fail
      refine (over2 28 0 _ _ ⟨#[]⟩ _ _ (by exact Ints.of_own (ints_lit w3 [(N : Int) - 1, (callF out (ls.take k)).2] (by unfold maxLen; simp)))).mono ?_
      rintro r w4 ⟨rfl, hb4⟩
      have hb34 := (below_new w3 (.cells (intsOf [(N : Int) - 1, (callF out (ls.take k)).2]).toArray 3)).trans (hb4.mono (by simp))
      have hs4 := hb34.size
      have HB34 := Lib.hid hb34
      have HO4 := Lib.hid (own_below HO3.out hb34)
      rw [HN.out] at HO4
      clear hb4 hb34
      go_wp2_with (at_builtin; refine wpList_append_lies _ rfl (.tmp 21) (.tmp 28) 24 rfl b 36 i1 _ 6 56 Tryd.underlying24 hi' hz0' hz1' hz2' rfl (by decide) _ N _ rfl (HO4.out.alloc _) ⟨w4.heap.size, 0, none⟩ 1 1 (ndCells (overM 28 0 [] [(N : Int) - 1, (callF out (ls.take k)).2])) rfl rfl ?a2 ?b2 (by omega) ?c2 ?d2 ?e2 (w4.heap.size + 1) ?f2 ?_)
      case a2 => exact World.news_of_block (t := 36) (fr := (0, 0)) (heap_alloc_new _ _)
      case b2 => simp [ndCells, Value.oneCell']
      case c2 => unfold maxLen; omega
      case d2 => omega
      case e2 => simp; omega
      case f2 => simp
      intro gg cap w5 hown5 hg5 hat _
      rw [HN.out] at HB3
      have R0 := row_end HG3.out HB3.out HB34.out hg5 HN.out hown5 hat
      have HST : Hid (callF out (ls.take (k + 1)) = (((callF out (ls.take k)).1 ++ p.map (onNd ((callF out (ls.take k)).1.length : Int))) ++ [overM 28 0 [] [(N : Int) - 1, (callF out (ls.take k)).2]], (N : Int))) := Lib.hid (by
        rw [HNX.out]; unfold callStep behindM; rw [HN.out])
      have R := Lib.hid (show CallRel w b av out ls (k + 1) w5 (.slice (some ⟨gg, 0, none⟩) (N + 1) cap) from ⟨by omega, by rw [HST.out]; exact R0.1, R0.2.1, R0.2.2⟩)
      clear R0 hown5 hg5 hat
      go_wp2
      refine ⟨⟨k + 1, _, rfl, ?_, by go_num, R.out⟩, by simp [intOf]; omega⟩
      rw [HST.out]
    · have hkl : k = ls.length := by omega
      subst hkl
      have HTK := Lib.hid (show ls.take ls.length = ls from List.take_length)
      have hown3 := HREL.out.own
      rw [HTK.out] at hown3
      obtain ⟨N, hN⟩ : ∃ N, (callF out ls).1.length = N := ⟨_, rfl⟩
      have HN := Lib.hid hN
      have HO3 := Lib.hid hown3
      rw [hN] at hn
      clear hown3 hN
      go_wp2_with fail
      refine (over1 27 n _ _ _ _ (by exact Ints.of_own (ints_lit wr [(callF out ls).2] (by unfold maxLen; simp)))).mono ?_
      rintro r w4 ⟨rfl, hb4⟩
      have hb34 := (below_new wr (.cells (intsOf [(callF out ls).2]).toArray 3)).trans (hb4.mono (by simp))
      have hs4 := hb34.size
      have HB34 := Lib.hid hb34
      have HO4 := Lib.hid (own_below HO3.out hb34)
      rw [HN.out] at HO4
      clear hb4 hb34
      go_wp2_with (at_builtin; refine wpList_append_lies _ rfl (.tmp 34) (.tmp 40) 24 rfl b 36 i1 _ 6 56 Tryd.underlying24 hi' hz0' hz1' hz2' rfl (by decide) _ N _ rfl (HO4.out.alloc _) ⟨w4.heap.size, 0, none⟩ 1 1 (ndCells (overM 27 n s [(callF out ls).2])) rfl rfl ?a2 ?b2 (by omega) ?c2 ?d2 ?e2 (w4.heap.size + 1) ?f2 ?_)
      case a2 => exact World.news_of_block (t := 36) (fr := (0, 0)) (heap_alloc_new _ _)
      case b2 => simp [ndCells, Value.oneCell']
      case c2 => unfold maxLen; omega
      case d2 => omega
      case e2 => simp; omega
      case f2 => simp
      intro gg cap w5 hown5 hg5 hat _
      have R0 := Lib.hid (row_end HREL.out.grown HREL.out.blk HB34.out hg5 HN.out hown5 hat)
      clear hown5 hg5 hat
      go_wp2
      go_ret
      exact ⟨_, rfl, R0.out.1, R0.out.2.1, R0.out.2.2⟩
end Go.Proofs.YtgohhnbdicdenaaDoor.Tr

