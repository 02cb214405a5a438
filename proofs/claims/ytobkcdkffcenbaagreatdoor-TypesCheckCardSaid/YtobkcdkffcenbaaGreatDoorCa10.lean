/- What the closure of Sub works on and leaves, and how one operand more and the node itself are laid. Conditions: the expression may be. -/
import Derived.Test.YtobkcdkffcenbaaGreatDoorCa07
import Derived.Test.YtobkcdkffcenbaaGreatDoorCa08
import Derived.Deep.RegionLaw
import Derived.Deep.AppendLies
import Derived.Test.YtobkcdkffcenbaaGreatDoorCa01
set_option linter.unusedVariables false
set_option linter.unusedSimpArgs false
namespace Go.Proofs.YtobkcdkffcenbaaGreatDoor.Tr
open Go.ChangeShapes Go.WideShapes Go.ChangeAt Go.RowKit
def upTo (e : List Nd) (L : List Int) : Nat := (L.map (fun k => (tree e k.toNat).size)).sum
def flats (e : List Nd) (b : Nat) : List Int → List Nd
  | [] => []
  | k :: r => (tree e k.toNat).flat b ++ flats e (b + (tree e k.toNat).size) r
theorem upTo_snoc (e : List Nd) (L : List Int) (k : Int) : upTo e (L ++ [k]) = upTo e L + (tree e k.toNat).size := by unfold upTo; simp
theorem flats_snoc (e : List Nd) (L : List Int) : ∀ (b : Nat) (k : Int), flats e b (L ++ [k]) = flats e b L ++ (tree e k.toNat).flat (b + upTo e L) := by
  induction L with
  | nil => intro b k; simp [flats, upTo]
  | cons a r ih =>
    intro b k
    simp only [List.cons_append, flats, ih, List.append_assoc, upTo, List.map_cons, List.sum_cons]
    rw [Nat.add_assoc]
theorem flats_len (e : List Nd) (L : List Int) : ∀ b, (flats e b L).length = upTo e L := by
  induction L with
  | nil => intro b; rfl
  | cons a r ih => intro b; simp only [flats, List.length_append, T.flat_len, ih, upTo, List.map_cons, List.sum_cons]
def posOf (e : List Nd) (b : Nat) (L : List Int) (j : Nat) : Int := ((b + upTo e (L.take (j + 1)) - 1 : Nat) : Int)
theorem tree_size (e : List Nd) (h : Ahead e) (i : Nat) (x : Nd) (hx : e[i]? = some x) : (tree e i).size = upTo e (kidsM x) + 1 := by
  rw [tree_eq h hx, mkT_size _ _ (by rw [List.length_map]; exact kids_small x), List.map_map]; rfl
theorem tree_flat (e : List Nd) (h : Ahead e) (i : Nat) (x : Nd) (hx : e[i]? = some x) (b : Nat) : (tree e i).flat b = flats e b (kidsM x) ++ [mkL x.lab ((List.range (kidsM x).length).map (posOf e b (kidsM x)))] := by
  rw [tree_eq h hx]
  have hl := kids_small x
  generalize kidsM x = L at hl
  match L, hl with
  | [], _ => rfl
  | [p], _ => simp [mkT, T.flat, flats, posOf, upTo, List.range_succ]
  | [p, q], _ => simp [mkT, T.flat, flats, posOf, upTo, List.range_succ, Nat.add_assoc]
  | [p, q, r], _ => simp [mkT, T.flat, flats, posOf, upTo, List.range_succ, Nat.add_assoc]
theorem upTo_le (e : List Nd) (L : List Int) (j : Nat) : upTo e (L.take j) ≤ upTo e L := by
  conv => rhs; rw [← List.take_append_drop j L]
  unfold upTo; rw [List.map_append, List.sum_append]; omega
theorem own_block {w w' : World} {b : Nat} {e : TypeId} {s : Nat} {v : Value} {n : Nat} {xs : List Value} (h : w.ownsRow b e s v n xs) (hk : ∀ g, v.ownBlock = some g → w'.heap[g]? = w.heap[g]?) : w'.ownsRow b e s v n xs := by
  refine ⟨h.1, ?_⟩
  rcases h.2 with h0 | ⟨g, cap, cur, h1, h2, h3, h4⟩
  · exact .inl h0
  · exact .inr ⟨g, cap, cur, h1, h2, by rw [hk g (by rw [h1]; rfl)]; exact h3, h4⟩
end Go.Proofs.YtobkcdkffcenbaaGreatDoor.Tr
namespace Go.Proofs.YtobkcdkffcenbaaGreatDoor.Tr
open Go.ChangeShapes Go.WideShapes Go.ChangeAt Go.RowKit
def aimM (x : Nd) : List Int → Nd
  | [] => x
  | [i] => { x with a := i }
  | [i, j] => if x.op = 28 then { x with a := j, b := i } else { x with a := i, b := j }
  | i :: j :: k :: _ => { x with a := i, b := j, c := k }
theorem aim_mk (x : Nd) (K l : List Int) (h : x = mkL x.lab K) (hl : K.length = l.length) (h3 : l.length ≤ 3) : aimM x l = mkL x.lab l := by
  obtain ⟨o, a, b, c, n, s⟩ := x
  simp only [Nd.lab] at h ⊢
  match K, l, hl, h3 with
  | [], [], _, _ => exact h
  | [_], [_], _, _ =>
    simp only [mkL, Nd.mk.injEq, true_and, and_true] at h
    obtain ⟨-, rfl, rfl⟩ := h; rfl
  | [_, _], [_, _], _, _ =>
    simp only [mkL] at h
    by_cases ho : o = 28
    · subst ho
      simp only [if_true, Nd.mk.injEq, true_and, and_true] at h
      obtain ⟨-, -, rfl⟩ := h; simp [aimM, mkL]
    · simp only [ho, if_false, Nd.mk.injEq, true_and, and_true] at h
      obtain ⟨-, -, rfl⟩ := h; simp [aimM, mkL, ho]
  | _ :: _ :: _ :: _, [_, _, _], _, _ => rfl
  | _, _ :: _ :: _ :: _ :: _, _, h3 => simp at h3
set_option maxHeartbeats 3200000 in
theorem aim_any (x : Nd) (v : Value) (l : List Int) (w : World) (hv : Ints w v l) (h3 : l.length ≤ 3) : Calls Tryz.prog 26 #[.agg #[.int .i64 x.op, .int .i64 x.a, .int .i64 x.b, .int .i64 x.c, .int .i64 x.n, .string (str x.name)], v] w
    fun r w' => r = .returned (.agg #[.int .i64 (aimM x l).op, .int .i64 (aimM x l).a, .int .i64 (aimM x l).b, .int .i64 (aimM x l).c, .int .i64 (aimM x l).n, .string (str (aimM x l).name)]) ∧ Below w.heap.size w w' := by
  obtain ⟨A, c, rfl, h1, h2, hA⟩ := hv
  unfold maxLen at h2
  match l, h3 with
  | [], _ =>
    clear hA
    rcases Bool.eq_false_or_eq_true (x.op == 28) with h28 | h28
    all_goals
      go_enter Tryz.func26, Tryz.ntmps26
      go_wp2
      refine bodyPost_ret (v := .agg #[.int .i64 x.op, .int .i64 x.a, .int .i64 x.b, .int .i64 x.c, .int .i64 x.n, .string (str x.name)]) ?_ rfl ⟨rfl, ?_⟩
      · simp [results, Tryz.results26, go_sem]
      · repeat (first | with_reducible refine Below.setCell ?_ (by simp) _ | with_reducible refine Below.alloc ?_ (by simp) _ | exact Below.refl _ _)
  | [i], _ =>
    obtain ⟨g, o, rfl, hg, a0⟩ := hA 0 i rfl
    clear hA
    have hgn : w.heap.size ≠ g := by omega
    have hgn2 : w.heap.size + 1 ≠ g := by omega
    simp only [Nat.add_zero] at a0
    rcases Bool.eq_false_or_eq_true (x.op == 28) with h28 | h28
    all_goals
      go_enter Tryz.func26, Tryz.ntmps26
      go_wp2
      refine bodyPost_ret (v := .agg #[.int .i64 x.op, .int .i64 i, .int .i64 x.b, .int .i64 x.c, .int .i64 x.n, .string (str x.name)]) ?_ rfl ⟨rfl, ?_⟩
      · simp [results, Tryz.results26, go_sem]
      · repeat (first | with_reducible refine Below.setCell ?_ (by simp) _ | with_reducible refine Below.alloc ?_ (by simp) _ | exact Below.refl _ _)
  | [i, j], _ =>
    obtain ⟨g, o, rfl, hg, a0⟩ := hA 0 i rfl
    obtain ⟨g', o', e, hg', a1⟩ := hA 1 j rfl
    simp only [Option.some.injEq, Addr.mk.injEq, and_true] at e
    obtain ⟨rfl, rfl⟩ := e
    clear hA
    have hgn : w.heap.size ≠ g := by omega
    have hgn2 : w.heap.size + 1 ≠ g := by omega
    simp only [Nat.add_zero] at a0
    rcases Bool.eq_false_or_eq_true (x.op == 28) with h28 | h28
    · have HE := Lib.hid (show aimM x [i, j] = { x with a := j, b := i } by have h : x.op = 28 := (by simpa using h28); simp [aimM, h])
      go_enter Tryz.func26, Tryz.ntmps26
      go_wp2
      refine bodyPost_ret (v := .agg #[.int .i64 x.op, .int .i64 j, .int .i64 i, .int .i64 x.c, .int .i64 x.n, .string (str x.name)]) ?_ rfl ⟨by rw [HE.out], ?_⟩
      · simp [results, Tryz.results26, go_sem]
      · repeat (first | with_reducible refine Below.setCell ?_ (by simp) _ | with_reducible refine Below.alloc ?_ (by simp) _ | exact Below.refl _ _)
    · have HE := Lib.hid (show aimM x [i, j] = { x with a := i, b := j } by have h : x.op ≠ 28 := (by simpa using h28); simp [aimM, h])
      go_enter Tryz.func26, Tryz.ntmps26
      go_wp2
      refine bodyPost_ret (v := .agg #[.int .i64 x.op, .int .i64 i, .int .i64 j, .int .i64 x.c, .int .i64 x.n, .string (str x.name)]) ?_ rfl ⟨by rw [HE.out], ?_⟩
      · simp [results, Tryz.results26, go_sem]
      · repeat (first | with_reducible refine Below.setCell ?_ (by simp) _ | with_reducible refine Below.alloc ?_ (by simp) _ | exact Below.refl _ _)
  | [i, j, k], _ =>
    obtain ⟨g, o, rfl, hg, a0⟩ := hA 0 i rfl
    obtain ⟨g', o', e, hg', a1⟩ := hA 1 j rfl
    simp only [Option.some.injEq, Addr.mk.injEq, and_true] at e
    obtain ⟨rfl, rfl⟩ := e
    obtain ⟨g', o', e, hg', a2⟩ := hA 2 k rfl
    simp only [Option.some.injEq, Addr.mk.injEq, and_true] at e
    obtain ⟨rfl, rfl⟩ := e
    clear hA
    have hgn : w.heap.size ≠ g := by omega
    have hgn2 : w.heap.size + 1 ≠ g := by omega
    simp only [Nat.add_zero] at a0
    rcases Bool.eq_false_or_eq_true (x.op == 28) with h28 | h28
    all_goals
      go_enter Tryz.func26, Tryz.ntmps26
      go_wp2
      refine bodyPost_ret (v := .agg #[.int .i64 x.op, .int .i64 i, .int .i64 j, .int .i64 k, .int .i64 x.n, .string (str x.name)]) ?_ rfl ⟨rfl, ?_⟩
      · simp [results, Tryz.results26, go_sem]
      · repeat (first | with_reducible refine Below.setCell ?_ (by simp) _ | with_reducible refine Below.alloc ?_ (by simp) _ | exact Below.refl _ _)
theorem own_ne {w : World} {b b' : Nat} {e e' : TypeId} {s s' : Nat} {v v' : Value} {n n' : Nat} {xs xs' : List Value} (h : w.ownsRow b e s v n xs) (h' : w.ownsRow b' e' s' v' n' xs') (hne : e ≠ e') : ∀ k, v.ownBlock = some k → v'.ownBlock ≠ some k := by
  intro k hk hk'
  rcases h.2 with ⟨h0, _⟩ | ⟨g, cap, cur, h1, _, h3, _⟩
  · rw [h0] at hk; simp [Value.ownBlock] at hk
  rcases h'.2 with ⟨h0, _⟩ | ⟨g', cap', cur', h1', _, h3', _⟩
  · rw [h0] at hk'; simp [Value.ownBlock] at hk'
  rw [h1] at hk; rw [h1'] at hk'
  simp [Value.ownBlock] at hk hk'
  subst hk hk'
  rw [h3] at h3'
  simp only [Option.some.injEq, Obj.cells.injEq] at h3'
  exact hne h3'.2.1
def OrderPost (w : World) (b : Nat) (ov : Value) (out : List Nd) (new : List Nd) (r : Ending) (w' : World) : Prop :=
  ∃ ov', r = .returned ov' ∧ w'.ownsRow b 70 6 ov' (out ++ new).length (ndsOf (out ++ new)) ∧ w.grownBy w' ov.ownBlock ∧ ∀ k, ov'.ownBlock = some k → ov.ownBlock = some k ∨ w.heap.size ≤ k
structure OrdRel (w w2 : World) (b : Nat) (ov : Value) (out : List Nd) (e : List Nd) (L : List Int) (j : Nat) (wr : World) (ov' tv : Value) : Prop where
  le : j ≤ L.length
  own : wr.ownsRow b 70 6 ov' (out ++ flats e out.length (L.take j)).length (ndsOf (out ++ flats e out.length (L.take j)))
  row : wr.ownsRow w2.heap.size 3 1 tv j (intsOf ((List.range j).map (posOf e out.length L)))
  size : w2.heap.size ≤ wr.heap.size
  grown : w.grownBy wr ov.ownBlock
  keep : ∀ k, w.heap.size ≤ k → k < w2.heap.size → wr.heap[k]? = w2.heap[k]?
  blk : ∀ k, ov'.ownBlock = some k → ov.ownBlock = some k ∨ w2.heap.size ≤ k
theorem posOf_next (e : List Nd) (b : Nat) (L : List Int) (j : Nat) : (List.range (j + 1)).map (posOf e b L) = (List.range j).map (posOf e b L) ++ [posOf e b L j] := by
  rw [List.range_succ, List.map_append]; rfl
theorem ord_step {w w2 wr w3 w4 : World} {b : Nat} {ov ov' ov'' tv tv' : Value} {out : List Nd} {e : List Nd} {L : List Int} {j m : Nat} {o : Obj} (hj : L[j]? = some (m : Int)) (hb : b ≤ w.heap.size) (hw : w.heap.size ≤ w2.heap.size)
    (hov : ∀ k, ov.ownBlock = some k → k < w.heap.size) (h : OrdRel w w2 b ov out e L j wr ov' tv)
    (hown : w3.ownsRow b 70 6 ov'' ((out ++ flats e out.length (L.take j)) ++ (tree e m).flat (out ++ flats e out.length (L.take j)).length).length (ndsOf ((out ++ flats e out.length (L.take j)) ++ (tree e m).flat (out ++ flats e out.length (L.take j)).length)))
    (hg : wr.grownBy w3 ov'.ownBlock) (hblk : ∀ k, ov''.ownBlock = some k → ov'.ownBlock = some k ∨ wr.heap.size ≤ k)
    (hrow : w4.ownsRow w2.heap.size 3 1 tv' (j + 1) (intsOf ((List.range j).map (posOf e out.length L)) ++ [.int .i64 (posOf e out.length L j)])) (hg4 : (w3.alloc o).grownBy w4 tv.ownBlock)
    (htv : w3.ownsRow w2.heap.size 3 1 tv j (intsOf ((List.range j).map (posOf e out.length L)))) :
    OrdRel w w2 b ov out e L (j + 1) w4 ov'' tv' := by
  have hjl := (List.getElem?_eq_some_iff.1 hj).1
  have htk : L.take (j + 1) = L.take j ++ [(m : Int)] := by rw [List.take_add_one, hj]; rfl
  have hlen : (out ++ flats e out.length (L.take j)).length = out.length + upTo e (L.take j) := by rw [List.length_append, flats_len]
  have hs := h.size
  have hs3 := hg.size
  have hs4 := hg4.size
  simp at hs4
  have hne := own_ne hown htv (by decide)
  have hout : (out ++ flats e out.length (L.take j)) ++ (tree e m).flat (out ++ flats e out.length (L.take j)).length = out ++ flats e out.length (L.take (j + 1)) := by
    rw [htk, flats_snoc, Int.toNat_natCast, hlen, List.append_assoc]
  rw [hout] at hown
  have k4 : ∀ k, k < w3.heap.size → tv.ownBlock ≠ some k → w4.heap[k]? = w3.heap[k]? := fun k hk hn => by
    rw [hg4.block k (by simp; omega) (fun h => hn h.symm), Below.heap_alloc _ _ _ hk]
  have htl : ∀ k, tv.ownBlock = some k → w2.heap.size ≤ k := fun k hk => (htv.lt k hk).1
  refine ⟨by omega, ?_, ?_, by omega, ?_, ?_, ?_⟩
  · refine own_block hown (fun g hgb => k4 g (hown.lt g hgb).2 (hne g hgb))
  · rw [posOf_next, ints_snoc]; exact hrow
  · have g1 := h.grown
    refine ⟨?_, ?_, ?_, by omega, fun k hk hn => ?_⟩
    · exact (hg4.os).trans ((show (w3.alloc o).os = w3.os from rfl).trans (hg.os.trans g1.os)) 
    · exact (hg4.tape).trans ((show (w3.alloc o).tape = w3.tape from rfl).trans (hg.tape.trans g1.tape))
    · exact (hg4.output).trans ((show (w3.alloc o).output = w3.output from rfl).trans (hg.output.trans g1.output))
    · rw [k4 k (by omega) (fun h => by have := htl k h; omega), hg.block k (by omega) (fun h2 => by
        rcases h.blk k h2.symm with h3 | h3
        · exact hn h3.symm
        · omega)]
      exact g1.block k hk hn
  · intro k hk1 hk2
    rw [k4 k (by omega) (fun h => by have := htl k h; omega), hg.block k (by omega) (fun h2 => by
      rcases h.blk k h2.symm with h3 | h3
      · have := hov k h3; omega
      · omega)]
    exact h.keep k hk1 hk2
  · intro k hk
    rcases hblk k hk with h1 | h1
    · exact h.blk k h1
    · exact .inr (by omega)
end Go.Proofs.YtobkcdkffcenbaaGreatDoor.Tr
namespace Go.Proofs.YtobkcdkffcenbaaGreatDoor.Tr
open Go.ChangeShapes Go.WideShapes Go.ChangeAt Go.RowKit
theorem ord_end {w w2 wr w3 w4 : World} {b : Nat} {ov ov' tv : Value} {out : List Nd} {e : List Nd} {L : List Int} {i N gg cap : Nat} {y : Nd} {o : Obj} (hw : w.heap.size ≤ w2.heap.size) (h : OrdRel w w2 b ov out e L L.length wr ov' tv)
    (hb3 : Below wr.heap.size wr w3) (hg : (w3.alloc o).grownBy w4 ov'.ownBlock) (hN : (out ++ flats e out.length (L.take L.length)).length = N)
    (hown : w4.ownsRow b 70 6 (.slice (some ⟨gg, 0, none⟩) (N + 1) cap) (N + 1) (ndsOf (out ++ flats e out.length L) ++ ndCells y)) (hat : ov'.ownBlock = some gg ∨ gg = w3.heap.size + 1)
    (hfl : (tree e i).flat out.length = flats e out.length L ++ [y]) :
    OrderPost w b ov out ((tree e i).flat out.length) (.returned (.slice (some ⟨gg, 0, none⟩) (N + 1) cap)) w4 := by
  rw [List.take_length] at hN
  have hs := h.size
  have hs3 := hb3.size
  have hs4 := hg.size
  simp at hs4
  have g1 := h.grown
  refine ⟨_, rfl, ?_, ⟨?_, ?_, ?_, by omega, fun k hk hn => ?_⟩, fun k hk => ?_⟩
  · rw [hfl, ← List.append_assoc, nds_snoc, List.length_append, hN]; exact hown
  · exact hg.os.trans ((show (w3.alloc o).os = w3.os from rfl).trans (hb3.os.trans g1.os))
  · exact hg.tape.trans ((show (w3.alloc o).tape = w3.tape from rfl).trans (hb3.tape.trans g1.tape))
  · exact hg.output.trans ((show (w3.alloc o).output = w3.output from rfl).trans (hb3.output.trans g1.output))
  · rw [hg.block k (by simp; omega) (fun h2 => by
      rcases h.blk k h2.symm with h3 | h3
      · exact hn h3.symm
      · omega), Below.heap_alloc _ _ _ (by omega), hb3.block k (by omega)]
    exact g1.block k hk hn
  · have hk' : gg = k := by simpa [Value.ownBlock] using hk
    subst hk'
    rcases hat with h1 | h1
    · rcases h.blk _ h1 with h2 | h2
      · exact .inl h2
      · exact .inr (by omega)
    · exact .inr (by omega)
theorem Nodes.at_block {w w' : World} {g o n c : Nat} {l : List Nd} (h : Nodes w (.slice (some ⟨g, o, none⟩) n c) l) (hk : w'.heap[g]? = w.heap[g]?) (hs : g < w'.heap.size) : Nodes w' (.slice (some ⟨g, o, none⟩) n c) l := by
  obtain ⟨A', c', e, h1, h2, h3⟩ := h
  refine ⟨A', c', e, h1, h2, fun i t hi => ?_⟩
  obtain ⟨g', o', hg, hlt, c0, c1, c2, c3, c4, c5⟩ := h3 i t hi
  have hA : A' = some ⟨g, o, none⟩ := by injection e with e1; exact e1.symm
  rw [hA] at hg
  simp only [Option.some.injEq, Addr.mk.injEq, and_true] at hg
  obtain ⟨rfl, rfl⟩ := hg
  have q : ∀ k, w'.cell? ⟨g, k, none⟩ = w.cell? ⟨g, k, none⟩ := fun k => World.cell?_of_block (w := w) (a := ⟨g, k, none⟩) hk
  exact ⟨g, o, hA, hs, (q _).trans c0, (q _).trans c1, (q _).trans c2, (q _).trans c3, (q _).trans c4, (q _).trans c5⟩
set_option maxRecDepth 100000 in
set_option maxHeartbeats 1000000 in
theorem order_any (ev : Value) (e : List Nd) (hm : May e) (b : Nat) : ∀ (f i : Nat) (w : World) (ov : Value) (out : List Nd), i < f → i < e.length → Nodes w ev e → w.ownsRow b 70 6 ov out.length (ndsOf out) → b ≤ w.heap.size →
    (∀ g o n c, ev = .slice (some ⟨g, o, none⟩) n c → g < b) → out.length + (tree e i).size ≤ 100000 →
    Calls Tryz.prog 75 #[ev, .int .i64 i, ov] w (OrderPost w b ov out ((tree e i).flat out.length)) := by
  intro f
  induction f with
  | zero => intro i w ov out h; omega
  | succ f ih =>
    intro i w ov out hif hie hv hown hb hlow hsz
    have IH := Lib.hid ih
    clear ih
    have HV := Lib.hid hv
    have hv2 := hv
    obtain ⟨A, c, rfl, h1, h2, hA⟩ := hv2
    unfold maxLen at h2
    obtain ⟨x, hx⟩ : ∃ x, e[i]? = some x := ⟨_, List.getElem?_eq_getElem hie⟩
    obtain ⟨g, o, rfl, hg, a0, a1, a2, a3, a4, a5⟩ := hA i x hx
    have hgb := hlow g o _ _ rfl
    have HLOW := Lib.hid hlow
    have HC := Lib.hid (And.intro a0 (And.intro a1 (And.intro a2 (And.intro a3 (And.intro a4 a5)))))
    have HM := Lib.hid hm
    have HX := Lib.hid hx
    have HO := Lib.hid hown
    have hovl : ∀ k, ov.ownBlock = some k → k < w.heap.size := fun k hk => (hown.lt k hk).2
    have HOVL := Lib.hid hovl
    have HOB := Lib.hid (show ∀ k, ov.ownBlock = some k → b ≤ k from fun k hk => (hown.lt k hk).1)
    clear hA hx hm hv hown hlow hovl
    obtain ⟨L, hL⟩ : ∃ L, kidsM x = L := ⟨_, rfl⟩
    have HL := Lib.hid hL
    have hLs : L.length ≤ 3 := by rw [← hL]; exact kids_small x
    have HIN := Lib.hid (show ∀ q ∈ L, 0 ≤ q ∧ q < (i : Int) by rw [← hL]; exact HM.out.ahead i x HX.out)
    have HSZ := Lib.hid (show (tree e i).size = upTo e L + 1 by rw [← hL]; exact tree_size e HM.out.ahead i x HX.out)
    have HFL := Lib.hid (show (tree e i).flat out.length = flats e out.length L ++ [mkL x.lab ((List.range L.length).map (posOf e out.length L))] by rw [← hL]; exact tree_flat e HM.out.ahead i x HX.out _)
    clear hL
    obtain ⟨i0, hi, hz0, hz1, hz2⟩ := info_parts info3
    obtain ⟨i1, hi', hz0', hz1', hz2'⟩ := info_parts info30
    go_enter Tryz.func75, Tryz.ntmps75
    go_wp2_with fail
    refine (rkids_any x _).mono ?_
    rintro r w2 ⟨kv, rfl, hok, hb2⟩
    rw [HL.out] at hok
    obtain ⟨A2, c2, rfl, y1, y2, hA2⟩ := Ints.of_own hok
    have HA2 := Lib.hid hA2
    have hz2w := hb2.size
    have HW2 := Lib.hid hz2w
    have HKO := Lib.hid (show ∀ g2 o2, A2 = some ⟨g2, o2, none⟩ → w.heap.size ≤ g2 from fun g2 o2 h => by subst h; have := hok.lt g2 rfl; omega)
    have HREL0 : Hid (OrdRel w w2 b ov out e L 0 w2 ov (.slice none 0 0)) := Lib.hid
      { le := Nat.zero_le _, own := by have := own_below HO.out hb2; simpa [flats] using this, row := World.ownsRow_nil _ _ _ _, size := Nat.le_refl _,
        grown := ⟨hb2.os, hb2.tape, hb2.output, hb2.size, fun k hk _ => hb2.block k hk⟩, keep := fun k _ _ => rfl, blk := fun k hk => .inl hk }
    clear hok hA2 hb2 a0 a1 a2 a3 a4 a5
    unfold maxLen at y2
    go_wp2
    go_loopw [2, 8, 9] (fun s1 s2 cv wr => ∃ (j : Nat) (ov' tv : Value), ov' = s1 ∧ tv = s2 ∧ cv = .int .i64 j ∧ OrdRel w w2 b ov out e L j wr ov' tv) (fun _ _ cv _ => L.length - (intOf cv).toNat)
    case atStart => exact ⟨0, _, _, rfl, rfl, rfl, HREL0.out⟩
    case round =>
      obtain ⟨j, ov', tv, rfl, rfl, rfl, hrel⟩ := hrel
      have hj := hrel.le
      have hs2 := hrel.size
      have HREL := Lib.hid hrel
      have kp : ∀ k, w.heap.size ≤ k → k < w2.heap.size → wr.heap[k]? = w2.heap[k]? := hrel.keep
      have KP := Lib.hid kp
      have HGB : Hid (wr.heap[g]? = w.heap[g]?) := Lib.hid (hrel.grown.block g hg (fun h => by have := HOB.out g h.symm; omega))
      have NV : Hid (Nodes wr (.slice (some ⟨g, o, none⟩) e.length c) e) := Lib.hid (HV.out.at_block (hrel.grown.block g hg (fun h => by have := HOB.out g h.symm; omega)) (by omega))
      clear hrel kp
      by_cases hlj : j < L.length
      · obtain ⟨q, hq⟩ : ∃ q, L[j]? = some q := ⟨_, List.getElem?_eq_getElem hlj⟩
        obtain ⟨g2, o2, rfl, hg2, d0'⟩ := HA2.out j q hq
        have hgb2 := HKO.out g2 o2 rfl
        have d0 := (World.cell?_of_block (w := w2) (a := ⟨g2, o2 + j, none⟩) (KP.out g2 hgb2 hg2)).trans d0'
        obtain ⟨hq0, hqi⟩ := HIN.out q (List.mem_of_getElem? hq)
        obtain ⟨m, rfl⟩ := Int.eq_ofNat_of_zero_le hq0
        have HQ := Lib.hid hq
        clear hq d0'
        have hup := upTo_le e L (j + 1)
        have HUP := Lib.hid (show out.length + upTo e (L.take j) + (tree e m).size ≤ 100000 by
          rw [List.take_add_one, HQ.out] at hup
          have h3 := upTo_snoc e (L.take j) (m : Int)
          simp only [Option.toList] at hup
          rw [h3, Int.toNat_natCast] at hup
          have h4 := HSZ.out
          omega)
        clear hup
        go_wp2_with fail
        refine (IH.out m _ ov' _ (by omega) (by omega) NV.out HREL.out.own (by omega) HLOW.out (by rw [List.length_append, flats_len]; exact HUP.out)).mono ?_
        rintro r w3 ⟨ov'', rfl, hown3, hg3, hblk3⟩
        obtain ⟨A3, c3, rfl, z1, z2, _⟩ := Nodes.of_own hown3
        have hs3 := hg3.size
        have htv : w3.ownsRow w2.heap.size 3 1 tv j (intsOf ((List.range j).map (posOf e out.length L))) := own_block HREL.out.row (fun k hk => hg3.block k (HREL.out.row.lt k hk).2 (fun h => own_ne HREL.out.own HREL.out.row (by decide) k h.symm hk))
        obtain ⟨N, hN⟩ : ∃ N, ((out ++ flats e out.length (L.take j)) ++ (tree e m).flat (out ++ flats e out.length (L.take j)).length).length = N := ⟨_, rfl⟩
        have HN := Lib.hid hN
        have HPO := Lib.hid (show posOf e out.length L j = ((N - 1 : Nat) : Int) by
          rw [← hN]
          unfold posOf
          rw [List.length_append, List.length_append, flats_len, T.flat_len, List.take_add_one, HQ.out]
          rw [show (some (m : Int)).toList = [(m : Int)] from rfl, upTo_snoc, Int.toNat_natCast]
          congr 1; omega)
        have hNp : 1 ≤ N := by rw [← hN, List.length_append, T.flat_len]; have := (tree e m).size_pos; omega
        have hNm : N ≤ 100000 := by rw [← hN, List.length_append, List.length_append, flats_len, T.flat_len]; exact HUP.out
        have H3 := Lib.hid (And.intro hown3 (And.intro hg3 hblk3))
        have HTV := Lib.hid htv
        rw [hN] at z1
        clear hown3 hg3 hblk3 hN
        have e1 : (N : Int) - 1 = ((N - 1 : Nat) : Int) := by omega
        have HE1 := Lib.hid e1
        unfold maxLen at z2
        rw [HN.out]
        clear e1 htv
        go_wp2_with (at_builtin; refine wpList_append_own _ rfl (.tmp 28) (.tmp 32) 72 rfl w2.heap.size 3 i0 _ 1 8 Tryz.underlying72 hi hz0 hz1 hz2 rfl (by decide) _ _ _ rfl (HTV.out.alloc _) ⟨w3.heap.size, 0, none⟩ 1 1 [.int .i64 ((N : Int) - 1)] rfl rfl ?a1 ?b1 ?c1 ?d1 ?e1 ?_)
        case a1 => exact cell_one_new _ _ _
        case b1 => intro u hu; simp at hu; subst hu; rfl
        case c1 => unfold maxLen; omega
        case d1 => omega
        case e1 => simp; omega
        intro tv' w4 hrow4 hg4 _
        rw [HE1.out, ← HPO.out] at hrow4
        have R := Lib.hid (ord_step HQ.out hb HW2.out HOVL.out HREL.out H3.out.1 H3.out.2.1 H3.out.2.2 hrow4 hg4 HTV.out)
        clear hrow4 hg4
        go_wp2
        refine ⟨⟨j + 1, _, _, rfl, rfl, by go_num, ?_⟩, by simp [intOf]; omega⟩
        rw [← HN.out]; exact R.out
      · have hjl : j = L.length := by omega
        subst hjl
        have HL2 : Hid (Ints wr tv ((List.range L.length).map (posOf e out.length L))) := Lib.hid (Ints.of_own (by have := HREL.out.row; simpa using this))
        obtain ⟨l, hl⟩ : ∃ l, (List.range L.length).map (posOf e out.length L) = l := ⟨_, rfl⟩
        have hll : l.length = L.length := by rw [← hl]; simp
        rw [hl] at HL2 HFL
        have HAIM := Lib.hid (aim_mk x L l (by rw [← HL.out]; exact (HM.out.node i x HX.out).bare) hll.symm (by omega))
        obtain ⟨N, hN⟩ : ∃ N, (out ++ flats e out.length (L.take L.length)).length = N := ⟨_, rfl⟩
        have HN := Lib.hid hN
        have hNm : N ≤ 100000 := by
          rw [← hN, List.length_append, flats_len, List.take_length]; have := HSZ.out; omega
        have b0 := (World.cell?_of_block (w := w) (a := ⟨g, o + i * 6, none⟩) HGB.out).trans HC.out.1
        have b1 := (World.cell?_of_block (w := w) (a := ⟨g, o + i * 6 + 1, none⟩) HGB.out).trans HC.out.2.1
        have b2 := (World.cell?_of_block (w := w) (a := ⟨g, o + i * 6 + 2, none⟩) HGB.out).trans HC.out.2.2.1
        have b3 := (World.cell?_of_block (w := w) (a := ⟨g, o + i * 6 + 3, none⟩) HGB.out).trans HC.out.2.2.2.1
        have b4 := (World.cell?_of_block (w := w) (a := ⟨g, o + i * 6 + 4, none⟩) HGB.out).trans HC.out.2.2.2.2.1
        have b5 := (World.cell?_of_block (w := w) (a := ⟨g, o + i * 6 + 5, none⟩) HGB.out).trans HC.out.2.2.2.2.2
        clear hl hN
        go_wp2_with fail
        refine (aim_any x tv l _ HL2.out (by omega)).mono ?_
        rintro r w3 ⟨rfl, hb3⟩
        obtain ⟨y, hy⟩ : ∃ y, aimM x l = y := ⟨_, rfl⟩
        have HY := Lib.hid hy
        rw [hy]
        have HB3 := Lib.hid hb3
        have hs3 := hb3.size
        have HO3 := Lib.hid (own_below HREL.out.own hb3)
        rw [HN.out] at HO3
        clear hy hb3 b0 b1 b2 b3 b4 b5
        go_wp2_with (at_builtin; refine wpList_append_lies _ rfl (.tmp 34) (.tmp 41) 32 rfl b 70 i1 _ 6 56 Tryz.underlying32 hi' hz0' hz1' hz2' rfl (by decide) ov' N _ rfl (HO3.out.alloc _) ⟨w3.heap.size, 0, none⟩ 1 1 (ndCells y) rfl rfl ?a2 ?b2 (by omega) ?c2 ?d2 ?e2 (w3.heap.size + 1) ?f2 ?_)
        case a2 => exact World.news_of_block (t := 70) (fr := (0, 0)) (heap_alloc_new _ _)
        case b2 => simp [ndCells, Value.oneCell']
        case c2 => unfold maxLen; omega
        case d2 => omega
        case e2 => simp; omega
        case f2 => simp
        intro gg cap w4 hown4 hg4 hat _
        have R := Lib.hid (ord_end (i := i) HW2.out HREL.out HB3.out hg4 HN.out hown4 hat (by rw [HFL.out, ← HAIM.out, HY.out]))
        clear hown4 hg4 hat
        go_wp2
        go_ret
        exact R.out
noncomputable def subM (e : List Nd) (i : Int) : List Nd := if mayB e = true ∧ 0 ≤ i ∧ i < (e.length : Int) then (tree e i.toNat).flat 0 else []
def NodesPost (w : World) (l : List Nd) (r : Ending) (w' : World) : Prop :=
  ∃ v, r = .returned v ∧ w'.ownsRow w.heap.size 70 6 v l.length (ndsOf l) ∧ Below w.heap.size w w'
theorem nodes_none (w w' : World) (h : Below w.heap.size w w') : NodesPost w [] (.returned (.slice none 0 0)) w' := ⟨_, rfl, World.ownsRow_nil _ _ _ _, h⟩
theorem rmay_lit (v : Value) (e : List Nd) (b : Bool) (w : World) (hv : Nodes w v e) (h : mayB e = b) : Calls Tryz.prog 12 #[v] w fun r w' => r = .returned (.bool b) ∧ Below w.heap.size w w' := by rw [← h]; exact rmay_any v e w hv
theorem size_le (e : List Nd) (h : May e) (i : Nat) (hi : i < e.length) : (tree e i).size ≤ e.length := by
  rw [← desc_size h.ahead i hi]
  exact nodup_le e.length _ (desc_nodup h.once h.ahead i hi) (fun x hx => by have := desc_le h.ahead i hi x hx; omega)
set_option maxHeartbeats 1000000 in
theorem rsub_any (v : Value) (e : List Nd) (i : Int) (w : World) (hv : Nodes w v e) : Calls Tryz.prog 51 #[v, .int .i64 i] w (NodesPost w (subM e i)) := by
  have HV := Lib.hid hv
  obtain ⟨A, c, rfl, h1, h2, hA⟩ := hv
  clear hA
  unfold maxLen at h2
  rcases Bool.eq_false_or_eq_true (mayB e) with hm | hm
  · by_cases h0 : 0 ≤ i
    · by_cases hl : i < (e.length : Int)
      · obtain ⟨m, rfl⟩ := Int.eq_ofNat_of_zero_le h0
        have hml : m < e.length := by omega
        have HM := Lib.hid (may_of hm)
        have HR := Lib.hid (show subM e (m : Int) = (tree e m).flat 0 by unfold subM; rw [if_pos ⟨hm, h0, hl⟩, Int.toNat_natCast])
        have hd : decide (e.length ≤ m) = false := by simp; omega
        have HMM := Lib.hid hm
        clear hm
        rw [HR.out]
        go_enter Tryz.func51, Tryz.ntmps51
        go_wp2_with fail
        refine (rmay_lit _ e _ _ HV.out HMM.out).mono ?_
        rintro r w2 ⟨rfl, hb2⟩
        have HB2 := Lib.hid hb2
        have hs2 := hb2.size
        have HV2 := Lib.hid (HV.out.below hb2 (Nat.le_refl _))
        clear hb2
        go_wp2_with fail
        refine (order_any _ e HM.out w.heap.size (m + 1) m _ _ [] (by omega) hml HV2.out (World.ownsRow_nil _ _ _ _) hs2 (fun g o n c' he => by
          obtain ⟨A', c'', e1, _, _, hA⟩ := HV.out
          obtain ⟨g', o', hg, hlt, _⟩ := hA m _ (List.getElem?_eq_getElem hml)
          injection e1 with e2
          injection he with e3
          rw [← e2, e3] at hg
          simp at hg
          omega) (by have := size_le e HM.out m hml; have := HM.out.le; simp; omega)).mono ?_
        rintro r w3 ⟨ov, rfl, hown, hg, -⟩
        have HO := Lib.hid hown
        have HG := Lib.hid (HB2.out.grown hg hs2 (fun k hk => by simp [Value.ownBlock] at hk))
        clear hown hg
        go_wp2
        go_ret
        exact ⟨_, rfl, by simpa using HO.out, HG.out⟩
      · have HR := Lib.hid (show subM e i = [] by unfold subM; rw [if_neg (by omega)])
        have HMM := Lib.hid hm
        have hl' : (e.length : Int) ≤ i := by omega
        clear hm
        rw [HR.out]
        go_enter Tryz.func51, Tryz.ntmps51
        go_wp2_with fail
        refine (rmay_lit _ e _ _ HV.out HMM.out).mono ?_
        rintro r w2 ⟨rfl, hb2⟩
        go_wp2
        go_ret
        exact nodes_none _ _ hb2
    · have HR := Lib.hid (show subM e i = [] by unfold subM; rw [if_neg (by omega)])
      have HMM := Lib.hid hm
      have hl' : i < 0 := by omega
      clear hm h0
      rw [HR.out]
      go_enter Tryz.func51, Tryz.ntmps51
      go_wp2_with fail
      refine (rmay_lit _ e _ _ HV.out HMM.out).mono ?_
      rintro r w2 ⟨rfl, hb2⟩
      go_wp2
      go_ret
      exact nodes_none _ _ hb2
  · have HR := Lib.hid (show subM e i = [] by unfold subM; rw [if_neg (by rw [hm]; simp)])
    have HMM := Lib.hid hm
    clear hm
    rw [HR.out]
    go_enter Tryz.func51, Tryz.ntmps51
    go_wp2_with fail
    refine (rmay_lit _ e _ _ HV.out HMM.out).mono ?_
    rintro r w2 ⟨rfl, hb2⟩
    go_wp2
    go_ret
    exact nodes_none _ _ hb2
noncomputable def normB (e : List Nd) : List Nd := subM e ((e.length : Int) - 1)
theorem rnorm_any (v : Value) (e : List Nd) (w : World) (hv : Nodes w v e) : Calls Tryz.prog 27 #[v] w (NodesPost w (normB e)) := by
  have HV := Lib.hid hv
  obtain ⟨A, c, rfl, h1, h2, hA⟩ := hv
  clear hA
  unfold maxLen at h2
  go_enter Tryz.func27, Tryz.ntmps27
  go_wp2_with fail
  refine (rsub_any _ e _ _ HV.out).mono ?_
  rintro r w2 ⟨ov, rfl, hown, hb⟩
  go_wp2
  go_ret
  exact ⟨_, rfl, hown, hb⟩
end Go.Proofs.YtobkcdkffcenbaaGreatDoor.Tr
namespace Go.Proofs.YtobkcdkffcenbaaGreatDoor.Tr
open Go.ChangeShapes Go.WideShapes Go.ChangeAt Go.RowKit
def onNd (f : Int) (x : Nd) : Nd := ⟨x.op, onM f x.a, onM f x.b, onM f x.c, x.n, x.name⟩
def behindM (a p : List Nd) : List Nd := a ++ p.map (onNd (a.length : Int))
structure BehRel (w : World) (b : Nat) (av : Value) (a p : List Nd) (k : Nat) (wr : World) (ov : Value) : Prop where
  le : k ≤ p.length
  own : wr.ownsRow b 70 6 ov (a.length + k) (ndsOf (a ++ (p.map (onNd (a.length : Int))).take k))
  grown : w.grownBy wr av.ownBlock
  blk : ∀ j, ov.ownBlock = some j → av.ownBlock = some j ∨ w.heap.size ≤ j
theorem grown_chain {w wr w3 w4 : World} {row row2 : Option Nat} {o : Obj} (g1 : w.grownBy wr row) (hb : Below wr.heap.size wr w3) (hg : (w3.alloc o).grownBy w4 row2) (hr : ∀ k, row2 = some k → row = some k ∨ w.heap.size ≤ k) : w.grownBy w4 row := by
  have hs := g1.size
  have hs3 := hb.size
  have hs4 := hg.size
  simp at hs4
  refine ⟨?_, ?_, ?_, by omega, fun k hk hn => ?_⟩
  · exact hg.os.trans ((show (w3.alloc o).os = w3.os from rfl).trans (hb.os.trans g1.os))
  · exact hg.tape.trans ((show (w3.alloc o).tape = w3.tape from rfl).trans (hb.tape.trans g1.tape))
  · exact hg.output.trans ((show (w3.alloc o).output = w3.output from rfl).trans (hb.output.trans g1.output))
  · rw [hg.block k (by simp; omega) (fun h2 => by
      rcases hr k h2.symm with h3 | h3
      · exact hn h3.symm
      · omega), Below.heap_alloc _ _ _ (by omega), hb.block k (by omega)]
    exact g1.block k hk hn
theorem beh_step {w wr w3 w4 : World} {b : Nat} {av ov : Value} {a p : List Nd} {k gg cap : Nat} {x : Nd} {o : Obj} (hx : p[k]? = some x) (h : BehRel w b av a p k wr ov) (hb : Below wr.heap.size wr w3) (hg : (w3.alloc o).grownBy w4 ov.ownBlock)
    (hown : w4.ownsRow b 70 6 (.slice (some ⟨gg, 0, none⟩) (a.length + k + 1) cap) (a.length + k + 1) (ndsOf (a ++ (p.map (onNd (a.length : Int))).take k) ++ ndCells (onNd (a.length : Int) x))) (hat : ov.ownBlock = some gg ∨ gg = w3.heap.size + 1) :
    BehRel w b av a p (k + 1) w4 (.slice (some ⟨gg, 0, none⟩) (a.length + k + 1) cap) := by
  have hk := (List.getElem?_eq_some_iff.1 hx).1
  have hs := h.grown.size
  have hs3 := hb.size
  refine ⟨by omega, ?_, grown_chain h.grown hb hg h.blk, fun j hj => ?_⟩
  · rw [List.take_add_one, List.getElem?_map, hx, show (Option.map (onNd (a.length : Int)) (some x)).toList = [onNd (a.length : Int) x] from rfl, ← List.append_assoc, nds_snoc]
    exact hown
  · have hj' : gg = j := by simpa [Value.ownBlock] using hj
    subst hj'
    rcases hat with h1 | h1
    · exact h.blk _ h1
    · exact .inr (by omega)
set_option maxRecDepth 100000 in
set_option maxHeartbeats 1000000 in
theorem behind_own (av pv : Value) (a p : List Nd) (b : Nat) (w : World) (hown : w.ownsRow b 70 6 av a.length (ndsOf a)) (hb : b ≤ w.heap.size) (hp : Nodes w pv p) (hlow : 0 < p.length → ∀ g o n c, pv = .slice (some ⟨g, o, none⟩) n c → av.ownBlock ≠ some g) (hn : a.length + p.length ≤ 100000) :
    Calls Tryz.prog 25 #[av, pv] w (OrderPost w b av a (p.map (onNd (a.length : Int)))) := by
  obtain ⟨A, c, rfl, h1, h2, hA⟩ := hp
  unfold maxLen at h2
  have HA := Lib.hid hA
  have HLOW := Lib.hid hlow
  have HOB := Lib.hid (show ∀ k, av.ownBlock = some k → b ≤ k from fun k hk => (hown.lt k hk).1)
  have HREL0 : Hid (BehRel w b av a p 0 w av) := Lib.hid ⟨Nat.zero_le _, by simpa using hown, World.grownBy.refl _ _, fun j hj => .inl hj⟩
  obtain ⟨A1, c1, rfl, y1, y2, _⟩ := Nodes.of_own hown
  unfold maxLen at y2
  obtain ⟨i1, hi', hz0', hz1', hz2'⟩ := info_parts info30
  clear hA hown hlow
  go_enter Tryz.func25, Tryz.ntmps25
  go_wp2
  go_loopw [0, 6] (fun s0 i wr => ∃ (k : Nat) (ov : Value), ov = s0 ∧ i = .int .i64 k ∧ BehRel w b (.slice A1 a.length c1) a p k wr ov) (fun _ i _ => p.length - (intOf i).toNat)
  case atStart => exact ⟨0, _, rfl, rfl, HREL0.out⟩
  case round =>
    obtain ⟨k, ov, rfl, rfl, hrel⟩ := hrel
    have hk := hrel.le
    have HREL := Lib.hid hrel
    have hs := hrel.grown.size
    by_cases hlt : k < p.length
    · obtain ⟨x, hx⟩ : ∃ x, p[k]? = some x := ⟨_, List.getElem?_eq_getElem hlt⟩
      obtain ⟨g, o, rfl, hg, a0, a1, a2, a3, a4, a5⟩ := HA.out k x hx
      have hgb := HLOW.out (by omega) g o _ _ rfl
      have HGB := Lib.hid (hrel.grown.block g hg (fun h => hgb h.symm))
      have b0 := (World.cell?_of_block (w := w) (a := ⟨g, o + k * 6, none⟩) HGB.out).trans a0
      have b1 := (World.cell?_of_block (w := w) (a := ⟨g, o + k * 6 + 1, none⟩) HGB.out).trans a1
      have b2 := (World.cell?_of_block (w := w) (a := ⟨g, o + k * 6 + 2, none⟩) HGB.out).trans a2
      have b3 := (World.cell?_of_block (w := w) (a := ⟨g, o + k * 6 + 3, none⟩) HGB.out).trans a3
      have b4 := (World.cell?_of_block (w := w) (a := ⟨g, o + k * 6 + 4, none⟩) HGB.out).trans a4
      have b5 := (World.cell?_of_block (w := w) (a := ⟨g, o + k * 6 + 5, none⟩) HGB.out).trans a5
      have HX := Lib.hid hx
      clear hx a0 a1 a2 a3 a4 a5 hrel
      go_wp2_with fail
      refine (move_any _ _ _ _ _ _ _ _).mono ?_
      rintro r w3 ⟨rfl, hb3⟩
      have hs3 := hb3.size
      have HB3 := Lib.hid hb3
      have HO3 := Lib.hid (own_below HREL.out.own hb3)
      clear hb3 b0 b1 b2 b3 b4 b5
      go_wp2_with (at_builtin; refine wpList_append_lies _ rfl (.tmp 15) (.tmp 22) 32 rfl b 70 i1 _ 6 56 Tryz.underlying32 hi' hz0' hz1' hz2' rfl (by decide) ov (a.length + k) _ rfl (HO3.out.alloc _) ⟨w3.heap.size, 0, none⟩ 1 1 (ndCells (onNd (a.length : Int) x)) rfl rfl ?a2 ?b2 (by omega) ?c2 ?d2 ?e2 (w3.heap.size + 1) ?f2 ?_)
      case a2 => exact World.news_of_block (t := 70) (fr := (0, 0)) (heap_alloc_new _ _)
      case b2 => simp [ndCells, Value.oneCell']
      case c2 => unfold maxLen; omega
      case d2 => omega
      case e2 => simp; omega
      case f2 => simp
      intro gg cap w4 hown4 hg4 hat _
      have R := Lib.hid (beh_step HX.out HREL.out HB3.out hg4 hown4 hat)
      clear hown4 hg4 hat
      go_wp2
      refine ⟨⟨k + 1, _, rfl, by go_num, R.out⟩, by simp [intOf]; omega⟩
    · have hkl : k = p.length := by omega
      subst hkl
      clear hrel
      go_wp2
      go_ret
      refine ⟨_, rfl, ?_, HREL.out.grown, HREL.out.blk⟩
      have := HREL.out.own
      rw [List.take_of_length_le (by simp)] at this
      rw [List.length_append, List.length_map]; exact this
theorem behind_any (av pv : Value) (a p : List Nd) (b : Nat) (w : World) (hown : w.ownsRow b 70 6 av a.length (ndsOf a)) (hb : b ≤ w.heap.size) (hp : Nodes w pv p) (hlow : 0 < p.length → ∀ g o n c, pv = .slice (some ⟨g, o, none⟩) n c → g < b) (hn : a.length + p.length ≤ 100000) :
    Calls Tryz.prog 25 #[av, pv] w (OrderPost w b av a (p.map (onNd (a.length : Int)))) :=
  behind_own av pv a p b w hown hb hp (fun h g o n c hh hk => by have := hlow h g o n c hh; have := (hown.lt g hk).1; omega) hn
end Go.Proofs.YtobkcdkffcenbaaGreatDoor.Tr
namespace Go.Proofs.YtobkcdkffcenbaaGreatDoor.Tr
open Go.ChangeShapes Go.WideShapes Go.ChangeAt Go.RowKit
end Go.Proofs.YtobkcdkffcenbaaGreatDoor.Tr
namespace Go.Proofs.YtobkcdkffcenbaaGreatDoor.Tr
open Go.ChangeShapes Go.WideShapes Go.ChangeAt Go.RowKit
def Parts (w : World) (b : Nat) (v : Value) (ls : List (List Nd)) : Prop :=
  ∃ A c, v = .slice A ls.length c ∧ ls.length ≤ c ∧ c ≤ maxLen ∧ ∀ i l, ls[i]? = some l → ∃ g o u, A = some ⟨g, o, none⟩ ∧ g < b ∧ g < w.heap.size ∧ w.cell? ⟨g, o + i, none⟩ = some u ∧ Nodes w u l ∧
    (0 < l.length → ∀ g o n c, u = .slice (some ⟨g, o, none⟩) n c → g < b)
theorem Nodes.low {w w' : World} {u : Value} {l : List Nd} {b : Nat} (h : Nodes w u l) (hl : 0 < l.length → ∀ g o n c, u = .slice (some ⟨g, o, none⟩) n c → g < b) (hs : w.heap.size ≤ w'.heap.size) (hk : ∀ g, g < b → g < w.heap.size → w'.heap[g]? = w.heap[g]?) : Nodes w' u l := by
  obtain ⟨A, c, rfl, h1, h2, h3⟩ := h
  refine ⟨A, c, rfl, h1, h2, fun i t hi => ?_⟩
  obtain ⟨g, o, rfl, hlt, c0, c1, c2, c3, c4, c5⟩ := h3 i t hi
  have q : ∀ k, w'.cell? ⟨g, k, none⟩ = w.cell? ⟨g, k, none⟩ := fun k => World.cell?_of_block (w := w) (a := ⟨g, k, none⟩) (hk g (hl (by have := (List.getElem?_eq_some_iff.1 hi).1; omega) _ _ _ _ rfl) hlt)
  exact ⟨g, o, rfl, by omega, (q _).trans c0, (q _).trans c1, (q _).trans c2, (q _).trans c3, (q _).trans c4, (q _).trans c5⟩
def callStep (s : List Nd × Int) (p : List Nd) : List Nd × Int :=
  (behindM s.1 p ++ [overM 28 0 [] [((behindM s.1 p).length : Int) - 1, s.2]], ((behindM s.1 p).length : Int))
def callF (out : List Nd) (ls : List (List Nd)) : List Nd × Int := ls.foldl callStep (out, -1)
def callM (out : List Nd) (n : Int) (s : Bytes) (ls : List (List Nd)) : List Nd := (callF out ls).1 ++ [overM 27 n s [(callF out ls).2]]
theorem callF_next (out : List Nd) (ls : List (List Nd)) (k : Nat) (p : List Nd) (h : ls[k]? = some p) : callF out (ls.take (k + 1)) = callStep (callF out (ls.take k)) p := by
  unfold callF; rw [List.take_add_one, h, show (some p).toList = [p] from rfl, List.foldl_append]; rfl
theorem behind_len (a p : List Nd) : (behindM a p).length = a.length + p.length := by unfold behindM; simp
theorem callF_len (out : List Nd) (ls : List (List Nd)) : (callF out ls).1.length = out.length + (ls.map (fun p => p.length + 1)).sum := by
  unfold callF
  generalize (-1 : Int) = z
  induction ls generalizing out z with
  | nil => simp
  | cons p r ih =>
    rw [List.foldl_cons]
    show (r.foldl callStep (behindM out p ++ _, _)).1.length = _
    rw [ih, List.length_append, behind_len, List.map_cons, List.sum_cons]; simp; omega
theorem callF_mono (out : List Nd) (ls : List (List Nd)) (k : Nat) : (callF out (ls.take k)).1.length ≤ (callF out ls).1.length := by
  rw [callF_len, callF_len]
  conv => rhs; rw [← List.take_append_drop k ls]
  rw [List.map_append, List.sum_append]; omega
theorem callF_step_len (out : List Nd) (ls : List (List Nd)) (k : Nat) (p : List Nd) (h : ls[k]? = some p) : (callF out (ls.take k)).1.length + p.length + 1 ≤ (callF out ls).1.length := by
  have := callF_mono out ls (k + 1)
  rw [callF_next out ls k p h] at this
  unfold callStep at this
  rw [List.length_append, behind_len] at this
  simpa using this
theorem row_end {w wr w3 w4 : World} {b : Nat} {av ov : Value} {l : List Nd} {N gg cap : Nat} {y : Nd} {o : Obj} (g1 : w.grownBy wr av.ownBlock) (hblk : ∀ j, ov.ownBlock = some j → av.ownBlock = some j ∨ w.heap.size ≤ j)
    (hb3 : Below wr.heap.size wr w3) (hg : (w3.alloc o).grownBy w4 ov.ownBlock) (hN : l.length = N)
    (hown : w4.ownsRow b 70 6 (.slice (some ⟨gg, 0, none⟩) (N + 1) cap) (N + 1) (ndsOf l ++ ndCells y)) (hat : ov.ownBlock = some gg ∨ gg = w3.heap.size + 1) :
    w4.ownsRow b 70 6 (.slice (some ⟨gg, 0, none⟩) (N + 1) cap) (l ++ [y]).length (ndsOf (l ++ [y])) ∧ w.grownBy w4 av.ownBlock ∧ ∀ k, (Value.slice (some ⟨gg, 0, none⟩) (N + 1) cap).ownBlock = some k → av.ownBlock = some k ∨ w.heap.size ≤ k := by
  have hs := g1.size
  have hs3 := hb3.size
  refine ⟨?_, grown_chain g1 hb3 hg hblk, fun j hj => ?_⟩
  · rw [nds_snoc, List.length_append, hN]; exact hown
  · have hj' : gg = j := by simpa [Value.ownBlock] using hj
    subst hj'
    rcases hat with h1 | h1
    · exact hblk _ h1
    · exact .inr (by omega)
end Go.Proofs.YtobkcdkffcenbaaGreatDoor.Tr
namespace Go.Proofs.YtobkcdkffcenbaaGreatDoor.Tr
open Go.ChangeShapes Go.WideShapes Go.ChangeAt Go.RowKit
def layStep (s : List Nd × List Int) (p : List Nd) : List Nd × List Int := (behindM s.1 p, s.2 ++ [((behindM s.1 p).length : Int) - 1])
def layF (ls : List (List Nd)) : List Nd × List Int := ls.foldl layStep ([], [])
theorem layF_next (ls : List (List Nd)) (k : Nat) (p : List Nd) (h : ls[k]? = some p) : layF (ls.take (k + 1)) = layStep (layF (ls.take k)) p := by
  unfold layF; rw [List.take_add_one, h, show (some p).toList = [p] from rfl, List.foldl_append]; rfl
theorem layF_lens (ls : List (List Nd)) : (layF ls).1.length = (ls.map List.length).sum ∧ (layF ls).2.length = ls.length := by
  have key : ∀ (ls : List (List Nd)) (s : List Nd × List Int), (ls.foldl layStep s).1.length = s.1.length + (ls.map List.length).sum ∧ (ls.foldl layStep s).2.length = s.2.length + ls.length := by
    intro ls
    induction ls with
    | nil => intro s; simp
    | cons p r ih =>
      intro s
      rw [List.foldl_cons]
      obtain ⟨h1, h2⟩ := ih (layStep s p)
      rw [h1, h2]
      unfold layStep
      rw [behind_len]
      simp; omega
  have := key ls ([], [])
  unfold layF; simpa using this
def roomM (ls : List (List Nd)) : Nat := (ls.map (fun p => p.length + 1)).sum
theorem room_sum (ls : List (List Nd)) : roomM ls = (ls.map List.length).sum + ls.length := by
  unfold roomM
  induction ls with
  | nil => rfl
  | cons p r ih => rw [List.map_cons, List.sum_cons, ih, List.map_cons, List.sum_cons, List.length_cons]; omega
theorem sum_take (ls : List (List Nd)) (k : Nat) : ((ls.take k).map List.length).sum ≤ (ls.map List.length).sum := by
  conv => rhs; rw [← List.take_append_drop k ls]
  rw [List.map_append, List.sum_append]; omega
theorem sum_next (ls : List (List Nd)) (k : Nat) (p : List Nd) (h : ls[k]? = some p) : ((ls.take (k + 1)).map List.length).sum = ((ls.take k).map List.length).sum + p.length := by
  rw [List.take_add_one, h, show (some p).toList = [p] from rfl, List.map_append, List.sum_append]; simp
def sumM (ls : List (List Nd)) (k : Nat) : Nat := ((ls.take k).map List.length).sum
theorem sumM_le (ls : List (List Nd)) (k : Nat) : sumM ls k + ls.length ≤ roomM ls := by rw [room_sum]; have := sum_take ls k; unfold sumM; omega
theorem sumM_next (ls : List (List Nd)) (k : Nat) (p : List Nd) (h : ls[k]? = some p) : sumM ls (k + 1) = sumM ls k + p.length := sum_next ls k p h
def joinM (o n : Int) (s : Bytes) (ls : List (List Nd)) : List Nd :=
  if ls.any List.isEmpty then [] else if o = 28 then [] else if o = 27 then callM [] n s ls
  else if (kidsM (overM o n s [])).length = ls.length then (layF ls).1 ++ [overM o n s (layF ls).2] else []
theorem any_empty (ls : List (List Nd)) (k : Nat) (p : List Nd) (h : ls[k]? = some p) (hp : p.length = 0) : ls.any List.isEmpty = true := by
  rw [List.any_eq_true]; exact ⟨p, List.mem_of_getElem? h, by rw [List.isEmpty_iff]; exact List.length_eq_zero_iff.1 hp⟩
theorem none_empty (ls : List (List Nd)) (h : ∀ k p, k < ls.length → ls[k]? = some p → p.length ≠ 0) : ls.any List.isEmpty = false := by
  rw [List.any_eq_false]
  intro p hp
  obtain ⟨k, hk⟩ := List.mem_iff_getElem?.1 hp
  have := h k p (List.getElem?_eq_some_iff.1 hk).1 hk
  rw [List.isEmpty_iff]; intro h0; subst h0; exact this rfl
theorem Parts.keep {w w' : World} {b : Nat} {v : Value} {ls : List (List Nd)} (h : Parts w b v ls) (hb : b ≤ w.heap.size) (hs : w.heap.size ≤ w'.heap.size) (hk : ∀ g, g < b → w'.heap[g]? = w.heap[g]?) : Parts w' b v ls := by
  obtain ⟨A, c, rfl, h1, h2, h3⟩ := h
  refine ⟨A, c, rfl, h1, h2, fun i l hi => ?_⟩
  obtain ⟨g, o, u, rfl, hgb, hg, c0, hu, hul⟩ := h3 i l hi
  exact ⟨g, o, u, rfl, hgb, by omega, (World.cell?_of_block (w := w) (a := ⟨g, o + i, none⟩) (hk g hgb)).trans c0, hu.low hul hs (fun g h _ => hk g h), hul⟩
structure JoinRel (w : World) (b : Nat) (ls : List (List Nd)) (k : Nat) (wr : World) (ov tv : Value) : Prop where
  le : k ≤ ls.length
  base : w.heap.size ≤ b
  own : wr.ownsRow b 70 6 ov (layF (ls.take k)).1.length (ndsOf (layF (ls.take k)).1)
  row : wr.ownsRow b 3 1 tv k (intsOf (layF (ls.take k)).2)
  below : Below w.heap.size w wr
theorem JoinRel.step {w wr w3 w4 : World} {b : Nat} {ls : List (List Nd)} {k : Nat} {p : List Nd} {ov ov2 tv tv' : Value} {o : Obj} (hp : ls[k]? = some p) (h : JoinRel w b ls k wr ov tv)
    (hown : w3.ownsRow b 70 6 ov2 (behindM (layF (ls.take k)).1 p).length (ndsOf (behindM (layF (ls.take k)).1 p))) (hg : wr.grownBy w3 ov.ownBlock)
    (htv : w3.ownsRow b 3 1 tv k (intsOf (layF (ls.take k)).2))
    (hrow : w4.ownsRow b 3 1 tv' (k + 1) (intsOf (layF (ls.take k)).2 ++ [.int .i64 (((behindM (layF (ls.take k)).1 p).length : Int) - 1)])) (hg4 : (w3.alloc o).grownBy w4 tv.ownBlock) : JoinRel w b ls (k + 1) w4 ov2 tv' := by
  have hk := (List.getElem?_eq_some_iff.1 hp).1
  have e := layF_next ls k p hp
  have hs := h.below.size
  have hs3 := hg.size
  have hs4 := hg4.size
  simp at hs4
  have hne := own_ne hown htv (by decide)
  have hb := h.base
  refine ⟨by omega, hb, ?_, ?_, ?_⟩
  · rw [e]
    exact own_block hown (fun g hgb => by
      rw [hg4.block g (by have := (hown.lt g hgb).2; simp; omega) (fun h' => hne g hgb h'.symm), Below.heap_alloc _ _ _ (hown.lt g hgb).2])
  · rw [e]; unfold layStep; rw [ints_snoc]; exact hrow
  · exact ((h.below.grown hg (by omega) (fun j hj => Nat.le_trans hb (h.own.lt j hj).1)).alloc (by omega) _).grown hg4 (by simp; omega) (fun j hj => Nat.le_trans hb (htv.lt j hj).1)
end Go.Proofs.YtobkcdkffcenbaaGreatDoor.Tr
namespace Go.Proofs.YtobkcdkffcenbaaGreatDoor.Ex
open Go.Proofs.YtobkcdkffcenbaaGreatDoor.Tr
abbrev Tok := Lx.Tok
structure Rd where
  l : List Tok
  next : Nat
  begun : Nat
  code : Int
  at_ : Int
deriving DecidableEq
def atM (l : List Tok) (i : Nat) : Int := match l[i]? with | some t => (t.at_ : Int) | none => -1
def noTok : Tok := ⟨0, [], 0⟩
def Rd.cur (r : Rd) : Tok := (r.l[r.next]?).getD noTok
def Rd.ws (r : Rd) : Bool := decide (r.next < r.l.length) && (r.cur.kind == 3 || r.cur.kind == 4)
def Rd.isB (s : Bytes) (r : Rd) : Bool := r.ws && r.cur.text == s
def Rd.adv (r : Rd) : Rd := ⟨r.l, r.next + 1, r.begun, r.code, r.at_⟩
def Rd.fail (e : Int) (r : Rd) : Rd := if r.code = 0 then ⟨[], r.next, r.begun, e, atM r.l r.next⟩ else ⟨[], r.next, r.begun, r.code, r.at_⟩
def Rd.need (s : Bytes) (r : Rd) : Rd := if r.isB s then r.adv else r.fail 5
def Rd.open_ (r : Rd) : Rd := ⟨r.l, r.next, r.begun + 1, r.code, r.at_⟩
def Rd.shut (r : Rd) : Rd := ⟨r.l, r.next, r.begun - 1, r.code, r.at_⟩
def signsM : Nat → List (Bytes × Int × Bool)
  | 1 => [([45, 62], 19, false)]
  | 2 => [([61, 62], 9, false)]
  | 3 => [([115, 105, 110, 99, 101], 20, false)]
  | 4 => [([111, 114], 7, false), ([120, 111, 114], 8, false)]
  | 5 => [([97, 110, 100], 6, false)]
  | 6 => [([61], 10, false), ([60, 62], 11, false), ([60], 12, false), ([60, 61], 13, false), ([62], 12, true), ([62, 61], 13, true)]
  | 7 => [([43], 14, false), ([45], 15, false)]
  | 8 => [([42], 16, false), ([100, 105, 118], 17, false), ([109, 111, 100], 18, false)]
  | 9 => [([110, 111, 116], 4, false), ([45], 5, false), ([112, 114, 101], 21, false), ([111, 110, 99, 101], 22, false), ([104, 105, 115, 116], 23, false), ([112, 114, 101, 118], 24, false), ([119, 105, 116, 104, 105, 110], 25, false)]
  | _ => []
def Rd.sign (n : Nat) (r : Rd) : Option (Int × Bool) := if r.ws then (signsM n).lookup r.cur.text else none
structure Pt where
  e : List Nd
  nodes : Nat
  deep : Nat
deriving DecidableEq
def Pt.zero : Pt := ⟨[], 0, 0⟩
def nodesOf (op : Int) (ps : List Pt) : Nat := ps.foldl (fun a p => a + p.nodes + if op = 27 then 1 else 0) 1
def deepOf (op : Int) (ps : List Pt) : Nat := ps.foldl (fun a p => max a (1 + p.deep) + if op = 27 then 1 else 0) 1
def joined (op n : Int) (s : Bytes) (ps : List Pt) : Pt :=
  ⟨if nodesOf op ps ≤ 5000 ∧ deepOf op ps ≤ 40 then joinM op n s (ps.map Pt.e) else [], nodesOf op ps, deepOf op ps⟩
def sjoin (s : Int × Bool) (p q : Pt) : Pt := if s.2 then joined s.1 0 [] [q, p] else joined s.1 0 [] [p, q]
def foldR : List Pt → List (Int × Bool) → Pt
  | p :: ps, o :: os => sjoin o p (foldR ps os)
  | p :: _, [] => p
  | [], _ => Pt.zero
def numB (most : Nat) (t : Tok) : Bool := t.kind == 2 && decide (Lx.val t.text ≤ most)
def Rd.num (most : Nat) (r : Rd) : Nat := if numB most r.cur then Lx.val r.cur.text else 0
def Rd.numR (most : Nat) (r : Rd) : Rd := if numB most r.cur then r.adv else r.fail 5
inductive Task where
  | lev (n : Nat)
  | rl (n : Nat) (ps : List Pt) (ops : List (Int × Bool))
  | ll (n : Nat) (p : Pt)
  | opnd
  | single
  | named (s : Bytes)
  | args (s : Bytes) (ps : List Pt)
abbrev Out := Option (Pt × Rd)
def lp : Bytes := [40]
def rp : Bytes := [41]
def run : Nat → Task → Rd → Out
  | 0, _, _ => none
  | f + 1, .lev n, r =>
    if n = 9 then run f .opnd r else (run f (.lev (n + 1)) r).bind fun (p, r1) => if n ≤ 2 then run f (.rl n [p] []) r1 else run f (.ll n p) r1
  | f + 1, .rl n ps ops, r =>
    match r.sign n with
    | none => some (foldR ps ops, r)
    | some s => (run f (.lev (n + 1)) r.adv).bind fun (p, r1) => run f (.rl n (ps ++ [p]) (ops ++ [s])) r1
  | f + 1, .ll n p, r =>
    match r.sign n with
    | none => some (p, r)
    | some s => (run f (.lev (n + 1)) r.adv).bind fun (q, r1) => if n = 6 then some (sjoin s p q, r1) else run f (.ll n (sjoin s p q)) r1
  | f + 1, .opnd, r =>
    if r.begun = 200 then some (Pt.zero, r.fail 6) else
    match r.open_.sign 9 with
    | none => (run f .single r.open_).map fun (p, r1) => (p, r1.shut)
    | some s =>
      (run f .opnd (if s.1 = 25 then r.open_.adv.numR 1000 else r.open_.adv)).map fun (p, r1) => (joined s.1 (if s.1 = 25 then (r.open_.adv.num 1000 : Nat) else 0) [] [p], r1.shut)
  | f + 1, .single, r =>
    if r.isB lp then (run f (.lev 1) r.adv).map fun (p, r1) => (p, r1.need rp)
    else if r.isB [105, 102] then (run f (.lev 1) r.adv).bind fun (a, r1) => (run f (.lev 1) (r1.need [116, 104, 101, 110])).bind fun (b, r2) => (run f (.lev 1) (r2.need [101, 108, 115, 101])).map fun (c, r3) => (joined 26 0 [] [a, b, c], r3)
    else if r.isB [116, 114, 117, 101] then some (joined 2 1 [] [], r.adv)
    else if r.isB [102, 97, 108, 115, 101] then some (joined 2 0 [] [], r.adv)
    else if r.cur.kind = 2 then some (joined 1 (r.num 2147483647 : Nat) [] [], r.numR 2147483647)
    else if r.cur.kind = 1 ∧ r.cur.text ≠ [] then run f (.named r.cur.text) r
    else some (Pt.zero, r.fail 5)
  | f + 1, .named s, r =>
    if r.adv.isB lp then
      if r.adv.adv.isB rp then some (joined 27 0 s [], r.adv.adv.adv)
      else (run f (.lev 1) r.adv.adv).bind fun (p, r1) => run f (.args s [p]) r1
    else some (joined 3 0 s [], r.adv)
  | f + 1, .args s ps, r =>
    if r.isB [44] then (run f (.lev 1) r.adv).bind fun (p, r1) => run f (.args s (ps ++ [p])) r1
    else some (joined 27 0 s ps, r.need rp)
def parseOf (l : List Tok) (from_ : Nat) : Pt × Rd → List Nd × Nat × Int × Int
  | (p, r) => if r.code ≠ 0 then ([], 0, r.code, r.at_) else if 5000 < p.nodes then ([], 0, 7, atM l from_) else if 40 < p.deep then ([], 0, 6, atM l from_) else (p.e, r.next, 0, 0)
def fuelOf (l : List Tok) (from_ : Nat) : Nat := 30 * (l.length - from_) + 30
def parseM (l : List Tok) (from_ : Nat) : List Nd × Nat × Int × Int := match run (fuelOf l from_) (.lev 1) ⟨l, from_, 0, 0, 0⟩ with | some x => parseOf l from_ x | none => ([], 0, 0, 0)
def readM (s : Bytes) : List Nd × Int × Int :=
  match Lx.lexM s with
  | .bad c a => ([], c, a)
  | .ok l =>
    if (parseM l 0).2.2.1 = 0 ∧ (parseM l 0).2.1 < l.length then ([], 5, atM l (parseM l 0).2.1) else ((parseM l 0).1, (parseM l 0).2.2.1, (parseM l 0).2.2.2)
end Go.Proofs.YtobkcdkffcenbaaGreatDoor.Ex
namespace Go.Proofs.YtobkcdkffcenbaaGreatDoor.Ex
open Go.Proofs.YtobkcdkffcenbaaGreatDoor.Tr
structure Step (r r' : Rd) : Prop where
  nxt : r.next ≤ r'.next
  top : r'.next ≤ max r.next r.l.length
  beg : r'.begun = r.begun
  st : (r'.l = r.l ∧ r'.code = r.code ∧ r'.at_ = r.at_) ∨ (r'.l = [] ∧ r'.code ≠ 0)
theorem Step.refl (r : Rd) : Step r r := ⟨Nat.le_refl _, by omega, rfl, .inl ⟨rfl, rfl, rfl⟩⟩
theorem Step.trans {a b c : Rd} (h : Step a b) (k : Step b c) : Step a c := by
  have h1 := h.nxt; have h2 := k.nxt; have h3 := h.top; have h4 := k.top
  refine ⟨by omega, ?_, k.beg.trans h.beg, ?_⟩
  · rcases h.st with ⟨e, _⟩ | ⟨e, _⟩
    · rw [e] at h4; omega
    · rw [e] at h4; simp at h4; omega
  · rcases k.st with ⟨e1, e2, e3⟩ | e
    · rw [e1, e2, e3]; exact h.st
    · exact .inr e
theorem kind_lt {r : Rd} (h : r.cur.kind ≠ 0) : r.next < r.l.length := by
  unfold Rd.cur at h
  by_cases h' : r.next < r.l.length
  · exact h'
  · rw [List.getElem?_eq_none (by omega)] at h; simp [noTok] at h
theorem joinM_len (op n : Int) (s : Bytes) (ls : List (List Nd)) : (joinM op n s ls).length ≤ 1 + (ls.map List.length).sum + (if op = 27 then ls.length else 0) := by
  have hk : ∀ l : List (List Nd), (l.map (fun p => p.length + 1)).sum = (l.map List.length).sum + l.length := fun l => by
    induction l with
    | nil => rfl
    | cons a r ih => simp only [List.map_cons, List.sum_cons, ih, List.length_cons]; omega
  unfold joinM
  split
  · simp
  · split
    · simp
    · split
      · rename_i h; unfold callM; rw [List.length_append, callF_len, hk]; simp [h]; omega
      · split
        · rw [List.length_append, (layF_lens ls).1]; simp; omega
        · simp
end Go.Proofs.YtobkcdkffcenbaaGreatDoor.Ex

