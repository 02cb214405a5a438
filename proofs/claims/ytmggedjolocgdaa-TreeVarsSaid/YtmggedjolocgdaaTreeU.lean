/- The document's aim gives a node other operands; order lays the nodes of which a node is made, in order. Conditions: the expression may be. -/
import Derived.Test.YtmggedjolocgdaaTreeS0
namespace Go.Proofs.Ytmggedjolocgdaa.Tr
open Go.ChangeShapes Go.WideShapes Go.ChangeAt Go.RowKit
set_option linter.unusedVariables false
set_option linter.unusedSimpArgs false

/-- A node with other operands, in order. -/
def aimM (x : Nd) : List Int → Nd
  | [] => x
  | [i] => { x with a := i }
  | [i, j] => if x.op = 28 then { x with a := j, b := i } else { x with a := i, b := j }
  | i :: j :: k :: _ => { x with a := i, b := j, c := k }
theorem aim_mk (x : Nd) (K l : List Int) (h : x = mkL x.lab K) (hl : K.length = l.length) (h3 : l.length ≤ 3) : aimM x l = mkL x.lab l := by
  obtain ⟨o, a, b, c, n, s⟩ := x
  simp only [Nd.lab] at h ⊢
  match K, l, hl, h3 with
  | [], [], _, _ => exact h
  | [_], [_], _, _ =>
    simp only [mkL, Nd.mk.injEq, true_and, and_true] at h
    obtain ⟨-, rfl, rfl⟩ := h; rfl
  | [_, _], [_, _], _, _ =>
    simp only [mkL] at h
    by_cases ho : o = 28
    · subst ho
      simp only [if_true, Nd.mk.injEq, true_and, and_true] at h
      obtain ⟨-, -, rfl⟩ := h; simp [aimM, mkL]
    · simp only [ho, if_false, Nd.mk.injEq, true_and, and_true] at h
      obtain ⟨-, -, rfl⟩ := h; simp [aimM, mkL, ho]
  | _ :: _ :: _ :: _, [_, _, _], _, _ => rfl
  | _, _ :: _ :: _ :: _ :: _, _, h3 => simp at h3

set_option maxHeartbeats 3200000 in
theorem aim_any (x : Nd) (v : Value) (l : List Int) (w : World) (hv : Ints w v l) (h3 : l.length ≤ 3) : Calls Try.prog 49 #[.agg #[.int .i64 x.op, .int .i64 x.a, .int .i64 x.b, .int .i64 x.c, .int .i64 x.n, .string (str x.name)], v] w
    fun r w' => r = .returned (.agg #[.int .i64 (aimM x l).op, .int .i64 (aimM x l).a, .int .i64 (aimM x l).b, .int .i64 (aimM x l).c, .int .i64 (aimM x l).n, .string (str (aimM x l).name)]) ∧ Below w.heap.size w w' := by
  obtain ⟨A, c, rfl, h1, h2, hA⟩ := hv
  unfold maxLen at h2
  match l, h3 with
  | [], _ =>
    clear hA
    rcases Bool.eq_false_or_eq_true (x.op == 28) with h28 | h28
    all_goals
      go_enter Try.func49, Try.ntmps49
      go_wp2
      refine bodyPost_ret (v := .agg #[.int .i64 x.op, .int .i64 x.a, .int .i64 x.b, .int .i64 x.c, .int .i64 x.n, .string (str x.name)]) ?_ rfl ⟨rfl, ?_⟩
      · simp [results, Try.results49, go_sem]
      · repeat (first | with_reducible refine Below.setCell ?_ (by simp) _ | with_reducible refine Below.alloc ?_ (by simp) _ | exact Below.refl _ _)
  | [i], _ =>
    obtain ⟨g, o, rfl, hg, a0⟩ := hA 0 i rfl
    clear hA
    have hgn : w.heap.size ≠ g := by omega
    have hgn2 : w.heap.size + 1 ≠ g := by omega
    simp only [Nat.add_zero] at a0
    rcases Bool.eq_false_or_eq_true (x.op == 28) with h28 | h28
    all_goals
      go_enter Try.func49, Try.ntmps49
      go_wp2
      refine bodyPost_ret (v := .agg #[.int .i64 x.op, .int .i64 i, .int .i64 x.b, .int .i64 x.c, .int .i64 x.n, .string (str x.name)]) ?_ rfl ⟨rfl, ?_⟩
      · simp [results, Try.results49, go_sem]
      · repeat (first | with_reducible refine Below.setCell ?_ (by simp) _ | with_reducible refine Below.alloc ?_ (by simp) _ | exact Below.refl _ _)
  | [i, j], _ =>
    obtain ⟨g, o, rfl, hg, a0⟩ := hA 0 i rfl
    obtain ⟨g', o', e, hg', a1⟩ := hA 1 j rfl
    simp only [Option.some.injEq, Addr.mk.injEq, and_true] at e
    obtain ⟨rfl, rfl⟩ := e
    clear hA
    have hgn : w.heap.size ≠ g := by omega
    have hgn2 : w.heap.size + 1 ≠ g := by omega
    simp only [Nat.add_zero] at a0
    rcases Bool.eq_false_or_eq_true (x.op == 28) with h28 | h28
    · have HE := Lib.hid (show aimM x [i, j] = { x with a := j, b := i } by have h : x.op = 28 := (by simpa using h28); simp [aimM, h])
      go_enter Try.func49, Try.ntmps49
      go_wp2
      refine bodyPost_ret (v := .agg #[.int .i64 x.op, .int .i64 j, .int .i64 i, .int .i64 x.c, .int .i64 x.n, .string (str x.name)]) ?_ rfl ⟨by rw [HE.out], ?_⟩
      · simp [results, Try.results49, go_sem]
      · repeat (first | with_reducible refine Below.setCell ?_ (by simp) _ | with_reducible refine Below.alloc ?_ (by simp) _ | exact Below.refl _ _)
    · have HE := Lib.hid (show aimM x [i, j] = { x with a := i, b := j } by have h : x.op ≠ 28 := (by simpa using h28); simp [aimM, h])
      go_enter Try.func49, Try.ntmps49
      go_wp2
      refine bodyPost_ret (v := .agg #[.int .i64 x.op, .int .i64 i, .int .i64 j, .int .i64 x.c, .int .i64 x.n, .string (str x.name)]) ?_ rfl ⟨by rw [HE.out], ?_⟩
      · simp [results, Try.results49, go_sem]
      · repeat (first | with_reducible refine Below.setCell ?_ (by simp) _ | with_reducible refine Below.alloc ?_ (by simp) _ | exact Below.refl _ _)
  | [i, j, k], _ =>
    obtain ⟨g, o, rfl, hg, a0⟩ := hA 0 i rfl
    obtain ⟨g', o', e, hg', a1⟩ := hA 1 j rfl
    simp only [Option.some.injEq, Addr.mk.injEq, and_true] at e
    obtain ⟨rfl, rfl⟩ := e
    obtain ⟨g', o', e, hg', a2⟩ := hA 2 k rfl
    simp only [Option.some.injEq, Addr.mk.injEq, and_true] at e
    obtain ⟨rfl, rfl⟩ := e
    clear hA
    have hgn : w.heap.size ≠ g := by omega
    have hgn2 : w.heap.size + 1 ≠ g := by omega
    simp only [Nat.add_zero] at a0
    rcases Bool.eq_false_or_eq_true (x.op == 28) with h28 | h28
    all_goals
      go_enter Try.func49, Try.ntmps49
      go_wp2
      refine bodyPost_ret (v := .agg #[.int .i64 x.op, .int .i64 i, .int .i64 j, .int .i64 k, .int .i64 x.n, .string (str x.name)]) ?_ rfl ⟨rfl, ?_⟩
      · simp [results, Try.results49, go_sem]
      · repeat (first | with_reducible refine Below.setCell ?_ (by simp) _ | with_reducible refine Below.alloc ?_ (by simp) _ | exact Below.refl _ _)

/-- What lies in one row lies not in one of another type. -/
theorem own_ne {w : World} {b b' : Nat} {e e' : TypeId} {s s' : Nat} {v v' : Value} {n n' : Nat} {xs xs' : List Value} (h : w.ownsRow b e s v n xs) (h' : w.ownsRow b' e' s' v' n' xs') (hne : e ≠ e') : ∀ k, v.ownBlock = some k → v'.ownBlock ≠ some k := by
  intro k hk hk'
  rcases h.2 with ⟨h0, _⟩ | ⟨g, cap, cur, h1, _, h3, _⟩
  · rw [h0] at hk; simp [Value.ownBlock] at hk
  rcases h'.2 with ⟨h0, _⟩ | ⟨g', cap', cur', h1', _, h3', _⟩
  · rw [h0] at hk'; simp [Value.ownBlock] at hk'
  rw [h1] at hk; rw [h1'] at hk'
  simp [Value.ownBlock] at hk hk'
  subst hk hk'
  rw [h3] at h3'
  simp only [Option.some.injEq, Obj.cells.injEq] at h3'
  exact hne h3'.2.1

/-- What a call of order leaves. -/
def OrderPost (w : World) (b : Nat) (ov : Value) (out : List Nd) (new : List Nd) (r : Ending) (w' : World) : Prop :=
  ∃ ov', r = .returned ov' ∧ w'.ownsRow b 30 6 ov' (out ++ new).length (ndsOf (out ++ new)) ∧ w.grownBy w' ov.ownBlock ∧ ∀ k, ov'.ownBlock = some k → ov.ownBlock = some k ∨ w.heap.size ≤ k
/-- The loop's relation: the first operands are laid. -/
structure OrdRel (w w2 : World) (b : Nat) (ov : Value) (out : List Nd) (e : List Nd) (L : List Int) (j : Nat) (wr : World) (ov' tv : Value) : Prop where
  le : j ≤ L.length
  own : wr.ownsRow b 30 6 ov' (out ++ flats e out.length (L.take j)).length (ndsOf (out ++ flats e out.length (L.take j)))
  row : wr.ownsRow w2.heap.size 3 1 tv j (intsOf ((List.range j).map (posOf e out.length L)))
  size : w2.heap.size ≤ wr.heap.size
  grown : w.grownBy wr ov.ownBlock
  keep : ∀ k, w.heap.size ≤ k → k < w2.heap.size → wr.heap[k]? = w2.heap[k]?
  blk : ∀ k, ov'.ownBlock = some k → ov.ownBlock = some k ∨ w2.heap.size ≤ k
theorem posOf_next (e : List Nd) (b : Nat) (L : List Int) (j : Nat) : (List.range (j + 1)).map (posOf e b L) = (List.range j).map (posOf e b L) ++ [posOf e b L j] := by
  rw [List.range_succ, List.map_append]; rfl
/-- One operand more: laid, and noted. -/
theorem ord_step {w w2 wr w3 w4 : World} {b : Nat} {ov ov' ov'' tv tv' : Value} {out : List Nd} {e : List Nd} {L : List Int} {j m : Nat} {o : Obj} (hj : L[j]? = some (m : Int)) (hb : b ≤ w.heap.size) (hw : w.heap.size ≤ w2.heap.size)
    (hov : ∀ k, ov.ownBlock = some k → k < w.heap.size) (h : OrdRel w w2 b ov out e L j wr ov' tv)
    (hown : w3.ownsRow b 30 6 ov'' ((out ++ flats e out.length (L.take j)) ++ (tree e m).flat (out ++ flats e out.length (L.take j)).length).length (ndsOf ((out ++ flats e out.length (L.take j)) ++ (tree e m).flat (out ++ flats e out.length (L.take j)).length)))
    (hg : wr.grownBy w3 ov'.ownBlock) (hblk : ∀ k, ov''.ownBlock = some k → ov'.ownBlock = some k ∨ wr.heap.size ≤ k)
    (hrow : w4.ownsRow w2.heap.size 3 1 tv' (j + 1) (intsOf ((List.range j).map (posOf e out.length L)) ++ [.int .i64 (posOf e out.length L j)])) (hg4 : (w3.alloc o).grownBy w4 tv.ownBlock)
    (htv : w3.ownsRow w2.heap.size 3 1 tv j (intsOf ((List.range j).map (posOf e out.length L)))) :
    OrdRel w w2 b ov out e L (j + 1) w4 ov'' tv' := by
  have hjl := (List.getElem?_eq_some_iff.1 hj).1
  have htk : L.take (j + 1) = L.take j ++ [(m : Int)] := by rw [List.take_add_one, hj]; rfl
  have hlen : (out ++ flats e out.length (L.take j)).length = out.length + upTo e (L.take j) := by rw [List.length_append, flats_len]
  have hs := h.size
  have hs3 := hg.size
  have hs4 := hg4.size
  simp at hs4
  have hne := own_ne hown htv (by decide)
  have hout : (out ++ flats e out.length (L.take j)) ++ (tree e m).flat (out ++ flats e out.length (L.take j)).length = out ++ flats e out.length (L.take (j + 1)) := by
    rw [htk, flats_snoc, Int.toNat_natCast, hlen, List.append_assoc]
  rw [hout] at hown
  have k4 : ∀ k, k < w3.heap.size → tv.ownBlock ≠ some k → w4.heap[k]? = w3.heap[k]? := fun k hk hn => by
    rw [hg4.block k (by simp; omega) (fun h => hn h.symm), Below.heap_alloc _ _ _ hk]
  have htl : ∀ k, tv.ownBlock = some k → w2.heap.size ≤ k := fun k hk => (htv.lt k hk).1
  refine ⟨by omega, ?_, ?_, by omega, ?_, ?_, ?_⟩
  · refine own_block hown (fun g hgb => k4 g (hown.lt g hgb).2 (hne g hgb))
  · rw [posOf_next, ints_snoc]; exact hrow
  · have g1 := h.grown
    refine ⟨?_, ?_, ?_, by omega, fun k hk hn => ?_⟩
    · exact (hg4.os).trans ((show (w3.alloc o).os = w3.os from rfl).trans (hg.os.trans g1.os)) 
    · exact (hg4.tape).trans ((show (w3.alloc o).tape = w3.tape from rfl).trans (hg.tape.trans g1.tape))
    · exact (hg4.output).trans ((show (w3.alloc o).output = w3.output from rfl).trans (hg.output.trans g1.output))
    · rw [k4 k (by omega) (fun h => by have := htl k h; omega), hg.block k (by omega) (fun h2 => by
        rcases h.blk k h2.symm with h3 | h3
        · exact hn h3.symm
        · omega)]
      exact g1.block k hk hn
  · intro k hk1 hk2
    rw [k4 k (by omega) (fun h => by have := htl k h; omega), hg.block k (by omega) (fun h2 => by
      rcases h.blk k h2.symm with h3 | h3
      · have := hov k h3; omega
      · omega)]
    exact h.keep k hk1 hk2
  · intro k hk
    rcases hblk k hk with h1 | h1
    · exact h.blk k h1
    · exact .inr (by omega)
end Go.Proofs.Ytmggedjolocgdaa.Tr
