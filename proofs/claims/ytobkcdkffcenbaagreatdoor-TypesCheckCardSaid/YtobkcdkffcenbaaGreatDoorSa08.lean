/- A lean reader of expressions: what tokens read as, where nothing fails, as a plain function. Conditions: none. -/
import Derived.Test.YtobkcdkffcenbaaGreatDoorCb17
import Derived.Test.YtobkcdkffcenbaaGreatDoorCa13
import Derived.Test.YtobkcdkffcenbaaGreatDoorCa10
set_option linter.unusedVariables false
set_option linter.unusedSimpArgs false
namespace Go.Proofs.YtobkcdkffcenbaaGreatDoor.Lr
open Go.Proofs.YtobkcdkffcenbaaGreatDoor.Tr (Bytes Nd joinM roomM)
def isAt (L : List Lx.Tok) (i : Nat) (s : Bytes) : Bool := match L[i]? with
  | none => false
  | some t => (t.kind == 4 || t.kind == 3) && t.text == s
theorem isAt_lt {L : List Lx.Tok} {i : Nat} {s : Bytes} (h : isAt L i s = true) : i < L.length := by
  unfold isAt at h
  by_cases hl : i < L.length
  · exact hl
  · rw [List.getElem?_eq_none (by omega)] at h; cases h
theorem isAt_ne {L : List Lx.Tok} {i : Nat} {s u : Bytes} (h : isAt L i s = true) (hn : s ≠ u) : isAt L i u = false := by
  unfold isAt at h ⊢
  cases e : L[i]? with
  | none => rfl
  | some t =>
    rw [e] at h
    simp only [Bool.and_eq_true, beq_iff_eq] at h
    simp only [h.2]
    rw [show (s == u) = false by simpa using hn, Bool.and_false]
def jn (o n : Int) (s : Bytes) (ls : List (List Nd)) : Option (List Nd) := if roomM ls ≤ 80000 then some (joinM o n s ls) else none
theorem jn_some {o n : Int} {s : Bytes} {ls : List (List Nd)} {x : List Nd} (h : jn o n s ls = some x) : roomM ls ≤ 80000 ∧ joinM o n s ls = x := by
  unfold jn at h
  split at h
  · injection h with h; exact ⟨by assumption, h⟩
  · cases h
abbrev Rr := Option (List (List Nd) × Nat)
def bnd (r : Rr) (k : List Nd → Nat → Rr) : Rr := match r with
  | some ([x], j) => k x j
  | _ => none
theorem bnd_some {r : Rr} {k : List Nd → Nat → Rr} {y : List (List Nd) × Nat} (h : bnd r k = some y) : ∃ x j, r = some ([x], j) ∧ k x j = some y := by
  unfold bnd at h
  split at h
  · exact ⟨_, _, rfl, h⟩
  · cases h
def ok1 (l : Option (List Nd)) (j : Nat) : Rr := l.map fun x => ([x], j)
theorem ok1_some {l : Option (List Nd)} {j k : Nat} {x : List Nd} (h : ok1 l j = some ([x], k)) : l = some x ∧ j = k := by
  unfold ok1 at h
  cases l with
  | none => cases h
  | some y => simp at h; exact ⟨by rw [h.1], h.2⟩
def preM (s : Bytes) : Int := if s = [110, 111, 116] then 4 else if s = [45] then 5 else if s = [112, 114, 101] then 21 else if s = [111, 110, 99, 101] then 22 else if s = [104, 105, 115, 116] then 23 else if s = [112, 114, 101, 118] then 24 else if s = [119, 105, 116, 104, 105, 110] then 25 else 0
def numB (t : Lx.Tok) : Bool := t.kind == 2 && decide (t.text.length ≤ 1000000) && t.text.all Lx.digitB && decide (Lx.val t.text ≤ 2147483647)
inductive K | arrow | imp | since | sinceL | or | and | andL | cmp | sum | sumL | prod | prodL | oper | beg | named | args | argsL
def run (L : List Lx.Tok) : Nat → K → List (List Nd) → Nat → Nat → Rr
  | 0, _, _, _, _ => none
  | f + 1, .arrow, _, o, i => bnd (run L f .imp [] o i) fun x j => if isAt L j [45, 62] then bnd (run L f .arrow [] o (j + 1)) fun y k => ok1 (jn 19 0 [] [x, y]) k else some ([x], j)
  | f + 1, .imp, _, o, i => bnd (run L f .since [] o i) fun x j => if isAt L j [61, 62] then bnd (run L f .imp [] o (j + 1)) fun y k => ok1 (jn 9 0 [] [x, y]) k else some ([x], j)
  | f + 1, .since, _, o, i => bnd (run L f .or [] o i) fun x j => run L f .sinceL [x] o j
  | f + 1, .sinceL, a, o, i => if isAt L i [115, 105, 110, 99, 101] then bnd (run L f .or [] o (i + 1)) fun y k => bnd (ok1 (jn 20 0 [] [a.headD [], y]) k) fun z k => run L f .sinceL [z] o k else some ([a.headD []], i)
  | f + 1, .or, _, o, i => bnd (run L f .and [] o i) fun x j => if isAt L j [111, 114] || isAt L j [120, 111, 114] then none else some ([x], j)
  | f + 1, .and, _, o, i => bnd (run L f .cmp [] o i) fun x j => run L f .andL [x] o j
  | f + 1, .andL, a, o, i => if isAt L i [97, 110, 100] then bnd (run L f .cmp [] o (i + 1)) fun y k => bnd (ok1 (jn 6 0 [] [a.headD [], y]) k) fun z k => run L f .andL [z] o k else some ([a.headD []], i)
  | f + 1, .cmp, _, o, i => bnd (run L f .sum [] o i) fun x j =>
      if isAt L j [61] || isAt L j [60, 62] then none
      else if isAt L j [60] then bnd (run L f .sum [] o (j + 1)) fun y k => ok1 (jn 12 0 [] [x, y]) k
      else if isAt L j [60, 61] then none
      else if isAt L j [62] then bnd (run L f .sum [] o (j + 1)) fun y k => ok1 (jn 12 0 [] [y, x]) k
      else if isAt L j [62, 61] then none
      else some ([x], j)
  | f + 1, .sum, _, o, i => bnd (run L f .prod [] o i) fun x j => run L f .sumL [x] o j
  | f + 1, .sumL, a, o, i => if isAt L i [43] then bnd (run L f .prod [] o (i + 1)) fun y k => bnd (ok1 (jn 14 0 [] [a.headD [], y]) k) fun z k => run L f .sumL [z] o k else if isAt L i [45] then none else some ([a.headD []], i)
  | f + 1, .prod, _, o, i => bnd (run L f .oper [] o i) fun x j => run L f .prodL [x] o j
  | f + 1, .prodL, a, o, i => if isAt L i [42] then bnd (run L f .oper [] o (i + 1)) fun y k => bnd (ok1 (jn 16 0 [] [a.headD [], y]) k) fun z k => run L f .prodL [z] o k else if isAt L i [100, 105, 118] then bnd (run L f .oper [] o (i + 1)) fun y k => bnd (ok1 (jn 17 0 [] [a.headD [], y]) k) fun z k => run L f .prodL [z] o k else if isAt L i [109, 111, 100] then none else some ([a.headD []], i)
  | f + 1, .oper, _, o, i => if 200 ≤ o then none else if L.length ≤ i then none else run L f .beg [] (o + 1) i
  | f + 1, .beg, _, o, i => match L[i]? with
      | none => none
      | some t =>
        if numB t then ok1 (jn 1 (Lx.val t.text : Int) [] []) (i + 1)
        else if t.kind = 1 then run L f .named [] o i
        else if t.kind = 3 ∨ t.kind = 4 then
          (if preM t.text = 25 then none
          else if preM t.text ≠ 0 then bnd (run L f .oper [] o (i + 1)) fun x j => ok1 (jn (preM t.text) 0 [] [x]) j
          else if isAt L i [116, 114, 117, 101] then ok1 (jn 2 1 [] []) (i + 1)
          else none)
        else none
  | f + 1, .named, _, o, i => match L[i]? with
      | none => none
      | some t => if isAt L (i + 1) [40] then (match run L f .args [] o (i + 2) with
            | none => none
            | some (ps, j) => ok1 (jn 27 0 t.text ps) j) else ok1 (jn 3 0 t.text []) (i + 1)
  | f + 1, .args, _, o, i => if isAt L i [41] then some ([], i + 1) else run L f .argsL [] o i
  | f + 1, .argsL, a, o, i => bnd (run L f .arrow [] o i) fun x j => if isAt L j [41] then some (a ++ [x], j + 1) else if isAt L j [44] && decide (a.length < 200) then run L f .argsL (a ++ [x]) o (j + 1) else none
end Go.Proofs.YtobkcdkffcenbaaGreatDoor.Lr

/- A lean reader of expressions: a reader in memory in which nothing has failed; its is, take, need, join. Conditions: as each says. -/
namespace Go.Proofs.YtobkcdkffcenbaaGreatDoor.Lr
open Go.ChangeShapes Go.WideShapes Go.ChangeAt Go.RowKit
open Go.Proofs.YtobkcdkffcenbaaGreatDoor.Tr (str ret_bool ret_int Bytes Nd Nodes joinM roomM own_block own_below own_ne ndsOf)
theorem blk_lt {w : World} {b : Nat} {o : Obj} (h : w.heap[b]? = some o) : b < w.heap.size := (Array.getElem?_eq_some_iff.mp h).1
def TkAt (w : World) (b : Nat) (v : Value) (l : List Lx.Tok) : Prop :=
  ∃ A c, v = .slice A l.length c ∧ l.length ≤ c ∧ c ≤ maxLen ∧ ∀ i t, l[i]? = some t → ∃ g, A = some ⟨g, 0, none⟩ ∧ g < b ∧
    w.cell? ⟨g, i * 3, none⟩ = some (.int .i64 t.kind) ∧ w.cell? ⟨g, i * 3 + 1, none⟩ = some (.string (str t.text)) ∧ w.cell? ⟨g, i * 3 + 2, none⟩ = some (.int .i64 (t.at_ : Int))
def bxC (lv : Value) (i o : Nat) : Array Value := #[lv, .int .i64 (i : Int), .int .i64 (o : Int), .int .i64 0, .int .i64 0]
structure Rq (w : World) (b : Nat) (L : List Lx.Tok) (lv : Value) (i o : Nat) : Prop where
  blk : w.heap[b]? = some (.cells (bxC lv i o) 132 (0, 0))
  tok : TkAt w b lv L
  ile : i ≤ L.length
  len : L.length ≤ 100000
  ole : o ≤ 200
def Mv (w w' : World) (b : Nat) : Prop := w.grownBy w' (some b)
theorem Mv.refl (w : World) (b : Nat) : Mv w w b := World.grownBy.refl w _
theorem Mv.trans {w w1 w2 : World} {b : Nat} (h : Mv w w1 b) (k : Mv w1 w2 b) : Mv w w2 b :=
  ⟨k.os.trans h.os, k.tape.trans h.tape, k.output.trans h.output, Nat.le_trans h.size k.size, fun i hi hne => (k.block i (Nat.lt_of_lt_of_le hi h.size) hne).trans (h.block i hi hne)⟩
theorem Mv.of {w w' : World} {b : Nat} (hb : Below w.heap.size w w') : Mv w w' b := ⟨hb.os, hb.tape, hb.output, hb.size, fun i hi _ => hb.block i hi⟩
theorem TkAt.mv {w w' : World} {b : Nat} {v : Value} {l : List Lx.Tok} (h : TkAt w b v l) (hm : ∀ g, g < b → w'.heap[g]? = w.heap[g]?) : TkAt w' b v l := by
  obtain ⟨A, c, rfl, h1, h2, h3⟩ := h
  refine ⟨A, c, rfl, h1, h2, fun i t hi => ?_⟩
  obtain ⟨g, hg, hne, c0, c1, c2⟩ := h3 i t hi
  have q : ∀ k, w'.cell? ⟨g, k, none⟩ = w.cell? ⟨g, k, none⟩ := fun k => World.cell?_of_block (w := w) (a := ⟨g, k, none⟩) (hm g hne)
  exact ⟨g, hg, hne, (q _).trans c0, (q _).trans c1, (q _).trans c2⟩
theorem Rq.lt {w : World} {b : Nat} {L : List Lx.Tok} {lv : Value} {i o : Nat} (h : Rq w b L lv i o) : b < w.heap.size := blk_lt h.blk
theorem Rq.below {w w' : World} {b : Nat} {L : List Lx.Tok} {lv : Value} {i o : Nat} (h : Rq w b L lv i o) (hb : Below w.heap.size w w') : Rq w' b L lv i o :=
  ⟨(hb.block b h.lt).trans h.blk, h.tok.mv (fun g hg => hb.block g (Nat.lt_trans hg h.lt)), h.ile, h.len, h.ole⟩
theorem Rq.keep {w w' : World} {b : Nat} {L : List Lx.Tok} {lv : Value} {i o : Nat} (h : Rq w b L lv i o) (hm : ∀ g, g ≤ b → w'.heap[g]? = w.heap[g]?) : Rq w' b L lv i o :=
  ⟨(hm b (Nat.le_refl _)).trans h.blk, h.tok.mv (fun g hg => hm g (Nat.le_of_lt hg)), h.ile, h.len, h.ole⟩
theorem Rq.turn {w W : World} {b : Nat} {L : List Lx.Tok} {lv : Value} {i o i' o' : Nat} (h : Rq w b L lv i o) (hW : W.heap[b]? = some (.cells (bxC lv i' o') 132 (0, 0))) (hm : Mv w W b) (hi : i' ≤ L.length) (ho : o' ≤ 200) : Rq W b L lv i' o' :=
  ⟨hW, h.tok.mv (fun g hg => hm.block g (Nat.lt_trans hg h.lt) (fun e => by injection e with e; omega)), hi, h.len, ho⟩
theorem mv_set (w : World) (b k : Nat) (v : Value) : Mv w (w.setCell ⟨b, k, none⟩ v) b :=
  ⟨rfl, rfl, rfl, by simp [World.setCell], fun g _ hne => Below.heap_setCell w ⟨b, k, none⟩ v g (fun e => hne (by rw [e]))⟩
theorem Rq.setI {w : World} {b : Nat} {L : List Lx.Tok} {lv : Value} {i o : Nat} (h : Rq w b L lv i o) (hi : i < L.length) : Rq (w.setCell ⟨b, 1, none⟩ (.int .i64 ((i : Int) + 1))) b L lv (i + 1) o :=
  h.turn (by simp [World.setCell, Array.getElem?_modify, h.blk, bxC]) (mv_set _ _ _ _) (by omega) h.ole
theorem Rq.cells {w : World} {b : Nat} {L : List Lx.Tok} {lv : Value} {i o : Nat} (h : Rq w b L lv i o) :
    w.cell? ⟨b, 0, none⟩ = some lv ∧ w.cell? ⟨b, 1, none⟩ = some (.int .i64 (i : Int)) ∧ w.cell? ⟨b, 2, none⟩ = some (.int .i64 (o : Int)) ∧ w.cell? ⟨b, 3, none⟩ = some (.int .i64 0) ∧ w.cell? ⟨b, 4, none⟩ = some (.int .i64 0) ∧ ∀ k, w.frozen? ⟨b, k, none⟩ = false := by
  have e := h.blk
  refine ⟨?_, ?_, ?_, ?_, ?_, fun k => ?_⟩ <;> simp [World.cell?, World.frozen?, e, bxC]
def NdW (w : World) (v : Value) (l : List Nd) : Prop := ∃ B, w.ownsRow B 70 6 v l.length (ndsOf l)
theorem NdW.nodes {w : World} {v : Value} {l : List Nd} (h : NdW w v l) : Nodes w v l := by obtain ⟨B, h⟩ := h; exact Tr.Nodes.of_own h
theorem NdW.form {w : World} {v : Value} {l : List Nd} (h : NdW w v l) : ∃ A c, v = .slice A l.length c ∧ c ≤ maxLen ∧ l.length ≤ c := by
  obtain ⟨A, c, e, h1, h2, -⟩ := h.nodes
  exact ⟨A, c, e, h2, h1⟩
theorem NdW.below {w w' : World} {v : Value} {l : List Nd} (h : NdW w v l) (hb : Below w.heap.size w w') : NdW w' v l := by obtain ⟨B, h⟩ := h; exact ⟨B, own_below h hb⟩
theorem NdW.mv {w w' : World} {v : Value} {l : List Nd} {b : Nat} {cs : Array Value} (h : NdW w v l) (hb : w.heap[b]? = some (.cells cs 132 (0, 0))) (hm : Mv w w' b) : NdW w' v l := by
  obtain ⟨B, h⟩ := h
  refine ⟨B, own_block h (fun g hg => hm.block g (h.lt g hg).2 (fun e => ?_))⟩
  injection e with e
  subst e
  obtain ⟨hl, h0 | ⟨g', cap, cur, hv, hb', hh, _⟩⟩ := h
  · rw [h0.1] at hg; simp [Value.ownBlock] at hg
  · rw [hv] at hg
    have : some g' = some g := hg
    injection this with this
    subst this
    rw [hb] at hh
    injection hh with hh
    injection hh with _ hh _
    exact absurd hh (by decide)
set_option maxHeartbeats 1600000 in
theorem is_ok {b : Nat} {L : List Lx.Tok} {lv : Value} {i o : Nat} {s : Bytes} {S : ByteArray} {B : Bool} {w : World} (hS : S = str s) (hB : isAt L i s = B) (hr : Rq w b L lv i o) :
    Calls Tryz.prog 105 #[.pointer (some ⟨b, 0, none⟩), .string S] w (fun e w' => e = .returned (.bool B) ∧ Below w.heap.size w w') := by
  subst hS hB
  obtain ⟨c0, c1, -, c3, -, -⟩ := hr.cells
  have hlt := hr.lt
  have hbn : b ≠ w.heap.size := by omega
  obtain ⟨A, cc, rfl, h1, h2, hA⟩ := hr.tok
  have HA := Lib.hid hA
  have hile := hr.ile
  unfold maxLen at h2
  clear hA hr
  by_cases hl : i < L.length
  · obtain ⟨t, ht⟩ : ∃ t, L[i]? = some t := ⟨_, List.getElem?_eq_getElem hl⟩
    obtain ⟨g, rfl, hg, e0, e1, e2⟩ := HA.out _ t ht
    have hgn : g ≠ w.heap.size := by omega
    have d1 : decide ((L.length : Int) ≤ (i : Int)) = false := decide_eq_false (by omega)
    have d1' : decide (L.length ≤ i) = false := decide_eq_false (by omega)
    have HT : Hid (isAt L i s = ((t.kind == 4 || t.kind == 3) && t.text == s)) := Lib.hid (by unfold isAt; rw [ht])
    rw [HT.out]
    clear ht
    obtain ⟨K, T, P⟩ := t
    simp only at e0 e1 e2 ⊢
    have hts : ((str T).toList == (str s).toList) = (T == s) := by rw [Tr.str_toList, Tr.str_toList]
    clear HT
    rcases Bool.eq_false_or_eq_true (K == 4) with h4 | h4
    all_goals rcases Bool.eq_false_or_eq_true (K == 3) with h3 | h3
    all_goals rcases Bool.eq_false_or_eq_true (T == s) with h5 | h5
    all_goals
      rw [h3, h4, h5]
      rw [h5] at hts
      go_enter Tryz.func105, Tryz.ntmps105
      go_wp2
      go_quiet (fail)
      go_wp2
      obtain ⟨w0, hw0⟩ : ∃ w0, w.drewN nq = w0 := ⟨_, rfl⟩
      have c00 : w0.cell? ⟨b, 0, none⟩ = some (.slice (some ⟨g, 0, none⟩) L.length cc) := hw0 ▸ c0
      have c01 : w0.cell? ⟨b, 1, none⟩ = some (.int .i64 (i : Int)) := hw0 ▸ c1
      have e00 : w0.cell? ⟨g, i * 3, none⟩ = some (.int .i64 K) := hw0 ▸ e0
      have e01 : w0.cell? ⟨g, i * 3 + 1, none⟩ = some (.string (str T)) := hw0 ▸ e1
      have e02 : w0.cell? ⟨g, i * 3 + 2, none⟩ = some (.int .i64 (P : Int)) := hw0 ▸ e2
      have hz0 : w.heap.size = w0.heap.size := hw0 ▸ rfl
      have hlt0 : b < w0.heap.size := by omega
      have hg0 : g < w0.heap.size := by omega
      have hbn0 : b ≠ w0.heap.size := by omega
      have hgn0 : g ≠ w0.heap.size := by omega
      have HB0 : Hid (Below w.heap.size w w0) := Lib.hid (hw0 ▸ Tr.below_drewN (Below.refl _ _) nq)
      rw [hw0]
      clear hw0 c0 c1 c3 e0 e1 e2 hlt hg hbn hgn
      go_region
      go_wp2
      go_ret
      exact ⟨rfl, Tr.below_drewN (n := 1) (HB0.out.alloc HB0.out.size _)⟩
  · have d1 : decide ((L.length : Int) ≤ (i : Int)) = true := decide_eq_true (by omega)
    have d1' : decide (L.length ≤ i) = true := decide_eq_true (by omega)
    have HT : Hid (isAt L i s = false) := Lib.hid (by unfold isAt; rw [List.getElem?_eq_none (by omega)])
    rw [HT.out]
    clear HT
    go_enter Tryz.func105, Tryz.ntmps105
    go_wp2
    go_quiet (fail)
    go_wp2
    go_ret
    exact ⟨rfl, Tr.below_drewN (Below.refl _ _) _⟩
set_option maxRecDepth 100000 in
set_option maxHeartbeats 1600000 in
theorem take_ok {b : Nat} {L : List Lx.Tok} {lv : Value} {i o : Nat} {s : Bytes} {S : ByteArray} {B : Bool} {w : World} (hS : S = str s) (hB : isAt L i s = B) (hr : Rq w b L lv i o) :
    Calls Tryz.prog 94 #[.pointer (some ⟨b, 0, none⟩), .string S] w (fun e w' => e = .returned (.bool B) ∧ Rq w' b L lv (if B then i + 1 else i) o ∧ Mv w w' b) := by
  have HR := Lib.hid hr
  have HC := Lib.hid (is_ok hS hB hr)
  cases B with
  | false =>
    clear hr hB hS
    go_enter Tryz.func94, Tryz.ntmps94
    go_wp2_with fail
    refine HC.out.mono ?_
    rintro e w1 ⟨rfl, hb⟩
    have HBL := Lib.hid hb
    clear hb
    go_wp2
    go_ret
    exact ⟨rfl, HR.out.below HBL.out, Mv.of HBL.out⟩
  | true =>
    have hil := isAt_lt hB
    clear hr hB hS
    go_enter Tryz.func94, Tryz.ntmps94
    go_wp2_with fail
    refine HC.out.mono ?_
    rintro e w1 ⟨rfl, hb⟩
    have HR1 := Lib.hid (HR.out.below hb)
    have HBL := Lib.hid hb
    obtain ⟨-, c1, -, -, -, f⟩ := HR1.out.cells
    have hlen := HR1.out.len
    have f1 := f 1
    clear hb f
    go_wp2
    go_ret
    exact ⟨rfl, HR1.out.setI hil, (Mv.of HBL.out).trans (mv_set _ _ _ _)⟩
set_option maxRecDepth 100000 in
set_option maxHeartbeats 800000 in
theorem need_ok {b : Nat} {L : List Lx.Tok} {lv : Value} {i o : Nat} {s : Bytes} {S : ByteArray} {w : World} (hS : S = str s) (hB : isAt L i s = true) (hr : Rq w b L lv i o) :
    Calls Tryz.prog 120 #[.pointer (some ⟨b, 0, none⟩), .string S] w (fun e w' => e = .returned (.tuple #[]) ∧ Rq w' b L lv (i + 1) o ∧ Mv w w' b) := by
  have HC := Lib.hid (take_ok hS hB hr)
  clear hB hr hS
  go_enter Tryz.func120, Tryz.ntmps120
  go_wp2_with fail
  refine HC.out.mono ?_
  rintro e w1 ⟨rfl, h1, h2⟩
  have H1 := Lib.hid h1
  have H2 := Lib.hid h2
  clear h1 h2
  go_wp2
  go_end0
  exact ⟨rfl, H1.out, H2.out⟩
end Go.Proofs.YtobkcdkffcenbaaGreatDoor.Lr

/- A lean reader of expressions: join, and the levels of operators. Conditions: the contracts at less fuel. -/
namespace Go.Proofs.YtobkcdkffcenbaaGreatDoor.Lr
open Go.ChangeShapes Go.WideShapes Go.ChangeAt Go.RowKit
open Go.Proofs.YtobkcdkffcenbaaGreatDoor.Tr (str ret_bool ret_int Bytes Nd Nodes joinM roomM own_block own_below own_ne ndsOf)
theorem low_of {w : World} {u : Value} {l : List Nd} (h : Nodes w u l) : 0 < l.length → ∀ g o n c, u = .slice (some ⟨g, o, none⟩) n c → g < w.heap.size := by
  intro hp g o n c hu
  obtain ⟨A', c', e1, _, _, hA⟩ := h
  obtain ⟨g2, o2, hA2, hlt, _⟩ := hA 0 _ (List.getElem?_eq_getElem hp)
  rw [e1, hA2] at hu
  simp only [Value.slice.injEq, Option.some.injEq, Addr.mk.injEq, and_true] at hu
  omega
theorem parts_none (w : World) : Tr.Parts w w.heap.size (.slice none 0 0) [] := ⟨none, 0, rfl, by simp, by unfold maxLen; omega, fun i t h => by simp at h⟩
theorem parts_one {w : World} {u : Value} {l : List Nd} (hu : Nodes w u l) : Tr.Parts (w.alloc (.cells #[u] 32)) (w.alloc (.cells #[u] 32)).heap.size (.slice (some ⟨w.heap.size, 0, none⟩) 1 1) [l] := by
  refine ⟨some ⟨w.heap.size, 0, none⟩, 1, rfl, by simp, by unfold maxLen; omega, fun i x hx => ?_⟩
  have hn := heap_alloc_new w (.cells #[u] 32)
  have hb : Below w.heap.size w (w.alloc (.cells #[u] 32)) := (Below.refl _ _).alloc (Nat.le_refl _) _
  match i, hx with
  | 0, hx =>
    simp at hx; subst hx
    have := hu.below hb (Nat.le_refl _)
    exact ⟨w.heap.size, 0, u, rfl, by simp, by simp, by unfold World.cell?; rw [hn]; rfl, this, low_of this⟩
  | i + 1, hx => simp at hx
theorem parts_two {w : World} {u v : Value} {l m : List Nd} (hu : Nodes w u l) (hv : Nodes w v m) : Tr.Parts (w.alloc (.cells #[u, v] 32)) (w.alloc (.cells #[u, v] 32)).heap.size (.slice (some ⟨w.heap.size, 0, none⟩) 2 2) [l, m] := by
  refine ⟨some ⟨w.heap.size, 0, none⟩, 2, rfl, by simp, by unfold maxLen; omega, fun i x hx => ?_⟩
  have hn := heap_alloc_new w (.cells #[u, v] 32)
  have hb : Below w.heap.size w (w.alloc (.cells #[u, v] 32)) := (Below.refl _ _).alloc (Nat.le_refl _) _
  match i, hx with
  | 0, hx =>
    simp at hx; subst hx
    have := hu.below hb (Nat.le_refl _)
    exact ⟨w.heap.size, 0, u, rfl, by simp, by simp, by unfold World.cell?; rw [hn]; rfl, this, low_of this⟩
  | 1, hx =>
    simp at hx; subst hx
    have := hv.below hb (Nat.le_refl _)
    exact ⟨w.heap.size, 0, v, rfl, by simp, by simp, by unfold World.cell?; rw [hn]; rfl, this, low_of this⟩
  | i + 2, hx => simp at hx
def Mk (w : World) (z : List Nd) (e : Ending) (w' : World) : Prop := ∃ v, e = .returned v ∧ NdW w' v z ∧ Below w.heap.size w w'
theorem mk_of {w0 w w' : World} {z : List Nd} {e : Ending} (hb : Below w0.heap.size w0 w) (h : Tr.NodesPost w z e w') : Mk w0 z e w' := by
  obtain ⟨v, h1, h2, h3⟩ := h
  exact ⟨v, h1, ⟨_, h2⟩, hb.trans (h3.mono hb.size)⟩
set_option maxRecDepth 100000 in
set_option maxHeartbeats 800000 in
theorem join_ok {b : Nat} {L : List Lx.Tok} {lv : Value} {i o : Nat} {op : Int} {x y z : List Nd} {v1 v2 : Value} {w : World} (hr : Rq w b L lv i o) (h1 : NdW w v1 x) (h2 : NdW w v2 y) (hj : jn op 0 [] [x, y] = some z) :
    Calls Tryz.prog 95 #[.pointer (some ⟨b, 0, none⟩), .int .i64 op, v1, v2] w (Mk w z) := by
  obtain ⟨hrm, rfl⟩ := jn_some hj
  obtain ⟨-, -, -, c3, -, -⟩ := hr.cells
  have hlt := hr.lt
  have H1 := Lib.hid h1.nodes
  have H2 := Lib.hid h2.nodes
  obtain ⟨A1, c1, rfl, y1, -⟩ := h1.form
  obtain ⟨A2, c2, rfl, y2, -⟩ := h2.form
  unfold maxLen at y1 y2
  clear hr h1 h2 hj
  go_enter Tryz.func95, Tryz.ntmps95
  go_wp2_with fail
  refine (Tr.rjoin_all _ [x, y] op 0 [] _ (parts_two H1.out H2.out) hrm).mono ?_
  rintro e w1 hp
  obtain ⟨v, rfl, ho, hb⟩ := hp
  have HP := Lib.hid (mk_of ((Below.refl _ _).alloc (Nat.le_refl _) (.cells #[.slice A1 x.length c1, .slice A2 y.length c2] 32)) ⟨v, rfl, ho, hb⟩)
  obtain ⟨A, cc, rfl, -, -, -⟩ := Tr.Nodes.of_own ho
  clear ho hb
  go_wp2
  go_ret
  exact HP.out
def Go1 (w : World) (b : Nat) (L : List Lx.Tok) (lv : Value) (j o : Nat) (x : List Nd) (e : Ending) (w' : World) : Prop := ∃ v, e = .returned v ∧ NdW w' v x ∧ Rq w' b L lv j o ∧ Mv w w' b
abbrev C1 (F : Nat) (L : List Lx.Tok) (lv : Value) (f : Nat) (k : K) : Prop := ∀ (o i : Nat) (x : List Nd) (j b : Nat) (w : World), run L f k [] o i = some ([x], j) → Rq w b L lv i o → Calls Tryz.prog F #[.pointer (some ⟨b, 0, none⟩)] w (Go1 w b L lv j o x)
variable {L : List Lx.Tok} {lv : Value}
set_option maxRecDepth 100000 in
set_option maxHeartbeats 1600000 in
theorem arrow_ok {f : Nat} (hs : C1 93 L lv f .imp) (hr : C1 76 L lv f .arrow) : C1 76 L lv (f + 1) .arrow := by
  intro o i z k b w hrun hq
  simp only [run] at hrun
  obtain ⟨x, j, h1, h2⟩ := bnd_some hrun
  have HS := Lib.hid (hs o i x j b w h1 hq)
  have HR := Lib.hid hr
  clear hrun h1 hs hr hq
  go_enter Tryz.func76, Tryz.ntmps76
  go_wp2_with fail
  refine HS.out.mono ?_
  rintro e w1 ⟨v1, rfl, n1, q1, m1⟩
  obtain ⟨A1, c1, rfl, y1, -⟩ := n1.form
  unfold maxLen at y1
  have N1 := Lib.hid n1
  have Q1 := Lib.hid q1
  have M1 := Lib.hid m1
  clear n1 q1 m1
  cases hB : isAt L j [45, 62] with
  | true =>
    rw [hB, if_pos rfl] at h2
    obtain ⟨y, k2, h3, h4⟩ := bnd_some h2
    obtain ⟨h5, rfl⟩ := ok1_some h4
    have H3 := Lib.hid h3
    have H5 := Lib.hid h5
    have HT2 := Lib.hid (take_ok (s := [45, 62]) rfl hB Q1.out)
    go_wp2_with fail
    refine HT2.out.mono ?_
    rintro e w2 ⟨rfl, q2, m2⟩
    have Q2 := Lib.hid q2
    have M2 := Lib.hid (M1.out.trans m2)
    have N2 := Lib.hid (N1.out.mv Q1.out.blk m2)
    clear q2 m2 h2 h3 h4 h5 hB HT2
    have HC3 := Lib.hid (HR.out o (j + 1) y k2 b w2 H3.out Q2.out)
    go_wp2_with fail
    refine HC3.out.mono ?_
    rintro e w3 ⟨v3, rfl, n3, q3, m3⟩
    obtain ⟨A3, c3, rfl, y3, -⟩ := n3.form
    unfold maxLen at y3
    have N3 := Lib.hid n3
    have Q3 := Lib.hid q3
    have M3 := Lib.hid (M2.out.trans m3)
    have N23 := Lib.hid (N2.out.mv Q2.out.blk m3)
    clear n3 q3 m3
    have HJ := Lib.hid (join_ok Q3.out N23.out N3.out H5.out)
    go_wp2_with fail
    refine HJ.out.mono ?_
    rintro e w4 ⟨v4, rfl, n4, b4⟩
    obtain ⟨A4, c4, rfl, -⟩ := n4.form
    have N4 := Lib.hid n4
    have Q4 := Lib.hid (Q3.out.below b4)
    have M4 := Lib.hid (M3.out.trans (Mv.of b4))
    clear n4 b4
    go_wp2
    go_ret
    exact ⟨_, rfl, N4.out, Q4.out, M4.out⟩
  | false =>
    rw [hB, if_neg (by simp)] at h2
    injection h2 with h2
    simp only [Prod.mk.injEq, List.cons.injEq, and_true] at h2
    obtain ⟨rfl, rfl⟩ := h2
    have HT2 := Lib.hid (take_ok (s := [45, 62]) rfl hB Q1.out)
    go_wp2_with fail
    refine HT2.out.mono ?_
    rintro e w2 ⟨rfl, q2, m2⟩
    have Q2 := Lib.hid q2
    have M2 := Lib.hid (M1.out.trans m2)
    have N2 := Lib.hid (N1.out.mv Q1.out.blk m2)
    clear q2 m2 hB HT2
    go_wp2
    go_ret
    exact ⟨_, rfl, N2.out, Q2.out, M2.out⟩
set_option maxRecDepth 100000 in
set_option maxHeartbeats 1600000 in
theorem imp_ok {f : Nat} (hs : C1 104 L lv f .since) (hr : C1 93 L lv f .imp) : C1 93 L lv (f + 1) .imp := by
  intro o i z k b w hrun hq
  simp only [run] at hrun
  obtain ⟨x, j, h1, h2⟩ := bnd_some hrun
  have HS := Lib.hid (hs o i x j b w h1 hq)
  have HR := Lib.hid hr
  clear hrun h1 hs hr hq
  go_enter Tryz.func93, Tryz.ntmps93
  go_wp2_with fail
  refine HS.out.mono ?_
  rintro e w1 ⟨v1, rfl, n1, q1, m1⟩
  obtain ⟨A1, c1, rfl, y1, -⟩ := n1.form
  unfold maxLen at y1
  have N1 := Lib.hid n1
  have Q1 := Lib.hid q1
  have M1 := Lib.hid m1
  clear n1 q1 m1
  cases hB : isAt L j [61, 62] with
  | true =>
    rw [hB, if_pos rfl] at h2
    obtain ⟨y, k2, h3, h4⟩ := bnd_some h2
    obtain ⟨h5, rfl⟩ := ok1_some h4
    have H3 := Lib.hid h3
    have H5 := Lib.hid h5
    have HT2 := Lib.hid (take_ok (s := [61, 62]) rfl hB Q1.out)
    go_wp2_with fail
    refine HT2.out.mono ?_
    rintro e w2 ⟨rfl, q2, m2⟩
    have Q2 := Lib.hid q2
    have M2 := Lib.hid (M1.out.trans m2)
    have N2 := Lib.hid (N1.out.mv Q1.out.blk m2)
    clear q2 m2 h2 h3 h4 h5 hB HT2
    have HC3 := Lib.hid (HR.out o (j + 1) y k2 b w2 H3.out Q2.out)
    go_wp2_with fail
    refine HC3.out.mono ?_
    rintro e w3 ⟨v3, rfl, n3, q3, m3⟩
    obtain ⟨A3, c3, rfl, y3, -⟩ := n3.form
    unfold maxLen at y3
    have N3 := Lib.hid n3
    have Q3 := Lib.hid q3
    have M3 := Lib.hid (M2.out.trans m3)
    have N23 := Lib.hid (N2.out.mv Q2.out.blk m3)
    clear n3 q3 m3
    have HJ := Lib.hid (join_ok Q3.out N23.out N3.out H5.out)
    go_wp2_with fail
    refine HJ.out.mono ?_
    rintro e w4 ⟨v4, rfl, n4, b4⟩
    obtain ⟨A4, c4, rfl, -⟩ := n4.form
    have N4 := Lib.hid n4
    have Q4 := Lib.hid (Q3.out.below b4)
    have M4 := Lib.hid (M3.out.trans (Mv.of b4))
    clear n4 b4
    go_wp2
    go_ret
    exact ⟨_, rfl, N4.out, Q4.out, M4.out⟩
  | false =>
    rw [hB, if_neg (by simp)] at h2
    injection h2 with h2
    simp only [Prod.mk.injEq, List.cons.injEq, and_true] at h2
    obtain ⟨rfl, rfl⟩ := h2
    have HT2 := Lib.hid (take_ok (s := [61, 62]) rfl hB Q1.out)
    go_wp2_with fail
    refine HT2.out.mono ?_
    rintro e w2 ⟨rfl, q2, m2⟩
    have Q2 := Lib.hid q2
    have M2 := Lib.hid (M1.out.trans m2)
    have N2 := Lib.hid (N1.out.mv Q1.out.blk m2)
    clear q2 m2 hB HT2
    go_wp2
    go_ret
    exact ⟨_, rfl, N2.out, Q2.out, M2.out⟩
end Go.Proofs.YtobkcdkffcenbaaGreatDoor.Lr

