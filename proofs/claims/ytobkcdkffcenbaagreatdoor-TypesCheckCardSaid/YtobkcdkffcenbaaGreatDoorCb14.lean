/- What a reader reads without a fault is a tree. Conditions: none. -/
import Derived.Test.YtobkcdkffcenbaaGreatDoorCa10
import Derived.Test.YtobkcdkffcenbaaGreatDoorCa01
import Derived.Deep.RegionHeld3
import Derived.StillTailTactics
import Derived.Test.YtobkcdkffcenbaaGreatDoorCa13
set_option linter.unusedVariables false
set_option linter.unusedSimpArgs false
namespace Go.Proofs.YtobkcdkffcenbaaGreatDoor.Ex
open Go.Proofs.YtobkcdkffcenbaaGreatDoor.Tr Go.RowKit
theorem kids_bin (o n : Int) (s : Bytes) (h : binaryB o = true) : (kidsM (overM o n s [])).length = 2 := by
  have hb := h
  simp [binaryB] at hb
  have hu : unaryB o = false := by simp [unaryB]; omega
  have e26 : o ≠ 26 := by omega
  have e27 : o ≠ 27 := by omega
  have e28 : o ≠ 28 := by omega
  simp [kidsM, overM, hu, h, e26, e27, e28]
theorem fail_code (e : Int) (he : e ≠ 0) (r : Rd) : (r.fail e).code ≠ 0 := by
  unfold Rd.fail; split
  · exact he
  · assumption
theorem need_ok {s : Bytes} {r : Rd} (h : (r.need s).code = 0) : r.isB s = true ∧ r.need s = r.adv := by
  unfold Rd.need at h ⊢
  split at h
  · rename_i hb; exact ⟨hb, by rw [if_pos hb]⟩
  · exact absurd h (fail_code 5 (by decide) r)
end Go.Proofs.YtobkcdkffcenbaaGreatDoor.Ex
namespace Go.Proofs.YtobkcdkffcenbaaGreatDoor.Ex
open Go.Proofs.YtobkcdkffcenbaaGreatDoor.Tr
def Task.low : Task → Nat
  | .rl _ ps ops => (ps.map Pt.nodes).sum + ops.length
  | .ll _ p => p.nodes
  | .args _ ps => 1 + (ps.map Pt.nodes).sum + ps.length
  | .named _ => 1
  | _ => 0
def Like (l m : List Tok) : Prop := m.length = l.length ∧ ∀ (i : Nat) t, l[i]? = some t → ∃ u : Tok, m[i]? = some u ∧ u.kind = t.kind ∧ u.text = t.text
structure Sim (pre m x l : List Tok) (d : Nat) (r q : Rd) : Prop where
  rl : r.l = l
  ql : q.l = pre ++ m ++ x
  rc : r.code = 0
  qc : q.code = 0
  nx : q.next = pre.length + r.next
  le : r.next ≤ l.length
  bg : q.begun = r.begun + d
section
variable {pre m x l : List Tok} {d : Nat} {r q : Rd}
theorem Sim.cur (h : Sim pre m x l d r q) (hl : Like l m) (hlt : r.next < l.length) : q.cur.kind = r.cur.kind ∧ q.cur.text = r.cur.text ∧ q.next < q.l.length ∧ r.next < r.l.length := by
  obtain ⟨t, ht⟩ : ∃ t, l[r.next]? = some t := ⟨_, List.getElem?_eq_getElem hlt⟩
  obtain ⟨u, hu, hk, htx⟩ := hl.2 _ _ ht
  have e1 : r.cur = t := by unfold Rd.cur; rw [h.rl, ht]; rfl
  have e2 : q.cur = u := by
    unfold Rd.cur
    rw [h.ql, h.nx, List.append_assoc, List.getElem?_append_right (by omega), List.getElem?_append_left (by rw [hl.1]; omega), Nat.add_sub_cancel_left, hu]; rfl
  rw [e1, e2]
  refine ⟨hk, htx, ?_, by rw [h.rl]; exact hlt⟩
  rw [h.ql, h.nx, List.length_append, List.length_append, hl.1]; omega
theorem Sim.ws (h : Sim pre m x l d r q) (hl : Like l m) (hlt : r.next < l.length) : q.ws = r.ws := by
  obtain ⟨h1, h2, h3, h4⟩ := h.cur hl hlt
  unfold Rd.ws
  rw [h1]; simp [h3, h4]
theorem Sim.sign (h : Sim pre m x l d r q) (hl : Like l m) (hlt : r.next < l.length) (n : Nat) : q.sign n = r.sign n := by
  unfold Rd.sign
  rw [h.ws hl hlt, (h.cur hl hlt).2.1]
end
end Go.Proofs.YtobkcdkffcenbaaGreatDoor.Ex
namespace Go.Proofs.YtobkcdkffcenbaaGreatDoor.Ex
open Go.Proofs.YtobkcdkffcenbaaGreatDoor.Tr
def rd0 (l : List Tok) : Rd := ⟨l, 0, 0, 0, 0⟩
structure Parsed (l : List Tok) (p : Pt) (r : Rd) : Prop where
  eq : run (fuelOf l 0) (.lev 1) (rd0 l) = some (p, r)
  code : r.code = 0
  nodes : p.nodes ≤ 5000
  deep : p.deep ≤ 40
theorem Parsed.val {l : List Tok} {p : Pt} {r : Rd} (h : Parsed l p r) : parseM l 0 = (p.e, r.next, 0, 0) := by
  have e := h.eq
  unfold rd0 at e
  unfold parseM
  rw [e]
  simp only [parseOf]
  rw [if_neg (by simp [h.code]), if_neg (by have := h.nodes; omega), if_neg (by have := h.deep; omega)]
end Go.Proofs.YtobkcdkffcenbaaGreatDoor.Ex
namespace Go.Proofs.YtobkcdkffcenbaaGreatDoor.Sh
open Go.Proofs.YtobkcdkffcenbaaGreatDoor.Tr Go.Proofs.YtobkcdkffcenbaaGreatDoor.Ex
def opTexts : List Bytes := [[], [], [], [], [110, 111, 116], [45], [97, 110, 100], [111, 114], [120, 111, 114], [61, 62], [61], [60, 62], [60], [60, 61], [43], [45], [42], [100, 105, 118], [109, 111, 100], [45, 62], [115, 105, 110, 99, 101], [112, 114, 101], [111, 110, 99, 101], [104, 105, 115, 116], [112, 114, 101, 118], [119, 105, 116, 104, 105, 110], [105, 102]]
def levels : List Int := [-1, 10, 10, 10, 9, 9, 5, 4, 4, 2, 6, 6, 6, 6, 7, 7, 8, 8, 8, 1, 3, 9, 9, 9, 9, 9, 0, 10]
def opText (o : Int) : Bytes := if o < 0 then [] else (opTexts[o.toNat]?).getD []
def levM (o : Int) : Int := if o < 0 then -1 else (levels[o.toNat]?).getD (-1)
def digs (n : Nat) : Bytes := if n < 10 then [(48 + n).toUInt8] else digs (n / 10) ++ [(48 + n % 10).toUInt8]
termination_by n
abbrev KT := Int × Bytes
def kd (s : Bytes) : KT := (if Lx.wordB s then 3 else 4, s)
def tLp : KT := (4, [40])
def tRp : KT := (4, [41])
def tCo : KT := (4, [44])
def tTrue : KT := (3, [116, 114, 117, 101])
def tFalse : KT := (3, [102, 97, 108, 115, 101])
def tIf : KT := (3, [105, 102])
def tThen : KT := (3, [116, 104, 101, 110])
def tElse : KT := (3, [101, 108, 115, 101])
def numT (n : Int) : KT := (2, digs n.toNat)
def nameT (s : Bytes) : KT := (1, s)
def sur (b : Bool) (l : List KT) : List KT := if b then tLp :: (l ++ [tRp]) else l
def leftOf (L : Int) : Int := if L ≤ 2 then L + 1 else if L = 6 then 7 else L
def rightOf (L : Int) : Int := if L ≤ 2 then L else L + 1
def toks : T → List KT
  | .l0 x => if x.op = 1 then [numT x.n] else if x.op = 2 then [if x.n = 1 then tTrue else tFalse] else if x.op = 27 then [nameT x.name, tLp, tRp] else [nameT x.name]
  | .l1 x p =>
    if x.op = 27 then nameT x.name :: tLp :: (toks p ++ [tRp]) else if x.op = 28 then toks p
    else kd (opText x.op) :: ((if x.op = 25 then [numT x.n] else []) ++ sur (decide (levM p.lab.op < 9)) (toks p))
  | .l2 x p q =>
    if x.op = 28 then toks p ++ tCo :: toks q
    else sur (decide (levM p.lab.op < leftOf (levM x.op))) (toks p) ++ kd (opText x.op) :: sur (decide (levM q.lab.op < rightOf (levM x.op))) (toks q)
  | .l3 x a b c => tIf :: (toks a ++ tThen :: (toks b ++ tElse :: toks c))
def kt (t : Tok) : KT := (t.kind, t.text)
def see (r : Rd) : List KT := (r.l.drop r.next).map kt
def wsL : List KT → Bool
  | x :: _ => x.1 == 3 || x.1 == 4
  | [] => false
def isBL (s : Bytes) : List KT → Bool
  | x :: _ => (x.1 == 3 || x.1 == 4) && x.2 == s
  | [] => false
def signL (n : Nat) : List KT → Option (Int × Bool)
  | x :: _ => if x.1 == 3 || x.1 == 4 then (signsM n).lookup x.2 else none
  | [] => none
def fwd (r : Rd) (k : Nat) : Rd := ⟨r.l, r.next + k, r.begun, r.code, r.at_⟩
theorem fwd_adv (r : Rd) : r.adv = fwd r 1 := rfl
theorem see_fwd (r : Rd) (k : Nat) : see (fwd r k) = (see r).drop k := by
  unfold see fwd
  rw [← List.map_drop, List.drop_drop]
theorem see_cons {r : Rd} {x : KT} {b : List KT} (h : see r = x :: b) : r.cur.kind = x.1 ∧ r.cur.text = x.2 ∧ r.next < r.l.length ∧ see r.adv = b := by
  have hlt : r.next < r.l.length := by
    rcases Nat.lt_or_ge r.next r.l.length with h1 | h1
    · exact h1
    · unfold see at h; rw [List.drop_eq_nil_of_le h1] at h; cases h
  have h2 := h
  unfold see at h2
  rw [List.drop_eq_getElem_cons hlt, List.map_cons] at h2
  simp only [List.cons.injEq] at h2
  have hc : r.cur = r.l[r.next] := by unfold Rd.cur; rw [List.getElem?_eq_getElem hlt]; rfl
  refine ⟨by rw [hc, ← h2.1]; rfl, by rw [hc, ← h2.1]; rfl, hlt, ?_⟩
  rw [fwd_adv, see_fwd, h]; rfl
theorem see_nil {r : Rd} (h : see r = []) : ¬ r.next < r.l.length := fun hlt => by
  unfold see at h
  rw [List.drop_eq_getElem_cons hlt] at h; cases h
theorem ws_see (r : Rd) : r.ws = wsL (see r) := by
  cases h : see r with
  | nil => have := see_nil h; unfold Rd.ws; simp [this, wsL]
  | cons x b => obtain ⟨h1, _, h3, _⟩ := see_cons h; unfold Rd.ws; rw [h1]; simp [h3, wsL]
theorem sign_see (n : Nat) (r : Rd) : r.sign n = signL n (see r) := by
  unfold Rd.sign
  rw [ws_see]
  cases h : see r with
  | nil => rfl
  | cons x b => obtain ⟨_, h2, _, _⟩ := see_cons h; rw [h2]; rfl
end Go.Proofs.YtobkcdkffcenbaaGreatDoor.Sh
namespace Go.Proofs.YtobkcdkffcenbaaGreatDoor.Tr
open Go.ChangeShapes Go.WideShapes Go.ChangeAt Go.RowKit
theorem und30 : Tryz.prog.underlying 70 = some (.struct (Tryz.prog.fieldsOf 70)) := by kernel_rfl
theorem stood30 : Tryz.prog.stoodInHeld 70 = false := by kernel_rfl
theorem guard30 : Tryz.prog.eqGuardType Tryz.prog.depth 70 = false := by kernel_rfl
def ndB (o a b c n o' a' b' c' n' : Int) (s s' : ByteArray) : Bool := o == o' && (a == a' && (b == b' && (c == c' && (n == n' && s.toList == s'.toList))))
theorem equal_nd (d : Nat) (o a b c n o' a' b' c' n' : Int) (s s' : ByteArray) (w : World) :
    (Op.equalIn (d + 2) 70 (.agg #[.int .i64 o, .int .i64 a, .int .i64 b, .int .i64 c, .int .i64 n, .string s]) (.agg #[.int .i64 o', .int .i64 a', .int .i64 b', .int .i64 c', .int .i64 n', .string s'])).run Tryz.prog w =
      .ok (ndB o a b c n o' a' b' c' n' s s') w := by
  rw [run_equalIn_agg w (d + 1) 70 _ _ und30 stood30]
  simp only [Program.fieldsOf, Tryz.underlying70]
  unfold ndB
  rcases Bool.eq_false_or_eq_true (o == o') with h1 | h1
  rotate_left
  · simp [go_sem, h1, Tryz.underlying3, Tryz.underlying9]
  rcases Bool.eq_false_or_eq_true (a == a') with h2 | h2
  rotate_left
  · simp [go_sem, h1, h2, Tryz.underlying3, Tryz.underlying9]
  rcases Bool.eq_false_or_eq_true (b == b') with h3 | h3
  rotate_left
  · simp [go_sem, h1, h2, h3, Tryz.underlying3, Tryz.underlying9]
  rcases Bool.eq_false_or_eq_true (c == c') with h4 | h4
  rotate_left
  · simp [go_sem, h1, h2, h3, h4, Tryz.underlying3, Tryz.underlying9]
  rcases Bool.eq_false_or_eq_true (n == n') with h5 | h5
  rotate_left
  · simp [go_sem, h1, h2, h3, h4, h5, Tryz.underlying3, Tryz.underlying9]
  rcases Bool.eq_false_or_eq_true (s.toList == s'.toList) with h6 | h6
  rotate_left
  · simp [go_sem, h1, h2, h3, h4, h5, h6, Tryz.underlying3, Tryz.underlying9]
  simp [go_sem, h1, h2, h3, h4, h5, h6, Tryz.underlying3, Tryz.underlying9]
theorem neq_nd (o a b c n o' a' b' c' n' : Int) (s s' : ByteArray) (w : World) :
    (binOp .neq 70 (.agg #[.int .i64 o, .int .i64 a, .int .i64 b, .int .i64 c, .int .i64 n, .string s]) (.agg #[.int .i64 o', .int .i64 a', .int .i64 b', .int .i64 c', .int .i64 n', .string s'])).run Tryz.prog w = .ok (.bool (!ndB o a b c n o' a' b' c' n' s s')) w := by
  rw [run_neq_struct, show (10000 : Nat) = 9998 + 2 from rfl, equal_nd]; rfl
theorem eql_nd (o a b c n o' a' b' c' n' : Int) (s s' : ByteArray) (w : World) :
    (binOp .eql 70 (.agg #[.int .i64 o, .int .i64 a, .int .i64 b, .int .i64 c, .int .i64 n, .string s]) (.agg #[.int .i64 o', .int .i64 a', .int .i64 b', .int .i64 c', .int .i64 n', .string s'])).run Tryz.prog w = .ok (.bool (ndB o a b c n o' a' b' c' n' s s')) w := by
  rw [run_eql_struct, show (10000 : Nat) = 9998 + 2 from rfl, equal_nd]; rfl
theorem guard_nd (op : BinOp) (x y : Operand) (xs ys : Array Value) (w : World) : (eqGuard op 70 x y (.agg xs) (.agg ys)).run Tryz.prog w = .ok () w := run_eqGuard_agg w op 70 x y xs ys guard30
attribute [local go_sem ↓] neq_nd eql_nd guard_nd
end Go.Proofs.YtobkcdkffcenbaaGreatDoor.Tr
namespace Go.Proofs.YtobkcdkffcenbaaGreatDoor.Sh
open Go.ChangeShapes Go.WideShapes Go.ChangeAt Go.RowKit
open Go.Proofs.YtobkcdkffcenbaaGreatDoor.Tr (str ret_bool ret_int Bytes Nd T)
def SgAt (w : World) : Prop := 0 < w.heap.size ∧ ∀ k : Nat, k < 28 → w.cell? ⟨0, k * 2, none⟩ = some (.string (str (opText (k : Int)))) ∧ w.cell? ⟨0, k * 2 + 1, none⟩ = some (.int .i64 (levM (k : Int)))
theorem SgAt.below {w w' : World} {B : Nat} (h : SgAt w) (hb : Below B w w') (hB : 0 < B) : SgAt w' :=
  ⟨by have := hb.size; have := h.1; omega, fun k hk => by
    obtain ⟨a, b⟩ := h.2 k hk
    exact ⟨(hb.cell (p := ⟨0, k * 2, none⟩) hB).trans a, (hb.cell (p := ⟨0, k * 2 + 1, none⟩) hB).trans b⟩⟩
end Go.Proofs.YtobkcdkffcenbaaGreatDoor.Sh
namespace Go.Proofs.YtobkcdkffcenbaaGreatDoor.Lx
open Go.ChangeShapes Go.WideShapes Go.ChangeAt Go.RowKit
end Go.Proofs.YtobkcdkffcenbaaGreatDoor.Lx
namespace Go.Proofs.YtobkcdkffcenbaaGreatDoor.Ex
open Go.ChangeShapes Go.WideShapes Go.ChangeAt Go.RowKit
open Go.Proofs.YtobkcdkffcenbaaGreatDoor.Tr (str ret_bool ret_int Bytes Nd)
def TokOff (w : World) (b : Nat) (v : Value) (l : List Tok) : Prop :=
  ∃ A c, v = .slice A l.length c ∧ l.length ≤ c ∧ c ≤ maxLen ∧ ∀ i t, l[i]? = some t → ∃ g, A = some ⟨g, 0, none⟩ ∧ g < b ∧ g < w.heap.size ∧
    w.cell? ⟨g, i * 3, none⟩ = some (.int .i64 t.kind) ∧ w.cell? ⟨g, i * 3 + 1, none⟩ = some (.string (str t.text)) ∧ w.cell? ⟨g, i * 3 + 2, none⟩ = some (.int .i64 (t.at_ : Int))
theorem TokOff.keep {w w' : World} {b : Nat} {v : Value} {l : List Tok} (h : TokOff w b v l) (hs : w.heap.size ≤ w'.heap.size) (hk : ∀ g, g < b → g < w.heap.size → w'.heap[g]? = w.heap[g]?) : TokOff w' b v l := by
  obtain ⟨A, c, rfl, h1, h2, h3⟩ := h
  refine ⟨A, c, rfl, h1, h2, fun i t hi => ?_⟩
  obtain ⟨g, hg, hne, hlt, c0, c1, c2⟩ := h3 i t hi
  have q : ∀ k, w'.cell? ⟨g, k, none⟩ = w.cell? ⟨g, k, none⟩ := fun k => World.cell?_of_block (w := w) (a := ⟨g, k, none⟩) (hk g hne hlt)
  exact ⟨g, hg, hne, by omega, (q _).trans c0, (q _).trans c1, (q _).trans c2⟩
theorem TokOff.nil (w : World) (b : Nat) : TokOff w b (.slice none 0 0) [] := ⟨none, 0, rfl, by simp, by unfold maxLen; omega, fun i t h => by simp at h⟩
def MapAt (w : World) (b n : Nat) (v : Value) : Prop := ∃ m es k, v = .map (some m) ∧ m < b ∧ m < w.heap.size ∧ w.heap[m]? = some (.map es k) ∧ es.toList.map (fun e => (e.key, e.val)) = (signsM n).map (fun x => (.string (str x.1), .agg #[.int .i64 x.2.1, .bool x.2.2]))
theorem MapAt.keep {w w' : World} {b n : Nat} {v : Value} (h : MapAt w b n v) (hs : w.heap.size ≤ w'.heap.size) (hk : ∀ g, g < b → g < w.heap.size → w'.heap[g]? = w.heap[g]?) : MapAt w' b n v := by
  obtain ⟨m, es, k, rfl, h1, h2, h3, h4⟩ := h
  exact ⟨m, es, k, rfl, h1, by omega, (hk m h1 h2).trans h3, h4⟩
def VarAt (w : World) (b : Nat) : Prop := 2 < b ∧ 2 < w.heap.size ∧ ∃ ev, w.cell? ⟨2, 0, none⟩ = some ev ∧ (ev = .nilIface ∨ ∃ te pe, ev = .iface te pe)
theorem VarAt.keep {w w' : World} {b : Nat} (h : VarAt w b) (hs : w.heap.size ≤ w'.heap.size) (hk : ∀ g, g < b → g < w.heap.size → w'.heap[g]? = w.heap[g]?) : VarAt w' b := by
  obtain ⟨h1, h2, ev, h3, h4⟩ := h
  exact ⟨h1, by omega, ev, (World.cell?_of_block (w := w) (a := ⟨2, 0, none⟩) (hk 2 h1 h2)).trans h3, h4⟩
def PtW (w : World) (x : Value × Pt) : Prop := Tr.Nodes w x.1 x.2.e ∧ (0 < x.2.e.length → ∀ g o n c, x.1 = .slice (some ⟨g, o, none⟩) n c → ∃ (cs : Array Value) (f : Nat × Nat), w.heap[g]? = some (Obj.cells cs 70 f))
theorem PtW.keep {w w' : World} {x : Value × Pt} (h : PtW w x) (hs : w.heap.size ≤ w'.heap.size) (hk : ∀ g : Nat, (∃ (cs : Array Value) (f : Nat × Nat), w.heap[g]? = some (Obj.cells cs 70 f)) → w'.heap[g]? = w.heap[g]?) : PtW w' x := by
  obtain ⟨⟨A, c, e, h1, h2, h3⟩, h4⟩ := h
  refine ⟨⟨A, c, e, h1, h2, fun i t hi => ?_⟩, fun h0 g o n c e => ?_⟩
  · obtain ⟨g, o, rfl, hlt, c0, c1, c2, c3, c4, c5⟩ := h3 i t hi
    have q : ∀ k, w'.cell? ⟨g, k, none⟩ = w.cell? ⟨g, k, none⟩ := fun k => World.cell?_of_block (w := w) (a := ⟨g, k, none⟩) (hk g (h4 (by have := (List.getElem?_eq_some_iff.1 hi).1; omega) g o _ _ e))
    exact ⟨g, o, rfl, by omega, (q _).trans c0, (q _).trans c1, (q _).trans c2, (q _).trans c3, (q _).trans c4, (q _).trans c5⟩
  · obtain ⟨cs, f, hc⟩ := h4 h0 g o n c e
    exact ⟨cs, f, (hk g ⟨cs, f, hc⟩).trans hc⟩
theorem PtW.below {w w' : World} {x : Value × Pt} (h : PtW w x) (hb : Below w.heap.size w w') : PtW w' x :=
  h.keep hb.size (fun g ⟨_, _, hc⟩ => hb.block g (lt_of_block hc))
theorem PtW.own {w : World} {b : Nat} {v : Value} {p : Pt} (h : w.ownsRow b 70 6 v p.e.length (Tr.ndsOf p.e)) : PtW w (v, p) := by
  refine ⟨Tr.Nodes.of_own h, fun h0 g o n c e => ?_⟩
  obtain ⟨hl, h0' | ⟨g', cap, cur, hv, hb, hh, _⟩⟩ := h
  · simp only at e; rw [h0'.1] at e; cases e
  · simp only at e
    rw [hv] at e
    simp only [Value.slice.injEq, Option.some.injEq, Addr.mk.injEq] at e
    obtain ⟨⟨rfl, _⟩, _⟩ := e
    exact ⟨_, _, hh⟩
theorem PtW.nil (w : World) (p : Pt) (h : p.e = []) : PtW w (.slice none 0 0, p) := by
  refine ⟨?_, fun h0 => by simp only [h] at h0; simp at h0⟩
  simp only [h]
  exact ⟨none, 0, rfl, by simp, by unfold maxLen; omega, fun i t h => by simp at h⟩
theorem below_new (w : World) (o : Obj) : Below w.heap.size w (w.alloc o) := (Below.refl _ _).alloc (Nat.le_refl _) _
end Go.Proofs.YtobkcdkffcenbaaGreatDoor.Ex

