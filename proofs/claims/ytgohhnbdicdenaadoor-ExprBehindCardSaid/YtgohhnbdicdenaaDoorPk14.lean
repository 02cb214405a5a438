/- Lists of tokens in memory; the function Same of the document's answer tells whether two are the same. Conditions: both are read as lists of tokens. -/
import Derived.Test.YtgohhnbdicdenaaDoorPk13
import Derived.RegionTactic
import Derived.Deep.QuietTactic
import Derived.BigQuiet
import Derived.Test.YtgohhnbdicdenaaDoorPk01
import Derived.Test.YtgohhnbdicdenaaDoorPk11
import Derived.Deep.RegionHeld3
import Derived.StillTailTactics
import Derived.BigRegion
namespace Go.Proofs.YtgohhnbdicdenaaDoor.Lx
open Go.ChangeShapes Go.WideShapes Go.ChangeAt Go.RowKit
set_option linter.unusedVariables false

/-- A slice value reads as a list of tokens. -/
def Toks (w : World) (v : Value) (l : List Tok) : Prop :=
  ∃ A c, v = .slice A l.length c ∧ l.length ≤ c ∧ c ≤ maxLen ∧ ∀ i t, l[i]? = some t → ∃ g, A = some ⟨g, 0, none⟩ ∧ g < w.heap.size ∧
    w.cell? ⟨g, i * 3, none⟩ = some (.int .i64 t.kind) ∧ w.cell? ⟨g, i * 3 + 1, none⟩ = some (.string (str t.text)) ∧ w.cell? ⟨g, i * 3 + 2, none⟩ = some (.int .i64 (t.at_ : Int))

theorem cells_at (l : List Tok) (i : Nat) (t : Tok) (h : l[i]? = some t) :
    (cellsOf l)[i * 3]? = some (.int .i64 t.kind) ∧ (cellsOf l)[i * 3 + 1]? = some (.string (str t.text)) ∧ (cellsOf l)[i * 3 + 2]? = some (.int .i64 (t.at_ : Int)) := by
  induction l generalizing i with
  | nil => simp at h
  | cons a r ih =>
    cases i with
    | zero => simp at h; subst h; simp [cellsOf, tokCells]
    | succ i =>
      simp at h
      have e : ∀ k, (cellsOf (a :: r))[(i + 1) * 3 + k]? = (cellsOf r)[i * 3 + k]? := fun k => by
        show ([_, _, _] ++ cellsOf r)[(i + 1) * 3 + k]? = _
        rw [List.getElem?_append_right (by simp; omega)]
        congr 1; simp; omega
      have := ih i h
      exact ⟨(e 0).trans this.1, (e 1).trans this.2.1, (e 2).trans this.2.2⟩

theorem Toks.of_own {w : World} {b : Nat} {v : Value} {l : List Tok} (h : w.ownsRow b 43 3 v l.length (cellsOf l)) : Toks w v l := by
  obtain ⟨hl, h0 | ⟨g, cap, cur, rfl, hb, hh, hnc, hcm, hcs, hct⟩⟩ := h
  · obtain ⟨rfl, h0⟩ := h0
    have : l = [] := List.length_eq_zero_iff.1 h0
    subst this
    exact ⟨none, 0, rfl, by simp, by unfold maxLen; omega, fun i t h => by simp at h⟩
  · have h : w.ownsRow b 43 3 (.slice (some ⟨g, 0, none⟩) l.length cap) l.length (cellsOf l) := ⟨hl, .inr ⟨g, cap, cur, rfl, hb, hh, hnc, hcm, hcs, hct⟩⟩
    refine ⟨some ⟨g, 0, none⟩, cap, rfl, hnc, hcm, fun i t hi => ⟨g, rfl, lt_of_block hh, ?_⟩⟩
    have hil : i < l.length := (List.getElem?_eq_some_iff.1 hi).1
    obtain ⟨c0, c1, c2⟩ := cells_at l i t hi
    exact ⟨(h.cellAt _ (by omega)).trans c0, (h.cellAt _ (by omega)).trans c1, (h.cellAt _ (by omega)).trans c2⟩
theorem Toks.below {w w' : World} {B : Nat} {v : Value} {l : List Tok} (h : Toks w v l) (hb : Below B w w') (hB : w.heap.size ≤ B) : Toks w' v l := by
  obtain ⟨A, c, rfl, h1, h2, h3⟩ := h
  refine ⟨A, c, rfl, h1, h2, fun i t hi => ?_⟩
  obtain ⟨g, hg, hlt, c0, c1, c2⟩ := h3 i t hi
  have hs := hb.size
  exact ⟨g, hg, by omega, (hb.cell (by show g < _; omega)).trans c0, (hb.cell (by show g < _; omega)).trans c1, (hb.cell (by show g < _; omega)).trans c2⟩

theorem und42 : Tryd.prog.underlying 43 = some (.struct (Tryd.prog.fieldsOf 43)) := by kernel_rfl
theorem stood42 : Tryd.prog.stoodInHeld 43 = false := by kernel_rfl
theorem guard42 : Tryd.prog.eqGuardType Tryd.prog.depth 43 = false := by kernel_rfl
theorem und35 : Tryd.prog.underlying 27 = some (.struct (Tryd.prog.fieldsOf 27)) := by kernel_rfl
theorem stood35 : Tryd.prog.stoodInHeld 27 = false := by kernel_rfl
theorem guard35 : Tryd.prog.eqGuardType Tryd.prog.depth 27 = false := by kernel_rfl

theorem equal_tok (d : Nat) (K1 K2 P1 P2 : Int) (T1 T2 : ByteArray) (w : World) :
    (Op.equalIn (d + 2) 43 (.agg #[.int .i64 K1, .string T1, .int .i64 P1]) (.agg #[.int .i64 K2, .string T2, .int .i64 P2])).run Tryd.prog w =
      .ok (K1 == K2 && (T1.toList == T2.toList && P1 == P2)) w := by
  rw [run_equalIn_agg w (d + 1) 43 _ _ und42 stood42]
  simp only [Program.fieldsOf, Tryd.underlying43]
  rcases Bool.eq_false_or_eq_true (K1 == K2) with h1 | h1 <;> rcases Bool.eq_false_or_eq_true (T1.toList == T2.toList) with h2 | h2 <;> rcases Bool.eq_false_or_eq_true (P1 == P2) with h3 | h3 <;>
    simp [go_sem, h1, h2, h3, Tryd.underlying3, Tryd.underlying9]
/-- Whether two tokens are the same, of their cells. -/
def tokB (K1 K2 P1 P2 : Int) (T1 T2 : ByteArray) : Bool := K1 == K2 && (T1.toList == T2.toList && P1 == P2)
theorem neq_tok (K1 K2 P1 P2 : Int) (T1 T2 : ByteArray) (w : World) :
    (binOp .neq 43 (.agg #[.int .i64 K1, .string T1, .int .i64 P1]) (.agg #[.int .i64 K2, .string T2, .int .i64 P2])).run Tryd.prog w = .ok (.bool (!tokB K1 K2 P1 P2 T1 T2)) w := by
  rw [run_neq_struct, show (10000 : Nat) = 9998 + 2 from rfl, equal_tok]; rfl
theorem eql_tok (K1 K2 P1 P2 : Int) (T1 T2 : ByteArray) (w : World) :
    (binOp .eql 43 (.agg #[.int .i64 K1, .string T1, .int .i64 P1]) (.agg #[.int .i64 K2, .string T2, .int .i64 P2])).run Tryd.prog w = .ok (.bool (tokB K1 K2 P1 P2 T1 T2)) w := by
  rw [run_eql_struct, show (10000 : Nat) = 9998 + 2 from rfl, equal_tok]; rfl
theorem guard_tok (op : BinOp) (x y : Operand) (xs ys : Array Value) (w : World) : (eqGuard op 43 x y (.agg xs) (.agg ys)).run Tryd.prog w = .ok () w := run_eqGuard_agg w op 43 x y xs ys guard42
theorem equal_fault (d : Nat) (K1 K2 P1 P2 : Int) (w : World) :
    (Op.equalIn (d + 2) 27 (.agg #[.int .i64 K1, .int .i64 P1]) (.agg #[.int .i64 K2, .int .i64 P2])).run Tryd.prog w = .ok (K1 == K2 && P1 == P2) w := by
  rw [run_equalIn_agg w (d + 1) 27 _ _ und35 stood35]
  simp only [Program.fieldsOf, Tryd.underlying27]
  rcases Bool.eq_false_or_eq_true (K1 == K2) with h1 | h1 <;> rcases Bool.eq_false_or_eq_true (P1 == P2) with h3 | h3 <;>
    simp [go_sem, h1, h3, Tryd.underlying3, Tryd.underlying25]
def faultB (K1 K2 P1 P2 : Int) : Bool := K1 == K2 && P1 == P2
theorem eql_fault (K1 K2 P1 P2 : Int) (w : World) :
    (binOp .eql 27 (.agg #[.int .i64 K1, .int .i64 P1]) (.agg #[.int .i64 K2, .int .i64 P2])).run Tryd.prog w = .ok (.bool (faultB K1 K2 P1 P2)) w := by
  rw [run_eql_struct, show (10000 : Nat) = 9998 + 2 from rfl, equal_fault]; rfl
theorem guard_fault (op : BinOp) (x y : Operand) (xs ys : Array Value) (w : World) : (eqGuard op 27 x y (.agg xs) (.agg ys)).run Tryd.prog w = .ok () w := run_eqGuard_agg w op 27 x y xs ys guard35
theorem tokB_str (K1 K2 : Int) (P1 P2 : Nat) (T1 T2 : Bytes) : tokB K1 K2 P1 P2 (str T1) (str T2) = decide ((⟨K1, T1, P1⟩ : Tok) = ⟨K2, T2, P2⟩) := by
  unfold tokB; rw [str_toList, str_toList, Bool.eq_iff_iff]
  simp [Tok.mk.injEq, Int.natCast_inj]

attribute [local go_sem ↓] neq_tok eql_tok guard_tok eql_fault guard_fault
theorem take_next {α : Type} {l m : List α} {k : Nat} {a : α} (h : l.take k = m.take k) (h1 : l[k]? = some a) (h2 : m[k]? = some a) : l.take (k + 1) = m.take (k + 1) := by
  rw [List.take_add_one, List.take_add_one, h, h1, h2]
end Go.Proofs.YtgohhnbdicdenaaDoor.Lx

/- The functions Same and held and both functions Kids return what the plain functions say. Conditions: slices are read as lists. -/
namespace Go.Proofs.YtgohhnbdicdenaaDoor.Tr
open Go.ChangeShapes Go.WideShapes Go.ChangeAt Go.RowKit
set_option linter.unusedVariables false

theorem und30 : Tryd.prog.underlying 36 = some (.struct (Tryd.prog.fieldsOf 36)) := by kernel_rfl
theorem stood30 : Tryd.prog.stoodInHeld 36 = false := by kernel_rfl
theorem guard30 : Tryd.prog.eqGuardType Tryd.prog.depth 36 = false := by kernel_rfl
/-- Whether two nodes are the same, of their cells. -/
def ndB (o a b c n o' a' b' c' n' : Int) (s s' : ByteArray) : Bool := o == o' && (a == a' && (b == b' && (c == c' && (n == n' && s.toList == s'.toList))))
theorem equal_nd (d : Nat) (o a b c n o' a' b' c' n' : Int) (s s' : ByteArray) (w : World) :
    (Op.equalIn (d + 2) 36 (.agg #[.int .i64 o, .int .i64 a, .int .i64 b, .int .i64 c, .int .i64 n, .string s]) (.agg #[.int .i64 o', .int .i64 a', .int .i64 b', .int .i64 c', .int .i64 n', .string s'])).run Tryd.prog w =
      .ok (ndB o a b c n o' a' b' c' n' s s') w := by
  rw [run_equalIn_agg w (d + 1) 36 _ _ und30 stood30]
  simp only [Program.fieldsOf, Tryd.underlying36]
  unfold ndB
  rcases Bool.eq_false_or_eq_true (o == o') with h1 | h1
  rotate_left
  · simp [go_sem, h1, Tryd.underlying3, Tryd.underlying9]
  rcases Bool.eq_false_or_eq_true (a == a') with h2 | h2
  rotate_left
  · simp [go_sem, h1, h2, Tryd.underlying3, Tryd.underlying9]
  rcases Bool.eq_false_or_eq_true (b == b') with h3 | h3
  rotate_left
  · simp [go_sem, h1, h2, h3, Tryd.underlying3, Tryd.underlying9]
  rcases Bool.eq_false_or_eq_true (c == c') with h4 | h4
  rotate_left
  · simp [go_sem, h1, h2, h3, h4, Tryd.underlying3, Tryd.underlying9]
  rcases Bool.eq_false_or_eq_true (n == n') with h5 | h5
  rotate_left
  · simp [go_sem, h1, h2, h3, h4, h5, Tryd.underlying3, Tryd.underlying9]
  rcases Bool.eq_false_or_eq_true (s.toList == s'.toList) with h6 | h6
  rotate_left
  · simp [go_sem, h1, h2, h3, h4, h5, h6, Tryd.underlying3, Tryd.underlying9]
  simp [go_sem, h1, h2, h3, h4, h5, h6, Tryd.underlying3, Tryd.underlying9]
theorem neq_nd (o a b c n o' a' b' c' n' : Int) (s s' : ByteArray) (w : World) :
    (binOp .neq 36 (.agg #[.int .i64 o, .int .i64 a, .int .i64 b, .int .i64 c, .int .i64 n, .string s]) (.agg #[.int .i64 o', .int .i64 a', .int .i64 b', .int .i64 c', .int .i64 n', .string s'])).run Tryd.prog w = .ok (.bool (!ndB o a b c n o' a' b' c' n' s s')) w := by
  rw [run_neq_struct, show (10000 : Nat) = 9998 + 2 from rfl, equal_nd]; rfl
theorem eql_nd (o a b c n o' a' b' c' n' : Int) (s s' : ByteArray) (w : World) :
    (binOp .eql 36 (.agg #[.int .i64 o, .int .i64 a, .int .i64 b, .int .i64 c, .int .i64 n, .string s]) (.agg #[.int .i64 o', .int .i64 a', .int .i64 b', .int .i64 c', .int .i64 n', .string s'])).run Tryd.prog w = .ok (.bool (ndB o a b c n o' a' b' c' n' s s')) w := by
  rw [run_eql_struct, show (10000 : Nat) = 9998 + 2 from rfl, equal_nd]; rfl
theorem guard_nd (op : BinOp) (x y : Operand) (xs ys : Array Value) (w : World) : (eqGuard op 36 x y (.agg xs) (.agg ys)).run Tryd.prog w = .ok () w := run_eqGuard_agg w op 36 x y xs ys guard30
theorem ndB_str (x y : Nd) : ndB x.op x.a x.b x.c x.n y.op y.a y.b y.c y.n (str x.name) (str y.name) = decide (x = y) := by
  unfold ndB; rw [str_toList, str_toList, Bool.eq_iff_iff]
  obtain ⟨o, a, b, c, n, s⟩ := x
  obtain ⟨o', a', b', c', n', s'⟩ := y
  simp [Nd.mk.injEq]

attribute [local go_sem ↓] neq_nd eql_nd guard_nd
set_option maxHeartbeats 1600000 in
theorem same_any (u v : Value) (l m : List Nd) (w : World) (hu : Nodes w u l) (hv : Nodes w v m) :
    Calls Tryd.prog 14 #[u, v] w fun e w' => e = .returned (.bool (decide (l = m))) ∧ ∃ n, w' = w.drewN n := by
  obtain ⟨A, c, rfl, h1, h2, hA⟩ := hu
  obtain ⟨B, d, rfl, h3, h4, hB⟩ := hv
  unfold maxLen at h2 h4
  have HA := Lib.hid hA
  have HB := Lib.hid hB
  clear hA hB
  by_cases hlm : l.length = m.length
  · have hE : ((l.length : Int) != (m.length : Int)) = false := by simp [hlm]
    have HLM := Lib.hid hlm
    clear hlm
    go_enter Tryd.func14, Tryd.ntmps14
    go_wp2
    go_loopw [5] (fun i wr => ∃ k n : Nat, k ≤ l.length ∧ i = .int .i64 k ∧ wr = w.drewN n ∧ l.take k = m.take k) (fun i _ => l.length - (intOf i).toNat)
    case atStart => exact ⟨0, 0, Nat.zero_le _, rfl, rfl, by simp⟩
    case round =>
      obtain ⟨k, n, hk, rfl, rfl, ht⟩ := hrel
      have HT := Lib.hid ht
      clear ht
      by_cases hlt : k < l.length
      · have hlt2 : k < m.length := by rw [← HLM.out]; exact hlt
        obtain ⟨t1, ht1⟩ : ∃ t, l[k]? = some t := ⟨_, List.getElem?_eq_getElem hlt⟩
        obtain ⟨t2, ht2⟩ : ∃ t, m[k]? = some t := ⟨_, List.getElem?_eq_getElem hlt2⟩
        obtain ⟨g, o, rfl, hg, a0, a1, a2, a3, a4, a5⟩ := HA.out k t1 ht1
        obtain ⟨g', o', rfl, hg', b0, b1, b2, b3, b4, b5⟩ := HB.out k t2 ht2
        have H1 := Lib.hid ht1
        have H2 := Lib.hid ht2
        clear ht1 ht2
        rcases Bool.eq_false_or_eq_true (ndB t1.op t1.a t1.b t1.c t1.n t2.op t2.a t2.b t2.c t2.n (str t1.name) (str t2.name)) with hq | hq
        · have HQ := Lib.hid (show l.take (k + 1) = m.take (k + 1) from take_next HT.out H1.out (by rw [H2.out]; rw [ndB_str] at hq; rw [of_decide_eq_true hq]))
          go_wp2
          go_quiet (fail)
          go_wp2
          go_roundw
          case rel => exact ⟨k + 1, _, by omega, by go_num, rfl, HQ.out⟩
          case measure => simp [intOf]; omega
        · have HQ := Lib.hid (show decide (l = m) = false from decide_eq_false (by
            rintro rfl
            have := H1.out.symm.trans H2.out
            rw [ndB_str] at hq
            exact absurd (Option.some.inj this) (of_decide_eq_false hq)))
          go_wp2
          go_quiet (fail)
          go_wp2
          go_ret
          exact ⟨ret_bool HQ.out.symm, n + nq, by rw [World.drewN_drewN]⟩
      · have HQ := Lib.hid (show decide (l = m) = true from decide_eq_true (by
          have := HT.out
          rw [List.take_of_length_le (by omega), List.take_of_length_le (by rw [← HLM.out]; omega)] at this
          exact this))
        go_wp2
        go_ret
        exact ⟨ret_bool HQ.out.symm, n, rfl⟩
  · have hE : ((l.length : Int) != (m.length : Int)) = true := by rw [bne_iff_ne]; omega
    have e : decide (l = m) = false := decide_eq_false (by rintro rfl; exact hlm rfl)
    rw [e]
    go_enter Tryd.func14, Tryd.ntmps14
    go_wp2
    go_ret
    exact ⟨rfl, 0, rfl⟩
end Go.Proofs.YtgohhnbdicdenaaDoor.Tr

/- A reader of layer expr in memory; contracts of its functions At, token and text. Conditions: the tokens are read as a list. -/
namespace Go.Proofs.YtgohhnbdicdenaaDoor.Ex
open Go.ChangeShapes Go.WideShapes Go.ChangeAt Go.RowKit
open Go.Proofs.YtgohhnbdicdenaaDoor.Tr (str ret_bool ret_int Bytes Nd)
set_option linter.unusedVariables false
set_option linter.unusedSimpArgs false

/-- A slice reads as tokens that do not lie in a block. -/
def TokOff (w : World) (b : Nat) (v : Value) (l : List Tok) : Prop :=
  ∃ A c, v = .slice A l.length c ∧ l.length ≤ c ∧ c ≤ maxLen ∧ ∀ i t, l[i]? = some t → ∃ g, A = some ⟨g, 0, none⟩ ∧ g < b ∧ g < w.heap.size ∧
    w.cell? ⟨g, i * 3, none⟩ = some (.int .i64 t.kind) ∧ w.cell? ⟨g, i * 3 + 1, none⟩ = some (.string (str t.text)) ∧ w.cell? ⟨g, i * 3 + 2, none⟩ = some (.int .i64 (t.at_ : Int))
theorem TokOff.keep {w w' : World} {b : Nat} {v : Value} {l : List Tok} (h : TokOff w b v l) (hs : w.heap.size ≤ w'.heap.size) (hk : ∀ g, g < b → g < w.heap.size → w'.heap[g]? = w.heap[g]?) : TokOff w' b v l := by
  obtain ⟨A, c, rfl, h1, h2, h3⟩ := h
  refine ⟨A, c, rfl, h1, h2, fun i t hi => ?_⟩
  obtain ⟨g, hg, hne, hlt, c0, c1, c2⟩ := h3 i t hi
  have q : ∀ k, w'.cell? ⟨g, k, none⟩ = w.cell? ⟨g, k, none⟩ := fun k => World.cell?_of_block (w := w) (a := ⟨g, k, none⟩) (hk g hne hlt)
  exact ⟨g, hg, hne, by omega, (q _).trans c0, (q _).trans c1, (q _).trans c2⟩
theorem TokOff.nil (w : World) (b : Nat) : TokOff w b (.slice none 0 0) [] := ⟨none, 0, rfl, by simp, by unfold maxLen; omega, fun i t h => by simp at h⟩

/-- The map of a level's operators. -/
def MapAt (w : World) (b n : Nat) (v : Value) : Prop := ∃ m es k, v = .map (some m) ∧ m < b ∧ m < w.heap.size ∧ w.heap[m]? = some (.map es k) ∧ es.toList.map (fun e => (e.key, e.val)) = (signsM n).map (fun x => (.string (str x.1), .agg #[.int .i64 x.2.1, .bool x.2.2]))
theorem MapAt.keep {w w' : World} {b n : Nat} {v : Value} (h : MapAt w b n v) (hs : w.heap.size ≤ w'.heap.size) (hk : ∀ g, g < b → g < w.heap.size → w'.heap[g]? = w.heap[g]?) : MapAt w' b n v := by
  obtain ⟨m, es, k, rfl, h1, h2, h3, h4⟩ := h
  exact ⟨m, es, k, rfl, h1, by omega, (hk m h1 h2).trans h3, h4⟩
/-- The variable of the error of a number's form holds an error or none. -/
def VarAt (w : World) (b : Nat) : Prop := 2 < b ∧ 2 < w.heap.size ∧ ∃ ev, w.cell? ⟨2, 0, none⟩ = some ev ∧ (ev = .nilIface ∨ ∃ te pe, ev = .iface te pe)
theorem VarAt.keep {w w' : World} {b : Nat} (h : VarAt w b) (hs : w.heap.size ≤ w'.heap.size) (hk : ∀ g, g < b → g < w.heap.size → w'.heap[g]? = w.heap[g]?) : VarAt w' b := by
  obtain ⟨h1, h2, ev, h3, h4⟩ := h
  exact ⟨h1, by omega, ev, (World.cell?_of_block (w := w) (a := ⟨2, 0, none⟩) (hk 2 h1 h2)).trans h3, h4⟩

def rdCells (lv : Value) (mv : Nat → Value) (r : Rd) : Array Value :=
  #[lv, .int .i64 (r.next : Int), .int .i64 (r.begun : Int), .int .i64 r.code, .int .i64 r.at_, mv 0, mv 1, mv 2, mv 3, mv 4, mv 5, mv 6, mv 7, mv 8, mv 9]
structure RdAt (w : World) (b : Nat) (mv : Nat → Value) (r : Rd) : Prop where
  blk : ∃ lv, w.heap[b]? = some (.cells (rdCells lv mv r) 62 (0, 0)) ∧ TokOff w b lv r.l
  maps : ∀ n, 1 ≤ n → n ≤ 9 → MapAt w b n (mv n)
  var : VarAt w b
theorem RdAt.keep {w w' : World} {b : Nat} {mv : Nat → Value} {r : Rd} (h : RdAt w b mv r) (hs : w.heap.size ≤ w'.heap.size) (hk : ∀ g, g < b → g < w.heap.size → w'.heap[g]? = w.heap[g]?) (hb : w'.heap[b]? = w.heap[b]?) : RdAt w' b mv r := by
  obtain ⟨lv, h1, h2⟩ := h.blk
  exact ⟨⟨lv, hb.trans h1, h2.keep hs hk⟩, fun n h3 h4 => (h.maps n h3 h4).keep hs hk, h.var.keep hs hk⟩
theorem RdAt.lt {w : World} {b : Nat} {mv : Nat → Value} {r : Rd} (h : RdAt w b mv r) : b < w.heap.size := by
  obtain ⟨lv, h1, _⟩ := h.blk; exact lt_of_block h1
theorem RdAt.below {w w' : World} {b : Nat} {mv : Nat → Value} {r : Rd} (h : RdAt w b mv r) (hb : Below w.heap.size w w') : RdAt w' b mv r :=
  h.keep hb.size (fun g _ hg => hb.block g hg) (hb.block b h.lt)
/-- What turns a reader alone. -/
structure RdTo (w w' : World) (b : Nat) (mv : Nat → Value) (r' : Rd) : Prop where
  rd : RdAt w' b mv r'
  grown : w.grownBy w' (some b)
theorem RdTo.below {w w1 w' : World} {b : Nat} {mv : Nat → Value} {r' : Rd} (hb : Below w.heap.size w w1) (hlt : b < w.heap.size) (h : RdTo w1 w' b mv r') : RdTo w w' b mv r' :=
  ⟨h.rd, ⟨h.grown.os.trans hb.os, h.grown.tape.trans hb.tape, h.grown.output.trans hb.output, Nat.le_trans hb.size h.grown.size, fun i hi hne => (h.grown.block i (Nat.lt_of_lt_of_le hi hb.size) hne).trans (hb.block i hi)⟩⟩
theorem RdTo.refl {w : World} {b : Nat} {mv : Nat → Value} {r : Rd} (h : RdAt w b mv r) : RdTo w w b mv r := ⟨h, World.grownBy.refl w _⟩
theorem RdTo.of_below {w w' : World} {b : Nat} {mv : Nat → Value} {r : Rd} (h : RdAt w b mv r) (hb : Below w.heap.size w w') : RdTo w w' b mv r :=
  ⟨h.below hb, ⟨hb.os, hb.tape, hb.output, hb.size, fun i hi _ => hb.block i hi⟩⟩
theorem RdTo.trans {w w1 w2 : World} {b : Nat} {mv : Nat → Value} {r1 r2 : Rd} (h : RdTo w w1 b mv r1) (k : RdTo w1 w2 b mv r2) : RdTo w w2 b mv r2 :=
  ⟨k.rd, ⟨k.grown.os.trans h.grown.os, k.grown.tape.trans h.grown.tape, k.grown.output.trans h.grown.output, Nat.le_trans h.grown.size k.grown.size, fun i hi hne => (k.grown.block i (Nat.lt_of_lt_of_le hi h.grown.size) hne).trans (h.grown.block i hi hne)⟩⟩
theorem RdTo.then_below {w w1 w2 : World} {b : Nat} {mv : Nat → Value} {r1 : Rd} (h : RdTo w w1 b mv r1) (k : Below w1.heap.size w1 w2) : RdTo w w2 b mv r1 := h.trans (RdTo.of_below h.rd k)

theorem rd_cell {w : World} {b : Nat} {lv : Value} {mv : Nat → Value} {r : Rd} (h : w.heap[b]? = some (.cells (rdCells lv mv r) 62 (0, 0))) (k : Nat) : w.cell? ⟨b, k, none⟩ = (rdCells lv mv r)[k]? := by
  simp [World.cell?, h]
theorem rd_free {w : World} {b : Nat} {lv : Value} {mv : Nat → Value} {r : Rd} (h : w.heap[b]? = some (.cells (rdCells lv mv r) 62 (0, 0))) (k : Nat) : w.frozen? ⟨b, k, none⟩ = false := by
  simp [World.frozen?, h]

/-- A part in memory: its nodes lie in a row of nodes. -/
def PtW (w : World) (x : Value × Pt) : Prop := Tr.Nodes w x.1 x.2.e ∧ (0 < x.2.e.length → ∀ g o n c, x.1 = .slice (some ⟨g, o, none⟩) n c → ∃ (cs : Array Value) (f : Nat × Nat), w.heap[g]? = some (Obj.cells cs 36 f))
theorem PtW.keep {w w' : World} {x : Value × Pt} (h : PtW w x) (hs : w.heap.size ≤ w'.heap.size) (hk : ∀ g : Nat, (∃ (cs : Array Value) (f : Nat × Nat), w.heap[g]? = some (Obj.cells cs 36 f)) → w'.heap[g]? = w.heap[g]?) : PtW w' x := by
  obtain ⟨⟨A, c, e, h1, h2, h3⟩, h4⟩ := h
  refine ⟨⟨A, c, e, h1, h2, fun i t hi => ?_⟩, fun h0 g o n c e => ?_⟩
  · obtain ⟨g, o, rfl, hlt, c0, c1, c2, c3, c4, c5⟩ := h3 i t hi
    have q : ∀ k, w'.cell? ⟨g, k, none⟩ = w.cell? ⟨g, k, none⟩ := fun k => World.cell?_of_block (w := w) (a := ⟨g, k, none⟩) (hk g (h4 (by have := (List.getElem?_eq_some_iff.1 hi).1; omega) g o _ _ e))
    exact ⟨g, o, rfl, by omega, (q _).trans c0, (q _).trans c1, (q _).trans c2, (q _).trans c3, (q _).trans c4, (q _).trans c5⟩
  · obtain ⟨cs, f, hc⟩ := h4 h0 g o n c e
    exact ⟨cs, f, (hk g ⟨cs, f, hc⟩).trans hc⟩
theorem PtW.below {w w' : World} {x : Value × Pt} (h : PtW w x) (hb : Below w.heap.size w w') : PtW w' x :=
  h.keep hb.size (fun g ⟨_, _, hc⟩ => hb.block g (lt_of_block hc))
theorem PtW.set {w : World} {x : Value × Pt} (h : PtW w x) {B k T : Nat} {cs : Array Value} {f : Nat × Nat} (hB : w.heap[B]? = some (.cells cs T f)) (hT : T ≠ 36) (v : Value) : PtW (w.setCell ⟨B, k, none⟩ v) x :=
  h.keep (by simp [World.setCell]) (fun g ⟨cs', f', hc⟩ => Below.heap_setCell _ _ _ _ (by
    rintro rfl
    rw [hB] at hc
    simp only [Option.some.injEq, Obj.cells.injEq] at hc
    exact hT hc.2.1))
theorem PtW.grown {w w' : World} {x : Value × Pt} {b : Nat} {mv : Nat → Value} {r : Rd} (h : PtW w x) (hr : RdAt w b mv r) (hg : w.grownBy w' (some b)) : PtW w' x :=
  h.keep hg.size (fun g ⟨cs, f, hc⟩ => hg.block g (lt_of_block hc) (fun e => by
    obtain ⟨lv, h1, _⟩ := hr.blk
    injection e with e
    subst e
    rw [h1] at hc
    simp only [Option.some.injEq, Obj.cells.injEq] at hc
    exact absurd hc.2.1 (by decide)))
theorem PtW.own {w : World} {b : Nat} {v : Value} {p : Pt} (h : w.ownsRow b 36 6 v p.e.length (Tr.ndsOf p.e)) : PtW w (v, p) := by
  refine ⟨Tr.Nodes.of_own h, fun h0 g o n c e => ?_⟩
  obtain ⟨hl, h0' | ⟨g', cap, cur, hv, hb, hh, _⟩⟩ := h
  · simp only at e; rw [h0'.1] at e; cases e
  · simp only at e
    rw [hv] at e
    simp only [Value.slice.injEq, Option.some.injEq, Addr.mk.injEq] at e
    obtain ⟨⟨rfl, _⟩, _⟩ := e
    exact ⟨_, _, hh⟩
theorem PtW.nil (w : World) (p : Pt) (h : p.e = []) : PtW w (.slice none 0 0, p) := by
  refine ⟨?_, fun h0 => by simp only [h] at h0; simp at h0⟩
  simp only [h]
  exact ⟨none, 0, rfl, by simp, by unfold maxLen; omega, fun i t h => by simp at h⟩
theorem below_new (w : World) (o : Obj) : Below w.heap.size w (w.alloc o) := (Below.refl _ _).alloc (Nat.le_refl _) _

set_option maxHeartbeats 800000 in
theorem at_any (v : Value) (l : List Tok) (b i : Nat) (w : World) (hv : TokOff w b v l) (hi : i ≤ 1000000) :
    Calls Tryd.prog 25 #[v, .int .i64 (i : Int)] w fun e w' => e = .returned (.int .i64 (atM l i)) ∧ w = w' := by
  obtain ⟨A, c, rfl, h1, h2, hA⟩ := hv
  unfold maxLen at h2
  have HA := Lib.hid hA
  clear hA
  have d0 : decide ((i : Int) < 0) = false := by simp
  by_cases hlt : i < l.length
  · obtain ⟨t, ht⟩ : ∃ t, l[i]? = some t := ⟨_, List.getElem?_eq_getElem hlt⟩
    obtain ⟨g, rfl, _, hg, c0, c1, c2⟩ := HA.out i t ht
    have HT := Lib.hid (show atM l i = (t.at_ : Int) by unfold atM; rw [ht])
    clear ht
    go_enter Tryd.func25, Tryd.ntmps25
    go_wp2
    go_ret
    exact ⟨ret_int HT.out.symm, rfl⟩
  · have HT := Lib.hid (show atM l i = -1 by unfold atM; rw [List.getElem?_eq_none (by omega)])
    go_enter Tryd.func25, Tryd.ntmps25
    go_wp2
    go_ret
    exact ⟨ret_int HT.out.symm, rfl⟩
/-- What the next token is told as. -/
def TokPost (w : World) (t : Tok) (ok : Bool) (e : Ending) (w' : World) : Prop :=
  e = .returned (.tuple #[.agg #[.int .i64 t.kind, .string (str t.text), .int .i64 (t.at_ : Int)], .bool ok]) ∧ Below w.heap.size w w'
theorem three_below (w : World) (o : Obj) (n : Nat) (u0 u1 u2 : Value) : Below w.heap.size w (((((w.alloc o).drewN n).setCell ⟨w.heap.size, 0, none⟩ u0).setCell ⟨w.heap.size, 1, none⟩ u1).setCell ⟨w.heap.size, 2, none⟩ u2) :=
  (((Tr.below_drewN (below_new w o) n).setCell (Nat.le_refl _) _).setCell (Nat.le_refl _) _).setCell (Nat.le_refl _) _
set_option maxHeartbeats 1600000 in
theorem token_any (b : Nat) (mv : Nat → Value) (r : Rd) (w : World) (hr : RdAt w b mv r) (hn : r.next ≤ 1000000) :
    Calls Tryd.prog 104 #[.pointer (some ⟨b, 0, none⟩)] w (TokPost w r.cur (decide (r.next < r.l.length))) := by
  obtain ⟨lv, hb, A, c, rfl, h1, h2, hA⟩ := hr.blk
  unfold maxLen at h2
  have hlt := hr.lt
  have c0 : w.cell? ⟨b, 0, none⟩ = some (.slice A r.l.length c) := rd_cell hb 0
  have c1 : w.cell? ⟨b, 1, none⟩ = some (.int .i64 (r.next : Int)) := rd_cell hb 1
  have HA := Lib.hid hA
  clear hA hr hb
  have hbn : b ≠ w.heap.size := by omega
  have d0 : decide ((r.next : Int) < 0) = false := by simp
  by_cases hl : r.next < r.l.length
  · obtain ⟨t, ht⟩ : ∃ t, r.l[r.next]? = some t := ⟨_, List.getElem?_eq_getElem hl⟩
    obtain ⟨g, rfl, _, hg, e0, e1, e2⟩ := HA.out _ t ht
    have hgn : g ≠ w.heap.size := by omega
    have HT := Lib.hid (show r.cur = t by unfold Rd.cur; rw [ht]; rfl)
    have HO := Lib.hid (show decide (r.next < r.l.length) = true by simp [hl])
    clear ht
    obtain ⟨K, T, P⟩ := t
    simp only at e0 e1 e2
    rw [HT.out, HO.out]
    go_enter Tryd.func104, Tryd.ntmps104
    go_wp2
    go_quiet (fail)
    go_wp2
    go_region
    go_wp2
    exact bodyPost_ret (v := .tuple #[.agg #[.int .i64 K, .string (str T), .int .i64 (P : Int)], .bool true]) (by simp [results, Tryd.results104, go_sem]) rfl ⟨rfl, three_below _ _ _ _ _ _⟩
  · have HT := Lib.hid (show r.cur = noTok by unfold Rd.cur; rw [List.getElem?_eq_none (by omega)]; rfl)
    have HO := Lib.hid (show decide (r.next < r.l.length) = false by simp [hl])
    have d1 : decide (r.l.length ≤ r.next) = true := by simp; omega
    rw [HT.out, HO.out]
    go_enter Tryd.func104, Tryd.ntmps104
    go_wp2
    go_quiet (fail)
    go_wp2
    exact bodyPost_ret (v := .tuple #[.agg #[.int .i64 0, .string ⟨#[]⟩, .int .i64 0], .bool false]) (by simp [results, Tryd.results104, go_sem]) rfl ⟨rfl, three_below _ _ _ _ _ _⟩

/-- What the next token's text is told as. -/
def TextPost (w : World) (t : Bytes) (ok : Bool) (e : Ending) (w' : World) : Prop :=
  e = .returned (.tuple #[.string (str t), .bool ok]) ∧ Below w.heap.size w w'
theorem mid_text {w w1 : World} {n : Nat} (hb : Below w.heap.size w w1) (o : Obj) : Below w.heap.size w ((w1.alloc o).drewN n) :=
  Tr.below_drewN (hb.alloc hb.size o) n
set_option maxHeartbeats 1600000 in
theorem text_any (b : Nat) (mv : Nat → Value) (r : Rd) (w : World) (hr : RdAt w b mv r) (hn : r.next ≤ 1000000) :
    Calls Tryd.prog 103 #[.pointer (some ⟨b, 0, none⟩)] w (TextPost w r.cur.text r.ws) := by
  have HR := Lib.hid hr
  have HW := Lib.hid (show r.ws = (decide (r.next < r.l.length) && (r.cur.kind == 3 || r.cur.kind == 4)) from rfl)
  clear hr
  obtain ⟨t, ht⟩ : ∃ t, r.cur = t := ⟨_, rfl⟩
  obtain ⟨ok, hok⟩ : ∃ ok, decide (r.next < r.l.length) = ok := ⟨_, rfl⟩
  have HT := Lib.hid ht
  have HOK := Lib.hid hok
  rw [ht, hok] at HW
  rw [ht, HW.out]
  have HC := token_any b mv r w HR.out hn
  rw [ht, hok] at HC
  clear ht hok HW
  obtain ⟨K, T, P⟩ := t
  simp only
  have HC' := Lib.hid HC
  clear HC
  cases ok with
  | false =>
    go_enter Tryd.func103, Tryd.ntmps103
    go_wp2_with fail
    refine HC'.out.mono ?_
    rintro e w1 ⟨rfl, hb⟩
    have HB := Lib.hid hb
    clear hb
    go_wp2
    go_quiet (fail)
    go_wp2
    go_ret2
    exact ⟨rfl, mid_text HB.out _⟩
  | true =>
    rcases Bool.eq_false_or_eq_true (K == 3) with h3 | h3
    all_goals rcases Bool.eq_false_or_eq_true (K == 4) with h4 | h4
    all_goals
      have HE := Lib.hid (show (true && (K == 3 || K == 4)) = (K == 3 || K == 4) from rfl)
      rw [HE.out, h3, h4]
      go_enter Tryd.func103, Tryd.ntmps103
      go_wp2_with fail
      refine HC'.out.mono ?_
      rintro e w1 ⟨rfl, hb⟩
      have HB := Lib.hid hb
      clear hb
      go_wp2
      go_quiet (fail)
      go_wp2
      go_ret2
      exact ⟨rfl, mid_text HB.out _⟩
end Go.Proofs.YtgohhnbdicdenaaDoor.Ex

/- Contracts of a reader's functions take, fail, need and takeSign. Conditions: a reader lies in memory. -/
namespace Go.Proofs.YtgohhnbdicdenaaDoor.Ex
open Go.ChangeShapes Go.WideShapes Go.ChangeAt Go.RowKit
open Go.Proofs.YtgohhnbdicdenaaDoor.Tr (str ret_bool ret_int Bytes Nd)
set_option linter.unusedVariables false
set_option linter.unusedSimpArgs false

theorem setObj_heap {w : World} {b k : Nat} {cs : Array Value} {t : TypeId} {v : Value} (h : w.heap[b]? = some (.cells cs t (0, 0))) (hk : k < cs.size) : (w.setCell ⟨b, k, none⟩ v).heap[b]? = some (.cells (cs.setIfInBounds k v) t (0, 0)) := by
  have hl := lt_of_block h
  unfold World.setCell
  simp only [Array.getElem?_modify]
  simp only [if_true, h]; rfl
/-- A field of the reader is turned. -/
theorem RdAt.set {w : World} {b : Nat} {mv : Nat → Value} {r r' : Rd} {k : Nat} {v : Value} (h : RdAt w b mv r) (hk : k < 15) (hl : r'.l = r.l) (hc : ∀ lv, (rdCells lv mv r).setIfInBounds k v = rdCells lv mv r') : RdTo w (w.setCell ⟨b, k, none⟩ v) b mv r' := by
  obtain ⟨lv, h1, h2⟩ := h.blk
  have hlt := h.lt
  have hs : w.heap.size = (w.setCell ⟨b, k, none⟩ v).heap.size := by simp [World.setCell]
  have ho : ∀ g, g ≠ b → (w.setCell ⟨b, k, none⟩ v).heap[g]? = w.heap[g]? := fun g hg => Below.heap_setCell w ⟨b, k, none⟩ v g (by simpa using hg)
  refine ⟨⟨⟨lv, ?_, ?_⟩, fun n h3 h4 => (h.maps n h3 h4).keep (by omega) (fun g hg _ => ho g (Nat.ne_of_lt hg)), h.var.keep (by omega) (fun g hg _ => ho g (Nat.ne_of_lt hg))⟩, ⟨rfl, rfl, rfl, by omega, fun i _ hne => ho i (fun e => hne (by rw [e]))⟩⟩
  · rw [setObj_heap h1 (by simpa [rdCells] using hk), hc]
  · rw [hl]; exact h2.keep (by omega) (fun g hg _ => ho g (Nat.ne_of_lt hg))
theorem RdAt.advTo {w : World} {b : Nat} {mv : Nat → Value} {r : Rd} (h : RdAt w b mv r) : RdTo w (w.setCell ⟨b, 1, none⟩ (.int .i64 ((r.next : Int) + 1))) b mv r.adv :=
  h.set (by decide) rfl (fun lv => by simp [rdCells, Rd.adv])

/-- What a function leaves that tells a Bool and turns a reader. -/
def BoolTo (w : World) (b : Nat) (mv : Nat → Value) (B : Bool) (r' : Rd) (e : Ending) (w' : World) : Prop := e = .returned (.bool B) ∧ RdTo w w' b mv r'
set_option maxHeartbeats 1600000 in
theorem take_any (b : Nat) (mv : Nat → Value) (r : Rd) (s : Bytes) (w : World) (hr : RdAt w b mv r) (hn : r.next ≤ 1000000) :
    Calls Tryd.prog 105 #[.pointer (some ⟨b, 0, none⟩), .string (str s)] w (BoolTo w b mv (r.isB s) (if r.isB s then r.adv else r)) := by
  have HR := Lib.hid hr
  have hlt := hr.lt
  have HC := Lib.hid (text_any b mv r w hr hn)
  clear hr
  obtain ⟨B, hB⟩ : ∃ B, r.isB s = B := ⟨_, rfl⟩
  have HB := Lib.hid hB
  rw [hB]
  clear hB
  obtain ⟨ok, hok⟩ : ∃ ok, r.ws = ok := ⟨_, rfl⟩
  obtain ⟨t, ht⟩ : ∃ t, r.cur.text = t := ⟨_, rfl⟩
  have HE : Hid (r.isB s = (ok && t == s)) := Lib.hid (by unfold Rd.isB; rw [hok, ht])
  rw [hok, ht] at HC
  clear hok ht
  have HO : Hid (∀ w1, Below w.heap.size w w1 → ∃ lv, w1.cell? ⟨b, 1, none⟩ = some (.int .i64 (r.next : Int)) ∧ w1.frozen? ⟨b, 1, none⟩ = false) := Lib.hid (fun w1 hb => by
    obtain ⟨lv, h1, _⟩ := (HR.out.below hb).blk
    exact ⟨lv, rd_cell h1 1, rd_free h1 1⟩)
  cases ok with
  | false =>
    have HE2 : Hid (B = false) := Lib.hid (by rw [← HB.out, HE.out]; rfl)
    rw [HE2.out]
    go_enter Tryd.func105, Tryd.ntmps105
    go_wp2_with fail
    refine HC.out.mono ?_
    rintro e w1 ⟨rfl, hb⟩
    have HBL := Lib.hid hb
    clear hb
    go_wp2
    go_ret
    exact ⟨rfl, RdTo.of_below HR.out HBL.out⟩
  | true =>
    by_cases hts : t = s
    · have HE2 : Hid (B = true) := Lib.hid (by rw [← HB.out, HE.out, hts]; simp)
      rw [HE2.out]
      subst hts
      have hd : (!(str t).toList == (str t).toList) = false := by simp
      go_enter Tryd.func105, Tryd.ntmps105
      go_wp2_with fail
      refine HC.out.mono ?_
      rintro e w1 ⟨rfl, hb⟩
      obtain ⟨_, c1, f1⟩ := HO.out w1 hb
      have HBL := Lib.hid hb
      clear hb
      go_wp2
      go_ret
      exact ⟨rfl, RdTo.below HBL.out hlt (HR.out.below HBL.out).advTo⟩
    · have HE2 : Hid (B = false) := Lib.hid (by rw [← HB.out, HE.out]; simpa using hts)
      rw [HE2.out]
      have hd : (!(str t).toList == (str s).toList) = true := by simp [Tr.str_toList, hts]
      clear hts
      go_enter Tryd.func105, Tryd.ntmps105
      go_wp2_with fail
      refine HC.out.mono ?_
      rintro e w1 ⟨rfl, hb⟩
      have HBL := Lib.hid hb
      clear hb
      go_wp2
      go_ret
      exact ⟨rfl, RdTo.of_below HR.out HBL.out⟩

theorem TokOff.new {w : World} {b : Nat} {v : Value} {l : List Tok} (h : TokOff w b v l) (o : Obj) : TokOff (w.alloc o).drew b v l :=
  h.keep (w' := (w.alloc o).drew) (by show _ ≤ (w.alloc o).heap.size; simp) (fun g _ hg => Below.heap_alloc w o g hg)
theorem TokOff.newN {w : World} {b : Nat} {v : Value} {l : List Tok} (h : TokOff w b v l) (o : Obj) (n : Nat) : TokOff ((w.alloc o).drewN n) b v l :=
  h.keep (w' := (w.alloc o).drewN n) (by show _ ≤ (w.alloc o).heap.size; simp) (fun g _ hg => Below.heap_alloc w o g hg)
theorem RdAt.cutTo {w : World} {b : Nat} {mv : Nat → Value} {r : Rd} (h : RdAt w b mv r) :
    RdTo w (w.setCell ⟨b, 0, none⟩ (.slice none 0 0)) b mv ⟨[], r.next, r.begun, r.code, r.at_⟩ := by
  obtain ⟨lv, h1, h2⟩ := h.blk
  have hlt := h.lt
  have hs : w.heap.size = (w.setCell ⟨b, 0, none⟩ (.slice none 0 0)).heap.size := by simp [World.setCell]
  have ho : ∀ g, g ≠ b → (w.setCell ⟨b, 0, none⟩ (.slice none 0 0)).heap[g]? = w.heap[g]? := fun g hg => Below.heap_setCell w ⟨b, 0, none⟩ _ g (by simpa using hg)
  refine ⟨⟨⟨.slice none 0 0, ?_, TokOff.nil _ _⟩, fun n h3 h4 => (h.maps n h3 h4).keep (by omega) (fun g hg _ => ho g (Nat.ne_of_lt hg)), h.var.keep (by omega) (fun g hg _ => ho g (Nat.ne_of_lt hg))⟩, ⟨rfl, rfl, rfl, by omega, fun i _ hne => ho i (fun e => hne (by rw [e]))⟩⟩
  rw [setObj_heap h1 (by simp [rdCells])]; simp [rdCells]
theorem RdAt.failTo {w : World} {b : Nat} {mv : Nat → Value} {r : Rd} (h : RdAt w b mv r) (e : Int) (h0 : r.code = 0) :
    RdTo w (((w.setCell ⟨b, 3, none⟩ (.int .i64 e)).setCell ⟨b, 4, none⟩ (.int .i64 (atM r.l r.next))).setCell ⟨b, 0, none⟩ (.slice none 0 0)) b mv (r.fail e) := by
  have t1 := h.set (r' := ⟨r.l, r.next, r.begun, e, r.at_⟩) (k := 3) (v := .int .i64 e) (by decide) rfl (fun lv => by simp [rdCells])
  have t2 := t1.rd.set (r' := ⟨r.l, r.next, r.begun, e, atM r.l r.next⟩) (k := 4) (v := .int .i64 (atM r.l r.next)) (by decide) rfl (fun lv => by simp [rdCells])
  have t3 := t2.rd.cutTo
  have := (t1.trans t2).trans t3
  unfold Rd.fail; rw [if_pos h0]; exact this
theorem RdAt.endTo {w : World} {b : Nat} {mv : Nat → Value} {r : Rd} (h : RdAt w b mv r) (e : Int) (h0 : r.code ≠ 0) :
    RdTo w (w.setCell ⟨b, 0, none⟩ (.slice none 0 0)) b mv (r.fail e) := by
  unfold Rd.fail; rw [if_neg h0]; exact h.cutTo
theorem nodes_nil (w : World) : Tr.Nodes w (.slice none 0 0) [] := ⟨none, 0, rfl, by simp, by unfold maxLen; omega, fun i t h => by simp at h⟩
theorem below_drew1 (w : World) (o : Obj) : Below w.heap.size w (w.alloc o).drew := Tr.below_drewN (n := 1) (below_new w o)
/-- What a reader's end leaves: a part that is none. -/
def PartTo (w : World) (b : Nat) (mv : Nat → Value) (p : Pt) (r' : Rd) (e : Ending) (w' : World) : Prop :=
  ∃ ev, e = .returned (.agg #[ev, .int .i64 (p.nodes : Int), .int .i64 (p.deep : Int)]) ∧ PtW w' (ev, p) ∧ RdTo w w' b mv r'
set_option maxHeartbeats 1600000 in
theorem fail_any (b : Nat) (mv : Nat → Value) (r : Rd) (e : Int) (w : World) (hr : RdAt w b mv r) (hn : r.next ≤ 1000000) :
    Calls Tryd.prog 82 #[.pointer (some ⟨b, 0, none⟩), .int .i64 e] w (PartTo w b mv Pt.zero (r.fail e)) := by
  have HR := Lib.hid hr
  have hlt := hr.lt
  obtain ⟨lv, h1, h2⟩ := hr.blk
  have c0 : w.cell? ⟨b, 0, none⟩ = some lv := rd_cell h1 0
  have c1 : w.cell? ⟨b, 1, none⟩ = some (.int .i64 (r.next : Int)) := rd_cell h1 1
  have c3 : w.cell? ⟨b, 3, none⟩ = some (.int .i64 r.code) := rd_cell h1 3
  have c4 : w.cell? ⟨b, 4, none⟩ = some (.int .i64 r.at_) := rd_cell h1 4
  have f0 : w.frozen? ⟨b, 0, none⟩ = false := rd_free h1 0
  have f3 : w.frozen? ⟨b, 3, none⟩ = false := rd_free h1 3
  have f4 : w.frozen? ⟨b, 4, none⟩ = false := rd_free h1 4
  have H2 := Lib.hid h2
  clear hr h1 h2
  have hbn : b ≠ w.heap.size := by omega
  by_cases h0 : r.code = 0
  · have hd : (r.code == 0) = true := by simpa using h0
    have H0 := Lib.hid h0
    clear h0
    go_enter Tryd.func82, Tryd.ntmps82
    go_wp2
    go_region_with ((go_at_call 25; refine (at_any _ r.l b _ _ (H2.out.new _) hn).mono ?_; rintro e w' ⟨rfl, rfl⟩))
    all_goals go_wp2
    all_goals exact bodyPost_ret (v := .agg #[.slice none 0 0, .int .i64 0, .int .i64 0]) (by simp [results, Tryd.results82, go_sem]) rfl ⟨_, rfl, PtW.nil _ _ rfl, (HR.out.failTo e H0.out).then_below (below_drew1 _ _)⟩
  · have hd : (r.code == 0) = false := by simpa using h0
    have H0 := Lib.hid h0
    clear h0
    go_enter Tryd.func82, Tryd.ntmps82
    go_wp2
    exact bodyPost_ret (v := .agg #[.slice none 0 0, .int .i64 0, .int .i64 0]) (by simp [results, Tryd.results82, go_sem]) rfl ⟨_, rfl, PtW.nil _ _ rfl, (HR.out.endTo e H0.out).then_below (below_new _ _)⟩

set_option maxHeartbeats 800000 in
theorem need_any (b : Nat) (mv : Nat → Value) (r : Rd) (s : Bytes) (w : World) (hr : RdAt w b mv r) (hn : r.next ≤ 1000000) :
    Calls Tryd.prog 106 #[.pointer (some ⟨b, 0, none⟩), .string (str s)] w (fun e w' => e = .returned (.tuple #[]) ∧ RdTo w w' b mv (r.need s)) := by
  have HC := Lib.hid (take_any b mv r s w hr hn)
  have HR := Lib.hid hr
  have HN := Lib.hid (show r.need s = if r.isB s then r.adv else r.fail 5 from rfl)
  clear hr
  rw [HN.out]
  obtain ⟨B, hB⟩ : ∃ B, r.isB s = B := ⟨_, rfl⟩
  rw [hB] at HC ⊢
  clear hB
  cases B with
  | true =>
    go_enter Tryd.func106, Tryd.ntmps106
    go_wp2_with fail
    refine HC.out.mono ?_
    rintro e w1 ⟨rfl, hb⟩
    have HB := Lib.hid hb
    clear hb
    go_wp2
    go_end0
    exact ⟨rfl, HB.out⟩
  | false =>
    go_enter Tryd.func106, Tryd.ntmps106
    go_wp2_with fail
    refine HC.out.mono ?_
    rintro e w1 ⟨rfl, hb⟩
    have HB := Lib.hid hb
    clear hb
    go_wp2_with fail
    refine (fail_any b mv r 5 _ HB.out.rd hn).mono ?_
    rintro e w2 ⟨ev, rfl, -, ht⟩
    have HT := Lib.hid (HB.out.trans ht)
    clear ht
    go_wp2
    go_end0
    exact ⟨rfl, HT.out⟩

theorem findNow_map : ∀ (es : List MapEntry) (L : List (Bytes × Int × Bool)) (s : Bytes) (i : Nat), es.map (fun e => (e.key, e.val)) = L.map (fun x => (.string (str x.1), .agg #[.int .i64 x.2.1, .bool x.2.2])) →
    (L.lookup s = none → Instr.findNow .string (.string (str s)) es i = some none) ∧
    (∀ v, L.lookup s = some v → ∃ k, Instr.findNow .string (.string (str s)) es i = some (some (k, .agg #[.int .i64 v.1, .bool v.2])))
  | [], L, s, i, h => by
    have : L = [] := by simpa using h.symm
    subst this
    exact ⟨fun _ => rfl, fun v hv => by simp at hv⟩
  | e :: es, [], s, i, h => by simp at h
  | e :: es, (t, o, b) :: L, s, i, h => by
    simp only [List.map_cons, List.cons.injEq, Prod.mk.injEq] at h
    obtain ⟨⟨h1, h2⟩, h3⟩ := h
    have ih := findNow_map es L s (i + 1) h3
    unfold Instr.findNow
    rw [h1, h2]
    have hk : Instr.sameNow .string (.string (str s)) (.string (str t)) = some (str s == str t) := rfl
    rw [hk, List.lookup_cons]
    by_cases hst : s = t
    · subst hst
      have e1 : (str s == str s) = true := by show (s.toArray == s.toArray) = true; simp
      rw [e1]
      simp
    · have e1 : (str s == str t) = false := by
        show (s.toArray == t.toArray) = false
        rw [beq_eq_false_iff_ne]
        intro he
        exact hst (by have := congrArg Array.toList he; simpa using this)
      have e2 : (s == t) = false := by simpa using hst
      rw [e1, e2]
      exact ih
end Go.Proofs.YtgohhnbdicdenaaDoor.Ex

