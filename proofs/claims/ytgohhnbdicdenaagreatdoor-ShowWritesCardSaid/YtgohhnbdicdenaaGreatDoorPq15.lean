/- Contracts of a reader's functions take, fail, need and takeSign. Conditions: a reader lies in memory. -/
import Derived.Test.YtgohhnbdicdenaaGreatDoorPq14
import Derived.BigRegion
import Derived.Deep.AppendLies
import Derived.Lib.LaidTab
import Derived.Shelf.Strconv.Itoa0
import Derived.Shelf.Strconv.Itoa1
import Derived.Shelf.LaysM
import Derived.Shelf.Strconv.Itoa2
import Derived.Shelf.Strconv.Itoa3
import Derived.Test.YtgohhnbdicdenaaGreatDoorProg
import Derived.Test.YtgohhnbdicdenaaGreatDoorPk07
import Derived.Lib.ItoaMem
namespace Go.Proofs.YtgohhnbdicdenaaGreatDoor.Ex
open Go.ChangeShapes Go.WideShapes Go.ChangeAt Go.RowKit
open Go.Proofs.YtgohhnbdicdenaaGreatDoor.Tr (str ret_bool ret_int Bytes Nd)
set_option linter.unusedVariables false
set_option linter.unusedSimpArgs false

theorem setObj_heap {w : World} {b k : Nat} {cs : Array Value} {t : TypeId} {v : Value} (h : w.heap[b]? = some (.cells cs t (0, 0))) (hk : k < cs.size) : (w.setCell ⟨b, k, none⟩ v).heap[b]? = some (.cells (cs.setIfInBounds k v) t (0, 0)) := by
  have hl := lt_of_block h
  unfold World.setCell
  simp only [Array.getElem?_modify]
  simp only [if_true, h]; rfl
/-- A field of the reader is turned. -/
theorem RdAt.set {w : World} {b : Nat} {mv : Nat → Value} {r r' : Rd} {k : Nat} {v : Value} (h : RdAt w b mv r) (hk : k < 15) (hl : r'.l = r.l) (hc : ∀ lv, (rdCells lv mv r).setIfInBounds k v = rdCells lv mv r') : RdTo w (w.setCell ⟨b, k, none⟩ v) b mv r' := by
  obtain ⟨lv, h1, h2⟩ := h.blk
  have hlt := h.lt
  have hs : w.heap.size = (w.setCell ⟨b, k, none⟩ v).heap.size := by simp [World.setCell]
  have ho : ∀ g, g ≠ b → (w.setCell ⟨b, k, none⟩ v).heap[g]? = w.heap[g]? := fun g hg => Below.heap_setCell w ⟨b, k, none⟩ v g (by simpa using hg)
  refine ⟨⟨⟨lv, ?_, ?_⟩, fun n h3 h4 => (h.maps n h3 h4).keep (by omega) (fun g hg _ => ho g (Nat.ne_of_lt hg)), h.var.keep (by omega) (fun g hg _ => ho g (Nat.ne_of_lt hg))⟩, ⟨rfl, rfl, rfl, by omega, fun i _ hne => ho i (fun e => hne (by rw [e]))⟩⟩
  · rw [setObj_heap h1 (by simpa [rdCells] using hk), hc]
  · rw [hl]; exact h2.keep (by omega) (fun g hg _ => ho g (Nat.ne_of_lt hg))
theorem RdAt.advTo {w : World} {b : Nat} {mv : Nat → Value} {r : Rd} (h : RdAt w b mv r) : RdTo w (w.setCell ⟨b, 1, none⟩ (.int .i64 ((r.next : Int) + 1))) b mv r.adv :=
  h.set (by decide) rfl (fun lv => by simp [rdCells, Rd.adv])

/-- What a function leaves that tells a Bool and turns a reader. -/
def BoolTo (w : World) (b : Nat) (mv : Nat → Value) (B : Bool) (r' : Rd) (e : Ending) (w' : World) : Prop := e = .returned (.bool B) ∧ RdTo w w' b mv r'
set_option maxHeartbeats 1600000 in
theorem take_any (b : Nat) (mv : Nat → Value) (r : Rd) (s : Bytes) (w : World) (hr : RdAt w b mv r) (hn : r.next ≤ 1000000) :
    Calls Tryz.prog 164 #[.pointer (some ⟨b, 0, none⟩), .string (str s)] w (BoolTo w b mv (r.isB s) (if r.isB s then r.adv else r)) := by
  have HR := Lib.hid hr
  have hlt := hr.lt
  have HC := Lib.hid (text_any b mv r w hr hn)
  clear hr
  obtain ⟨B, hB⟩ : ∃ B, r.isB s = B := ⟨_, rfl⟩
  have HB := Lib.hid hB
  rw [hB]
  clear hB
  obtain ⟨ok, hok⟩ : ∃ ok, r.ws = ok := ⟨_, rfl⟩
  obtain ⟨t, ht⟩ : ∃ t, r.cur.text = t := ⟨_, rfl⟩
  have HE : Hid (r.isB s = (ok && t == s)) := Lib.hid (by unfold Rd.isB; rw [hok, ht])
  rw [hok, ht] at HC
  clear hok ht
  have HO : Hid (∀ w1, Below w.heap.size w w1 → ∃ lv, w1.cell? ⟨b, 1, none⟩ = some (.int .i64 (r.next : Int)) ∧ w1.frozen? ⟨b, 1, none⟩ = false) := Lib.hid (fun w1 hb => by
    obtain ⟨lv, h1, _⟩ := (HR.out.below hb).blk
    exact ⟨lv, rd_cell h1 1, rd_free h1 1⟩)
  cases ok with
  | false =>
    have HE2 : Hid (B = false) := Lib.hid (by rw [← HB.out, HE.out]; rfl)
    rw [HE2.out]
    go_enter Tryz.func164, Tryz.ntmps164
    go_wp2_with fail
    refine HC.out.mono ?_
    rintro e w1 ⟨rfl, hb⟩
    have HBL := Lib.hid hb
    clear hb
    go_wp2
    go_ret
    exact ⟨rfl, RdTo.of_below HR.out HBL.out⟩
  | true =>
    by_cases hts : t = s
    · have HE2 : Hid (B = true) := Lib.hid (by rw [← HB.out, HE.out, hts]; simp)
      rw [HE2.out]
      subst hts
      have hd : (!(str t).toList == (str t).toList) = false := by simp
      go_enter Tryz.func164, Tryz.ntmps164
      go_wp2_with fail
      refine HC.out.mono ?_
      rintro e w1 ⟨rfl, hb⟩
      obtain ⟨_, c1, f1⟩ := HO.out w1 hb
      have HBL := Lib.hid hb
      clear hb
      go_wp2
      go_ret
      exact ⟨rfl, RdTo.below HBL.out hlt (HR.out.below HBL.out).advTo⟩
    · have HE2 : Hid (B = false) := Lib.hid (by rw [← HB.out, HE.out]; simpa using hts)
      rw [HE2.out]
      have hd : (!(str t).toList == (str s).toList) = true := by simp [Tr.str_toList, hts]
      clear hts
      go_enter Tryz.func164, Tryz.ntmps164
      go_wp2_with fail
      refine HC.out.mono ?_
      rintro e w1 ⟨rfl, hb⟩
      have HBL := Lib.hid hb
      clear hb
      go_wp2
      go_ret
      exact ⟨rfl, RdTo.of_below HR.out HBL.out⟩

theorem TokOff.new {w : World} {b : Nat} {v : Value} {l : List Tok} (h : TokOff w b v l) (o : Obj) : TokOff (w.alloc o).drew b v l :=
  h.keep (w' := (w.alloc o).drew) (by show _ ≤ (w.alloc o).heap.size; simp) (fun g _ hg => Below.heap_alloc w o g hg)
theorem TokOff.newN {w : World} {b : Nat} {v : Value} {l : List Tok} (h : TokOff w b v l) (o : Obj) (n : Nat) : TokOff ((w.alloc o).drewN n) b v l :=
  h.keep (w' := (w.alloc o).drewN n) (by show _ ≤ (w.alloc o).heap.size; simp) (fun g _ hg => Below.heap_alloc w o g hg)
theorem RdAt.cutTo {w : World} {b : Nat} {mv : Nat → Value} {r : Rd} (h : RdAt w b mv r) :
    RdTo w (w.setCell ⟨b, 0, none⟩ (.slice none 0 0)) b mv ⟨[], r.next, r.begun, r.code, r.at_⟩ := by
  obtain ⟨lv, h1, h2⟩ := h.blk
  have hlt := h.lt
  have hs : w.heap.size = (w.setCell ⟨b, 0, none⟩ (.slice none 0 0)).heap.size := by simp [World.setCell]
  have ho : ∀ g, g ≠ b → (w.setCell ⟨b, 0, none⟩ (.slice none 0 0)).heap[g]? = w.heap[g]? := fun g hg => Below.heap_setCell w ⟨b, 0, none⟩ _ g (by simpa using hg)
  refine ⟨⟨⟨.slice none 0 0, ?_, TokOff.nil _ _⟩, fun n h3 h4 => (h.maps n h3 h4).keep (by omega) (fun g hg _ => ho g (Nat.ne_of_lt hg)), h.var.keep (by omega) (fun g hg _ => ho g (Nat.ne_of_lt hg))⟩, ⟨rfl, rfl, rfl, by omega, fun i _ hne => ho i (fun e => hne (by rw [e]))⟩⟩
  rw [setObj_heap h1 (by simp [rdCells])]; simp [rdCells]
theorem RdAt.failTo {w : World} {b : Nat} {mv : Nat → Value} {r : Rd} (h : RdAt w b mv r) (e : Int) (h0 : r.code = 0) :
    RdTo w (((w.setCell ⟨b, 3, none⟩ (.int .i64 e)).setCell ⟨b, 4, none⟩ (.int .i64 (atM r.l r.next))).setCell ⟨b, 0, none⟩ (.slice none 0 0)) b mv (r.fail e) := by
  have t1 := h.set (r' := ⟨r.l, r.next, r.begun, e, r.at_⟩) (k := 3) (v := .int .i64 e) (by decide) rfl (fun lv => by simp [rdCells])
  have t2 := t1.rd.set (r' := ⟨r.l, r.next, r.begun, e, atM r.l r.next⟩) (k := 4) (v := .int .i64 (atM r.l r.next)) (by decide) rfl (fun lv => by simp [rdCells])
  have t3 := t2.rd.cutTo
  have := (t1.trans t2).trans t3
  unfold Rd.fail; rw [if_pos h0]; exact this
theorem RdAt.endTo {w : World} {b : Nat} {mv : Nat → Value} {r : Rd} (h : RdAt w b mv r) (e : Int) (h0 : r.code ≠ 0) :
    RdTo w (w.setCell ⟨b, 0, none⟩ (.slice none 0 0)) b mv (r.fail e) := by
  unfold Rd.fail; rw [if_neg h0]; exact h.cutTo
theorem nodes_nil (w : World) : Tr.Nodes w (.slice none 0 0) [] := ⟨none, 0, rfl, by simp, by unfold maxLen; omega, fun i t h => by simp at h⟩
theorem below_drew1 (w : World) (o : Obj) : Below w.heap.size w (w.alloc o).drew := Tr.below_drewN (n := 1) (below_new w o)
/-- What a reader's end leaves: a part that is none. -/
def PartTo (w : World) (b : Nat) (mv : Nat → Value) (p : Pt) (r' : Rd) (e : Ending) (w' : World) : Prop :=
  ∃ ev, e = .returned (.agg #[ev, .int .i64 (p.nodes : Int), .int .i64 (p.deep : Int)]) ∧ PtW w' (ev, p) ∧ RdTo w w' b mv r'
set_option maxHeartbeats 1600000 in
theorem fail_any (b : Nat) (mv : Nat → Value) (r : Rd) (e : Int) (w : World) (hr : RdAt w b mv r) (hn : r.next ≤ 1000000) :
    Calls Tryz.prog 154 #[.pointer (some ⟨b, 0, none⟩), .int .i64 e] w (PartTo w b mv Pt.zero (r.fail e)) := by
  have HR := Lib.hid hr
  have hlt := hr.lt
  obtain ⟨lv, h1, h2⟩ := hr.blk
  have c0 : w.cell? ⟨b, 0, none⟩ = some lv := rd_cell h1 0
  have c1 : w.cell? ⟨b, 1, none⟩ = some (.int .i64 (r.next : Int)) := rd_cell h1 1
  have c3 : w.cell? ⟨b, 3, none⟩ = some (.int .i64 r.code) := rd_cell h1 3
  have c4 : w.cell? ⟨b, 4, none⟩ = some (.int .i64 r.at_) := rd_cell h1 4
  have f0 : w.frozen? ⟨b, 0, none⟩ = false := rd_free h1 0
  have f3 : w.frozen? ⟨b, 3, none⟩ = false := rd_free h1 3
  have f4 : w.frozen? ⟨b, 4, none⟩ = false := rd_free h1 4
  have H2 := Lib.hid h2
  clear hr h1 h2
  have hbn : b ≠ w.heap.size := by omega
  by_cases h0 : r.code = 0
  · have hd : (r.code == 0) = true := by simpa using h0
    have H0 := Lib.hid h0
    clear h0
    go_enter Tryz.func154, Tryz.ntmps154
    go_wp2
    go_region_with ((go_at_call 98; refine (at_any _ r.l b _ _ (H2.out.new _) hn).mono ?_; rintro e w' ⟨rfl, rfl⟩))
    all_goals go_wp2
    all_goals exact bodyPost_ret (v := .agg #[.slice none 0 0, .int .i64 0, .int .i64 0]) (by simp [results, Tryz.results154, go_sem]) rfl ⟨_, rfl, PtW.nil _ _ rfl, (HR.out.failTo e H0.out).then_below (below_drew1 _ _)⟩
  · have hd : (r.code == 0) = false := by simpa using h0
    have H0 := Lib.hid h0
    clear h0
    go_enter Tryz.func154, Tryz.ntmps154
    go_wp2
    exact bodyPost_ret (v := .agg #[.slice none 0 0, .int .i64 0, .int .i64 0]) (by simp [results, Tryz.results154, go_sem]) rfl ⟨_, rfl, PtW.nil _ _ rfl, (HR.out.endTo e H0.out).then_below (below_new _ _)⟩

set_option maxHeartbeats 800000 in
theorem need_any (b : Nat) (mv : Nat → Value) (r : Rd) (s : Bytes) (w : World) (hr : RdAt w b mv r) (hn : r.next ≤ 1000000) :
    Calls Tryz.prog 165 #[.pointer (some ⟨b, 0, none⟩), .string (str s)] w (fun e w' => e = .returned (.tuple #[]) ∧ RdTo w w' b mv (r.need s)) := by
  have HC := Lib.hid (take_any b mv r s w hr hn)
  have HR := Lib.hid hr
  have HN := Lib.hid (show r.need s = if r.isB s then r.adv else r.fail 5 from rfl)
  clear hr
  rw [HN.out]
  obtain ⟨B, hB⟩ : ∃ B, r.isB s = B := ⟨_, rfl⟩
  rw [hB] at HC ⊢
  clear hB
  cases B with
  | true =>
    go_enter Tryz.func165, Tryz.ntmps165
    go_wp2_with fail
    refine HC.out.mono ?_
    rintro e w1 ⟨rfl, hb⟩
    have HB := Lib.hid hb
    clear hb
    go_wp2
    go_end0
    exact ⟨rfl, HB.out⟩
  | false =>
    go_enter Tryz.func165, Tryz.ntmps165
    go_wp2_with fail
    refine HC.out.mono ?_
    rintro e w1 ⟨rfl, hb⟩
    have HB := Lib.hid hb
    clear hb
    go_wp2_with fail
    refine (fail_any b mv r 5 _ HB.out.rd hn).mono ?_
    rintro e w2 ⟨ev, rfl, -, ht⟩
    have HT := Lib.hid (HB.out.trans ht)
    clear ht
    go_wp2
    go_end0
    exact ⟨rfl, HT.out⟩

theorem findNow_map : ∀ (es : List MapEntry) (L : List (Bytes × Int × Bool)) (s : Bytes) (i : Nat), es.map (fun e => (e.key, e.val)) = L.map (fun x => (.string (str x.1), .agg #[.int .i64 x.2.1, .bool x.2.2])) →
    (L.lookup s = none → Instr.findNow .string (.string (str s)) es i = some none) ∧
    (∀ v, L.lookup s = some v → ∃ k, Instr.findNow .string (.string (str s)) es i = some (some (k, .agg #[.int .i64 v.1, .bool v.2])))
  | [], L, s, i, h => by
    have : L = [] := by simpa using h.symm
    subst this
    exact ⟨fun _ => rfl, fun v hv => by simp at hv⟩
  | e :: es, [], s, i, h => by simp at h
  | e :: es, (t, o, b) :: L, s, i, h => by
    simp only [List.map_cons, List.cons.injEq, Prod.mk.injEq] at h
    obtain ⟨⟨h1, h2⟩, h3⟩ := h
    have ih := findNow_map es L s (i + 1) h3
    unfold Instr.findNow
    rw [h1, h2]
    have hk : Instr.sameNow .string (.string (str s)) (.string (str t)) = some (str s == str t) := rfl
    rw [hk, List.lookup_cons]
    by_cases hst : s = t
    · subst hst
      have e1 : (str s == str s) = true := by show (s.toArray == s.toArray) = true; simp
      rw [e1]
      simp
    · have e1 : (str s == str t) = false := by
        show (s.toArray == t.toArray) = false
        rw [beq_eq_false_iff_ne]
        intro he
        exact hst (by have := congrArg Array.toList he; simpa using this)
      have e2 : (s == t) = false := by simpa using hst
      rw [e1, e2]
      exact ih
end Go.Proofs.YtgohhnbdicdenaaGreatDoor.Ex

/- A writer of tokens in memory; a contract of its method put. Conditions: a writer lies in memory. -/
namespace Go.Proofs.YtgohhnbdicdenaaGreatDoor.Sh
open Go.ChangeShapes Go.WideShapes Go.ChangeAt Go.RowKit
open Go.Proofs.YtgohhnbdicdenaaGreatDoor.Tr (str ret_bool ret_int Bytes Nd T)
set_option linter.unusedVariables false
set_option linter.unusedSimpArgs false

/-- A token of a text. -/
def tk (s : Bytes) : Lx.Tok := ⟨0, s, 0⟩
def strCells (l : List Bytes) : List Value := l.map (fun s => .string (str s))
/-- What is neither a writer's nor a row of tokens is kept. -/
structure Kept (w w' : World) : Prop where
  size : w.heap.size ≤ w'.heap.size
  block : ∀ (g : Nat) (cs : Array Value) (T : TypeId) (f : Nat × Nat), T ≠ 54 → T ≠ 60 → w.heap[g]? = some (.cells cs T f) → w'.heap[g]? = some (.cells cs T f)
theorem Kept.refl (w : World) : Kept w w := ⟨Nat.le_refl _, fun _ _ _ _ _ _ h => h⟩
theorem Kept.trans {a b c : World} (h : Kept a b) (k : Kept b c) : Kept a c := ⟨Nat.le_trans h.size k.size, fun g cs T f h1 h2 h3 => k.block g cs T f h1 h2 (h.block g cs T f h1 h2 h3)⟩
theorem Kept.of_below {w w' : World} (h : Below w.heap.size w w') : Kept w w' := ⟨h.size, fun g cs T f _ _ h3 => (h.block g (lt_of_block h3)).trans h3⟩
/-- A writer, made in a world, in one that came of it. -/
structure WrAt (W0 w : World) (ev : Value) (l : List Bytes) : Prop where
  below : Below W0.heap.size W0 w
  row : ∃ tv, w.heap[W0.heap.size]? = some (.cells #[ev, tv] 60 (0, 0)) ∧ w.ownsRow (W0.heap.size + 1) 54 3 tv l.length (Lx.cellsOf (l.map tk))
theorem WrAt.lt {W0 w : World} {ev : Value} {l : List Bytes} (h : WrAt W0 w ev l) : W0.heap.size < w.heap.size := by
  obtain ⟨tv, h1, _⟩ := h.row; exact lt_of_block h1
/-- What makes memory alone keeps a writer. -/
theorem WrAt.up {W0 w w' : World} {ev : Value} {l : List Bytes} (h : WrAt W0 w ev l) (hb : Below w.heap.size w w') : WrAt W0 w' ev l := by
  obtain ⟨tv, h1, h2⟩ := h.row
  exact ⟨h.below.trans (hb.mono h.below.size), tv, (hb.block _ h.lt).trans h1, Tr.own_below h2 hb⟩
/-- What a method of a writer leaves. -/
def WrTo (W0 w : World) (ev : Value) (l : List Bytes) (e : Ending) (w' : World) : Prop := e = .returned (.tuple #[]) ∧ WrAt W0 w' ev l ∧ Kept w w'
theorem cells_tk (l : List Bytes) (t : Bytes) : Lx.cellsOf ((l ++ [t]).map tk) = Lx.cellsOf (l.map tk) ++ [.int .i64 0, .string (str t), .int .i64 0] := by
  simp [Lx.cellsOf, tk, Lx.tokCells]; rfl
theorem put_step {W0 wr w4 : World} {ev tv tv2 : Value} {l : List Bytes} {t : Bytes} {o : Obj}
    (hb : Below W0.heap.size W0 wr) (h0 : wr.heap[W0.heap.size]? = some (.cells #[ev, tv] 60 (0, 0))) (hown : wr.ownsRow (W0.heap.size + 1) 54 3 tv l.length (Lx.cellsOf (l.map tk)))
    (hg4 : (wr.alloc o).grownBy w4 tv.ownBlock)
    (hown4 : w4.ownsRow (W0.heap.size + 1) 54 3 tv2 (l.length + 1) (Lx.cellsOf (l.map tk) ++ [.int .i64 0, .string (str t), .int .i64 0])) :
    WrAt W0 (w4.setCell ⟨W0.heap.size, 1, none⟩ tv2) ev (l ++ [t]) ∧ Kept wr (w4.setCell ⟨W0.heap.size, 1, none⟩ tv2) ∧ w4.heap[W0.heap.size]? = some (.cells #[ev, tv] 60 (0, 0)) := by
  have hlt := hown.lt
  have l0 := lt_of_block h0
  have ne0 : some W0.heap.size ≠ tv.ownBlock := fun e => by have := hlt _ e.symm; omega
  have k0 : w4.heap[W0.heap.size]? = some (.cells #[ev, tv] 60 (0, 0)) := (hg4.block _ (by simp; omega) ne0).trans ((Below.heap_alloc _ _ _ (by omega)).trans h0)
  have hsz := hg4.size
  simp at hsz
  refine ⟨⟨?_, tv2, ?_, ?_⟩, ⟨by simp [World.setCell]; omega, fun g cs T f h1 h2 hg => ?_⟩, k0⟩
  · refine Below.setCell ?_ (by show W0.heap.size ≤ W0.heap.size; omega) _
    exact (hb.alloc hb.size o).grown hg4 (by simp; have := hb.size; omega) (fun k hk => by have := hlt _ hk; omega)
  · rw [Ex.setObj_heap k0 (by simp)]; simp
  · rw [List.length_append, cells_tk]; exact ownsRow_setCell_below hown4 (by show W0.heap.size < _; omega) _
  · have lg := lt_of_block hg
    have neg : some g ≠ tv.ownBlock := fun e => by
      obtain ⟨_, h3 | ⟨g', cap, cur, hv, hb', hh, _⟩⟩ := hown
      · rw [h3.1] at e; cases e
      · rw [hv] at e
        have : g = g' := by simpa [Value.ownBlock] using e
        subst this
        rw [hg] at hh
        simp at hh
        exact h1 hh.2.1
    have g0 : g ≠ W0.heap.size := fun e => by
      subst e; rw [hg] at h0; simp at h0; exact h2 h0.2.1
    exact (Below.heap_setCell _ _ _ _ (by simpa using g0)).trans ((hg4.block _ (by simp; omega) neg).trans ((Below.heap_alloc _ _ _ (by omega)).trans hg))
set_option maxRecDepth 100000 in
set_option maxHeartbeats 1600000 in
theorem put_any (W0 : World) (ev : Value) (l ts : List Bytes) (n g : Nat) (w : World) (hw : WrAt W0 w ev l) (hn : n = ts.length) (hg : w.heap[g]? = some (.cells (strCells ts).toArray 9 (0, 0))) (hl : l.length + ts.length ≤ 1000000) :
    Calls Tryz.prog 41 #[.pointer (some ⟨W0.heap.size, 0, none⟩), .slice (some ⟨g, 0, none⟩) n n] w (WrTo W0 w ev (l ++ ts)) := by
  obtain ⟨i0, hi, hz0, hz1, hz2⟩ := info_parts Lx.info42
  subst hn
  have HG := Lib.hid hg
  have HW := Lib.hid hw
  clear hg hw
  go_enter Tryz.func41, Tryz.ntmps41
  go_wp2
  go_loopw [8] (fun i wr => ∃ k : Nat, k ≤ ts.length ∧ i = .int .i64 k ∧ WrAt W0 wr ev (l ++ ts.take k) ∧ Kept w wr) (fun i _ => ts.length - (intOf i).toNat)
  case atStart => exact ⟨0, Nat.zero_le _, rfl, by rw [List.take_zero, List.append_nil]; exact HW.out, Kept.refl _⟩
  case round =>
    obtain ⟨k, hk, rfl, hw, hkp⟩ := hrel
    by_cases hlt : k < ts.length
    · obtain ⟨t, ht⟩ : ∃ t, ts[k]? = some t := ⟨_, List.getElem?_eq_getElem hlt⟩
      have HT := Lib.hid (show l ++ ts.take (k + 1) = (l ++ ts.take k) ++ [t] by rw [List.take_add_one, ht, List.append_assoc]; rfl)
      have hll2 : (l ++ ts.take k).length ≤ 1000000 := by rw [List.length_append, List.length_take]; omega
      generalize l ++ ts.take k = m at hw HT hll2
      obtain ⟨tv, h0, hown⟩ := hw.row
      have HB := Lib.hid hw.below
      have hg := hkp.block _ _ _ _ (by decide) (by decide) HG.out
      have lg := lt_of_block hg
      have cg : wr.cell? ⟨g, k, none⟩ = some (.string (str t)) := by
        simp [World.cell?, hg, strCells, ht]
      have c1 : wr.cell? ⟨W0.heap.size, 1, none⟩ = some tv := by simp [World.cell?, h0]
      have l0 := lt_of_block h0
      obtain ⟨A, N, C, rfl⟩ : ∃ A N C, tv = .slice A N C := by
        obtain ⟨_, h1 | ⟨g', cap, cur, hv, _⟩⟩ := hown
        · exact ⟨_, _, _, h1.1⟩
        · exact ⟨_, _, _, hv⟩
      have HO := Lib.hid hown
      have H0 := Lib.hid h0
      have HK := Lib.hid hkp
      clear hown h0 hg ht hw hkp
      go_wp2_with (at_builtin; refine wpList_append_own _ rfl (.tmp 16) (.tmp 19) 30 rfl (W0.heap.size + 1) 54 i0 _ 3 32 Tryz.underlying30 hi hz0 hz1 hz2 rfl (by decide) _ _ _ rfl (HO.out.alloc _) ⟨wr.heap.size, 0, none⟩ 1 1 [.int .i64 0, .string (str t), .int .i64 0] rfl rfl ?a1 ?b1 ?c1 ?d1 ?e1 ?_)
      case a1 => exact World.news_of_block (t := 54) (fr := (0, 0)) (heap_alloc_new _ _)
      case b1 => simp [Value.oneCell']
      case c1 => unfold maxLen; omega
      case d1 => omega
      case e1 => simp; omega
      intro tv2 w4 hown4 hg4 _
      obtain ⟨A2, N2, C2, rfl⟩ : ∃ A N C, tv2 = .slice A N C := by
        obtain ⟨_, h1 | ⟨g', cap, cur, hv, _⟩⟩ := hown4
        · exact ⟨_, _, _, h1.1⟩
        · exact ⟨_, _, _, hv⟩
      have R := Lib.hid (put_step HB.out H0.out HO.out hg4 hown4)
      have f1 : w4.frozen? ⟨W0.heap.size, 1, none⟩ = false := by simp [World.frozen?, R.out.2.2]
      have c1' : w4.cell? ⟨W0.heap.size, 1, none⟩ = some (.slice A N C) := by simp [World.cell?, R.out.2.2]
      clear hown4 hg4
      go_wp2
      refine ⟨⟨k + 1, by omega, by go_num, by rw [HT.out]; exact R.out.1, HK.out.trans R.out.2.1⟩, by simp [intOf]; omega⟩
    · have hkl : k = ts.length := by omega
      subst hkl
      rw [List.take_of_length_le (Nat.le_refl _)] at hw
      have HW := Lib.hid hw
      have HK := Lib.hid hkp
      clear hw hkp
      go_wp2
      go_end0
      exact ⟨rfl, HW.out, HK.out⟩
end Go.Proofs.YtgohhnbdicdenaaGreatDoor.Sh

/- Contracts of library functions at this program, by application of the compiled library. Conditions: as each says. -/
namespace Go.Proofs
open Go.Shelf
def Tryz.laysM171_ren : Go.Shelf.Ren := ⟨fun | 171 => 79 | 243 => 102 | 246 => 117 | 283 => 131 | 284 => 132 | 285 => 133 | 286 => 134 | 129 => 141 | 317 => 140 | 318 => 142 | 319 => 143 | 320 => 144 | 337 => 148 | 338 => 149 | n => n, fun | 3 => 3 | 9 => 9 | 2 => 2 | 4 => 4 | 171 => 146 | 0 => 0 | 53 => 147 | 37 => 113 | 5 => 5 | 173 => 150 | 212 => 155 | 51 => 156 | 20 => 20 | 213 => 157 | 46 => 159 | 232 => 174 | 233 => 175 | n => n, fun | 17 => 2 | 18 => 3 | 19 => 4 | n => n⟩
theorem Tryz.laysM171 : Go.Proofs.LaysM.n171 Tryz.prog Tryz.laysM171_ren := {
  mixed := by kernel_rfl
  f129 := Tryz.func141.trans (congrArg some (by kernel_rfl))
  f171 := Tryz.func79.trans (congrArg some (by kernel_rfl))
  f243 := Tryz.func102.trans (congrArg some (by kernel_rfl))
  f246 := Tryz.func117.trans (congrArg some (by kernel_rfl))
  f283 := Tryz.func131.trans (congrArg some (by kernel_rfl))
  f284 := Tryz.func132.trans (congrArg some (by kernel_rfl))
  f285 := Tryz.func133.trans (congrArg some (by kernel_rfl))
  f286 := Tryz.func134.trans (congrArg some (by kernel_rfl))
  f317 := Tryz.func140.trans (congrArg some (by kernel_rfl))
  f318 := Tryz.func142.trans (congrArg some (by kernel_rfl))
  f319 := Tryz.func143.trans (congrArg some (by kernel_rfl))
  f320 := Tryz.func144.trans (congrArg some (by kernel_rfl))
  f337 := Tryz.func148.trans (congrArg some (by kernel_rfl))
  f338 := Tryz.func149.trans (congrArg some (by kernel_rfl))
  t0 := Tryz.underlying0
  a0 := Tryz.isAgg0
  z0 := Tryz.sizeOf0
  v0 := Tryz.zeroValue0
  t2 := Tryz.underlying2
  a2 := Tryz.isAgg2
  z2 := Tryz.sizeOf2
  v2 := Tryz.zeroValue2
  t3 := Tryz.underlying3
  a3 := Tryz.isAgg3
  z3 := Tryz.sizeOf3
  v3 := Tryz.zeroValue3
  t4 := Tryz.underlying4
  a4 := Tryz.isAgg4
  z4 := Tryz.sizeOf4
  v4 := Tryz.zeroValue4
  t5 := Tryz.underlying5
  a5 := Tryz.isAgg5
  z5 := Tryz.sizeOf5
  v5 := Tryz.zeroValue5
  t9 := Tryz.underlying9
  a9 := Tryz.isAgg9
  z9 := Tryz.sizeOf9
  v9 := Tryz.zeroValue9
  t20 := Tryz.underlying20
  a20 := Tryz.isAgg20
  z20 := Tryz.sizeOf20
  v20 := Tryz.zeroValue20
  t37 := Tryz.underlying113
  a37 := Tryz.isAgg113
  z37 := Tryz.sizeOf113
  v37 := Tryz.zeroValue113
  t46 := Tryz.underlying159
  a46 := Tryz.isAgg159
  z46 := Tryz.sizeOf159
  v46 := Tryz.zeroValue159
  t51 := Tryz.underlying156
  a51 := Tryz.isAgg156
  z51 := Tryz.sizeOf156
  v51 := Tryz.zeroValue156
  t53 := Tryz.underlying147
  a53 := Tryz.isAgg147
  z53 := Tryz.sizeOf147
  v53 := Tryz.zeroValue147
  t171 := Tryz.underlying146
  a171 := Tryz.isAgg146
  z171 := Tryz.sizeOf146
  v171 := Tryz.zeroValue146
  t173 := Tryz.underlying150
  a173 := Tryz.isAgg150
  z173 := Tryz.sizeOf150
  v173 := Tryz.zeroValue150
  t212 := Tryz.underlying155
  a212 := Tryz.isAgg155
  z212 := Tryz.sizeOf155
  v212 := Tryz.zeroValue155
  t213 := Tryz.underlying157
  a213 := Tryz.isAgg157
  z213 := Tryz.sizeOf157
  t232 := Tryz.underlying174
  a232 := Tryz.isAgg174
  z232 := Tryz.sizeOf174
  v232 := Tryz.zeroValue174
  t233 := Tryz.underlying175
  a233 := Tryz.isAgg175
  z233 := Tryz.sizeOf175
  v233 := Tryz.zeroValue175
  g17 := by kernel_rfl
  g18 := by kernel_rfl
  g19 := by kernel_rfl
  i0 := by kernel_rfl
  i2 := by kernel_rfl
  i3 := by kernel_rfl
  i4 := by kernel_rfl
  i5 := by kernel_rfl
  i9 := by kernel_rfl
  i20 := by kernel_rfl
  i37 := by kernel_rfl
  i46 := by kernel_rfl
  i51 := by kernel_rfl
  i53 := by kernel_rfl
  i171 := by kernel_rfl
  i173 := by kernel_rfl
  i212 := by kernel_rfl
  i232 := by kernel_rfl
  i233 := by kernel_rfl
  m17 := by kernel_rfl
  m18 := by kernel_rfl
  m19 := by kernel_rfl }
open Go.RowKit Go.Sort Go.Lib in
theorem Tryz.strconv_Itoa (n : Int) (h0 : -9223372036854775808 ≤ n) (h1 : n ≤ 9223372036854775807) (w : World) (htab : Lib.TabIs Tryz.prog w "internal/strconv.uint64pow10" .u64 Lib.pow10Tab) :
    Calls Tryz.prog 79 #[.int .i64 n] w fun e w' => e = .returned (.string ⟨(Lib.itoa n).toArray⟩) ∧ ∃ k os, w' = grow (w.drewN k) os := Any.strconv_Itoa Tryz.laysM171 n h0 h1 w htab
end Go.Proofs

/- The shapes of nodes; a number's digits; what holds at each place of a writer's way; short laws for its calls. Conditions: an expression that may be. -/
namespace Go.Proofs.YtgohhnbdicdenaaGreatDoor.Sh
open Go.ChangeShapes Go.WideShapes Go.ChangeAt Go.RowKit
open Go.Proofs.YtgohhnbdicdenaaGreatDoor.Tr (str ret_bool ret_int Bytes Nd T Nodes May tree kidsM mkL mkT fitsB argsL unaryB binaryB ndCells)
set_option linter.unusedVariables false
set_option linter.unusedSimpArgs false

theorem digs_dec (n : Nat) : digs n = Lib.decDigits n := by
  induction n using Nat.strongRecOn with
  | ind n ih =>
    rw [digs, Lib.decDigits]
    by_cases h : n < 10
    · rw [if_pos h, dif_pos h]
    · rw [if_neg h, dif_neg h, ih (n / 10) (by omega)]
theorem below_grow (w : World) (k : Nat) (os : Array Obj) : Below w.heap.size w (Sort.grow (w.drewN k) os) :=
  ⟨rfl, rfl, rfl, by show _ ≤ (w.heap ++ os).size; simp, fun i hi => by show (w.heap ++ os)[i]? = _; rw [Array.getElem?_append_left hi]⟩
theorem itoa_any (n : Int) (h0 : 0 ≤ n) (h1 : n ≤ 2147483647) (w : World) (ht : Lib.TabIs Tryz.prog w "internal/strconv.uint64pow10" .u64 Lib.pow10Tab) :
    Calls Tryz.prog 79 #[.int .i64 n] w fun e w' => e = .returned (.string (str (digs n.toNat))) ∧ Below w.heap.size w w' := by
  refine (Tryz.strconv_Itoa n (by omega) (by omega) w ht).mono ?_
  rintro e w' ⟨rfl, k, os, rfl⟩
  refine ⟨?_, below_grow _ _ _⟩
  obtain ⟨m, rfl⟩ : ∃ m : Nat, n = (m : Int) := ⟨n.toNat, by omega⟩
  rw [Lib.itoa_nonneg, Int.toNat_natCast, digs_dec]; rfl

/-- The shapes of an expression's nodes. -/
theorem shape {e : List Nd} (h : May e) {i : Nat} {x : Nd} (hx : e[i]? = some x) :
    (x.a = -1 ∧ x.b = -1 ∧ x.c = -1 ∧ tree e i = .l0 x.lab ∧ (x.op = 1 ∨ x.op = 2 ∨ x.op = 3 ∨ x.op = 27)) ∨
    (∃ j : Nat, j < i ∧ x.a = (j : Int) ∧ x.b = -1 ∧ x.c = -1 ∧ tree e i = .l1 x.lab (tree e j) ∧ ((unaryB x.op = true ∧ (tree e j).lab.op ≠ 28) ∨ (x.op = 27 ∧ (tree e j).lab.op = 28) ∨ (x.op = 28 ∧ (tree e j).lab.op ≠ 28))) ∨
    (∃ j k : Nat, j < i ∧ k < i ∧ binaryB x.op = true ∧ x.a = (j : Int) ∧ x.b = (k : Int) ∧ x.c = -1 ∧ tree e i = .l2 x.lab (tree e j) (tree e k) ∧ (tree e j).lab.op ≠ 28 ∧ (tree e k).lab.op ≠ 28) ∨
    (∃ j k : Nat, j < i ∧ k < i ∧ x.op = 28 ∧ x.b = (j : Int) ∧ x.a = (k : Int) ∧ x.c = -1 ∧ tree e i = .l2 x.lab (tree e j) (tree e k) ∧ (tree e j).lab.op = 28 ∧ (tree e k).lab.op ≠ 28) ∨
    (∃ j k m : Nat, j < i ∧ k < i ∧ m < i ∧ x.op = 26 ∧ x.a = (j : Int) ∧ x.b = (k : Int) ∧ x.c = (m : Int) ∧ tree e i = .l3 x.lab (tree e j) (tree e k) (tree e m) ∧ (tree e j).lab.op ≠ 28 ∧ (tree e k).lab.op ≠ 28 ∧ (tree e m).lab.op ≠ 28) := by
  have g := h.node i x hx
  have hi := (List.getElem?_eq_some_iff.1 hx).1
  have ht := Tr.tree_eq h.ahead hx
  have hf := Tr.fits_kids x
  have hb := g.bare
  have ha := g.args
  have hd := g.ahead
  have hp := g.plain
  simp only [Tr.plainB, Bool.and_eq_true, decide_eq_true_eq] at hp
  have hp1 : 1 ≤ x.op := hp.1.1.1.1
  have hp2 : x.op ≤ 28 := hp.1.1.1.2
  have op : ∀ k : Nat, k < i → Tr.opAt e (k : Int) = (tree e k).lab.op := fun k hk => by
    rw [Tr.tree_op h.ahead (by omega)]; rfl
  generalize kidsM x = l at *
  match l, hf with
  | [], hf =>
    left
    rw [hb]
    refine ⟨rfl, rfl, rfl, by rw [ht]; rfl, ?_⟩
    simp only [mkL, Tr.Nd.lab, List.length_nil, fitsB, unaryB, binaryB] at hf ⊢
    simp at hf
    omega
  | [a], hf =>
    right; left
    have h1 := hd a (by simp)
    obtain ⟨j, rfl⟩ : ∃ j : Nat, a = (j : Int) := ⟨a.toNat, by omega⟩
    have hj : j < i := by omega
    refine ⟨j, hj, by rw [hb]; rfl, by rw [hb]; rfl, by rw [hb]; rfl, by rw [ht]; simp [mkT], ?_⟩
    rw [List.map_cons, List.map_nil, op j hj] at ha
    simp only [argsL] at ha
    simp only [List.length_cons, List.length_nil, fitsB] at hf
    by_cases h27 : x.op = 27
    · right; left
      refine ⟨h27, ?_⟩
      rw [h27] at ha; simpa using ha
    · have hne : (tree e j).lab.op ≠ 28 := by
        have : (x.op == 27) = false := by simpa using h27
        rw [this] at ha; simpa using ha
      by_cases h28 : x.op = 28
      · exact .inr (.inr ⟨h28, hne⟩)
      · left
        refine ⟨?_, hne⟩
        cases hu : unaryB x.op with
        | true => rfl
        | false =>
          rw [hu] at hf
          simp [h27, h28] at hf
  | [a, b], hf =>
    right; right
    have h1 := hd a (by simp)
    have h2 := hd b (by simp)
    obtain ⟨j, rfl⟩ : ∃ j : Nat, a = (j : Int) := ⟨a.toNat, by omega⟩
    obtain ⟨k, rfl⟩ : ∃ k : Nat, b = (k : Int) := ⟨b.toNat, by omega⟩
    have hj : j < i := by omega
    have hk : k < i := by omega
    rw [List.map_cons, List.map_cons, List.map_nil, op j hj, op k hk] at ha
    simp only [argsL, Bool.and_eq_true] at ha
    simp only [List.length_cons, List.length_nil, fitsB] at hf
    have h26 : x.op ≠ 26 := by rintro h; rw [h] at hf; simp [unaryB] at hf
    have h27 : x.op ≠ 27 := by rintro h; rw [h] at hf; simp [unaryB] at hf
    have e27 : (x.op == 27) = false := by simpa using h27
    rw [e27] at ha
    by_cases h28 : x.op = 28
    · right; left
      have e28 : (x.op == 28) = true := by simpa using h28
      rw [e28] at ha
      have l28 : x.lab.op = 28 := h28
      refine ⟨j, k, hj, hk, h28, ?_, ?_, ?_, by rw [ht]; simp [mkT], by simpa using ha.1, by simpa using ha.2⟩
      all_goals rw [hb]; simp [mkL, l28]
    · left
      have e28 : (x.op == 28) = false := by simpa using h28
      rw [e28] at ha
      have l28 : x.lab.op ≠ 28 := h28
      refine ⟨j, k, hj, hk, ?_, ?_, ?_, ?_, by rw [ht]; simp [mkT], by simpa using ha.1, by simpa using ha.2⟩
      · cases hbn : binaryB x.op with
        | true => rfl
        | false =>
          rw [hbn] at hf
          simp [h26, h27, h28] at hf
      all_goals rw [hb]; simp [mkL, l28]
  | [a, b, c], hf =>
    right; right; right; right
    have h1 := hd a (by simp)
    have h2 := hd b (by simp)
    have h3 := hd c (by simp)
    obtain ⟨j, rfl⟩ : ∃ j : Nat, a = (j : Int) := ⟨a.toNat, by omega⟩
    obtain ⟨k, rfl⟩ : ∃ k : Nat, b = (k : Int) := ⟨b.toNat, by omega⟩
    obtain ⟨m, rfl⟩ : ∃ m : Nat, c = (m : Int) := ⟨c.toNat, by omega⟩
    have hj : j < i := by omega
    have hk : k < i := by omega
    have hm : m < i := by omega
    rw [List.map_cons, List.map_cons, List.map_cons, List.map_nil, op j hj, op k hk, op m hm] at ha
    simp only [argsL, Bool.and_eq_true] at ha
    simp only [List.length_cons, List.length_nil, fitsB] at hf
    have h26 : x.op = 26 := by
      apply Classical.byContradiction; intro h26
      rw [if_neg h26] at hf
      split at hf <;> simp at hf
    have e27 : (x.op == 27) = false := by rw [h26]; rfl
    rw [e27] at ha
    refine ⟨j, k, m, hj, hk, hm, h26, ?_, ?_, ?_, by rw [ht]; simp [mkT], by simpa using ha.1.1, by simpa using ha.1.2, by simpa using ha.2⟩
    all_goals rw [hb]; rfl
  | _ :: _ :: _ :: _ :: _, hf => 
    exfalso
    simp only [List.length_cons, fitsB] at hf
    split at hf <;> simp at hf

/-- What a writer is made with. -/
structure Cx (W0 : World) (G O C : Nat) (e : List Nd) : Prop where
  nds : Nodes W0 (.slice (some ⟨G, O, none⟩) e.length C) e
  sg : SgAt W0
  tab : Lib.TabIs Tryz.prog W0 "internal/strconv.uint64pow10" .u64 Lib.pow10Tab
  may : May e
theorem Cx.sgAt {W0 w : World} {G O C : Nat} {e : List Nd} (h : Cx W0 G O C e) (hb : Below W0.heap.size W0 w) : SgAt w := h.sg.below hb h.sg.1
theorem tab_up {P : Program} {w w' : World} {name : String} {k : IntKind} {zs : List Int} (h : Lib.TabIs P w name k zs) (hb : Below w.heap.size w w') : Lib.TabIs P w' name k zs := by
  unfold Lib.TabIs World.var? at *
  cases hg : P.globalNamed name with
  | none => simp [hg] at h
  | some g =>
    simp only [hg, Option.bind_some] at h ⊢
    have hlt : g < w.heap.size := by
      rcases Nat.lt_or_ge g w.heap.size with h' | h'
      · exact h'
      · rw [Array.getElem?_eq_none h'] at h; simp at h
    rw [hb.block g hlt]
    exact h
theorem Cx.tabAt {W0 w : World} {G O C : Nat} {e : List Nd} (h : Cx W0 G O C e) (hb : Below W0.heap.size W0 w) : Lib.TabIs Tryz.prog w "internal/strconv.uint64pow10" .u64 Lib.pow10Tab := tab_up h.tab hb
theorem Cx.cells {W0 w : World} {G O C : Nat} {e : List Nd} (h : Cx W0 G O C e) (hb : Below W0.heap.size W0 w) {i : Nat} {x : Nd} (hx : e[i]? = some x) :
    w.cell? ⟨G, O + i * 6, none⟩ = some (.int .i64 x.op) ∧ w.cell? ⟨G, O + i * 6 + 1, none⟩ = some (.int .i64 x.a) ∧ w.cell? ⟨G, O + i * 6 + 2, none⟩ = some (.int .i64 x.b) ∧
    w.cell? ⟨G, O + i * 6 + 3, none⟩ = some (.int .i64 x.c) ∧ w.cell? ⟨G, O + i * 6 + 4, none⟩ = some (.int .i64 x.n) ∧ w.cell? ⟨G, O + i * 6 + 5, none⟩ = some (.string (str x.name)) := by
  obtain ⟨A, c, hv, _, _, hA⟩ := h.nds.below hb (Nat.le_refl _)
  obtain ⟨g, o, hAe, _, h6⟩ := hA i x hx
  subst hAe
  simp only [Value.slice.injEq, Option.some.injEq, Addr.mk.injEq] at hv
  obtain ⟨⟨rfl, rfl, _⟩, _⟩ := hv
  exact h6
/-- What holds on a writer's way. -/
structure St (W0 w : World) (ev : Value) (l : List Bytes) (wi : World) : Prop where
  wr : WrAt W0 wi ev l
  kept : Kept w wi
theorem St.up {W0 w wi w2 : World} {ev : Value} {l : List Bytes} (h : St W0 w ev l wi) (hb : Below wi.heap.size wi w2) : St W0 w ev l w2 := ⟨h.wr.up hb, h.kept.trans (Kept.of_below hb)⟩
theorem St.to {W0 w wi w2 : World} {ev : Value} {l m : List Bytes} (h : St W0 w ev l wi) (k : WrAt W0 w2 ev m) (hk : Kept wi w2) : St W0 w ev m w2 := ⟨k, h.kept.trans hk⟩
theorem St.ev {W0 w wi : World} {ev : Value} {l : List Bytes} (h : St W0 w ev l wi) : wi.cell? ⟨W0.heap.size, 0, none⟩ = some ev := by
  obtain ⟨tv, h0, _⟩ := h.wr.row
  simp [World.cell?, h0]
/-- A box of a node. -/
def BoxAt (w : World) (N : Nat) (x : Nd) : Prop := w.heap[N]? = some (.cells (ndCells x).toArray 58 (0, 0))
theorem BoxAt.kept {w w' : World} {N : Nat} {x : Nd} (h : BoxAt w N x) (hk : Kept w w') : BoxAt w' N x := hk.block _ _ _ _ (by decide) (by decide) h
theorem BoxAt.cells {w : World} {N : Nat} {x : Nd} (h : BoxAt w N x) : w.cell? ⟨N, 0, none⟩ = some (.int .i64 x.op) ∧ w.cell? ⟨N, 1, none⟩ = some (.int .i64 x.a) ∧ w.cell? ⟨N, 2, none⟩ = some (.int .i64 x.b) ∧ w.cell? ⟨N, 3, none⟩ = some (.int .i64 x.c) ∧ w.cell? ⟨N, 4, none⟩ = some (.int .i64 x.n) ∧ w.cell? ⟨N, 5, none⟩ = some (.string (str x.name)) := by
  unfold BoxAt at h
  simp [World.cell?, h, ndCells]
theorem alloc_st {W0 w wi : World} {ev : Value} {l : List Bytes} (h : St W0 w ev l wi) (o : Obj) : St W0 w ev l (wi.alloc o) := h.up (Tr.below_new _ _)
theorem put1 {W0 w : World} {ev : Value} {l : List Bytes} {S : ByteArray} {t : Bytes} {N : Nat} (hS : S = str t) (hN : N = w.heap.size) (hw : WrAt W0 w ev l) (hl : l.length + 1 ≤ 1000000) :
    Calls Tryz.prog 41 #[.pointer (some ⟨W0.heap.size, 0, none⟩), .slice (some ⟨N, 0, none⟩) 1 1] (w.alloc (.cells #[.string S] 9)) (WrTo W0 w ev (l ++ [t])) := by
  subst hS; subst hN
  refine (put_any W0 ev l [t] 1 w.heap.size _ (hw.up (Tr.below_new _ _)) rfl (heap_alloc_new _ _) hl).mono ?_
  rintro r w' ⟨rfl, h1, h2⟩
  exact ⟨rfl, h1, (Kept.of_below (Tr.below_new w _)).trans h2⟩
theorem put2 {W0 w : World} {ev : Value} {l : List Bytes} {S U : ByteArray} {t u : Bytes} {N : Nat} (hS : S = str t) (hU : U = str u) (hN : N = w.heap.size) (hw : WrAt W0 w ev l) (hl : l.length + 2 ≤ 1000000) :
    Calls Tryz.prog 41 #[.pointer (some ⟨W0.heap.size, 0, none⟩), .slice (some ⟨N, 0, none⟩) 2 2] (w.alloc (.cells #[.string S, .string U] 9)) (WrTo W0 w ev (l ++ [t, u])) := by
  subst hS; subst hU; subst hN
  refine (put_any W0 ev l [t, u] 2 w.heap.size _ (hw.up (Tr.below_new _ _)) rfl (heap_alloc_new _ _) hl).mono ?_
  rintro r w' ⟨rfl, h1, h2⟩
  exact ⟨rfl, h1, (Kept.of_below (Tr.below_new w _)).trans h2⟩
def txts (l : List KT) : List Bytes := l.map Prod.snd
theorem txts_app (a b : List KT) : txts (a ++ b) = txts a ++ txts b := by simp [txts]
theorem txts_cons (a : KT) (b : List KT) : txts (a :: b) = a.2 :: txts b := rfl
theorem txts_len (a : List KT) : (txts a).length = a.length := by simp [txts]

/-- What the three methods do that call each other. -/
def PartOk (W0 : World) (ev : Value) (e : List Nd) (i : Nat) : Prop := ∀ (w : World) (l : List Bytes) (a : Int), WrAt W0 w ev l → l.length + (partT a (tree e i)).length ≤ 1000000 →
  Calls Tryz.prog 25 #[.pointer (some ⟨W0.heap.size, 0, none⟩), .int .i64 (i : Int), .int .i64 a] w (WrTo W0 w ev (l ++ txts (partT a (tree e i))))
def NodeOk (W0 : World) (ev : Value) (e : List Nd) (i : Nat) (x : Nd) : Prop := ∀ (w : World) (l : List Bytes), WrAt W0 w ev l → l.length + (toks (tree e i)).length ≤ 1000000 →
  Calls Tryz.prog 40 #[.pointer (some ⟨W0.heap.size, 0, none⟩), .agg #[.int .i64 x.op, .int .i64 x.a, .int .i64 x.b, .int .i64 x.c, .int .i64 x.n, .string (str x.name)]] w (WrTo W0 w ev (l ++ txts (toks (tree e i))))
def OperOk (W0 : World) (ev : Value) (e : List Nd) (i : Nat) (x : Nd) : Prop := ∀ (w : World) (l : List Bytes), WrAt W0 w ev l → l.length + (toks (tree e i)).length ≤ 1000000 →
  Calls Tryz.prog 82 #[.pointer (some ⟨W0.heap.size, 0, none⟩), .agg #[.int .i64 x.op, .int .i64 x.a, .int .i64 x.b, .int .i64 x.c, .int .i64 x.n, .string (str x.name)]] w (WrTo W0 w ev (l ++ txts (toks (tree e i))))
def ArgsOk (W0 : World) (ev : Value) (e : List Nd) (i : Nat) : Prop := ∀ (w : World) (l : List Bytes), WrAt W0 w ev l → l.length + (toks (tree e i)).length ≤ 1000000 →
  Calls Tryz.prog 81 #[.pointer (some ⟨W0.heap.size, 0, none⟩), .int .i64 (i : Int)] w (WrTo W0 w ev (l ++ txts (toks (tree e i))))
theorem args_none (W0 w : World) (ev : Value) (l : List Bytes) (hw : WrAt W0 w ev l) : Calls Tryz.prog 81 #[.pointer (some ⟨W0.heap.size, 0, none⟩), .int .i64 (-1)] w (WrTo W0 w ev l) := by
  have HW := Lib.hid hw
  clear hw
  go_enter Tryz.func81, Tryz.ntmps81
  go_wp2
  go_end0
  exact ⟨rfl, HW.out, Kept.refl _⟩
end Go.Proofs.YtgohhnbdicdenaaGreatDoor.Sh

/- How reading goes on, step by step, at some fuel. Conditions: none. -/
namespace Go.Proofs.YtgohhnbdicdenaaGreatDoor.Sh
open Go.Proofs.YtgohhnbdicdenaaGreatDoor.Tr Go.Proofs.YtgohhnbdicdenaaGreatDoor.Ex
set_option linter.unusedVariables false
set_option linter.unusedSimpArgs false

theorem gets_two {t u : Task} {r s : Rd} {p q : Pt} {r' s' : Rd} (h : Gets t r p r') (k : Gets u s q s') : ∃ f, run f t r = some (p, r') ∧ run f u s = some (q, s') := by
  obtain ⟨f, h⟩ := h
  obtain ⟨g, k⟩ := k
  exact ⟨max f g, run_mono (Nat.le_max_left _ _) h, run_mono (Nat.le_max_right _ _) k⟩
theorem gets_ll_end {n : Nat} {p : Pt} {r : Rd} (h : r.sign n = none) : Gets (.ll n p) r p r := ⟨1, by simp [run, h]⟩
theorem gets_rl_end {n : Nat} {p : Pt} {r : Rd} (h : r.sign n = none) : Gets (.rl n [p] []) r p r := ⟨1, by simp [run, h, foldR]⟩
theorem gets_up {n : Nat} (hn : n ≤ 8) {r r1 : Rd} {p : Pt} (h : Gets (.lev (n + 1)) r p r1) (hs : r1.sign n = none) : Gets (.lev n) r p r1 := by
  by_cases h2 : n ≤ 2
  · obtain ⟨f, e1, e2⟩ := gets_two h (gets_rl_end (p := p) hs)
    exact ⟨f + 1, by rw [run, if_neg (by omega), e1]; simp only [Option.bind_some]; rw [if_pos h2, e2]⟩
  · obtain ⟨f, e1, e2⟩ := gets_two h (gets_ll_end (p := p) hs)
    exact ⟨f + 1, by rw [run, if_neg (by omega), e1]; simp only [Option.bind_some]; rw [if_neg h2, e2]⟩
theorem gets_ups {n : Nat} {r r1 : Rd} {p : Pt} : ∀ (k : Nat), n + k ≤ 9 → Gets (.lev (n + k)) r p r1 → (∀ j, n ≤ j → j < n + k → r1.sign j = none) → Gets (.lev n) r p r1
  | 0, _, h, _ => h
  | k + 1, hk, h, hs => gets_ups k (by omega) (gets_up (by omega) h (hs (n + k) (by omega) (by omega))) (fun j h1 h2 => hs j h1 (by omega))
theorem gets_to {n m : Nat} (hn : n ≤ m) (hm : m ≤ 9) {r r1 : Rd} {p : Pt} (h : Gets (.lev m) r p r1) (hs : ∀ j, n ≤ j → j < m → r1.sign j = none) : Gets (.lev n) r p r1 := by
  obtain ⟨k, rfl⟩ := Nat.exists_eq_add_of_le hn
  exact gets_ups k hm h hs
theorem gets_nine {r r1 : Rd} {p : Pt} (h : Gets .opnd r p r1) : Gets (.lev 9) r p r1 := by
  obtain ⟨f, h⟩ := h
  exact ⟨f + 1, by rw [run, if_pos rfl, h]⟩
theorem gets_ll {n : Nat} (h3 : 3 ≤ n) (h8 : n ≤ 8) {r r1 r' : Rd} {p x : Pt} (h : Gets (.lev (n + 1)) r p r1) (k : Gets (.ll n p) r1 x r') : Gets (.lev n) r x r' := by
  obtain ⟨f, e1, e2⟩ := gets_two h k
  exact ⟨f + 1, by rw [run, if_neg (by omega), e1]; simp only [Option.bind_some]; rw [if_neg (by omega), e2]⟩
theorem gets_ll_step {n : Nat} {r r1 r' : Rd} {p q x : Pt} {s : Int × Bool} (hs : r.sign n = some s) (h : Gets (.lev (n + 1)) r.adv q r1) (h6 : n ≠ 6) (k : Gets (.ll n (sjoin s p q)) r1 x r') : Gets (.ll n p) r x r' := by
  obtain ⟨f, e1, e2⟩ := gets_two h k
  exact ⟨f + 1, by rw [run]; simp only [hs, e1, Option.bind_some]; rw [if_neg h6, e2]⟩
theorem gets_ll_six {r r1 : Rd} {p q : Pt} {s : Int × Bool} (hs : r.sign 6 = some s) (h : Gets (.lev 7) r.adv q r1) : Gets (.ll 6 p) r (sjoin s p q) r1 := by
  obtain ⟨f, e1⟩ := h
  exact ⟨f + 1, by rw [run]; simp only [hs, e1, Option.bind_some, if_true]⟩
def foldRs : List Pt → List (Int × Bool) → Pt → Pt
  | p :: ps, o :: os, y => sjoin o p (foldRs ps os y)
  | _, _, y => y
theorem foldR_app : ∀ (ps : List Pt) (os : List (Int × Bool)), ps.length = os.length → ∀ qs rs, foldR (ps ++ qs) (os ++ rs) = foldRs ps os (foldR qs rs)
  | [], [], _, qs, rs => rfl
  | p :: ps, o :: os, h, qs, rs => by
    show sjoin o p (foldR (ps ++ qs) (os ++ rs)) = _
    rw [foldR_app ps os (by simpa using h) qs rs]; rfl
  | [], _ :: _, h, _, _ => by simp at h
  | _ :: _, [], h, _, _ => by simp at h
theorem rl_lift : ∀ (f n : Nat) (qs : List Pt) (rs : List (Int × Bool)) (r : Rd) (y : Pt) (r' : Rd), run f (.rl n qs rs) r = some (y, r') → ∀ ps os, ps.length = os.length →
    run f (.rl n (ps ++ qs) (os ++ rs)) r = some (foldRs ps os y, r') := by
  intro f
  induction f with
  | zero => intro n qs rs r y r' h; cases h
  | succ f ih =>
    intro n qs rs r y r' h ps os hl
    rw [run] at h ⊢
    cases hs : r.sign n with
    | none =>
      rw [hs] at h
      simp only [Option.some.injEq, Prod.mk.injEq] at h ⊢
      exact ⟨by rw [foldR_app ps os hl, h.1], h.2⟩
    | some s =>
      rw [hs] at h
      obtain ⟨⟨a, r1⟩, h1, h2⟩ := bind_some h
      simp only [h1, Option.bind_some]
      have := ih n _ _ _ _ _ h2 ps os hl
      rw [List.append_assoc, List.append_assoc]; exact this
/-- Of levels 1 and 2: an operand, an operator, and what stands behind it. -/
theorem gets_right {n : Nat} (hn : n ≤ 2) {r r1 r' : Rd} {p q : Pt} {s : Int × Bool} (h : Gets (.lev (n + 1)) r p r1) (hs : r1.sign n = some s) (k : Gets (.lev n) r1.adv q r') : Gets (.lev n) r (sjoin s p q) r' := by
  obtain ⟨f, e1, e2⟩ := gets_two h k
  cases f with
  | zero => cases e2
  | succ f =>
    have e3 := e2
    rw [run, if_neg (by omega)] at e3
    obtain ⟨⟨b, r2⟩, k1, k2⟩ := bind_some e3
    simp only at k2
    rw [if_pos hn] at k2
    have := rl_lift f n [b] [] r2 q r' k2 [p] [s] rfl
    refine ⟨f + 2, ?_⟩
    rw [run, if_neg (by omega), e1]
    simp only [Option.bind_some]
    rw [if_pos hn, run]
    simp only [hs, k1, Option.bind_some]
    exact this
/-- What reading of a level says, taken apart: of the levels 1 and 2. -/
theorem rl_split : ∀ (f n : Nat) (qs : List Pt) (rs : List (Int × Bool)) (ps : List Pt) (os : List (Int × Bool)) (r : Rd) (x : Pt) (r' : Rd), ps.length = os.length →
    run f (.rl n (ps ++ qs) (os ++ rs)) r = some (x, r') → ∃ y, run f (.rl n qs rs) r = some (y, r') ∧ x = foldRs ps os y := by
  intro f
  induction f with
  | zero => intro n qs rs ps os r x r' _ h; cases h
  | succ f ih =>
    intro n qs rs ps os r x r' hl h
    rw [run] at h ⊢
    cases hs : r.sign n with
    | none =>
      rw [hs] at h
      simp only [Option.some.injEq, Prod.mk.injEq] at h ⊢
      exact ⟨_, ⟨rfl, h.2⟩, by rw [← foldR_app ps os hl, h.1]⟩
    | some s =>
      rw [hs] at h
      obtain ⟨⟨a, r1⟩, h1, h2⟩ := bind_some h
      simp only at h2
      rw [List.append_assoc, List.append_assoc] at h2
      obtain ⟨y, e1, e2⟩ := ih n _ _ ps os _ _ _ hl h2
      exact ⟨y, by simp only [h1, Option.bind_some]; exact e1, e2⟩
theorem lev_right {f n : Nat} (hn : n ≤ 2) {r r' : Rd} {x : Pt} (h : run (f + 1) (.lev n) r = some (x, r')) :
    ∃ p r1, run f (.lev (n + 1)) r = some (p, r1) ∧ ((r1.sign n = none ∧ x = p ∧ r' = r1) ∨ ∃ s q, r1.sign n = some s ∧ run f (.lev n) r1.adv = some (q, r') ∧ x = sjoin s p q) := by
  rw [run, if_neg (by omega)] at h
  obtain ⟨⟨p, r1⟩, h1, h2⟩ := bind_some h
  simp only at h2
  rw [if_pos hn] at h2
  refine ⟨p, r1, h1, ?_⟩
  cases f with
  | zero => cases h1
  | succ f =>
    rw [run] at h2
    cases hs : r1.sign n with
    | none =>
      rw [hs] at h2
      simp only [Option.some.injEq, Prod.mk.injEq] at h2
      exact .inl ⟨rfl, by rw [← h2.1]; rfl, h2.2.symm⟩
    | some s =>
      rw [hs] at h2
      obtain ⟨⟨b, r2⟩, k1, k2⟩ := bind_some h2
      simp only at k2
      obtain ⟨y, e1, e2⟩ := rl_split f n [b] [] [p] [s] r2 x r' rfl k2
      refine .inr ⟨s, y, rfl, ?_, e2⟩
      rw [run, if_neg (by omega), k1]
      simp only [Option.bind_some]
      rw [if_pos hn]; exact e1

theorem lp_sign {r : Rd} (hp : r.isB lp = true) : r.sign 9 = none := by
  unfold Rd.sign
  unfold Rd.isB at hp
  simp only [Bool.and_eq_true, beq_iff_eq] at hp
  rw [if_pos hp.1, hp.2]
  decide
theorem gets_paren {r r1 : Rd} {p : Pt} (hb : r.begun ≠ 200) (hp : r.open_.isB lp = true) (h : Gets (.lev 1) r.open_.adv p r1) (hr : r1.isB rp = true) : Gets .opnd r p r1.adv.shut := by
  obtain ⟨f, h⟩ := h
  refine ⟨f + 2, ?_⟩
  rw [run, if_neg hb]
  simp only [lp_sign hp]
  rw [run, if_pos hp, h]
  simp only [Option.map_some]
  unfold Rd.need
  rw [if_pos hr]
theorem gets_single {r r1 : Rd} {p : Pt} (hb : r.begun ≠ 200) (hs : r.open_.sign 9 = none) (h : Gets .single r.open_ p r1) : Gets .opnd r p r1.shut := by
  obtain ⟨f, h⟩ := h
  refine ⟨f + 1, ?_⟩
  rw [run, if_neg hb]
  simp only [hs, h, Option.map_some]
theorem gets_unary {r r1 : Rd} {p : Pt} {s : Int × Bool} (hb : r.begun ≠ 200) (hs : r.open_.sign 9 = some s) (h25 : s.1 ≠ 25) (h : Gets .opnd r.open_.adv p r1) : Gets .opnd r (joined s.1 0 [] [p]) r1.shut := by
  obtain ⟨f, h⟩ := h
  refine ⟨f + 1, ?_⟩
  rw [run, if_neg hb]
  simp only [hs, if_neg h25, h, Option.map_some]
theorem gets_within {r r1 : Rd} {p : Pt} {s : Int × Bool} (hb : r.begun ≠ 200) (hs : r.open_.sign 9 = some s) (h25 : s.1 = 25) (hn : numB 1000 r.open_.adv.cur = true) (h : Gets .opnd r.open_.adv.adv p r1) :
    Gets .opnd r (joined 25 (Lx.val r.open_.adv.cur.text : Nat) [] [p]) r1.shut := by
  obtain ⟨f, h⟩ := h
  refine ⟨f + 1, ?_⟩
  rw [run, if_neg hb]
  have e1 : r.open_.adv.numR 1000 = r.open_.adv.adv := by unfold Rd.numR; rw [if_pos hn]
  have e2 : r.open_.adv.num 1000 = Lx.val r.open_.adv.cur.text := by unfold Rd.num; rw [if_pos hn]
  simp only [hs, if_pos h25, e1, e2, h, Option.map_some]
  rw [h25]
theorem gets_if {r r1 r2 r3 : Rd} {a b c : Pt} (h0 : r.isB lp = false) (hi : r.isB [105, 102] = true) (h1 : Gets (.lev 1) r.adv a r1) (t1 : r1.isB [116, 104, 101, 110] = true) (h2 : Gets (.lev 1) r1.adv b r2) (t2 : r2.isB [101, 108, 115, 101] = true) (h3 : Gets (.lev 1) r2.adv c r3) :
    Gets .single r (joined 26 0 [] [a, b, c]) r3 := by
  obtain ⟨f, h1⟩ := h1
  obtain ⟨g, h2⟩ := h2
  obtain ⟨k, h3⟩ := h3
  have h1 := run_mono (Nat.le_trans (Nat.le_max_left f g) (Nat.le_max_left _ k)) h1
  have h2 := run_mono (Nat.le_trans (Nat.le_max_right f g) (Nat.le_max_left _ k)) h2
  have h3 := run_mono (Nat.le_max_right (max f g) k) h3
  refine ⟨max (max f g) k + 1, ?_⟩
  rw [run, if_neg (by rw [h0]; decide), if_pos hi, h1]
  simp only [Option.bind_some]
  rw [show r1.need [116, 104, 101, 110] = r1.adv by unfold Rd.need; rw [if_pos t1], h2]
  simp only [Option.bind_some]
  rw [show r2.need [101, 108, 115, 101] = r2.adv by unfold Rd.need; rw [if_pos t2], h3]
  rfl
theorem gets_true {r : Rd} (h0 : r.isB lp = false) (h1 : r.isB [105, 102] = false) (h : r.isB [116, 114, 117, 101] = true) : Gets .single r (joined 2 1 [] []) r.adv :=
  ⟨1, by rw [run, if_neg (by rw [h0]; decide), if_neg (by rw [h1]; decide), if_pos h]⟩
theorem gets_false {r : Rd} (h0 : r.isB lp = false) (h1 : r.isB [105, 102] = false) (h2 : r.isB [116, 114, 117, 101] = false) (h : r.isB [102, 97, 108, 115, 101] = true) : Gets .single r (joined 2 0 [] []) r.adv :=
  ⟨1, by rw [run, if_neg (by rw [h0]; decide), if_neg (by rw [h1]; decide), if_neg (by rw [h2]; decide), if_pos h]⟩
theorem no_ws {r : Rd} (h : r.cur.kind = 2 ∨ r.cur.kind = 1) (s : Bytes) : r.isB s = false := by
  unfold Rd.isB Rd.ws
  rcases h with h | h <;> rw [h] <;> simp
theorem no_sign {r : Rd} (h : r.cur.kind = 2 ∨ r.cur.kind = 1) (n : Nat) : r.sign n = none := by
  unfold Rd.sign Rd.ws
  rcases h with h | h <;> rw [h] <;> simp
theorem gets_num {r : Rd} (hk : r.cur.kind = 2) (hn : numB 2147483647 r.cur = true) : Gets .single r (joined 1 (Lx.val r.cur.text : Nat) [] []) r.adv := by
  refine ⟨1, ?_⟩
  rw [run, if_neg (by rw [no_ws (.inl hk)]; decide), if_neg (by rw [no_ws (.inl hk)]; decide), if_neg (by rw [no_ws (.inl hk)]; decide), if_neg (by rw [no_ws (.inl hk)]; decide), if_pos hk]
  have e1 : r.numR 2147483647 = r.adv := by unfold Rd.numR; rw [if_pos hn]
  have e2 : r.num 2147483647 = Lx.val r.cur.text := by unfold Rd.num; rw [if_pos hn]
  rw [e1, e2]
theorem gets_name {r r1 : Rd} {p : Pt} (hk : r.cur.kind = 1) (ht : r.cur.text ≠ []) (h : Gets (.named r.cur.text) r p r1) : Gets .single r p r1 := by
  obtain ⟨f, h⟩ := h
  refine ⟨f + 1, ?_⟩
  rw [run, if_neg (by rw [no_ws (.inr hk)]; decide), if_neg (by rw [no_ws (.inr hk)]; decide), if_neg (by rw [no_ws (.inr hk)]; decide), if_neg (by rw [no_ws (.inr hk)]; decide), if_neg (by omega), if_pos ⟨hk, ht⟩, h]
theorem gets_var {r : Rd} (s : Bytes) (h : r.adv.isB lp = false) : Gets (.named s) r (joined 3 0 s []) r.adv :=
  ⟨1, by rw [run, if_neg (by rw [h]; decide)]⟩
theorem gets_call0 {r : Rd} (s : Bytes) (h : r.adv.isB lp = true) (h2 : r.adv.adv.isB rp = true) : Gets (.named s) r (joined 27 0 s []) r.adv.adv.adv :=
  ⟨1, by rw [run, if_pos h, if_pos h2]⟩
theorem gets_call {r r1 r2 : Rd} {p x : Pt} (s : Bytes) (h : r.adv.isB lp = true) (h2 : r.adv.adv.isB rp = false) (h3 : Gets (.lev 1) r.adv.adv p r1) (h4 : Gets (.args s [p]) r1 x r2) : Gets (.named s) r x r2 := by
  obtain ⟨f, e1, e2⟩ := gets_two h3 h4
  exact ⟨f + 1, by rw [run, if_pos h, if_neg (by rw [h2]; decide), e1]; simp only [Option.bind_some]; exact e2⟩
theorem gets_more {r r1 r2 : Rd} {p x : Pt} {ps : List Pt} (s : Bytes) (h : r.isB [44] = true) (h3 : Gets (.lev 1) r.adv p r1) (h4 : Gets (.args s (ps ++ [p])) r1 x r2) : Gets (.args s ps) r x r2 := by
  obtain ⟨f, e1, e2⟩ := gets_two h3 h4
  exact ⟨f + 1, by rw [run, if_pos h, e1]; simp only [Option.bind_some]; exact e2⟩
theorem gets_last {r : Rd} {ps : List Pt} (s : Bytes) (h : r.isB [44] = false) (h2 : r.isB rp = true) : Gets (.args s ps) r (joined 27 0 s ps) r.adv :=
  ⟨1, by rw [run, if_neg (by rw [h]; decide)]; unfold Rd.need; rw [if_pos h2]⟩
end Go.Proofs.YtgohhnbdicdenaaGreatDoor.Sh

/- What is written of a tree is read as it. Conditions: none. -/
namespace Go.Proofs.YtgohhnbdicdenaaGreatDoor.Sh
open Go.Proofs.YtgohhnbdicdenaaGreatDoor.Tr Go.Proofs.YtgohhnbdicdenaaGreatDoor.Ex
set_option linter.unusedVariables false
set_option linter.unusedSimpArgs false

/-- Nothing goes on at these levels, and no round sign opens. -/
def Ends (n : Nat) (l : List KT) : Prop := isBL lp l = false ∧ ∀ k, n ≤ k → k ≤ 8 → signL k l = none
theorem Ends.up {n m : Nat} {l : List KT} (h : Ends n l) (hm : n ≤ m) : Ends m l := ⟨h.1, fun k h1 h2 => h.2 k (by omega) h2⟩
theorem eight {P : Nat → Prop} (h1 : P 1) (h2 : P 2) (h3 : P 3) (h4 : P 4) (h5 : P 5) (h6 : P 6) (h7 : P 7) (h8 : P 8) : ∀ k, 1 ≤ k → k ≤ 8 → P k := by
  intro k a b
  match k, a, b with
  | 1, _, _ => exact h1
  | 2, _, _ => exact h2
  | 3, _, _ => exact h3
  | 4, _, _ => exact h4
  | 5, _, _ => exact h5
  | 6, _, _ => exact h6
  | 7, _, _ => exact h7
  | 8, _, _ => exact h8
theorem ends_rp (l : List KT) : Ends 1 (tRp :: l) := ⟨rfl, eight (by rfl) (by rfl) (by rfl) (by rfl) (by rfl) (by rfl) (by rfl) (by rfl)⟩
theorem ends_co (l : List KT) : Ends 1 (tCo :: l) := ⟨rfl, eight (by rfl) (by rfl) (by rfl) (by rfl) (by rfl) (by rfl) (by rfl) (by rfl)⟩
theorem ends_then (l : List KT) : Ends 1 (tThen :: l) := ⟨rfl, eight (by rfl) (by rfl) (by rfl) (by rfl) (by rfl) (by rfl) (by rfl) (by rfl)⟩
theorem ends_else (l : List KT) : Ends 1 (tElse :: l) := ⟨rfl, eight (by rfl) (by rfl) (by rfl) (by rfl) (by rfl) (by rfl) (by rfl) (by rfl)⟩
theorem ends_nil : Ends 1 [] := ⟨rfl, fun _ _ _ => rfl⟩
theorem Ends.sign {n : Nat} {r : Rd} {l : List KT} (h : Ends n l) (hr : see r = l) (k : Nat) (h1 : n ≤ k) (h2 : k ≤ 8) : r.sign k = none := by rw [sign_see, hr]; exact h.2 k h1 h2
theorem Ends.lp {n : Nat} {r : Rd} {l : List KT} (h : Ends n l) (hr : see r = l) : r.isB lp = false := by rw [isB_see, hr]; exact h.1

/-- The level of an operator between two operands. -/
def lv (o : Int) : Nat := (levM o).toNat
def binOk (o : Int) : Bool := decide (1 ≤ lv o) && decide (lv o ≤ 8) && decide (levM o = lv o) && (signL (lv o) [kd (opText o)] == some (o, false)) &&
  ([1, 2, 3, 4, 5, 6, 7, 8].all fun k => k == lv o || signL k [kd (opText o)] == none) && !isBL lp [kd (opText o)]
theorem bin_all : ∀ k : Fin 15, binOk ((k.val : Int) + 6) = true := by decide +kernel
theorem bin_fact {o : Int} (h : binaryB o = true) : 1 ≤ lv o ∧ lv o ≤ 8 ∧ levM o = lv o ∧ (∀ l, signL (lv o) (kd (opText o) :: l) = some (o, false)) ∧
    (∀ k l, 1 ≤ k → k ≤ 8 → k ≠ lv o → signL k (kd (opText o) :: l) = none) ∧ ∀ l, isBL lp (kd (opText o) :: l) = false := by
  simp [binaryB] at h
  have hb := bin_all ⟨(o - 6).toNat, by omega⟩
  rw [show (((⟨(o - 6).toNat, by omega⟩ : Fin 15).val : Int) + 6) = o by simp; omega] at hb
  simp only [binOk, Bool.and_eq_true, decide_eq_true_eq, beq_iff_eq, List.all_cons, List.all_nil, Bool.or_eq_true, Bool.not_eq_true', and_true] at hb
  obtain ⟨⟨⟨⟨⟨h1, h2⟩, h3⟩, h4⟩, h5⟩, h6⟩ := hb
  refine ⟨h1, h2, h3, fun l => h4, fun k l k1 k2 hk => ?_, fun l => h6⟩
  have hh : ∀ m, 1 ≤ m → m ≤ 8 → (m = lv o ∨ signL m [kd (opText o)] = none) := eight h5.1 h5.2.1 h5.2.2.1 h5.2.2.2.1 h5.2.2.2.2.1 h5.2.2.2.2.2.1 h5.2.2.2.2.2.2.1 h5.2.2.2.2.2.2.2
  exact (hh k k1 k2).resolve_left hk
def unOk (o : Int) : Bool := (levM o == 9) && (signL 9 [kd (opText o)] == some (o, false)) && ([4, 3].contains (kd (opText o)).1)
theorem un_fact {o : Int} (h : unaryB o = true) : levM o = 9 ∧ (∀ l, signL 9 (kd (opText o) :: l) = some (o, false)) := by
  have hh : ∀ o ∈ [(4 : Int), 5, 21, 22, 23, 24, 25], unOk o = true := by decide +kernel
  have hm : o ∈ [(4 : Int), 5, 21, 22, 23, 24, 25] := by simp [unaryB] at h; simp; omega
  have := hh o hm
  simp only [unOk, Bool.and_eq_true, beq_iff_eq] at this
  exact ⟨this.1.1, fun l => this.1.2⟩

theorem digs_lt {n : Nat} (h : n < 10) : digs n = [(48 + n).toUInt8] := by rw [digs, if_pos h]
theorem digs_ge {n : Nat} (h : ¬ n < 10) : digs n = digs (n / 10) ++ [(48 + n % 10).toUInt8] := by rw [digs, if_neg h]
theorem dig_byte {k : Nat} (h : k < 10) : Lx.digitB (48 + k).toUInt8 = true ∧ ((48 + k).toUInt8).toNat - 48 = k := by
  have : ∀ k : Fin 10, Lx.digitB (48 + k.val).toUInt8 = true ∧ ((48 + k.val).toUInt8).toNat - 48 = k.val := by decide
  exact this ⟨k, h⟩
theorem digs_val (n : Nat) : Lx.val (digs n) = n ∧ (digs n).all Lx.digitB = true ∧ digs n ≠ [] := by
  induction n using Nat.strongRecOn with
  | _ n ih =>
    by_cases h : n < 10
    · rw [digs_lt h]
      have := dig_byte h
      exact ⟨by simp only [Lx.val, List.foldl_cons, List.foldl_nil, this.2]; omega, by simp only [List.all_cons, List.all_nil, this.1, Bool.and_self], by simp⟩
    · rw [digs_ge h]
      obtain ⟨h1, h2, h3⟩ := ih (n / 10) (by omega)
      have := dig_byte (k := n % 10) (by omega)
      refine ⟨by rw [Lx.val_snoc, h1, this.2]; omega, by rw [List.all_append, h2]; simp only [List.all_cons, List.all_nil, this.1, Bool.and_self], by simp⟩
theorem numB_of {r : Rd} {n : Nat} {m : Nat} (hk : r.cur.kind = 2) (ht : r.cur.text = digs n) (h : n ≤ m) : numB m r.cur = true := by
  unfold numB; rw [hk, ht, (digs_val n).1]; simp [h]

/-- The operands of an Args. -/
def opsOf : T → List T
  | .l2 _ a t => opsOf a ++ [t]
  | .l1 _ t => [t]
  | _ => []
theorem argsC_snoc (ts : List T) (t : T) : ∀ acc, argsC acc (ts ++ [t]) = .l2 ⟨28, 0, []⟩ (argsC acc ts) t := by
  induction ts with
  | nil => intro acc; rfl
  | cons a r ih => intro acc; exact ih _
theorem name_nil {x : Lab} (h : plainB x = true) (h3 : x.op ≠ 3) (h27 : x.op ≠ 27) : x.name = [] := by
  simp only [plainB, Bool.and_eq_true, beq_iff_eq] at h
  have := h.1.1.2
  rw [beq_eq_false_iff_ne.2 h3, beq_eq_false_iff_ne.2 h27] at this
  simpa using this
theorem name_some {x : Lab} (h : plainB x = true) (h3 : x.op = 3 ∨ x.op = 27) : x.name ≠ [] := by
  simp only [plainB, Bool.and_eq_true, beq_iff_eq] at h
  have := h.1.1.2
  rcases h3 with h3 | h3 <;> rw [h3] at this <;> simpa using this
theorem n_zero {x : Lab} (h : plainB x = true) (h1 : x.op ≠ 1) (h2 : x.op ≠ 2) (h25 : x.op ≠ 25) : x.n = 0 := by
  simp only [plainB, Bool.and_eq_true, decide_eq_true_eq] at h
  have := h.1.2; have := h.2
  rw [if_neg h1, if_neg h2, if_neg h25] at this
  omega
theorem lab_eq {x : Lab} {o n : Int} {s : Bytes} (h1 : x.op = o) (h2 : x.n = n) (h3 : x.name = s) : x = ⟨o, n, s⟩ := by cases x; simp_all
/-- An Args is the chain of its operands. -/
theorem args_chain : ∀ a : T, a.okB = true → a.lab.op = 28 → ∃ t ts, opsOf a = t :: ts ∧ a = argsC (.l1 ⟨28, 0, []⟩ t) ts := by
  intro a
  induction a with
  | l0 x => intro h ho; simp [T.okB, fitsB, T.lab, unaryB] at h ho; simp [ho] at h
  | l1 x p ih =>
    intro h ho
    simp only [T.lab] at ho
    simp only [T.okB, Bool.and_eq_true] at h
    have hx : x = ⟨28, 0, []⟩ := lab_eq ho (n_zero h.1.1.1 (by omega) (by omega) (by omega)) (name_nil h.1.1.1 (by omega) (by omega))
    exact ⟨p, [], rfl, by rw [hx]; rfl⟩
  | l2 x p q ih1 ih2 =>
    intro h ho
    simp only [T.lab] at ho
    simp only [T.okB, Bool.and_eq_true] at h
    have hx : x = ⟨28, 0, []⟩ := lab_eq ho (n_zero h.1.1.1.1 (by omega) (by omega) (by omega)) (name_nil h.1.1.1.1 (by omega) (by omega))
    have hp : p.lab.op = 28 := by
      have := h.1.1.2
      simp [argsT, argsL, ho] at this
      exact this.1
    obtain ⟨t, ts, e1, e2⟩ := ih1 h.1.2 hp
    refine ⟨t, ts ++ [q], by simp [opsOf, e1], ?_⟩
    rw [argsC_snoc, ← e2, hx]
  | l3 x p q r _ _ _ => intro h ho; simp [T.okB, fitsB, T.lab, unaryB] at h ho; simp [ho] at h

/-- What of a tree is read where. -/
structure Reads (t : T) : Prop where
  lev : t.lab.op ≠ 28 → ∀ n : Nat, 1 ≤ n → n ≤ 9 → (t.lab.op = 26 → n = 1) → (t.lab.op ≠ 26 → (n : Int) ≤ levM t.lab.op) → ∀ r rest, see r = toks t ++ rest → Ends n rest → r.begun + 2 * t.depth ≤ 200 → Gets (.lev n) r (ptOf t) (fwd r (toks t).length)
  opnd : t.lab.op ≠ 28 → t.lab.op ≠ 26 → 9 ≤ levM t.lab.op → ∀ r rest, see r = toks t ++ rest → isBL lp rest = false → r.begun + 2 * t.depth ≤ 200 → Gets .opnd r (ptOf t) (fwd r (toks t).length)
  ll : t.lab.op ≠ 28 → t.lab.op ≠ 26 → ∀ n : Nat, 3 ≤ n → n ≤ 8 → n ≠ 6 → (n : Int) ≤ levM t.lab.op → ∀ r rest, see r = toks t ++ rest → Ends (n + 1) rest → r.begun + 2 * t.depth ≤ 200 → ∀ x r', Gets (.ll n (ptOf t)) (fwd r (toks t).length) x r' → Gets (.lev n) r x r'
  args : t.lab.op = 28 → ∀ s r rest, see r = toks t ++ rest → Ends 1 rest → r.begun + 2 * t.depth ≤ 200 → ∀ x r', Gets (.args s ((opsOf t).map ptOf)) (fwd r (toks t).length) x r' → ∃ p r1, Gets (.lev 1) r p r1 ∧ Gets (.args s [p]) r1 x r'
  head : ∀ rest, isBL rp (toks t ++ rest) = false

theorem lev_of_opnd {t : T} {r : Rd} {rest : List KT} {n : Nat} (h1 : 1 ≤ n) (h9 : n ≤ 9) (h : Gets .opnd r (ptOf t) (fwd r (toks t).length)) (hs : see r = toks t ++ rest) (he : Ends n rest) : Gets (.lev n) r (ptOf t) (fwd r (toks t).length) :=
  gets_to h9 (Nat.le_refl _) (gets_nine h) (fun j a b => he.sign (see_app hs rfl) j a (by omega))
theorem ok_plain {t : T} (h : t.okB = true) : plainB t.lab = true := by
  cases t <;> simp only [T.okB, Bool.and_eq_true] at h <;> simp only [T.lab]
  · exact h.1
  · exact h.1.1.1
  · exact h.1.1.1.1
  · exact h.1.1.1.1.1
theorem lev_pos {t : T} (h : t.okB = true) (h26 : t.lab.op ≠ 26) (h28 : t.lab.op ≠ 28) : 1 ≤ levM t.lab.op := by
  have hp := ok_plain h
  simp only [plainB, Bool.and_eq_true, decide_eq_true_eq] at hp
  obtain ⟨o, ho⟩ : ∃ o, t.lab.op = o := ⟨_, rfl⟩
  rw [ho] at hp h26 h28 ⊢
  have hall : ∀ k : Fin 28, (k.val : Int) + 1 ≠ 26 → (k.val : Int) + 1 ≠ 28 → 1 ≤ levM ((k.val : Int) + 1) := by decide
  have := hall ⟨(o - 1).toNat, by omega⟩
  rw [show (((⟨(o - 1).toNat, by omega⟩ : Fin 28).val : Int) + 1) = o by simp; omega] at this
  exact this h26 h28
/-- In round signs. -/
theorem paren_opnd {t : T} (H : Reads t) (hok : t.okB = true) (h28 : t.lab.op ≠ 28) {r : Rd} {rest : List KT} (hs : see r = tLp :: (toks t ++ tRp :: rest)) (hb : r.begun + 2 * t.depth + 1 ≤ 200) :
    Gets .opnd r (ptOf t) (fwd r ((toks t).length + 2)) := by
  have hd := t.depth_pos
  obtain ⟨c1, c2, c3, c4⟩ := see_cons hs
  have hL : r.open_.isB lp = true := by rw [isB_see, see_open, hs]; rfl
  have hin := H.lev h28 1 (by omega) (by omega) (fun _ => rfl) (fun h26 => lev_pos hok h26 h28) r.open_.adv (tRp :: rest) c4 (ends_rp rest) (by show r.begun + 1 + _ ≤ 200; omega)
  have hrp : (fwd r.open_.adv (toks t).length).isB rp = true := by rw [isB_see, see_app (a := toks t) (b := tRp :: rest) (r := r.open_.adv) c4 rfl]; rfl
  have hO := gets_paren (by omega) hL hin hrp
  have e : (fwd r.open_.adv (toks t).length).adv.shut = fwd r ((toks t).length + 2) := by
    simp [fwd, Rd.adv, Rd.open_, Rd.shut]; omega
  rw [e] at hO
  exact hO
theorem sur_len (b : Bool) (l : List KT) : (sur b l).length = l.length + if b then 2 else 0 := by unfold sur; split <;> simp
theorem no26 {o n : Int} (h1 : 1 ≤ n) (h : n ≤ levM o) : o ≠ 26 := fun h26 => by
  rw [h26] at h
  have : levM 26 = 0 := by decide
  omega
/-- A part: in round signs, or not. -/
theorem part_lev {t : T} (H : Reads t) (hok : t.okB = true) (h28 : t.lab.op ≠ 28) {n : Nat} (h1 : 1 ≤ n) (h9 : n ≤ 9) {r : Rd} {rest : List KT} (hs : see r = partT (n : Int) t ++ rest) (he : Ends n rest) (hb : r.begun + 2 * t.depth + 1 ≤ 200) :
    Gets (.lev n) r (ptOf t) (fwd r (partT (n : Int) t).length) := by
  by_cases hl : levM t.lab.op < (n : Int)
  · have e : partT (n : Int) t = tLp :: (toks t ++ [tRp]) := by unfold partT sur; rw [if_pos (by simpa using hl)]
    rw [e] at hs ⊢
    have hO := paren_opnd H hok h28 (r := r) (rest := rest) (by simpa using hs) hb
    have e2 : (tLp :: (toks t ++ [tRp])).length = (toks t).length + 2 := by simp
    rw [e2]
    exact gets_to h9 (Nat.le_refl _) (gets_nine hO) (fun j a b => he.sign (see_app hs e2.symm) j a (by omega))
  · have e : partT (n : Int) t = toks t := by unfold partT sur; rw [if_neg (by simpa using hl)]
    rw [e] at hs ⊢
    exact H.lev h28 n h1 h9 (fun h26 => absurd h26 (no26 (n := (n : Int)) (by omega) (by omega))) (fun _ => by omega) r rest hs he (by omega)
theorem part_opnd {t : T} (H : Reads t) (hok : t.okB = true) (h28 : t.lab.op ≠ 28) {r : Rd} {rest : List KT} (hs : see r = partT 9 t ++ rest) (he : isBL lp rest = false) (hb : r.begun + 2 * t.depth + 1 ≤ 200) :
    Gets .opnd r (ptOf t) (fwd r (partT 9 t).length) := by
  by_cases hl : levM t.lab.op < 9
  · have e : partT 9 t = tLp :: (toks t ++ [tRp]) := by unfold partT sur; rw [if_pos (by simpa using hl)]
    rw [e] at hs ⊢
    have hO := paren_opnd H hok h28 (r := r) (rest := rest) (by simpa using hs) hb
    have e2 : (tLp :: (toks t ++ [tRp])).length = (toks t).length + 2 := by simp
    rw [e2]; exact hO
  · have e : partT 9 t = toks t := by unfold partT sur; rw [if_neg (by simpa using hl)]
    rw [e] at hs ⊢
    exact H.opnd h28 (no26 (n := 9) (by omega) (by omega)) (by omega) r rest hs he (by omega)
/-- Of an operand of level 9 or 10. -/
theorem reads_of {t : T} (h28 : t.lab.op ≠ 28) (h9 : 9 ≤ levM t.lab.op) (hd : ∀ rest, isBL rp (toks t ++ rest) = false)
    (h : ∀ r rest, see r = toks t ++ rest → isBL lp rest = false → r.begun + 2 * t.depth ≤ 200 → Gets .opnd r (ptOf t) (fwd r (toks t).length)) : Reads t :=
  ⟨fun _ n h1 h2 _ _ r rest hs he hb => lev_of_opnd h1 h2 (h r rest hs he.1 hb) hs he,
   fun _ _ _ r rest hs he hb => h r rest hs he hb,
   fun _ _ n h1 h2 h6 hl r rest hs he hb x r' k => gets_ll h1 h2 (lev_of_opnd (by omega) (by omega) (h r rest hs he.1 hb) hs he) k,
   fun h => absurd h h28, hd⟩

theorem reads_leaf (x : Lab) (h : (T.l0 x).okB = true) (hn : namedT (.l0 x) = true) : Reads (.l0 x) := by
  have hp := ok_plain h
  simp only [T.lab] at hp
  have hp' := hp
  simp only [T.okB, Bool.and_eq_true] at h
  have hf := h.2
  simp only [plainB, Bool.and_eq_true, decide_eq_true_eq] at hp'
  have hop : x.op = 1 ∨ x.op = 2 ∨ x.op = 3 ∨ x.op = 27 := by
    have h1 := hp'.1.1.1.1; have h2 := hp'.1.1.1.2
    unfold fitsB at hf
    by_cases hu : unaryB x.op = true
    · rw [if_pos hu] at hf; cases hf
    · rw [if_neg hu] at hf
      by_cases h26 : x.op = 26
      · rw [if_pos h26] at hf; cases hf
      · rw [if_neg h26] at hf
        by_cases h27 : x.op = 27
        · exact .inr (.inr (.inr h27))
        · rw [if_neg h27] at hf
          by_cases h28 : x.op = 28
          · rw [if_pos h28] at hf; cases hf
          · rw [if_neg h28] at hf
            by_cases hb : binaryB x.op = true
            · rw [if_pos hb] at hf; cases hf
            · simp [unaryB] at hu; simp [binaryB] at hb; omega
  have hdep : (T.l0 x).depth = 1 := rfl
  simp only [namedT, Bool.or_eq_true, beq_iff_eq] at hn
  rcases hop with ho | ho | ho | ho
  · have hx : x = ⟨1, x.n, []⟩ := lab_eq ho rfl (name_nil hp (by omega) (by omega))
    have h0 := hp'.1.2; have h1 := hp'.2
    rw [if_pos ho] at h1
    have ht : toks (.l0 x) = [numT x.n] := by simp only [toks]; rw [if_pos ho]
    refine reads_of (by simp only [T.lab]; omega) (by simp only [T.lab, ho]; decide) (fun rest => by rw [ht]; rfl) (fun r rest hs he hb => ?_)
    rw [ht] at hs ⊢
    obtain ⟨c1, c2, c3, c4⟩ := see_cons (r := r.open_) (x := numT x.n) (b := rest) hs
    have := gets_single (r := r) (by omega) (no_sign (.inl c1) 9) (gets_num c1 (numB_of (n := x.n.toNat) c1 c2 (by omega)))
    rw [c2, show (numT x.n).2 = digs x.n.toNat from rfl, (digs_val _).1, Int.toNat_of_nonneg h0] at this
    rw [hx, ← ptOf_zero_op 1 x.n [] (by omega)]
    exact this
  · have hx : x = ⟨2, x.n, []⟩ := lab_eq ho rfl (name_nil hp (by omega) (by omega))
    have h0 := hp'.1.2; have h1 := hp'.2
    rw [if_neg (by omega), if_pos ho] at h1
    have ht : toks (.l0 x) = [if x.n = 1 then tTrue else tFalse] := by simp only [toks]; rw [if_neg (by omega), if_pos ho]
    by_cases hn1 : x.n = 1
    · rw [if_pos hn1] at ht
      refine reads_of (by simp only [T.lab]; omega) (by simp only [T.lab, ho]; decide) (fun rest => by rw [ht]; rfl) (fun r rest hs he hb => ?_)
      rw [ht] at hs ⊢
      have hs' : see r.open_ = tTrue :: rest := hs
      have := gets_single (r := r) (by omega) (by rw [sign_see, hs']; rfl) (gets_true (r := r.open_) (by rw [isB_see, hs']; rfl) (by rw [isB_see, hs']; rfl) (by rw [isB_see, hs']; rfl))
      rw [hx, hn1, ← ptOf_zero_op 2 1 [] (by omega)]
      exact this
    · rw [if_neg hn1] at ht
      refine reads_of (by simp only [T.lab]; omega) (by simp only [T.lab, ho]; decide) (fun rest => by rw [ht]; rfl) (fun r rest hs he hb => ?_)
      rw [ht] at hs ⊢
      have hs' : see r.open_ = tFalse :: rest := hs
      have := gets_single (r := r) (by omega) (by rw [sign_see, hs']; rfl) (gets_false (r := r.open_) (by rw [isB_see, hs']; rfl) (by rw [isB_see, hs']; rfl) (by rw [isB_see, hs']; rfl) (by rw [isB_see, hs']; rfl))
      rw [hx, show x.n = 0 by omega, ← ptOf_zero_op 2 0 [] (by omega)]
      exact this
  · have hx : x = ⟨3, 0, x.name⟩ := lab_eq ho (n_zero hp (by omega) (by omega) (by omega)) rfl
    have ht : toks (.l0 x) = [nameT x.name] := by simp only [toks]; rw [if_neg (by omega), if_neg (by omega), if_neg (by omega)]
    refine reads_of (by simp only [T.lab]; omega) (by simp only [T.lab, ho]; decide) (fun rest => by rw [ht]; rfl) (fun r rest hs he hb => ?_)
    rw [ht] at hs ⊢
    obtain ⟨c1, c2, c3, c4⟩ := see_cons (r := r.open_) (x := nameT x.name) (b := rest) hs
    have := gets_single (r := r) (by omega) (no_sign (.inr c1) 9) (gets_name c1 (by rw [c2]; exact name_some hp (.inl ho)) (gets_var _ (by rw [isB_see, c4]; exact he)))
    rw [c2] at this
    rw [hx, ← ptOf_zero_op 3 0 x.name (by omega)]
    exact this
  · have hx : x = ⟨27, 0, x.name⟩ := lab_eq ho (n_zero hp (by omega) (by omega) (by omega)) rfl
    have ht : toks (.l0 x) = [nameT x.name, tLp, tRp] := by simp only [toks]; rw [if_neg (by omega), if_neg (by omega), if_pos ho]
    refine reads_of (by simp only [T.lab]; omega) (by simp only [T.lab, ho]; decide) (fun rest => by rw [ht]; rfl) (fun r rest hs he hb => ?_)
    rw [ht] at hs ⊢
    obtain ⟨c1, c2, c3, c4⟩ := see_cons (r := r.open_) (x := nameT x.name) (b := tLp :: tRp :: rest) hs
    obtain ⟨d1, d2, d3, d4⟩ := see_cons c4
    have := gets_single (r := r) (by omega) (no_sign (.inr c1) 9) (gets_name c1 (by rw [c2]; exact name_some hp (.inr ho)) (gets_call0 _ (by rw [isB_see, c4]; rfl) (by rw [isB_see, d4]; rfl)))
    rw [c2] at this
    have e : joined 27 0 x.name [] = ptOf (.l0 x) := by
      have := ptOf_call x.name []
      rw [hx]; exact this
    rw [← e]
    exact this

theorem kd_rp {o : Int} (h : unaryB o = true) (l : List KT) : isBL rp (kd (opText o) :: l) = false := by
  have hh : ∀ o ∈ [(4 : Int), 5, 21, 22, 23, 24, 25], isBL rp [kd (opText o)] = false := by decide +kernel
  have hm : o ∈ [(4 : Int), 5, 21, 22, 23, 24, 25] := by simp [unaryB] at h; simp; omega
  exact hh o hm
theorem sur_head {b : Bool} {l rest : List KT} (h : ∀ rest, isBL rp (l ++ rest) = false) : isBL rp (sur b l ++ rest) = false := by
  unfold sur; split
  · rfl
  · exact h rest
theorem reads_one (x : Lab) (p : T) (H : Reads p) (h : (T.l1 x p).okB = true) : Reads (.l1 x p) := by
  have hp := ok_plain h
  simp only [T.lab] at hp
  have hp' := hp
  simp only [T.okB, Bool.and_eq_true] at h
  obtain ⟨⟨⟨_, hf⟩, ha⟩, hok⟩ := h
  simp only [plainB, Bool.and_eq_true, decide_eq_true_eq] at hp'
  have hdep : (T.l1 x p).depth = p.depth + 1 := rfl
  have hop : unaryB x.op = true ∨ x.op = 27 ∨ x.op = 28 := by
    unfold fitsB at hf
    by_cases hu : unaryB x.op = true
    · exact .inl hu
    · rw [if_neg hu] at hf
      by_cases h26 : x.op = 26
      · rw [if_pos h26] at hf; cases hf
      · rw [if_neg h26] at hf
        by_cases h27 : x.op = 27
        · exact .inr (.inl h27)
        · rw [if_neg h27] at hf
          by_cases h28 : x.op = 28
          · exact .inr (.inr h28)
          · rw [if_neg h28] at hf
            split at hf <;> cases hf
  rcases hop with ho | ho | ho
  · have hu := ho
    simp [unaryB] at hu
    have h28 : p.lab.op ≠ 28 := by
      simp [argsT, argsL] at ha
      intro h
      have e27 : (x.op == 27) = false := beq_eq_false_iff_ne.2 (by omega)
      rw [h, e27] at ha
      exact absurd ha (by decide)
    obtain ⟨u1, u2⟩ := un_fact ho
    have hnm := name_nil hp (by omega) (by omega)
    have ht : toks (.l1 x p) = kd (opText x.op) :: ((if x.op = 25 then [numT x.n] else []) ++ partT 9 p) := by
      simp only [toks]; rw [if_neg (by omega), if_neg (by omega)]; rfl
    refine reads_of (by simp only [T.lab]; omega) (by simp only [T.lab]; omega) (fun rest => by rw [ht]; exact kd_rp ho _) (fun r rest hs he hb => ?_)
    rw [hdep] at hb
    rw [ht] at hs ⊢
    have hs' : see r.open_ = kd (opText x.op) :: ((if x.op = 25 then [numT x.n] else []) ++ partT 9 p ++ rest) := by rw [see_open, hs]; rfl
    obtain ⟨c1, c2, c3, c4⟩ := see_cons hs'
    have hsg : r.open_.sign 9 = some (x.op, false) := by rw [sign_see, hs']; exact u2 _
    by_cases h25 : x.op = 25
    · rw [if_pos h25] at c4 ⊢
      have c4' : see r.open_.adv = numT x.n :: (partT 9 p ++ rest) := c4
      obtain ⟨d1, d2, d3, d4⟩ := see_cons c4'
      have h0 := hp'.1.2; have h1 := hp'.2
      rw [if_neg (by omega), if_neg (by omega), if_pos h25] at h1
      have hO := part_opnd H hok h28 (r := r.open_.adv.adv) d4 he (by show r.begun + 1 + _ + 1 ≤ 200; omega)
      have := gets_within (r := r) (by omega) hsg h25 (numB_of (n := x.n.toNat) d1 d2 (by omega)) hO
      rw [d2, show (numT x.n).2 = digs x.n.toNat from rfl, (digs_val _).1, Int.toNat_of_nonneg h0] at this
      have hx : x = ⟨25, x.n, []⟩ := lab_eq h25 rfl hnm
      rw [hx, ← ptOf_un 25 x.n [] p (by decide)]
      have e : (fwd r.open_.adv.adv (partT 9 p).length).shut = fwd r (kd (opText x.op) :: ([numT x.n] ++ partT 9 p)).length := by
        simp [fwd, Rd.adv, Rd.open_, Rd.shut]; omega
      rw [e] at this
      rw [h25] at this
      exact this
    · rw [if_neg h25] at c4 ⊢
      have hO := part_opnd H hok h28 (r := r.open_.adv) (by simpa using c4) he (by show r.begun + 1 + _ + 1 ≤ 200; omega)
      have := gets_unary (r := r) (by omega) hsg h25 hO
      have hx : x = ⟨x.op, 0, []⟩ := lab_eq rfl (n_zero hp (by omega) (by omega) (by omega)) hnm
      have e2 : ptOf (.l1 x p) = joined x.op 0 [] [ptOf p] := by rw [ptOf_un x.op 0 [] p ho, ← hx]
      rw [e2]
      have e : (fwd r.open_.adv (partT 9 p).length).shut = fwd r (kd (opText x.op) :: ([] ++ partT 9 p)).length := by
        simp [fwd, Rd.adv, Rd.open_, Rd.shut]; omega
      rw [e] at this
      exact this
  · have h28 : p.lab.op = 28 := by simp [argsT, argsL, ho] at ha; exact ha
    have ht : toks (.l1 x p) = nameT x.name :: tLp :: (toks p ++ [tRp]) := by simp only [toks]; rw [if_pos ho]
    have hx : x = ⟨27, 0, x.name⟩ := lab_eq ho (n_zero hp (by omega) (by omega) (by omega)) rfl
    obtain ⟨u, us, e1, e2⟩ := args_chain p hok h28
    refine reads_of (by simp only [T.lab]; omega) (by simp only [T.lab, ho]; decide) (fun rest => by rw [ht]; rfl) (fun r rest hs he hb => ?_)
    rw [hdep] at hb
    rw [ht] at hs ⊢
    have hs' : see r.open_ = nameT x.name :: tLp :: (toks p ++ tRp :: rest) := by rw [see_open, hs]; simp
    obtain ⟨c1, c2, c3, c4⟩ := see_cons hs'
    obtain ⟨d1, d2, d3, d4⟩ := see_cons c4
    have hend := see_app (a := toks p) d4 rfl
    have hlast := gets_last (r := fwd r.open_.adv.adv (toks p).length) (ps := (opsOf p).map ptOf) x.name (by rw [isB_see, hend]; rfl) (by rw [isB_see, hend]; rfl)
    obtain ⟨q, r1, k1, k2⟩ := H.args h28 x.name r.open_.adv.adv (tRp :: rest) d4 (ends_rp rest) (by show r.begun + 1 + _ ≤ 200; omega) _ _ hlast
    have := gets_single (r := r) (by omega) (no_sign (.inr c1) 9) (gets_name c1 (by rw [c2]; exact name_some hp (.inr ho)) (by
      rw [c2]
      exact gets_call _ (by rw [isB_see, c4]; rfl) (by rw [isB_see, d4]; exact H.head _) k1 k2))
    have e3 : joined 27 0 x.name ((opsOf p).map ptOf) = ptOf (.l1 x p) := by
      rw [e1, ptOf_call]
      rw [hx]
      simp only [callT]
      rw [← e2]
    rw [e3] at this
    have e : (fwd r.open_.adv.adv (toks p).length).adv.shut = fwd r (nameT x.name :: tLp :: (toks p ++ [tRp])).length := by
      simp [fwd, Rd.adv, Rd.open_, Rd.shut]; omega
    rw [e] at this
    exact this
  · have h28 : p.lab.op ≠ 28 := by simp [argsT, argsL, ho] at ha; exact ha
    have ht : toks (.l1 x p) = toks p := by simp only [toks]; rw [if_neg (by omega), if_pos ho]
    refine ⟨fun h => absurd ho h, fun h => absurd ho h, fun h => absurd ho h, fun _ s r rest hs he hb x' r' k => ?_, fun rest => by rw [ht]; exact H.head rest⟩
    rw [hdep] at hb
    rw [ht] at hs k
    exact ⟨ptOf p, _, H.lev h28 1 (by omega) (by omega) (fun _ => rfl) (fun h26 => lev_pos hok h26 h28) r rest hs he (by omega), k⟩
end Go.Proofs.YtgohhnbdicdenaaGreatDoor.Sh

/- A part is written, where its node is. Conditions: a writer lies in memory. -/
namespace Go.Proofs.YtgohhnbdicdenaaGreatDoor.Sh
open Go.ChangeShapes Go.WideShapes Go.ChangeAt Go.RowKit
open Go.Proofs.YtgohhnbdicdenaaGreatDoor.Tr (str ret_bool ret_int Bytes Nd T Nodes May tree kidsM mkL mkT fitsB argsL unaryB binaryB ndCells)
set_option linter.unusedVariables false
set_option linter.unusedSimpArgs false

set_option maxRecDepth 100000 in
set_option maxHeartbeats 1600000 in
theorem part_of {W0 : World} {G O C : Nat} {e : List Nd} (cx : Cx W0 G O C e) {i : Nat} {x : Nd} (hx : e[i]? = some x) (hn : NodeOk W0 (.slice (some ⟨G, O, none⟩) e.length C) e i x) : PartOk W0 (.slice (some ⟨G, O, none⟩) e.length C) e i := by
  intro w l a hw hl
  have hop : (tree e i).lab.op = x.op := by rw [Tr.tree_lab cx.may.ahead hx]; rfl
  have hi := (List.getElem?_eq_some_iff.1 hx).1
  have hen := cx.may.le
  have hlev := level_any x.op w (cx.sgAt hw.below)
  have hP : partT a (tree e i) = sur (decide (levM x.op < a)) (toks (tree e i)) := by unfold partT; rw [hop]
  rw [hP] at hl ⊢
  rw [sur_len] at hl
  obtain ⟨L, hL⟩ : ∃ L, levM x.op = L := ⟨_, rfl⟩
  rw [hL] at hlev hl ⊢
  have HL := Lib.hid hlev
  have HN := Lib.hid hn
  have HX := Lib.hid hx
  have CX := Lib.hid cx
  have st : St W0 w (.slice (some ⟨G, O, none⟩) e.length C) l w := ⟨hw, Kept.refl _⟩
  have cv := st.ev
  obtain ⟨c0, c1, c2, c3, c4, c5⟩ := cx.cells hw.below hx
  have ST := Lib.hid st
  clear hop hlev hP hL hn hx cx hw st
  generalize hK : toks (tree e i) = K at hl ⊢
  have HK := Lib.hid hK
  clear hK
  obtain ⟨op, na, nb, nc, nn, nm⟩ := x
  simp only at c0 c1 c2 c3 c4 c5 HL
  by_cases hB : L < a
  · have hd : decide (a ≤ L) = false := by simpa using hB
    have HS := Lib.hid (show l ++ txts (sur (decide (L < a)) K) = ((l ++ [[40]]) ++ txts K) ++ [[41]] by
      rw [decide_eq_true hB]; simp [sur, txts, tLp, tRp])
    rw [if_pos (decide_eq_true hB)] at hl
    rw [HS.out]
    clear hB
    go_enter Tryz.func25, Tryz.ntmps25
    go_wp2_with fail
    refine HL.out.mono ?_
    rintro r w1 ⟨rfl, hb1⟩
    have ST1 := Lib.hid (ST.out.up hb1)
    clear hb1 c0 c1 c2 c3 c4 c5 cv
    go_wp2_with fail
    refine (put1 (t := [40]) rfl (by simp) ST1.out.wr (by omega)).mono ?_
    rintro r w2 ⟨rfl, hw2, hk2⟩
    have st2 := ST1.out.to hw2 hk2
    have cv := st2.ev
    obtain ⟨c0, c1, c2, c3, c4, c5⟩ := CX.out.cells hw2.below HX.out
    simp only at c0 c1 c2 c3 c4 c5
    have ST2 := Lib.hid st2
    clear hw2 hk2 st2
    go_wp2_with fail
    refine (HN.out _ _ ST2.out.wr (by rw [HK.out, List.length_append]; simp; omega)).mono ?_
    rintro r w3 ⟨rfl, hw3, hk3⟩
    rw [HK.out] at hw3
    have ST3 := Lib.hid (ST2.out.to hw3 hk3)
    clear hw3 hk3 c0 c1 c2 c3 c4 c5 cv
    go_wp2_with fail
    refine (put1 (t := [41]) rfl (by simp) ST3.out.wr (by rw [List.length_append, List.length_append, txts_len]; simp; omega)).mono ?_
    rintro r w4 ⟨rfl, hw4, hk4⟩
    have ST4 := Lib.hid (ST3.out.to hw4 hk4)
    clear hw4 hk4
    go_wp2
    go_end0
    exact ⟨rfl, ST4.out.wr, ST4.out.kept⟩
  · have hd : decide (a ≤ L) = true := by simpa using hB
    have HS := Lib.hid (show l ++ txts (sur (decide (L < a)) K) = l ++ txts K by
      rw [decide_eq_false hB]; simp [sur])
    rw [if_neg (by simpa using hB)] at hl
    rw [HS.out]
    clear hB
    go_enter Tryz.func25, Tryz.ntmps25
    go_wp2_with fail
    refine HL.out.mono ?_
    rintro r w1 ⟨rfl, hb1⟩
    have st1 := ST.out.up hb1
    clear c0 c1 c2 c3 c4 c5 cv
    have cv := st1.ev
    obtain ⟨c0, c1, c2, c3, c4, c5⟩ := CX.out.cells st1.wr.below HX.out
    simp only at c0 c1 c2 c3 c4 c5
    have ST1 := Lib.hid st1
    clear hb1 st1
    go_wp2_with fail
    refine (HN.out _ _ ST1.out.wr (by rw [HK.out]; omega)).mono ?_
    rintro r w3 ⟨rfl, hw3, hk3⟩
    rw [HK.out] at hw3
    have ST3 := Lib.hid (ST1.out.to hw3 hk3)
    clear hw3 hk3
    go_wp2
    go_end0
    exact ⟨rfl, ST3.out.wr, ST3.out.kept⟩
end Go.Proofs.YtgohhnbdicdenaaGreatDoor.Sh

/- Arguments are written, where those ahead are. Conditions: a writer lies in memory. -/
namespace Go.Proofs.YtgohhnbdicdenaaGreatDoor.Sh
open Go.ChangeShapes Go.WideShapes Go.ChangeAt Go.RowKit
open Go.Proofs.YtgohhnbdicdenaaGreatDoor.Tr (str ret_bool ret_int Bytes Nd T Nodes May tree kidsM mkL mkT fitsB argsL unaryB binaryB ndCells)
set_option linter.unusedVariables false
set_option linter.unusedSimpArgs false

theorem part_zero {t : T} (h : t.okB = true) (h28 : t.lab.op ≠ 28) : partT 0 t = toks t := by
  unfold partT
  have : ¬ levM t.lab.op < 0 := by
    by_cases h26 : t.lab.op = 26
    · rw [h26]; decide
    · have := lev_pos h h26 h28; omega
  rw [decide_eq_false this]; rfl
set_option maxRecDepth 100000 in
set_option maxHeartbeats 1600000 in
theorem args_one {W0 : World} {G O C : Nat} {e : List Nd} (cx : Cx W0 G O C e) {i j : Nat} {x : Nd} (hx : e[i]? = some x) (h28 : x.op = 28) (ha : x.a = (j : Int)) (hb : x.b = -1) (ht : tree e i = .l1 x.lab (tree e j)) (hj : (tree e j).lab.op ≠ 28) (hjl : j < e.length)
    (hp : PartOk W0 (.slice (some ⟨G, O, none⟩) e.length C) e j) : ArgsOk W0 (.slice (some ⟨G, O, none⟩) e.length C) e i := by
  intro w l hw hl
  have hi := (List.getElem?_eq_some_iff.1 hx).1
  have hen := cx.may.le
  have hz := part_zero (cx.may.ok j hjl) hj
  have hK : toks (tree e i) = partT 0 (tree e j) := by
    rw [ht, hz]; simp [toks, Tr.Nd.lab, h28]
  rw [hK] at hl ⊢
  have HP := Lib.hid hp
  have CX := Lib.hid cx
  have HX := Lib.hid hx
  have st : St W0 w (.slice (some ⟨G, O, none⟩) e.length C) l w := ⟨hw, Kept.refl _⟩
  have cv := st.ev
  obtain ⟨c0, c1, c2, c3, c4, c5⟩ := cx.cells hw.below hx
  have ST := Lib.hid st
  generalize hQ : partT 0 (tree e j) = Q at hl hK hz ⊢
  have HQ := Lib.hid hQ
  obtain ⟨op, na, nb, nc, nn, nm⟩ := x
  simp only at c0 c1 c2 c3 c4 c5 ha hb
  subst ha; subst hb
  clear h28 ht hj hp hK hz hQ hx cx hw st
  go_enter Tryz.func81, Tryz.ntmps81
  go_wp2_with fail
  refine (HP.out _ l 0 ((ST.out.up (by repeat (first | with_reducible refine Below.setCell ?_ (by simp) _ | with_reducible refine Below.alloc ?_ (by simp) _ | exact Below.refl _ _))).wr) (by rw [HQ.out]; exact hl)).mono ?_
  rintro r w3 ⟨rfl, hw3, hk3⟩
  rw [HQ.out] at hw3
  have HW3 := Lib.hid hw3
  have HK3 := Lib.hid hk3
  clear hw3 hk3
  go_wp2
  go_end0
  exact ⟨rfl, HW3.out, (Kept.of_below (by repeat (first | with_reducible refine Below.setCell ?_ (by simp) _ | with_reducible refine Below.alloc ?_ (by simp) _ | exact Below.refl _ _))).trans HK3.out⟩
set_option maxRecDepth 100000 in
set_option maxHeartbeats 1600000 in
theorem args_two {W0 : World} {G O C : Nat} {e : List Nd} (cx : Cx W0 G O C e) {i j k : Nat} {x : Nd} (hx : e[i]? = some x) (h28 : x.op = 28) (hb : x.b = (j : Int)) (ha : x.a = (k : Int)) (ht : tree e i = .l2 x.lab (tree e j) (tree e k)) (hk : (tree e k).lab.op ≠ 28) (hkl : k < e.length)
    (hp : PartOk W0 (.slice (some ⟨G, O, none⟩) e.length C) e k) (hq : ArgsOk W0 (.slice (some ⟨G, O, none⟩) e.length C) e j) : ArgsOk W0 (.slice (some ⟨G, O, none⟩) e.length C) e i := by
  intro w l hw hl
  have hi := (List.getElem?_eq_some_iff.1 hx).1
  have hen := cx.may.le
  have hz := part_zero (cx.may.ok k hkl) hk
  have hK : toks (tree e i) = toks (tree e j) ++ tCo :: partT 0 (tree e k) := by
    rw [ht, hz]; simp [toks, Tr.Nd.lab, h28]
  rw [hK, List.length_append, List.length_cons] at hl
  rw [hK, txts_app, txts_cons]
  have HP := Lib.hid hp
  have HQ := Lib.hid hq
  have st : St W0 w (.slice (some ⟨G, O, none⟩) e.length C) l w := ⟨hw, Kept.refl _⟩
  have cv := st.ev
  obtain ⟨c0, c1, c2, c3, c4, c5⟩ := cx.cells hw.below hx
  have ST := Lib.hid st
  generalize hS : partT 0 (tree e k) = S at hl hK hz ⊢
  generalize hR : toks (tree e j) = R at hl hK ⊢
  have HS := Lib.hid hS
  have HR := Lib.hid hR
  have HE := Lib.hid (show l ++ (txts R ++ tCo.2 :: txts S) = ((l ++ txts R) ++ [[44]]) ++ txts S by simp [tCo])
  rw [HE.out]
  obtain ⟨op, na, nb, nc, nn, nm⟩ := x
  simp only at c0 c1 c2 c3 c4 c5 ha hb
  subst ha; subst hb
  have hbx : BoxAt ((w.alloc (.cells #[.int .i64 op, .int .i64 k, .int .i64 j, .int .i64 nc, .int .i64 nn, .string (str nm)] 58))) w.heap.size ⟨op, k, j, nc, nn, nm⟩ := heap_alloc_new w _
  have HBX := Lib.hid hbx
  clear h28 ht hk hp hq hK hz hS hR hx cx hw st hbx
  go_enter Tryz.func81, Tryz.ntmps81
  go_wp2_with fail
  refine (HQ.out _ l (alloc_st ST.out _).wr (by rw [HR.out]; omega)).mono ?_
  rintro r w3 ⟨rfl, hw3, hk3⟩
  rw [HR.out] at hw3
  have st3 := (alloc_st ST.out _).to hw3 hk3
  have HB3 := Lib.hid (HBX.out.kept hk3)
  have ST3 := Lib.hid st3
  clear hw3 hk3 st3 c0 c1 c2 c3 c4 c5 cv
  go_wp2_with fail
  refine (put1 (t := [44]) rfl (by simp) ST3.out.wr (by rw [List.length_append, txts_len]; omega)).mono ?_
  rintro r w4 ⟨rfl, hw4, hk4⟩
  have ST4 := Lib.hid (ST3.out.to hw4 hk4)
  have hb4 := HB3.out.kept hk4
  obtain ⟨c0, c1, c2, c3, c4, c5⟩ := hb4.cells
  simp only at c0 c1 c2 c3 c4 c5
  clear hw4 hk4 hb4
  go_wp2_with fail
  refine (HP.out _ _ 0 ST4.out.wr (by rw [HS.out, List.length_append, List.length_append, txts_len]; simp; omega)).mono ?_
  rintro r w5 ⟨rfl, hw5, hk5⟩
  rw [HS.out] at hw5
  have ST5 := Lib.hid (ST4.out.to hw5 hk5)
  clear hw5 hk5
  go_wp2
  go_end0
  exact ⟨rfl, ST5.out.wr, ST5.out.kept⟩
end Go.Proofs.YtgohhnbdicdenaaGreatDoor.Sh

/- Operators are written, where their operands are. Conditions: a writer lies in memory. -/
namespace Go.Proofs.YtgohhnbdicdenaaGreatDoor.Sh
open Go.ChangeShapes Go.WideShapes Go.ChangeAt Go.RowKit
open Go.Proofs.YtgohhnbdicdenaaGreatDoor.Tr (str ret_bool ret_int Bytes Nd T Nodes May tree kidsM mkL mkT fitsB argsL unaryB binaryB ndCells)
set_option linter.unusedVariables false
set_option linter.unusedSimpArgs false

theorem bin_level {o : Int} (h : binaryB o = true) : 1 ≤ levM o ∧ levM o ≤ 8 := by
  obtain ⟨h1, h2, h3, _⟩ := bin_fact h
  rw [h3]; omega
theorem plain_lab {y : Tr.Lab} (h : Tr.plainB y = true) (h1 : y.op = 1 ∨ y.op = 2 ∨ y.op = 25) : 0 ≤ y.n ∧ y.n ≤ 2147483647 := by
  simp only [Tr.plainB, Bool.and_eq_true, decide_eq_true_eq] at h
  refine ⟨h.1.2, ?_⟩
  have h3 := h.2
  rcases h1 with h1 | h1 | h1 <;> rw [h1] at h3 <;> simp at h3 <;> omega
theorem plain_n {x : Nd} (h : Tr.plainB x.lab = true) (h1 : x.op = 1 ∨ x.op = 2 ∨ x.op = 25) : 0 ≤ x.n ∧ x.n ≤ 2147483647 := plain_lab h h1
set_option maxRecDepth 100000 in
set_option maxHeartbeats 1600000 in
theorem oper_un {W0 : World} {G O C : Nat} {e : List Nd} (cx : Cx W0 G O C e) {i j : Nat} {x : Nd} (hx : e[i]? = some x) (hu : unaryB x.op = true) (h25 : x.op ≠ 25) (ha : x.a = (j : Int)) (ht : tree e i = .l1 x.lab (tree e j))
    (hp : PartOk W0 (.slice (some ⟨G, O, none⟩) e.length C) e j) : OperOk W0 (.slice (some ⟨G, O, none⟩) e.length C) e i x := by
  intro w l hw hl
  have h27 : x.op ≠ 27 := by rintro h; rw [h] at hu; exact absurd hu (by decide)
  have h28 : x.op ≠ 28 := by rintro h; rw [h] at hu; exact absurd hu (by decide)
  have hK : toks (tree e i) = kd (opText x.op) :: partT 9 (tree e j) := by
    rw [ht]; simp [toks, Tr.Nd.lab, h27, h28, h25, partT]
  rw [hK, List.length_cons] at hl
  rw [hK, txts_cons]
  have hL := (un_fact hu).1
  obtain ⟨tx, htx⟩ : ∃ t, opText x.op = t := ⟨_, rfl⟩
  have HO : Hid (∀ w1, Below W0.heap.size W0 w1 → Calls Tryz.prog 14 #[.int .i64 x.op] w1 fun e w' => e = .returned (.string (str tx)) ∧ Below w1.heap.size w1 w') := Lib.hid (fun w1 h => by rw [← htx]; exact op_any x.op w1 (cx.sgAt h))
  have HLV : Hid (∀ w1, Below W0.heap.size W0 w1 → Calls Tryz.prog 16 #[.int .i64 x.op] w1 fun e w' => e = .returned (.int .i64 9) ∧ Below w1.heap.size w1 w') := Lib.hid (fun w1 h => by rw [← hL]; exact level_any x.op w1 (cx.sgAt h))
  have hd : (x.op == 25) = false := by simpa using h25
  generalize hS : partT 9 (tree e j) = S at hl hK ⊢
  have HS := Lib.hid hS
  have HE := Lib.hid (show l ++ (kd (opText x.op)).2 :: txts S = (l ++ [tx]) ++ txts S by simp [kd, htx])
  rw [HE.out]
  have HP := Lib.hid hp
  have ST := Lib.hid (show St W0 w (.slice (some ⟨G, O, none⟩) e.length C) l w from ⟨hw, Kept.refl _⟩)
  obtain ⟨op, na, nb, nc, nn, nm⟩ := x
  simp only at ha hd HO HLV
  subst ha
  have hbx : BoxAt ((w.alloc (.cells #[.int .i64 op, .int .i64 j, .int .i64 nb, .int .i64 nc, .int .i64 nn, .string (str nm)] 58))) w.heap.size ⟨op, j, nb, nc, nn, nm⟩ := heap_alloc_new w _
  have HBX := Lib.hid hbx
  clear hu h25 h27 h28 hK hL ht hp hS hx cx hw hbx HE htx
  go_enter Tryz.func82, Tryz.ntmps82
  go_wp2_with fail
  refine (HLV.out _ (alloc_st ST.out _).wr.below).mono ?_
  rintro r w1 ⟨rfl, hb1⟩
  have ST1 := Lib.hid ((alloc_st ST.out _).up hb1)
  have hbx1 := HBX.out.kept (Kept.of_below hb1)
  obtain ⟨c0, c1, c2, c3, c4, c5⟩ := hbx1.cells
  simp only at c0 c1 c2 c3 c4 c5
  have HB1 := Lib.hid hbx1
  clear hb1 hbx1
  go_wp2_with fail
  refine (HO.out _ ST1.out.wr.below).mono ?_
  rintro r w2 ⟨rfl, hb2⟩
  have ST2 := Lib.hid (ST1.out.up hb2)
  have HB2 := Lib.hid (HB1.out.kept (Kept.of_below hb2))
  clear hb2 c0 c1 c2 c3 c4 c5
  go_wp2_with fail
  refine (put1 (t := tx) rfl (by simp) ST2.out.wr (by omega)).mono ?_
  rintro r w3 ⟨rfl, hw3, hk3⟩
  have ST3 := Lib.hid (ST2.out.to hw3 hk3)
  have hbx3 := HB2.out.kept hk3
  obtain ⟨c0, c1, c2, c3, c4, c5⟩ := hbx3.cells
  simp only at c0 c1 c2 c3 c4 c5
  have HB3 := Lib.hid hbx3
  clear hw3 hk3 hbx3
  go_wp2_with fail
  refine (HP.out _ _ 9 ST3.out.wr (by rw [HS.out, List.length_append]; simp; omega)).mono ?_
  rintro r w4 ⟨rfl, hw4, hk4⟩
  rw [HS.out] at hw4
  have ST4 := Lib.hid (ST3.out.to hw4 hk4)
  clear hw4 hk4
  go_wp2
  go_end0
  exact ⟨rfl, ST4.out.wr, ST4.out.kept⟩
set_option maxRecDepth 100000 in
set_option maxHeartbeats 1600000 in
theorem oper_within {W0 : World} {G O C : Nat} {e : List Nd} (cx : Cx W0 G O C e) {i j : Nat} {x : Nd} (hx : e[i]? = some x) (h25 : x.op = 25) (ha : x.a = (j : Int)) (ht : tree e i = .l1 x.lab (tree e j))
    (hp : PartOk W0 (.slice (some ⟨G, O, none⟩) e.length C) e j) : OperOk W0 (.slice (some ⟨G, O, none⟩) e.length C) e i x := by
  intro w l hw hl
  have hK : toks (tree e i) = kd (opText x.op) :: numT x.n :: partT 9 (tree e j) := by
    rw [ht]; simp [toks, Tr.Nd.lab, h25, partT]
  rw [hK, List.length_cons, List.length_cons] at hl
  rw [hK, txts_cons, txts_cons]
  have hL : levM x.op = 9 := by rw [h25]; decide
  have hnn := plain_n (cx.may.node i x hx).plain (.inr (.inr h25))
  obtain ⟨tx, htx⟩ : ∃ t, opText x.op = t := ⟨_, rfl⟩
  have HO : Hid (∀ w1, Below W0.heap.size W0 w1 → Calls Tryz.prog 14 #[.int .i64 x.op] w1 fun e w' => e = .returned (.string (str tx)) ∧ Below w1.heap.size w1 w') := Lib.hid (fun w1 h => by rw [← htx]; exact op_any x.op w1 (cx.sgAt h))
  have HLV : Hid (∀ w1, Below W0.heap.size W0 w1 → Calls Tryz.prog 16 #[.int .i64 x.op] w1 fun e w' => e = .returned (.int .i64 9) ∧ Below w1.heap.size w1 w') := Lib.hid (fun w1 h => by rw [← hL]; exact level_any x.op w1 (cx.sgAt h))
  obtain ⟨dg, hdg⟩ : ∃ t, digs x.n.toNat = t := ⟨_, rfl⟩
  have HI : Hid (∀ w1, Below W0.heap.size W0 w1 → Calls Tryz.prog 79 #[.int .i64 x.n] w1 fun e w' => e = .returned (.string (str dg)) ∧ Below w1.heap.size w1 w') := Lib.hid (fun w1 h => by rw [← hdg]; exact itoa_any x.n hnn.1 hnn.2 w1 (cx.tabAt h))
  generalize hS : partT 9 (tree e j) = S at hl hK ⊢
  have HS := Lib.hid hS
  have HE := Lib.hid (show l ++ (kd (opText x.op)).2 :: (numT x.n).2 :: txts S = ((l ++ [tx]) ++ [dg]) ++ txts S by simp [kd, htx, numT, hdg])
  rw [HE.out]
  have HP := Lib.hid hp
  have ST := Lib.hid (show St W0 w (.slice (some ⟨G, O, none⟩) e.length C) l w from ⟨hw, Kept.refl _⟩)
  obtain ⟨op, na, nb, nc, nn, nm⟩ := x
  simp only at ha h25 HO HLV HI
  subst ha; subst h25
  have hbx : BoxAt ((w.alloc (.cells #[.int .i64 25, .int .i64 j, .int .i64 nb, .int .i64 nc, .int .i64 nn, .string (str nm)] 58))) w.heap.size ⟨25, j, nb, nc, nn, nm⟩ := heap_alloc_new w _
  have HBX := Lib.hid hbx
  clear hK hL ht hp hS hx cx hw hbx HE htx hnn hdg
  go_enter Tryz.func82, Tryz.ntmps82
  go_wp2_with fail
  refine (HLV.out _ (alloc_st ST.out _).wr.below).mono ?_
  rintro r w1 ⟨rfl, hb1⟩
  have ST1 := Lib.hid ((alloc_st ST.out _).up hb1)
  have hbx1 := HBX.out.kept (Kept.of_below hb1)
  obtain ⟨c0, c1, c2, c3, c4, c5⟩ := hbx1.cells
  simp only at c0 c1 c2 c3 c4 c5
  have HB1 := Lib.hid hbx1
  clear hb1 hbx1
  go_wp2_with fail
  refine (HO.out _ ST1.out.wr.below).mono ?_
  rintro r w2 ⟨rfl, hb2⟩
  have ST2 := Lib.hid (ST1.out.up hb2)
  have HB2 := Lib.hid (HB1.out.kept (Kept.of_below hb2))
  clear hb2 c0 c1 c2 c3 c4 c5
  go_wp2_with fail
  refine (put1 (t := tx) rfl (by simp) ST2.out.wr (by omega)).mono ?_
  rintro r w3 ⟨rfl, hw3, hk3⟩
  have ST3 := Lib.hid (ST2.out.to hw3 hk3)
  have hbx3 := HB2.out.kept hk3
  obtain ⟨c0, c1, c2, c3, c4, c5⟩ := hbx3.cells
  simp only at c0 c1 c2 c3 c4 c5
  have HB3 := Lib.hid hbx3
  clear hw3 hk3 hbx3
  go_wp2_with fail
  refine (HI.out _ ST3.out.wr.below).mono ?_
  rintro r w4 ⟨rfl, hb4⟩
  have ST4 := Lib.hid (ST3.out.up hb4)
  have HB4 := Lib.hid (HB3.out.kept (Kept.of_below hb4))
  clear hb4 c0 c1 c2 c3 c4 c5
  go_wp2_with fail
  refine (put1 (t := dg) rfl (by simp) ST4.out.wr (by rw [List.length_append]; simp; omega)).mono ?_
  rintro r w5 ⟨rfl, hw5, hk5⟩
  have ST5 := Lib.hid (ST4.out.to hw5 hk5)
  have hbx5 := HB4.out.kept hk5
  obtain ⟨c0, c1, c2, c3, c4, c5⟩ := hbx5.cells
  simp only at c0 c1 c2 c3 c4 c5
  clear hw5 hk5 hbx5
  go_wp2_with fail
  refine (HP.out _ _ 9 ST5.out.wr (by rw [HS.out, List.length_append, List.length_append]; simp; omega)).mono ?_
  rintro r w6 ⟨rfl, hw6, hk6⟩
  rw [HS.out] at hw6
  have ST6 := Lib.hid (ST5.out.to hw6 hk6)
  clear hw6 hk6
  go_wp2
  go_end0
  exact ⟨rfl, ST6.out.wr, ST6.out.kept⟩
set_option maxRecDepth 100000 in
set_option maxHeartbeats 1600000 in
theorem oper_bin {W0 : World} {G O C : Nat} {e : List Nd} (cx : Cx W0 G O C e) {i j k : Nat} {x : Nd} (hx : e[i]? = some x) (hbn : binaryB x.op = true) (ha : x.a = (j : Int)) (hb : x.b = (k : Int)) (ht : tree e i = .l2 x.lab (tree e j) (tree e k))
    (hp : PartOk W0 (.slice (some ⟨G, O, none⟩) e.length C) e j) (hq : PartOk W0 (.slice (some ⟨G, O, none⟩) e.length C) e k) : OperOk W0 (.slice (some ⟨G, O, none⟩) e.length C) e i x := by
  intro w l hw hl
  have h28 : x.op ≠ 28 := by rintro h; rw [h] at hbn; exact absurd hbn (by decide)
  obtain ⟨L, hL⟩ : ∃ L, levM x.op = L := ⟨_, rfl⟩
  have hlv := bin_level hbn
  rw [hL] at hlv
  have hK : toks (tree e i) = partT (leftOf L) (tree e j) ++ kd (opText x.op) :: partT (rightOf L) (tree e k) := by
    rw [ht]; simp [toks, Tr.Nd.lab, h28, partT, hL]
  rw [hK, List.length_append, List.length_cons] at hl
  rw [hK, txts_app, txts_cons]
  obtain ⟨tx, htx⟩ : ∃ t, opText x.op = t := ⟨_, rfl⟩
  have HO : Hid (∀ w1, Below W0.heap.size W0 w1 → Calls Tryz.prog 14 #[.int .i64 x.op] w1 fun e w' => e = .returned (.string (str tx)) ∧ Below w1.heap.size w1 w') := Lib.hid (fun w1 h => by rw [← htx]; exact op_any x.op w1 (cx.sgAt h))
  have HLV : Hid (∀ w1, Below W0.heap.size W0 w1 → Calls Tryz.prog 16 #[.int .i64 x.op] w1 fun e w' => e = .returned (.int .i64 L) ∧ Below w1.heap.size w1 w') := Lib.hid (fun w1 h => by rw [← hL]; exact level_any x.op w1 (cx.sgAt h))
  obtain ⟨lf, hlf⟩ : ∃ t, leftOf L = t := ⟨_, rfl⟩
  obtain ⟨rg, hrg⟩ : ∃ t, rightOf L = t := ⟨_, rfl⟩
  have HA : Hid (∀ w1, Calls Tryz.prog 103 #[.int .i64 L] w1 fun e w' => e = .returned (.tuple #[.int .i64 lf, .int .i64 rg]) ∧ w1 = w') := Lib.hid (fun w1 => by rw [← hlf, ← hrg]; exact asked_any L w1 (by omega) (by omega))
  rw [hlf, hrg] at hl ⊢
  have hd : (L == 9) = false := by simp; omega
  generalize hS : partT lf (tree e j) = S at hl ⊢
  generalize hR : partT rg (tree e k) = R at hl ⊢
  have HS := Lib.hid hS
  have HR := Lib.hid hR
  have HE := Lib.hid (show l ++ (txts S ++ (kd (opText x.op)).2 :: txts R) = ((l ++ txts S) ++ [tx]) ++ txts R by simp [kd, htx])
  rw [HE.out]
  have HP := Lib.hid hp
  have HQ := Lib.hid hq
  have ST := Lib.hid (show St W0 w (.slice (some ⟨G, O, none⟩) e.length C) l w from ⟨hw, Kept.refl _⟩)
  obtain ⟨op, na, nb, nc, nn, nm⟩ := x
  simp only at ha hb HO HLV
  subst ha; subst hb
  have hbx : BoxAt ((w.alloc (.cells #[.int .i64 op, .int .i64 j, .int .i64 k, .int .i64 nc, .int .i64 nn, .string (str nm)] 58))) w.heap.size ⟨op, j, k, nc, nn, nm⟩ := heap_alloc_new w _
  have HBX := Lib.hid hbx
  clear hbn h28 hK hL ht hp hq hS hR hx cx hw hbx HE htx hlf hrg hlv
  go_enter Tryz.func82, Tryz.ntmps82
  go_wp2_with fail
  refine (HLV.out _ (alloc_st ST.out _).wr.below).mono ?_
  rintro r w1 ⟨rfl, hb1⟩
  have ST1 := Lib.hid ((alloc_st ST.out _).up hb1)
  have hbx1 := HBX.out.kept (Kept.of_below hb1)
  obtain ⟨c0, c1, c2, c3, c4, c5⟩ := hbx1.cells
  simp only at c0 c1 c2 c3 c4 c5
  have HB1 := Lib.hid hbx1
  clear hb1 hbx1
  go_wp2_with fail
  refine (HA.out _).mono ?_
  rintro r w2 ⟨rfl, rfl⟩
  go_wp2_with fail
  refine (HP.out _ _ lf ST1.out.wr (by rw [HS.out]; omega)).mono ?_
  rintro r w3 ⟨rfl, hw3, hk3⟩
  rw [HS.out] at hw3
  have ST3 := Lib.hid (ST1.out.to hw3 hk3)
  have hbx3 := HB1.out.kept hk3
  clear c0 c1 c2 c3 c4 c5
  obtain ⟨c0, c1, c2, c3, c4, c5⟩ := hbx3.cells
  simp only at c0 c1 c2 c3 c4 c5
  have HB3 := Lib.hid hbx3
  clear hw3 hk3 hbx3
  go_wp2_with fail
  refine (HO.out _ ST3.out.wr.below).mono ?_
  rintro r w4 ⟨rfl, hb4⟩
  have ST4 := Lib.hid (ST3.out.up hb4)
  have HB4 := Lib.hid (HB3.out.kept (Kept.of_below hb4))
  clear hb4 c0 c1 c2 c3 c4 c5
  go_wp2_with fail
  refine (put1 (t := tx) rfl (by simp) ST4.out.wr (by rw [List.length_append, txts_len]; omega)).mono ?_
  rintro r w5 ⟨rfl, hw5, hk5⟩
  have ST5 := Lib.hid (ST4.out.to hw5 hk5)
  have hbx5 := HB4.out.kept hk5
  obtain ⟨c0, c1, c2, c3, c4, c5⟩ := hbx5.cells
  simp only at c0 c1 c2 c3 c4 c5
  clear hw5 hk5 hbx5
  go_wp2_with fail
  refine (HQ.out _ _ rg ST5.out.wr (by rw [HR.out, List.length_append, List.length_append, txts_len]; simp; omega)).mono ?_
  rintro r w6 ⟨rfl, hw6, hk6⟩
  rw [HR.out] at hw6
  have ST6 := Lib.hid (ST5.out.to hw6 hk6)
  clear hw6 hk6
  go_wp2
  go_end0
  exact ⟨rfl, ST6.out.wr, ST6.out.kept⟩
end Go.Proofs.YtgohhnbdicdenaaGreatDoor.Sh

