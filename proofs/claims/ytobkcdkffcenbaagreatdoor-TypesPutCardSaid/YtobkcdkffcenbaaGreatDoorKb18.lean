/- The document's answer for layer expr: a reader of tokens in memory; contracts of its functions At, is, take, fail, need. Conditions: a reader lies in memory. -/
import Derived.Test.YtobkcdkffcenbaaGreatDoorKb17
import Derived.Test.YtobkcdkffcenbaaGreatDoorKb15
import Derived.Deep.LoopGhost
import Derived.IntWalk
set_option linter.unusedVariables false
set_option linter.unusedSimpArgs false
namespace Go.Proofs.YtobkcdkffcenbaaGreatDoor.Rf
open Go.ChangeShapes Go.WideShapes Go.ChangeAt Go.RowKit
open Go.Proofs.YtobkcdkffcenbaaGreatDoor.Ex
open Go.Proofs.YtobkcdkffcenbaaGreatDoor.Tr (str ret_bool ret_int Bytes Nd T joinM roomM)
def rfCells (lv : Value) (i o : Nat) (c a : Int) : Array Value := #[lv, .int .i64 (i : Int), .int .i64 (o : Int), .int .i64 c, .int .i64 a]
structure RfAt (w : World) (b : Nat) (L : List Ex.Tok) (r : Rd) (lv : Value) (i o : Nat) (c a : Int) : Prop where
  blk : w.heap[b]? = some (.cells (rfCells lv i o c a) 132 (0, 0))
  tok : TokOff w b lv L
  ile : i ≤ L.length
  ole : o ≤ 200
  obg : o = r.begun
  st : (r.code = 0 ∧ c = 0 ∧ r.l = L ∧ i = r.next) ∨ (r.code ≠ 0 ∧ c = r.code ∧ a = r.at_ ∧ r.l = [])
def Rf (w : World) (b : Nat) (L : List Ex.Tok) (r : Rd) : Prop := ∃ lv i o c a, RfAt w b L r lv i o c a
theorem Rf.lt {w : World} {b : Nat} {L : List Ex.Tok} {r : Rd} (h : Rf w b L r) : b < w.heap.size := by
  obtain ⟨_, _, _, _, _, h⟩ := h; exact lt_of_block h.blk
theorem RfAt.keep {w w' : World} {b : Nat} {L : List Ex.Tok} {r : Rd} {lv : Value} {i o : Nat} {c a : Int} (h : RfAt w b L r lv i o c a) (hs : w.heap.size ≤ w'.heap.size) (hk : ∀ g, g < b → g < w.heap.size → w'.heap[g]? = w.heap[g]?) (hb : w'.heap[b]? = w.heap[b]?) : RfAt w' b L r lv i o c a :=
  ⟨hb.trans h.blk, h.tok.keep hs hk, h.ile, h.ole, h.obg, h.st⟩
theorem Rf.below {w w' : World} {b : Nat} {L : List Ex.Tok} {r : Rd} (h : Rf w b L r) (hb : Below w.heap.size w w') : Rf w' b L r := by
  have hl := h.lt
  obtain ⟨lv, i, o, c, a, h⟩ := h
  exact ⟨lv, i, o, c, a, h.keep hb.size (fun g _ hg => hb.block g hg) (hb.block b hl)⟩
structure RfTo (w w' : World) (b : Nat) (L : List Ex.Tok) (r' : Rd) : Prop where
  rd : Rf w' b L r'
  grown : w.grownBy w' (some b)
theorem RfTo.of_below {w w' : World} {b : Nat} {L : List Ex.Tok} {r : Rd} (h : Rf w b L r) (hb : Below w.heap.size w w') : RfTo w w' b L r :=
  ⟨h.below hb, ⟨hb.os, hb.tape, hb.output, hb.size, fun i hi _ => hb.block i hi⟩⟩
theorem RfTo.trans {w w1 w2 : World} {b : Nat} {L : List Ex.Tok} {r1 r2 : Rd} (h : RfTo w w1 b L r1) (k : RfTo w1 w2 b L r2) : RfTo w w2 b L r2 :=
  ⟨k.rd, ⟨k.grown.os.trans h.grown.os, k.grown.tape.trans h.grown.tape, k.grown.output.trans h.grown.output, Nat.le_trans h.grown.size k.grown.size, fun i hi hne => (k.grown.block i (Nat.lt_of_lt_of_le hi h.grown.size) hne).trans (h.grown.block i hi hne)⟩⟩
theorem RfTo.then_below {w w1 w2 : World} {b : Nat} {L : List Ex.Tok} {r1 : Rd} (h : RfTo w w1 b L r1) (k : Below w1.heap.size w1 w2) : RfTo w w2 b L r1 := h.trans (RfTo.of_below h.rd k)
theorem RfTo.below {w w1 w' : World} {b : Nat} {L : List Ex.Tok} {r' : Rd} (hb : Below w.heap.size w w1) (hlt : b < w.heap.size) (h : RfTo w1 w' b L r') : RfTo w w' b L r' :=
  ⟨h.rd, ⟨h.grown.os.trans hb.os, h.grown.tape.trans hb.tape, h.grown.output.trans hb.output, Nat.le_trans hb.size h.grown.size, fun i hi hne => (h.grown.block i (Nat.lt_of_lt_of_le hi hb.size) hne).trans (hb.block i hi)⟩⟩
theorem RfTo.refl {w : World} {b : Nat} {L : List Ex.Tok} {r : Rd} (h : Rf w b L r) : RfTo w w b L r := ⟨h, World.grownBy.refl w _⟩
theorem RfAt.turn {w W : World} {b : Nat} {L : List Ex.Tok} {r r' : Rd} {lv : Value} {i o i' o' : Nat} {c a c' a' : Int} (h : RfAt w b L r lv i o c a)
    (hW : W.heap[b]? = some (.cells (rfCells lv i' o' c' a') 132 (0, 0))) (hs : W.heap.size = w.heap.size) (hos : W.os = w.os) (ht : W.tape = w.tape) (hou : W.output = w.output) (ho : ∀ g, g ≠ b → W.heap[g]? = w.heap[g]?)
    (hi : i' ≤ L.length) (ho2 : o' ≤ 200) (hob : o' = r'.begun) (hst : (r'.code = 0 ∧ c' = 0 ∧ r'.l = L ∧ i' = r'.next) ∨ (r'.code ≠ 0 ∧ c' = r'.code ∧ a' = r'.at_ ∧ r'.l = [])) : RfTo w W b L r' :=
  ⟨⟨lv, i', o', c', a', hW, h.tok.keep (by omega) (fun g hg _ => ho g (by omega)), hi, ho2, hob, hst⟩, ⟨hos, ht, hou, by omega, fun g _ hne => ho g (fun e => hne (by rw [e]))⟩⟩
theorem rf_cell {w : World} {b : Nat} {lv : Value} {i o : Nat} {c a : Int} (h : w.heap[b]? = some (.cells (rfCells lv i o c a) 132 (0, 0))) (k : Nat) : w.cell? ⟨b, k, none⟩ = (rfCells lv i o c a)[k]? := by simp [World.cell?, h]
theorem rf_free {w : World} {b : Nat} {lv : Value} {i o : Nat} {c a : Int} (h : w.heap[b]? = some (.cells (rfCells lv i o c a) 132 (0, 0))) (k : Nat) : w.frozen? ⟨b, k, none⟩ = false := by simp [World.frozen?, h]
theorem set_heap (w : World) (b k : Nat) (v : Value) (g : Nat) (h : g ≠ b) : (w.setCell ⟨b, k, none⟩ v).heap[g]? = w.heap[g]? := Below.heap_setCell w ⟨b, k, none⟩ v g (by simpa using h)
theorem RfAt.setI {w : World} {b : Nat} {L : List Ex.Tok} {r : Rd} {lv : Value} {i o : Nat} {c a : Int} (h : RfAt w b L r lv i o c a) (hc : r.code = 0) (hi : i < L.length) :
    RfTo w (w.setCell ⟨b, 1, none⟩ (.int .i64 ((i : Int) + 1))) b L r.adv := by
  have hst := h.st
  rcases hst with ⟨h1, h2, h3, h4⟩ | ⟨h1, _⟩
  · refine h.turn (i' := i + 1) (o' := o) (c' := c) (a' := a) ?_ (by simp [World.setCell]) rfl rfl rfl (fun g hg => set_heap _ _ _ _ _ hg) (by omega) h.ole h.obg (.inl ⟨h1, h2, h3, by simp [Rd.adv, h4]⟩)
    rw [setObj_heap h.blk (by simp [rfCells])]; simp [rfCells]
  · exact absurd hc h1
theorem PtW.grownR {w w' : World} {x : Value × Pt} {b : Nat} {L : List Ex.Tok} {r : Rd} (h : PtW w x) (hr : Rf w b L r) (hg : w.grownBy w' (some b)) : PtW w' x :=
  h.keep hg.size (fun g ⟨cs, f, hc⟩ => hg.block g (lt_of_block hc) (fun e => by
    obtain ⟨lv, i, o, c, a, h1⟩ := hr
    injection e with e
    subst e
    rw [h1.blk] at hc
    simp only [Option.some.injEq, Obj.cells.injEq] at hc
    exact absurd hc.2.1 (by decide)))
set_option maxHeartbeats 800000 in
theorem rat_any (v : Value) (l : List Ex.Tok) (b i : Nat) (w : World) (hv : TokOff w b v l) (hi : i ≤ 1000000) :
    Calls Tryz.prog 60 #[v, .int .i64 (i : Int)] w fun e w' => e = .returned (.int .i64 (atM l i)) ∧ w = w' := by
  obtain ⟨A, c, rfl, h1, h2, hA⟩ := hv
  unfold maxLen at h2
  have HA := Lib.hid hA
  clear hA
  have d0 : decide ((i : Int) < 0) = false := by simp
  by_cases hlt : i < l.length
  · obtain ⟨t, ht⟩ : ∃ t, l[i]? = some t := ⟨_, List.getElem?_eq_getElem hlt⟩
    obtain ⟨g, rfl, _, hg, c0, c1, c2⟩ := HA.out i t ht
    have HT := Lib.hid (show atM l i = (t.at_ : Int) by unfold atM; rw [ht])
    clear ht
    go_enter Tryz.func60, Tryz.ntmps60
    go_wp2
    go_ret
    exact ⟨ret_int HT.out.symm, rfl⟩
  · have HT := Lib.hid (show atM l i = -1 by unfold atM; rw [List.getElem?_eq_none (by omega)])
    go_enter Tryz.func60, Tryz.ntmps60
    go_wp2
    go_ret
    exact ⟨ret_int HT.out.symm, rfl⟩
def IsPost (w : World) (B : Bool) (e : Ending) (w' : World) : Prop := e = .returned (.bool B) ∧ Below w.heap.size w w'
set_option maxHeartbeats 1600000 in
theorem ris_any (b : Nat) (L : List Ex.Tok) (r : Rd) (s : Bytes) (w : World) (hr : Rf w b L r) (hL : L.length ≤ 100000) :
    Calls Tryz.prog 105 #[.pointer (some ⟨b, 0, none⟩), .string (str s)] w (IsPost w (r.isB s)) := by
  obtain ⟨lv, i, o, c, a, hat⟩ := hr
  obtain ⟨A, cc, rfl, h1, h2, hA⟩ := hat.tok
  unfold maxLen at h2
  have hlt := lt_of_block hat.blk
  have c0 : w.cell? ⟨b, 0, none⟩ = some (.slice A L.length cc) := rf_cell hat.blk 0
  have c1 : w.cell? ⟨b, 1, none⟩ = some (.int .i64 (i : Int)) := rf_cell hat.blk 1
  have c3 : w.cell? ⟨b, 3, none⟩ = some (.int .i64 c) := rf_cell hat.blk 3
  have HA := Lib.hid hA
  have hile := hat.ile
  have hst := hat.st
  have hbn : b ≠ w.heap.size := by omega
  clear hA hat
  by_cases hc : c = 0
  · have hcd : (c != 0) = false := by simp [hc]
    obtain ⟨q1, q2, q3, q4⟩ : r.code = 0 ∧ c = 0 ∧ r.l = L ∧ i = r.next := hst.resolve_right (fun h => h.1 (h.2.1 ▸ hc))
    by_cases hl : i < L.length
    · obtain ⟨t, ht⟩ : ∃ t, L[i]? = some t := ⟨_, List.getElem?_eq_getElem hl⟩
      obtain ⟨g, rfl, _, hg, e0, e1, e2⟩ := HA.out _ t ht
      have hgn : g ≠ w.heap.size := by omega
      have d1 : decide ((L.length : Int) ≤ (i : Int)) = false := decide_eq_false (by omega)
      have d1' : decide (L.length ≤ i) = false := decide_eq_false (by omega)
      have HT : Hid (r.isB s = ((t.kind == 3 || t.kind == 4) && t.text == s)) := Lib.hid (by
        have : r.cur = t := by unfold Rd.cur; rw [q3, ← q4, ht]; rfl
        unfold Rd.isB Rd.ws; rw [this, q3, ← q4]; simp [hl])
      rw [HT.out]
      clear ht hst q1 q3 q4
      obtain ⟨K, T, P⟩ := t
      simp only at e0 e1 e2 ⊢
      have hts : ((str T).toList == (str s).toList) = (T == s) := by rw [Tr.str_toList, Tr.str_toList]
      clear HT
      rcases Bool.eq_false_or_eq_true (K == 3) with h3 | h3
      all_goals rcases Bool.eq_false_or_eq_true (K == 4) with h4 | h4
      all_goals rcases Bool.eq_false_or_eq_true (T == s) with h5 | h5
      all_goals
        rw [h3, h4, h5]
        rw [h5] at hts
        go_enter Tryz.func105, Tryz.ntmps105
        go_wp2
        go_quiet (fail)
        go_wp2
        obtain ⟨w0, hw0⟩ : ∃ w0, w.drewN nq = w0 := ⟨_, rfl⟩
        have c00 : w0.cell? ⟨b, 0, none⟩ = some (.slice (some ⟨g, 0, none⟩) L.length cc) := hw0 ▸ c0
        have c01 : w0.cell? ⟨b, 1, none⟩ = some (.int .i64 (i : Int)) := hw0 ▸ c1
        have e00 : w0.cell? ⟨g, i * 3, none⟩ = some (.int .i64 K) := hw0 ▸ e0
        have e01 : w0.cell? ⟨g, i * 3 + 1, none⟩ = some (.string (str T)) := hw0 ▸ e1
        have e02 : w0.cell? ⟨g, i * 3 + 2, none⟩ = some (.int .i64 (P : Int)) := hw0 ▸ e2
        have hz0 : w.heap.size = w0.heap.size := hw0 ▸ rfl
        have hlt0 : b < w0.heap.size := by omega
        have hg0 : g < w0.heap.size := by omega
        have hbn0 : b ≠ w0.heap.size := by omega
        have hgn0 : g ≠ w0.heap.size := by omega
        have HB0 : Hid (Below w.heap.size w w0) := Lib.hid (hw0 ▸ Tr.below_drewN (Below.refl _ _) nq)
        rw [hw0]
        clear hw0 c0 c1 c3 e0 e1 e2 hlt hg hbn hgn
        go_region
        go_wp2
        go_ret
        exact ⟨rfl, Tr.below_drewN (n := 1) (HB0.out.alloc HB0.out.size _)⟩
    · have d1 : decide ((L.length : Int) ≤ (i : Int)) = true := decide_eq_true (by omega)
      have d1' : decide (L.length ≤ i) = true := decide_eq_true (by omega)
      have HT : Hid (r.isB s = false) := Lib.hid (by unfold Rd.isB Rd.ws; rw [q3, ← q4]; simp [hl])
      rw [HT.out]
      clear HT hst q1 q3 q4
      go_enter Tryz.func105, Tryz.ntmps105
      go_wp2
      go_quiet (fail)
      go_wp2
      go_ret
      exact ⟨rfl, Tr.below_drewN (Below.refl _ _) _⟩
  · have hcd : (c != 0) = true := by simp [hc]
    have HT : Hid (r.isB s = false) := Lib.hid (by
      have : r.l = [] := (hst.resolve_left (fun h => hc h.2.1)).2.2.2
      unfold Rd.isB Rd.ws; rw [this]; simp)
    rw [HT.out]
    clear HT hst
    go_enter Tryz.func105, Tryz.ntmps105
    go_wp2
    go_quiet (fail)
    go_wp2
    go_ret
    exact ⟨rfl, Tr.below_drewN (Below.refl _ _) _⟩
end Go.Proofs.YtobkcdkffcenbaaGreatDoor.Rf
namespace Go.Proofs.YtobkcdkffcenbaaGreatDoor.Rf
open Go.ChangeShapes Go.WideShapes Go.ChangeAt Go.RowKit
open Go.Proofs.YtobkcdkffcenbaaGreatDoor.Ex
open Go.Proofs.YtobkcdkffcenbaaGreatDoor.Tr (str ret_bool ret_int Bytes Nd T joinM roomM)
theorem Rf.fine {w : World} {b : Nat} {L : List Ex.Tok} {r : Rd} (h : Rf w b L r) : r.fine := fun hc => by
  obtain ⟨lv, i, o, c, a, h⟩ := h
  rcases h.st with ⟨h1, _⟩ | ⟨_, _, _, h4⟩
  · exact absurd h1 hc
  · exact h4
theorem Rf.live {w : World} {b : Nat} {L : List Ex.Tok} {r : Rd} (h : Rf w b L r) (hc : r.code = 0) : r.l = L := by
  obtain ⟨lv, i, o, c, a, h⟩ := h
  rcases h.st with ⟨_, _, h3, _⟩ | ⟨h1, _⟩
  · exact h3
  · exact absurd hc h1
theorem Rf.next_le {w : World} {b : Nat} {L : List Ex.Tok} {r : Rd} (h : Rf w b L r) (hc : r.code = 0) : r.next ≤ L.length := by
  obtain ⟨lv, i, o, c, a, h⟩ := h
  have := h.ile
  rcases h.st with ⟨_, _, _, h4⟩ | ⟨h1, _⟩
  · omega
  · exact absurd hc h1
theorem Rf.dead {w : World} {b : Nat} {L : List Ex.Tok} {r r' : Rd} (h : Rf w b L r) (h0 : r.code ≠ 0) (hc : r'.code = r.code) (ha : r'.at_ = r.at_) (hl : r'.l = []) (hb : r'.begun = r.begun) : Rf w b L r' := by
  obtain ⟨lv, i, o, c, a, h⟩ := h
  refine ⟨lv, i, o, c, a, h.blk, h.tok, h.ile, h.ole, by rw [hb]; exact h.obg, ?_⟩
  rcases h.st with ⟨h1, _⟩ | ⟨_, h2, h3, _⟩
  · exact absurd h1 h0
  · exact .inr ⟨by rw [hc]; exact h0, by rw [hc]; exact h2, by rw [ha]; exact h3, hl⟩
def TakeTo (w : World) (b : Nat) (L : List Ex.Tok) (B : Bool) (r' : Rd) (e : Ending) (w' : World) : Prop := e = .returned (.bool B) ∧ RfTo w w' b L r'
set_option maxHeartbeats 1600000 in
theorem rtake_any (b : Nat) (L : List Ex.Tok) (r : Rd) (s : Bytes) (w : World) (hr : Rf w b L r) (hL : L.length ≤ 100000) :
    Calls Tryz.prog 94 #[.pointer (some ⟨b, 0, none⟩), .string (str s)] w (TakeTo w b L (r.isB s) (if r.isB s then r.adv else r)) := by
  have HR := Lib.hid hr
  have HC := Lib.hid (ris_any b L r s w hr hL)
  have hlt := hr.lt
  obtain ⟨B, hB⟩ : ∃ B, r.isB s = B := ⟨_, rfl⟩
  have HB := Lib.hid hB
  rw [hB] at HC ⊢
  clear hr hB
  cases B with
  | false =>
    go_enter Tryz.func94, Tryz.ntmps94
    go_wp2_with fail
    refine HC.out.mono ?_
    rintro e w1 ⟨rfl, hb⟩
    have HBL := Lib.hid hb
    clear hb
    go_wp2
    go_ret
    exact ⟨rfl, RfTo.of_below HR.out HBL.out⟩
  | true =>
    have hil := isB_lt HB.out
    have hc0 : r.code = 0 := by
      apply Classical.byContradiction; intro h
      have := HR.out.fine h; rw [this] at hil; simp at hil
    go_enter Tryz.func94, Tryz.ntmps94
    go_wp2_with fail
    refine HC.out.mono ?_
    rintro e w1 ⟨rfl, hb⟩
    have hr1 := HR.out.below hb
    have HBL := Lib.hid hb
    obtain ⟨lv, i, o, c, a, hat⟩ := hr1
    have HAT := Lib.hid hat
    have hil2 : i < L.length := by
      rcases hat.st with ⟨_, _, h3, h4⟩ | ⟨h1, _⟩
      · rw [h4, ← h3]; exact hil
      · exact absurd hc0 h1
    have c1 : w1.cell? ⟨b, 1, none⟩ = some (.int .i64 (i : Int)) := rf_cell hat.blk 1
    have f1 : w1.frozen? ⟨b, 1, none⟩ = false := rf_free hat.blk 1
    clear hb hat hil
    go_wp2
    go_ret
    exact ⟨rfl, RfTo.below HBL.out hlt (HAT.out.setI hc0 hil2)⟩
theorem take_ok {b : Nat} {L : List Ex.Tok} {r : Rd} {s : Bytes} {S : ByteArray} {B : Bool} {w : World} (hS : S = str s) (hB : r.isB s = B) (hr : Rf w b L r) (hL : L.length ≤ 100000) :
    Calls Tryz.prog 94 #[.pointer (some ⟨b, 0, none⟩), .string S] w (TakeTo w b L B (if B then r.adv else r)) := by
  subst hS; subst hB; exact rtake_any b L r s w hr hL
theorem is_ok {b : Nat} {L : List Ex.Tok} {r : Rd} {s : Bytes} {S : ByteArray} {B : Bool} {w : World} (hS : S = str s) (hB : r.isB s = B) (hr : Rf w b L r) (hL : L.length ≤ 100000) :
    Calls Tryz.prog 105 #[.pointer (some ⟨b, 0, none⟩), .string S] w (IsPost w B) := by
  subst hS; subst hB; exact ris_any b L r s w hr hL
theorem TokOff.drew {w : World} {b : Nat} {v : Value} {l : List Ex.Tok} (h : TokOff w b v l) : TokOff w.drew b v l := h
set_option maxHeartbeats 1600000 in
theorem rfail_any (b : Nat) (L : List Ex.Tok) (r : Rd) (e : Int) (he : e ≠ 0) (w : World) (hr : Rf w b L r) (hL : L.length ≤ 100000) :
    Calls Tryz.prog 115 #[.pointer (some ⟨b, 0, none⟩), .int .i64 e] w (fun x w' => x = .returned (.slice none 0 0) ∧ RfTo w w' b L (r.fail e)) := by
  have HR := Lib.hid hr
  have hlt := hr.lt
  obtain ⟨lv, i, o, c, a, hat⟩ := hr
  have HAT := Lib.hid hat
  obtain ⟨A, cc, rfl, h1, h2, hA⟩ := hat.tok
  unfold maxLen at h2
  have HTK := Lib.hid hat.tok
  have hil := hat.ile
  have c0 : w.cell? ⟨b, 0, none⟩ = some (.slice A L.length cc) := rf_cell hat.blk 0
  have c1 : w.cell? ⟨b, 1, none⟩ = some (.int .i64 (i : Int)) := rf_cell hat.blk 1
  have c3 : w.cell? ⟨b, 3, none⟩ = some (.int .i64 c) := rf_cell hat.blk 3
  have c4 : w.cell? ⟨b, 4, none⟩ = some (.int .i64 a) := rf_cell hat.blk 4
  have f3 : w.frozen? ⟨b, 3, none⟩ = false := rf_free hat.blk 3
  have f4 : w.frozen? ⟨b, 4, none⟩ = false := rf_free hat.blk 4
  clear hat hA
  by_cases h0 : c = 0
  · have hd : (c == 0) = true := by simpa using h0
    have HE : Hid (RfTo w ((w.setCell ⟨b, 3, none⟩ (.int .i64 e)).setCell ⟨b, 4, none⟩ (.int .i64 (atM L i))) b L (r.fail e)) := Lib.hid (by
      obtain ⟨q1, q2, q3, q4⟩ := HAT.out.st.resolve_right (fun h => h.1 (h.2.1 ▸ h0))
      have k1 := setObj_heap (v := .int .i64 e) HAT.out.blk (k := 3) (by simp [rfCells])
      have k2 := setObj_heap (v := .int .i64 (atM L i)) k1 (k := 4) (by simp [rfCells])
      have hf : r.fail e = ⟨[], r.next, r.begun, e, atM r.l r.next⟩ := by unfold Rd.fail; rw [if_pos q1]
      rw [hf]
      refine HAT.out.turn (i' := i) (o' := o) (c' := e) (a' := atM L i) ?_ (by simp [World.setCell]) rfl rfl rfl (fun g hg => by rw [set_heap _ _ _ _ _ hg, set_heap _ _ _ _ _ hg]) HAT.out.ile HAT.out.ole HAT.out.obg (.inr ⟨he, rfl, by rw [q3, q4], rfl⟩)
      rw [k2]; simp [rfCells])
    clear h0
    go_enter Tryz.func115, Tryz.ntmps115
    go_wp2
    go_region_with ((go_at_call 60; refine (rat_any _ L b _ _ (TokOff.drew HTK.out) (by omega)).mono ?_; rintro x w' ⟨rfl, rfl⟩))
    all_goals go_wp2
    all_goals go_ret
    all_goals exact ⟨rfl, HE.out.then_below (Tr.below_drewN (n := 1) (Below.refl _ _))⟩
  · have hd : (c == 0) = false := by simpa using h0
    have HE : Hid (Rf w b L (r.fail e)) := Lib.hid (by
      obtain ⟨q1, q2, q3, q4⟩ := HAT.out.st.resolve_left (fun h => h0 h.2.1)
      have hf : r.fail e = ⟨[], r.next, r.begun, r.code, r.at_⟩ := by unfold Rd.fail; rw [if_neg q1]
      rw [hf]
      exact HR.out.dead q1 rfl rfl rfl rfl)
    clear h0
    go_enter Tryz.func115, Tryz.ntmps115
    go_wp2
    go_ret
    exact ⟨rfl, RfTo.refl HE.out⟩
set_option maxHeartbeats 800000 in
theorem rneed_any (b : Nat) (L : List Ex.Tok) (r : Rd) (s : Bytes) (S : ByteArray) (hS : S = str s) (w : World) (hr : Rf w b L r) (hL : L.length ≤ 100000) :
    Calls Tryz.prog 120 #[.pointer (some ⟨b, 0, none⟩), .string S] w (fun e w' => e = .returned (.tuple #[]) ∧ RfTo w w' b L (r.need s)) := by
  subst hS
  have HR := Lib.hid hr
  have HN := Lib.hid (show r.need s = if r.isB s then r.adv else r.fail 5 from rfl)
  rw [HN.out]
  obtain ⟨B, hB⟩ : ∃ B, r.isB s = B := ⟨_, rfl⟩
  have HC := Lib.hid (take_ok rfl hB hr hL)
  rw [hB]
  clear hB hr
  cases B with
  | true =>
    go_enter Tryz.func120, Tryz.ntmps120
    go_wp2_with fail
    refine HC.out.mono ?_
    rintro e w1 ⟨rfl, hb⟩
    have HB := Lib.hid hb
    clear hb
    go_wp2
    go_end0
    exact ⟨rfl, HB.out⟩
  | false =>
    go_enter Tryz.func120, Tryz.ntmps120
    go_wp2_with fail
    refine HC.out.mono ?_
    rintro e w1 ⟨rfl, hb⟩
    have HB : Hid (RfTo w w1 b L r) := Lib.hid hb
    clear hb
    go_wp2_with fail
    refine (rfail_any b L r 5 (by decide) _ HB.out.rd hL).mono ?_
    rintro e w2 ⟨rfl, ht⟩
    have HT := Lib.hid (HB.out.trans ht)
    clear ht
    go_wp2
    go_end0
    exact ⟨rfl, HT.out⟩
theorem nodes_low {w : World} {u : Value} {l : List Nd} (h : Tr.Nodes w u l) : 0 < l.length → ∀ g o n c, u = .slice (some ⟨g, o, none⟩) n c → g < w.heap.size := by
  intro hp g o n c hu
  obtain ⟨A', c', e1, _, _, hA⟩ := h
  obtain ⟨g2, o2, hA2, hlt, _⟩ := hA 0 _ (List.getElem?_eq_getElem hp)
  rw [e1, hA2] at hu
  simp only [Value.slice.injEq, Option.some.injEq, Addr.mk.injEq, and_true] at hu
  omega
theorem parts_none (w : World) : Tr.Parts w w.heap.size (.slice none 0 0) [] := ⟨none, 0, rfl, by simp, by unfold maxLen; omega, fun i t h => by simp at h⟩
theorem parts_one {w : World} {u : Value} {l : List Nd} (hu : Tr.Nodes w u l) : Tr.Parts (w.alloc (.cells #[u] 32)) (w.alloc (.cells #[u] 32)).heap.size (.slice (some ⟨w.heap.size, 0, none⟩) 1 1) [l] := by
  refine ⟨some ⟨w.heap.size, 0, none⟩, 1, rfl, by simp, by unfold maxLen; omega, fun i x hx => ?_⟩
  have hn := heap_alloc_new w (.cells #[u] 32)
  have hb := below_new w (.cells #[u] 32)
  match i, hx with
  | 0, hx =>
    simp at hx; subst hx
    have := hu.below hb (Nat.le_refl _)
    exact ⟨w.heap.size, 0, u, rfl, by simp, by simp, by unfold World.cell?; rw [hn]; rfl, this, nodes_low this⟩
  | i + 1, hx => simp at hx
theorem parts_two {w : World} {u v : Value} {l m : List Nd} (hu : Tr.Nodes w u l) (hv : Tr.Nodes w v m) : Tr.Parts (w.alloc (.cells #[u, v] 32)) (w.alloc (.cells #[u, v] 32)).heap.size (.slice (some ⟨w.heap.size, 0, none⟩) 2 2) [l, m] := by
  refine ⟨some ⟨w.heap.size, 0, none⟩, 2, rfl, by simp, by unfold maxLen; omega, fun i x hx => ?_⟩
  have hn := heap_alloc_new w (.cells #[u, v] 32)
  have hb := below_new w (.cells #[u, v] 32)
  match i, hx with
  | 0, hx =>
    simp at hx; subst hx
    have := hu.below hb (Nat.le_refl _)
    exact ⟨w.heap.size, 0, u, rfl, by simp, by simp, by unfold World.cell?; rw [hn]; rfl, this, nodes_low this⟩
  | 1, hx =>
    simp at hx; subst hx
    have := hv.below hb (Nat.le_refl _)
    exact ⟨w.heap.size, 0, v, rfl, by simp, by simp, by unfold World.cell?; rw [hn]; rfl, this, nodes_low this⟩
  | i + 2, hx => simp at hx
theorem parts_three {w : World} {u v x : Value} {l m k : List Nd} (hu : Tr.Nodes w u l) (hv : Tr.Nodes w v m) (hx : Tr.Nodes w x k) : Tr.Parts (w.alloc (.cells #[u, v, x] 32)) (w.alloc (.cells #[u, v, x] 32)).heap.size (.slice (some ⟨w.heap.size, 0, none⟩) 3 3) [l, m, k] := by
  refine ⟨some ⟨w.heap.size, 0, none⟩, 3, rfl, by simp, by unfold maxLen; omega, fun i y hy => ?_⟩
  have hn := heap_alloc_new w (.cells #[u, v, x] 32)
  have hb := below_new w (.cells #[u, v, x] 32)
  match i, hy with
  | 0, hy =>
    simp at hy; subst hy
    have := hu.below hb (Nat.le_refl _)
    exact ⟨w.heap.size, 0, u, rfl, by simp, by simp, by unfold World.cell?; rw [hn]; rfl, this, nodes_low this⟩
  | 1, hy =>
    simp at hy; subst hy
    have := hv.below hb (Nat.le_refl _)
    exact ⟨w.heap.size, 0, v, rfl, by simp, by simp, by unfold World.cell?; rw [hn]; rfl, this, nodes_low this⟩
  | 2, hy =>
    simp at hy; subst hy
    have := hx.below hb (Nat.le_refl _)
    exact ⟨w.heap.size, 0, x, rfl, by simp, by simp, by unfold World.cell?; rw [hn]; rfl, this, nodes_low this⟩
  | i + 3, hy => simp at hy
def MakeTo (w : World) (l : List Nd) (e : Ending) (w' : World) : Prop := ∃ ev, e = .returned ev ∧ PtW w' (ev, ⟨l, 0, 0⟩) ∧ Below w.heap.size w w'
theorem make_of {w0 w : World} {l : List Nd} {e : Ending} {w' : World} (hb : Below w0.heap.size w0 w) (h : Tr.NodesPost w l e w') : MakeTo w0 l e w' := by
  obtain ⟨v, h1, h2, h3⟩ := h
  exact ⟨v, h1, PtW.own (p := ⟨l, 0, 0⟩) h2, hb.trans (h3.mono hb.size)⟩
end Go.Proofs.YtobkcdkffcenbaaGreatDoor.Rf
namespace Go.Proofs.YtobkcdkffcenbaaGreatDoor.Rf
open Go.ChangeShapes Go.WideShapes Go.ChangeAt Go.RowKit
open Go.Proofs.YtobkcdkffcenbaaGreatDoor.Ex Go.Proofs.YtobkcdkffcenbaaGreatDoor.Sh
open Go.Proofs.YtobkcdkffcenbaaGreatDoor.Tr (str ret_bool ret_int Bytes Nd T joinM roomM binaryB unaryB)
structure OkL (L : List Ex.Tok) : Prop where
  len : L.length ≤ 20000
  good : GoodL L
def Read (p : Pt) (r' : Rd) (l : List Nd) : Prop := r'.code = 0 → ∃ t, okT t ∧ p = ptOf t ∧ l = t.flat 0
def Got (w : World) (b : Nat) (L : List Ex.Tok) (p : Pt) (r' : Rd) (e : Ending) (w' : World) : Prop :=
  ∃ ev l, e = .returned ev ∧ PtW w' (ev, ⟨l, 0, 0⟩) ∧ Read p r' l ∧ RfTo w w' b L r'
def fnOf : Nat → Nat
  | 1 => 76
  | 2 => 93
  | 3 => 104
  | 4 => 109
  | 5 => 110
  | 6 => 111
  | 7 => 112
  | 8 => 113
  | _ => 114
def RLev (L : List Ex.Tok) (f : Nat) : Prop := ∀ (n : Nat) (r : Rd) (p : Pt) (r' : Rd), run f (.lev n) r = some (p, r') → 1 ≤ n → n ≤ 9 → ∀ (w : World) (b : Nat), Rf w b L r →
  Calls Tryz.prog (fnOf n) #[.pointer (some ⟨b, 0, none⟩)] w (Got w b L p r')
def ROpnd (L : List Ex.Tok) (f : Nat) : Prop := ∀ (r : Rd) (p : Pt) (r' : Rd), run f .opnd r = some (p, r') → ∀ (w : World) (b : Nat), Rf w b L r →
  Calls Tryz.prog 114 #[.pointer (some ⟨b, 0, none⟩)] w (Got w b L p r')
theorem rlev_at {L : List Ex.Tok} {f n F : Nat} {r : Rd} {p : Pt} {r' : Rd} {w : World} {b : Nat} (H : RLev L f) (h : run f (.lev n) r = some (p, r')) (h1 : 1 ≤ n) (h9 : n ≤ 9) (hF : fnOf n = F) (hr : Rf w b L r) :
    Calls Tryz.prog F #[.pointer (some ⟨b, 0, none⟩)] w (Got w b L p r') := by
  subst hF; exact H n r p r' h h1 h9 w b hr
theorem Rf.step_len' {w w2 : World} {b : Nat} {L : List Ex.Tok} {r r' : Rd} {f : Nat} {t : Task} {p : Pt} (h : Rf w b L r) (hr : run f t r = some (p, r')) (hp : t.pre r) (hb : t.base = 0) (h' : Rf w2 b L r') : r'.code = 0 → p.nodes ≤ L.length := fun hc => by
  have h1 := (run_step _ _ _ _ _ hr h.fine hp).2.2
  have h2 := h'.next_le hc
  unfold Rd.mu at h1
  rw [hb, if_pos hc] at h1
  omega
theorem Read.len {p : Pt} {r' : Rd} {l : List Nd} (h : Read p r' l) (hc : r'.code = 0) : l.length = p.nodes := by
  obtain ⟨t, _, rfl, rfl⟩ := h hc
  rw [Tr.T.flat_len]; rfl
theorem okT_bin {o : Int} {t u : T} (h : binaryB o = true) (ht : okT t) (hu : okT u) : okT (.l2 ⟨o, 0, []⟩ t u) := by
  obtain ⟨h1, h2⟩ := ht
  obtain ⟨h3, h4⟩ := hu
  have hb := h
  simp [binaryB] at hb
  have hun : unaryB o = false := by simp [unaryB]; omega
  have e26 : o ≠ 26 := by omega
  have e27 : o ≠ 27 := by omega
  have e28 : o ≠ 28 := by omega
  have hp := plain_op o (by omega)
  refine ⟨?_, by simp [Tr.T.lab]; omega⟩
  have b1 : (t.lab.op == 28) = false := by simpa using h2
  have b3 : (u.lab.op == 28) = false := by simpa using h4
  have b2 : (o == 27) = false := by simpa using e27
  have b4 : (o == 28) = false := by simpa using e28
  simp [Tr.T.okB, hp, Tr.fitsB, h, hun, Tr.argsT, Tr.argsL, h1, h3, b1, b2, b3, b4, e26, e27, e28]
theorem Read.two {o : Int} {p q : Pt} {r1 r' : Rd} {l1 l2 : List Nd} (ho : binaryB o = true) (h1 : Read p r1 l1) (h2 : Read q r' l2) (h01 : r'.code = 0 → r1.code = 0) (hsz : r'.code = 0 → l1.length + l2.length ≤ 1000000) :
    Read (joined o 0 [] [p, q]) r' (if r'.code = 0 then joinM o 0 [] [l1, l2] else []) := fun hc => by
  obtain ⟨t, ht, rfl, rfl⟩ := h1 (h01 hc)
  obtain ⟨u, hu, rfl, rfl⟩ := h2 hc
  have hs := hsz hc
  rw [Tr.T.flat_len, Tr.T.flat_len] at hs
  rw [if_pos hc]
  exact ⟨_, okT_bin ho ht hu, ptOf_bin o 0 [] t u ho, joinM_bin o 0 [] t u ho hs⟩
end Go.Proofs.YtobkcdkffcenbaaGreatDoor.Rf
namespace Go.Proofs.YtobkcdkffcenbaaGreatDoor.Rf
open Go.ChangeShapes Go.WideShapes Go.ChangeAt Go.RowKit
open Go.Proofs.YtobkcdkffcenbaaGreatDoor.Ex Go.Proofs.YtobkcdkffcenbaaGreatDoor.Sh
open Go.Proofs.YtobkcdkffcenbaaGreatDoor.Tr (str ret_bool ret_int Bytes Nd T joinM roomM binaryB unaryB)
theorem isB_other {r : Rd} {s t : Bytes} (h : r.isB s = true) (hst : (s == t) = false) : r.isB t = false := by
  unfold Rd.isB at h ⊢
  simp only [Bool.and_eq_true, beq_iff_eq] at h
  rw [h.1, h.2, hst]; rfl
theorem code_of_isB {w : World} {b : Nat} {L : List Ex.Tok} {r : Rd} {s : Bytes} (h : Rf w b L r) (hb : r.isB s = true) : r.code = 0 := by
  apply Classical.byContradiction; intro hc
  have hl := isB_lt hb
  rw [h.fine hc] at hl; simp at hl
structure LAt (w : World) (b : Nat) (L : List Ex.Tok) (n : Nat) (p : Pt) (r' : Rd) (g : Nat) (wr : World) (rr : Rd) (pp : Pt) (ev : Value) (l : List Nd) : Prop where
  run_ : run (g + 1) (.ll n pp) rr = some (p, r')
  pt : PtW wr (ev, ⟨l, 0, 0⟩)
  rd : Read pp rr l
  rto : RfTo w wr b L rr
  nd : pp.nodes ≤ rr.mu
theorem LAt.next {w wr w4 : World} {b n g gk : Nat} {L : List Ex.Tok} {p pp q3 : Pt} {r' rr r3 : Rd} {ev ev4 : Value} {l l3 : List Nd} {o : Int} (h : LAt w b L n p r' g wr rr pp ev l) (ho : binaryB o = true)
    (hk : run g (.lev (n + 1)) rr.adv = some (q3, r3)) (hk4 : run (gk + 1) (.ll n (sjoin (o, false) pp q3)) r3 = some (p, r')) (h3 : Read q3 r3 l3) {J : List Nd} (hJ : (if r3.code = 0 then joinM o 0 [] [l, l3] else []) = J) (hp : PtW w4 (ev4, ⟨J, 0, 0⟩)) (hto : RfTo w w4 b L r3)
    (hmu : q3.nodes + rr.adv.mu ≤ Task.base (.lev (n + 1)) + r3.mu) (hsz : r3.code = 0 → l.length + l3.length ≤ 50000) :
    LAt w b L n p r' gk w4 r3 (sjoin (o, false) pp q3) ev4 J := by
  have hb := ho
  simp [binaryB] at hb
  subst hJ
  refine ⟨hk4, hp, Read.two ho h.rd h3 (fun hc => (show rr.adv.code = 0 from run_ok0 hk hc)) (fun hc => by have := hsz hc; omega), hto, ?_⟩
  rw [sjoin_nodes _ _ _ (by show o ≤ 25; omega)]
  have := h.nd
  rw [adv_mu] at hmu
  simp only [Task.base] at hmu
  omega
end Go.Proofs.YtobkcdkffcenbaaGreatDoor.Rf

