/- Layer sched: the queue is filled. Conditions: the net may be; it has at most 1000 operators. -/
import Derived.Test.YtcphjehjdhgheaaNtY
import Derived.Test.YtcphjehjdhgheaaNtT
import Derived.Test.YtcphjehjdhgheaaNtI
namespace Go.Proofs.Ytcphjehjdhgheaa.Nt
open Go.ChangeShapes Go.WideShapes Go.ChangeAt Go.RowKit Go.Proofs.Ytcphjehjdhgheaa.Tr
set_option linter.unusedVariables false
set_option linter.unusedSimpArgs false

theorem infoS : (Try.prog.info? 23).map (fun i => (i.zero, i.size, i.bytes)) = some (some (.slice none 0 0), 1, 24) := by kernel_rfl
/-- The queue's own box, empty. -/
structure QBox (w : World) (b : Nat) (x y z : Value) : Prop where
  cell : w.heap[b]? = some (.cells #[x, y, z] 85 (0, 0))
theorem QBox.ats {w : World} {b : Nat} {x y z : Value} (h : QBox w b x y z) : w.cell? ⟨b, 0, none⟩ = some x ∧ w.cell? ⟨b, 1, none⟩ = some y ∧ w.cell? ⟨b, 2, none⟩ = some z ∧ w.frozen? ⟨b, 0, none⟩ = false ∧ w.frozen? ⟨b, 1, none⟩ = false ∧ w.frozen? ⟨b, 2, none⟩ = false := by
  have := h.cell
  refine ⟨?_, ?_, ?_, ?_, ?_, ?_⟩ <;> simp [World.cell?, World.frozen?, this]
theorem QBox.set3 {w : World} {b : Nat} {a c d : Value} (h : QBox w b a c d) (x y z : Value) : QBox (((w.setCell ⟨b, 0, none⟩ x).setCell ⟨b, 1, none⟩ y).setCell ⟨b, 2, none⟩ z) b x y z := ⟨by
  have := h.cell
  simp [World.setCell, Array.getElem?_modify, this]⟩
theorem made_nil (n : Nat) : madeCells #[nilS] n = ((List.range n).map fun _ => nilS).toArray := by
  apply Array.ext
  · simp [madeCells]
  · intro i h1 h2; simp [madeCells, Nat.mod_one]
theorem q_start {w : World} {base B gw gc n : Nat} (hw : w.heap[gw]? = some (.cells (madeCells #[nilS] n) 23 (0, 0))) (hc : w.heap[gc]? = some (.cells (madeCells #[.int .i64 0] n) 3 (0, 0))) (hB : w.heap[B]? = some (.cells #[rowV gw n, rowV gc n, nilS] 85 (0, 0)))
    (h1 : base ≤ gw) (h2 : base ≤ gc) (h3 : base ≤ B) (hn : n ≤ maxLen) (G : Gr) (hG : G.n = n) : QAt w base B gw gc n nilS (fun _ => nilS) (wlP G 0 0) (cntP G 0 0) [] := by
  have hl := lt_of_block hB
  refine ⟨⟨⟨hB, World.ownsRow_nil _ _ _ _⟩, fun k h0 h => by simp at h⟩, ?_, fun i hi => ?_, ?_, by rw [cntP_len, hG], ⟨h3, by omega⟩, ?_, fun i _ => ?_, fun i k _ e => ?_, fun i j k _ _ _ e => ?_⟩
  · rw [made_nil] at hw
    exact own_at hw h1 (by simp) hn
  · rw [wlP_zero]; exact World.ownsRow_nil _ _ _ _
  · rw [cntP_zero, hG]
    rw [made_row] at hc
    exact own_at hc h2 (by unfold intsOf; simp) hn
  · intro e; cases e
  · intro e; cases e
  · cases e
  · cases e
theorem blocks5 (w Wn : World) (a b c d e : Obj) (h : Wn = (((((w.alloc a).alloc b).alloc c).alloc d).alloc e).drew) :
    Wn.heap[w.heap.size]? = some a ∧ Wn.heap[w.heap.size + 1]? = some b ∧ Wn.heap[w.heap.size + 1 + 1]? = some c ∧ Wn.heap[w.heap.size + 1 + 1 + 1]? = some d ∧ Wn.heap[w.heap.size + 1 + 1 + 1 + 1]? = some e ∧ Below w.heap.size w Wn := by
  subst h
  obtain ⟨k0, k1, k2, k3, hb⟩ := blocks4 w _ a b c d rfl
  have s4 : ((((w.alloc a).alloc b).alloc c).alloc d).heap.size = w.heap.size + 1 + 1 + 1 + 1 := by simp
  have st : ∀ q, q < w.heap.size + 1 + 1 + 1 + 1 → (((((w.alloc a).alloc b).alloc c).alloc d).alloc e).drew.heap[q]? = ((((w.alloc a).alloc b).alloc c).alloc d).heap[q]? := fun q hq => Below.heap_alloc _ _ _ (by rw [s4]; exact hq)
  refine ⟨(st _ (by omega)).trans k0, (st _ (by omega)).trans k1, (st _ (by omega)).trans k2, (st _ (by omega)).trans k3, ?_, (hb.alloc (by rw [s4]; omega) e).drew⟩
  have := heap_alloc_new ((((w.alloc a).alloc b).alloc c).alloc d) e
  rw [s4] at this; exact this
def QuePost (w : World) (N : Net) (e : Ending) (w' : World) : Prop :=
  ∃ (B gw gc : Nat) (vr : Value) (wv : Nat → Value) (H : List Int), e = .returned (.agg #[rowV gw N.ops.length, rowV gc N.ops.length, vr]) ∧ QAt w' w.heap.size B gw gc N.ops.length vr wv (wlA (grN N)) (cntA (grN N) []) H ∧ H.Perm (natI ((List.range N.ops.length).filter (freeB (grN N) []))) ∧ Below w.heap.size w w'
theorem nd_three (N : Net) (j : Nat) : ((grN N).nd j).length ≤ 3 := by
  show (ndN N j).length ≤ 3
  unfold ndN needI
  rw [List.length_map]
  split
  · simp
  · rw [List.length_take]; simp; omega
/-- What an append of one that waits leaves to be read. -/
theorem que_read {w wr w2' : World} {B gw gc n s l5 c5 m : Nat} {vr : Value} {wv : Nat → Value} {WL : Nat → List Nat} {C H : List Int} {A5 : Option Addr} (hq : QAt wr w.heap.size B gw gc n vr wv WL C H) (hsn : s < n) (hv : wv s = .slice A5 l5 c5)
    (hg : ((wr.drew).alloc (.cells #[.int .i64 (m : Int)] 3)).grownBy w2' (Value.slice A5 l5 c5).ownBlock) : w2'.cell? ⟨B, 0, none⟩ = some (rowV gw n) ∧ w2'.cell? ⟨gw, s, none⟩ = some (.slice A5 l5 c5) ∧ w2'.frozen? ⟨gw, s, none⟩ = false := by
  obtain ⟨l1k, l2k, l3k⟩ := hq.lts
  have hcB := hq.hp.row.cell
  have b0 : wr.cell? ⟨B, 0, none⟩ = some (rowV gw n) := by simp [World.cell?, hcB]
  have cws := (hq.wrow.cellAt s (by omega)).trans (show ((List.range n).map wv)[s]? = some (wv s) by rw [List.getElem?_map, List.getElem?_range hsn]; rfl)
  rw [hv] at cws
  have fws := hq.wrow.frozenAt s
  have hne : ∀ q, q = B ∨ q = gw → (Value.slice A5 l5 c5).ownBlock ≠ some q := fun q hqq e => by
    have e' : (wv s).ownBlock = some q := by rw [hv]; exact e
    have := hq.w_ne hsn e'
    rcases hqq with rfl | rfl
    · exact this.1 rfl
    · exact this.2 rfl
  have eB := (hg.block B (by simp; omega) (fun e => hne B (.inl rfl) e.symm)).trans (Below.heap_alloc _ _ _ l1k)
  have eW := (hg.block gw (by simp; omega) (fun e => hne gw (.inr rfl) e.symm)).trans (Below.heap_alloc _ _ _ l2k)
  refine ⟨?_, ?_, ?_⟩
  · have := b0; simp only [World.cell?] at this ⊢; rw [eB]; exact this
  · have := cws; simp only [World.cell?] at this ⊢; rw [eW]; exact this
  · have := fws; simp only [World.frozen?] at this ⊢; rw [eW]; exact this
theorem que_put {w wr w2' : World} {G : Gr} {B gw gc n s l5 c5 m k L c4 g2 o2 gg cap : Nat} {vr : Value} {wv : Nat → Value} {C H xs : List Int} {A5 : Option Addr} (hqa : QAt wr w.heap.size B gw gc n vr wv (wlP G m k) C H) (hb : Below w.heap.size w wr) (hx : QBox wr (w.heap.size + 1) nilS nilS nilS)
    (hI : Ints wr (.slice (some ⟨g2, o2, none⟩) L c4) xs) (hl2 : g2 < wr.heap.size) (hg1 : w.heap.size + 1 < gw) (ap1 : g2 ≠ gw) (ap3 : ∀ s, s < n → (wv s).ownBlock ≠ some g2) (hs : (G.nd m)[k]? = some s) (hsn : s < n) (hv : wv s = .slice A5 l5 c5) (hl : (wlP G m k s).length = l5)
    (ho : w2'.ownsRow w.heap.size 3 1 (.slice (some ⟨gg, 0, none⟩) (l5 + 1) cap) (l5 + 1) (intsOf (natI (wlP G m k s)) ++ [.int .i64 (m : Int)])) (hg : ((wr.drew).alloc (.cells #[.int .i64 (m : Int)] 3)).grownBy w2' (Value.slice A5 l5 c5).ownBlock)
    (hat : (Value.slice A5 l5 c5).ownBlock = some gg ∨ gg = ((wr.drew).alloc (.cells #[.int .i64 (m : Int)] 3)).heap.size) :
    QAt (w2'.setCell ⟨gw, s, none⟩ (.slice (some ⟨gg, 0, none⟩) (l5 + 1) cap)) w.heap.size B gw gc n vr (fun x => if x = s then .slice (some ⟨gg, 0, none⟩) (l5 + 1) cap else wv x) (wlP G m (k + 1)) C H ∧ Below w.heap.size w (w2'.setCell ⟨gw, s, none⟩ (.slice (some ⟨gg, 0, none⟩) (l5 + 1) cap)) ∧
    QBox (w2'.setCell ⟨gw, s, none⟩ (.slice (some ⟨gg, 0, none⟩) (l5 + 1) cap)) (w.heap.size + 1) nilS nilS nilS ∧ Ints (w2'.setCell ⟨gw, s, none⟩ (.slice (some ⟨gg, 0, none⟩) (l5 + 1) cap)) (.slice (some ⟨g2, o2, none⟩) L c4) xs ∧
    (∀ x, x < n → (if x = s then (Value.slice (some ⟨gg, 0, none⟩) (l5 + 1) cap) else wv x).ownBlock ≠ some g2) := by
  have hab : Below wr.heap.size wr ((wr.drew).alloc (.cells #[.int .i64 (m : Int)] 3)) := ((Below.refl _ wr).drew).alloc (Nat.le_refl _) _
  have e' : (wv s).ownBlock = (Value.slice A5 l5 c5).ownBlock := by rw [hv]
  have hq := hqa.waitPut (wa := (wr.drew).alloc (.cells #[.int .i64 (m : Int)] 3)) (w1 := w2') hab hsn m (g1 := gg) (c1 := cap) (by rw [hl]; exact ho) (by rw [e']; exact hg) (by rw [e']; exact hat)
  rw [hl] at hq
  have hfun : (fun x => if x = s then wlP G m k s ++ [m] else wlP G m k x) = wlP G m (k + 1) := by
    funext x
    rw [wlP_step hs]
    by_cases e : x = s
    · subst e; rfl
    · rw [if_neg e, if_neg e]
  rw [hfun] at hq
  have hown := hqa.wl s hsn
  have st : ∀ q, q < wr.heap.size → (Value.slice A5 l5 c5).ownBlock ≠ some q → q ≠ gw → (w2'.setCell ⟨gw, s, none⟩ (.slice (some ⟨gg, 0, none⟩) (l5 + 1) cap)).heap[q]? = wr.heap[q]? := fun q h1 h2 h3 => (Below.heap_setCell _ _ _ _ h3).trans ((hg.block q (by simp; omega) (fun e => h2 e.symm)).trans (hab.block q h1))
  have hsz : wr.heap.size ≤ w2'.heap.size := by have := hg.size; simp at this; omega
  refine ⟨hq, ?_, ⟨(st _ (lt_of_block hx.cell) (fun e => ?_) (by omega)).trans hx.cell⟩, ?_, fun x hx => ?_⟩
  · refine Below.setCell (p := ⟨gw, s, none⟩) ?_ (by show w.heap.size ≤ gw; omega) _
    exact ((hb.trans (hab.mono hb.size))).grown hg (by have := hb.size; simp; omega) (fun q hq => (hown.lt q (e'.trans hq)).1)
  · obtain ⟨cs, hc⟩ := own_cells hown (e'.trans e)
    have := hx.cell
    rw [hc] at this; simp at this
  · refine ints_kp (A := fun q => q = gw ∨ (Value.slice A5 l5 c5).ownBlock = some q) hI ⟨?_, ?_, ?_, by simpa using hsz, fun q h1 h2 => st q h1 (fun e => h2 (.inr e)) (fun e => h2 (.inl e))⟩ (fun g o n' c' e he => ?_)
    · exact hg.os
    · exact hg.tape
    · exact hg.output
    · simp only [Value.slice.injEq, Option.some.injEq, Addr.mk.injEq] at e
      have eg : g = g2 := e.1.1.symm
      rw [eg] at he
      rcases he with he | he
      · exact ap1 he
      · exact ap3 s hsn (e'.trans he)
  · by_cases e : x = s
    · rw [if_pos e]
      intro e2
      have e3 : gg = g2 := by
        have e4 : some gg = some g2 := e2
        injection e4
      rcases hat with h | h
      · exact ap3 s hsn (e'.trans (by rw [h, e3]))
      · simp at h; omega
    · rw [if_neg e]; exact ap3 x hx
/-- How the queue begins. -/
def QSt (w : World) (N : Net) (n : Nat) (ov rv iv v3 : Value) (wx : World) : Prop := ∃ B gw gc : Nat, v3 = .pointer (some ⟨B, 0, none⟩) ∧ QAt wx w.heap.size B gw gc n nilS (fun _ => nilS) (wlP (grN N) 0 0) (cntP (grN N) 0 0) [] ∧ Below w.heap.size w wx ∧ QBox wx (w.heap.size + 1) nilS nilS nilS ∧ NetBox wx w.heap.size 30 ov rv iv ∧ w.heap.size + 1 < gw ∧ w.heap.size + 1 < gc ∧ w.heap.size + 1 < B
theorem qst1 (w : World) (N : Net) (n : Nat) (ov rv iv : Value) (hG : (grN N).n = n) (hn : n ≤ maxLen) : QSt w N n ov rv iv (.pointer (some ⟨w.heap.size + 1 + 1 + 1 + 1, 0, none⟩)) (((((w.alloc (.cells #[ov, rv, iv] 30)).alloc (.cells #[.slice none 0 0, .slice none 0 0, .slice none 0 0] 85)).alloc (.cells (madeCells #[.slice none 0 0] n) 23)).alloc (.cells (madeCells #[.int .i64 0] n) 3)).alloc (.cells #[.slice (some ⟨w.heap.size + 1 + 1, 0, none⟩) n n, .slice (some ⟨w.heap.size + 1 + 1 + 1, 0, none⟩) n n, .slice none 0 0] 85)).drew := by
  obtain ⟨k0, k1, k2, k3, k4, hb⟩ := blocks5 w _ _ _ (.cells (madeCells #[.slice none 0 0] n) 23) (.cells (madeCells #[.int .i64 0] n) 3) (.cells #[.slice (some ⟨w.heap.size + 1 + 1, 0, none⟩) n n, .slice (some ⟨w.heap.size + 1 + 1 + 1, 0, none⟩) n n, .slice none 0 0] 85) rfl
  exact ⟨w.heap.size + 1 + 1 + 1 + 1, w.heap.size + 1 + 1, w.heap.size + 1 + 1 + 1, rfl, q_start k2 k3 k4 (by omega) (by omega) (by omega) hn _ hG, hb, ⟨k1⟩, ⟨k0⟩, by omega, by omega, by omega⟩
theorem qst2 (w : World) (N : Net) (n : Nat) (ov rv iv : Value) (hG : (grN N).n = n) (hn : n ≤ maxLen) : QSt w N n ov rv iv (.pointer (some ⟨w.heap.size + 1 + 1 + 1 + 1, 0, none⟩)) (((((w.alloc (.cells #[ov, rv, iv] 30)).alloc (.cells #[.slice none 0 0, .slice none 0 0, .slice none 0 0] 85)).alloc (.cells (madeCells #[.int .i64 0] n) 3)).alloc (.cells (madeCells #[.slice none 0 0] n) 23)).alloc (.cells #[.slice (some ⟨w.heap.size + 1 + 1 + 1, 0, none⟩) n n, .slice (some ⟨w.heap.size + 1 + 1, 0, none⟩) n n, .slice none 0 0] 85)).drew := by
  obtain ⟨k0, k1, k2, k3, k4, hb⟩ := blocks5 w _ _ _ (.cells (madeCells #[.int .i64 0] n) 3) (.cells (madeCells #[.slice none 0 0] n) 23) (.cells #[.slice (some ⟨w.heap.size + 1 + 1 + 1, 0, none⟩) n n, .slice (some ⟨w.heap.size + 1 + 1, 0, none⟩) n n, .slice none 0 0] 85) rfl
  exact ⟨w.heap.size + 1 + 1 + 1 + 1, w.heap.size + 1 + 1 + 1, w.heap.size + 1 + 1, rfl, q_start k3 k2 k4 (by omega) (by omega) (by omega) hn _ hG, hb, ⟨k1⟩, ⟨k0⟩, by omega, by omega, by omega⟩
theorem qst3 (w : World) (N : Net) (n : Nat) (ov rv iv : Value) (hG : (grN N).n = n) (hn : n ≤ maxLen) : QSt w N n ov rv iv (.pointer (some ⟨w.heap.size + 1 + 1 + 1, 0, none⟩)) (((((w.alloc (.cells #[ov, rv, iv] 30)).alloc (.cells #[.slice none 0 0, .slice none 0 0, .slice none 0 0] 85)).alloc (.cells (madeCells #[.slice none 0 0] n) 23)).alloc (.cells #[.slice (some ⟨w.heap.size + 1 + 1, 0, none⟩) n n, .slice (some ⟨w.heap.size + 1 + 1 + 1 + 1, 0, none⟩) n n, .slice none 0 0] 85)).alloc (.cells (madeCells #[.int .i64 0] n) 3)).drew := by
  obtain ⟨k0, k1, k2, k3, k4, hb⟩ := blocks5 w _ _ _ (.cells (madeCells #[.slice none 0 0] n) 23) (.cells #[.slice (some ⟨w.heap.size + 1 + 1, 0, none⟩) n n, .slice (some ⟨w.heap.size + 1 + 1 + 1 + 1, 0, none⟩) n n, .slice none 0 0] 85) (.cells (madeCells #[.int .i64 0] n) 3) rfl
  exact ⟨w.heap.size + 1 + 1 + 1, w.heap.size + 1 + 1, w.heap.size + 1 + 1 + 1 + 1, rfl, q_start k2 k4 k3 (by omega) (by omega) (by omega) hn _ hG, hb, ⟨k1⟩, ⟨k0⟩, by omega, by omega, by omega⟩
theorem qst4 (w : World) (N : Net) (n : Nat) (ov rv iv : Value) (hG : (grN N).n = n) (hn : n ≤ maxLen) : QSt w N n ov rv iv (.pointer (some ⟨w.heap.size + 1 + 1 + 1, 0, none⟩)) (((((w.alloc (.cells #[ov, rv, iv] 30)).alloc (.cells #[.slice none 0 0, .slice none 0 0, .slice none 0 0] 85)).alloc (.cells (madeCells #[.int .i64 0] n) 3)).alloc (.cells #[.slice (some ⟨w.heap.size + 1 + 1 + 1 + 1, 0, none⟩) n n, .slice (some ⟨w.heap.size + 1 + 1, 0, none⟩) n n, .slice none 0 0] 85)).alloc (.cells (madeCells #[.slice none 0 0] n) 23)).drew := by
  obtain ⟨k0, k1, k2, k3, k4, hb⟩ := blocks5 w _ _ _ (.cells (madeCells #[.int .i64 0] n) 3) (.cells #[.slice (some ⟨w.heap.size + 1 + 1 + 1 + 1, 0, none⟩) n n, .slice (some ⟨w.heap.size + 1 + 1, 0, none⟩) n n, .slice none 0 0] 85) (.cells (madeCells #[.slice none 0 0] n) 23) rfl
  exact ⟨w.heap.size + 1 + 1 + 1, w.heap.size + 1 + 1 + 1 + 1, w.heap.size + 1 + 1, rfl, q_start k4 k2 k3 (by omega) (by omega) (by omega) hn _ hG, hb, ⟨k1⟩, ⟨k0⟩, by omega, by omega, by omega⟩
theorem qst5 (w : World) (N : Net) (n : Nat) (ov rv iv : Value) (hG : (grN N).n = n) (hn : n ≤ maxLen) : QSt w N n ov rv iv (.pointer (some ⟨w.heap.size + 1 + 1, 0, none⟩)) (((((w.alloc (.cells #[ov, rv, iv] 30)).alloc (.cells #[.slice none 0 0, .slice none 0 0, .slice none 0 0] 85)).alloc (.cells #[.slice (some ⟨w.heap.size + 1 + 1 + 1, 0, none⟩) n n, .slice (some ⟨w.heap.size + 1 + 1 + 1 + 1, 0, none⟩) n n, .slice none 0 0] 85)).alloc (.cells (madeCells #[.slice none 0 0] n) 23)).alloc (.cells (madeCells #[.int .i64 0] n) 3)).drew := by
  obtain ⟨k0, k1, k2, k3, k4, hb⟩ := blocks5 w _ _ _ (.cells #[.slice (some ⟨w.heap.size + 1 + 1 + 1, 0, none⟩) n n, .slice (some ⟨w.heap.size + 1 + 1 + 1 + 1, 0, none⟩) n n, .slice none 0 0] 85) (.cells (madeCells #[.slice none 0 0] n) 23) (.cells (madeCells #[.int .i64 0] n) 3) rfl
  exact ⟨w.heap.size + 1 + 1, w.heap.size + 1 + 1 + 1, w.heap.size + 1 + 1 + 1 + 1, rfl, q_start k3 k4 k2 (by omega) (by omega) (by omega) hn _ hG, hb, ⟨k1⟩, ⟨k0⟩, by omega, by omega, by omega⟩
theorem qst6 (w : World) (N : Net) (n : Nat) (ov rv iv : Value) (hG : (grN N).n = n) (hn : n ≤ maxLen) : QSt w N n ov rv iv (.pointer (some ⟨w.heap.size + 1 + 1, 0, none⟩)) (((((w.alloc (.cells #[ov, rv, iv] 30)).alloc (.cells #[.slice none 0 0, .slice none 0 0, .slice none 0 0] 85)).alloc (.cells #[.slice (some ⟨w.heap.size + 1 + 1 + 1 + 1, 0, none⟩) n n, .slice (some ⟨w.heap.size + 1 + 1 + 1, 0, none⟩) n n, .slice none 0 0] 85)).alloc (.cells (madeCells #[.int .i64 0] n) 3)).alloc (.cells (madeCells #[.slice none 0 0] n) 23)).drew := by
  obtain ⟨k0, k1, k2, k3, k4, hb⟩ := blocks5 w _ _ _ (.cells #[.slice (some ⟨w.heap.size + 1 + 1 + 1 + 1, 0, none⟩) n n, .slice (some ⟨w.heap.size + 1 + 1 + 1, 0, none⟩) n n, .slice none 0 0] 85) (.cells (madeCells #[.int .i64 0] n) 3) (.cells (madeCells #[.slice none 0 0] n) 23) rfl
  exact ⟨w.heap.size + 1 + 1, w.heap.size + 1 + 1 + 1 + 1, w.heap.size + 1 + 1 + 1, rfl, q_start k4 k3 k2 (by omega) (by omega) (by omega) hn _ hG, hb, ⟨k1⟩, ⟨k0⟩, by omega, by omega, by omega⟩
set_option maxRecDepth 100000 in
set_option maxHeartbeats 16000000 in
theorem queued_any (w : World) (ov rv iv : Value) (N : Net) (h : NetR w ov rv iv N) (hm : mayN N = true) (hn3 : N.ops.length ≤ 1000) : Calls Try.prog 46 #[.agg #[ov, rv, iv]] w (QuePost w N) := by
  obtain ⟨i0, hi0, hz0, hz1, hz2⟩ := info_parts info3
  obtain ⟨A, c, rfl, z1, z2⟩ := h.1.form
  obtain ⟨n, hn⟩ : ∃ L, N.ops.length = L := ⟨_, rfl⟩
  have HN := Lib.hid hn
  have HGN : Hid ((grN N).n = n) := Lib.hid hn
  have H1 := Lib.hid h.1
  have HM := Lib.hid hm
  have HPS : Hid (∀ e w', QuePost w N e w' = (∃ (B gw gc : Nat) (vr : Value) (wv : Nat → Value) (H : List Int), e = .returned (.agg #[rowV gw n, rowV gc n, vr]) ∧ QAt w' w.heap.size B gw gc n vr wv (wlA (grN N)) (cntA (grN N) []) H ∧ H.Perm (natI ((List.range n).filter (freeB (grN N) []))) ∧ Below w.heap.size w w')) := Lib.hid (fun e w' => by unfold QuePost; rw [hn])
  rw [hn] at z1 H1 hn3 ⊢
  unfold maxLen at z2
  have hmk := run_make_row' (P := Try.prog) 23 3 (.int .i64 0) 8 Try.underlying23 info3 rfl .i64 .i64 n (by omega) (by omega)
  have hmk2 := run_make_row' (P := Try.prog) 46 23 (.slice none 0 0) 24 Try.underlying46 infoS rfl .i64 .i64 n (by omega) (by omega)
  clear h hm hn
  go_enter Try.func46, Try.ntmps46
  go_upto_region 1 with fail
  have hnm : n ≤ maxLen := by unfold maxLen; omega
  have HNM := Lib.hid hnm
  clear hnm
  go_cut [3] (fun v3 wx => QSt w N n (.slice A n c) rv iv v3 wx)
  case first =>
    go_region
    all_goals
      go_wp2_with fail
      go_meet
      first
        | with_reducible exact qst1 w N n _ rv iv HGN.out HNM.out
        | with_reducible exact qst2 w N n _ rv iv HGN.out HNM.out
        | with_reducible exact qst3 w N n _ rv iv HGN.out HNM.out
        | with_reducible exact qst4 w N n _ rv iv HGN.out HNM.out
        | with_reducible exact qst5 w N n _ rv iv HGN.out HNM.out
        | with_reducible exact qst6 w N n _ rv iv HGN.out HNM.out
  case rest =>
    obtain ⟨B, gw, gc, rfl, hq, hb, hx, hnb, hg1, hg2, hg3⟩ := hcut
    have HQS := Lib.hid hq
    have HBS := Lib.hid hb
    have HXS := Lib.hid hx
    have HBB := Lib.hid hg3
    obtain ⟨p0, p1, p2⟩ := hnb.ats
    clear hq hb hx hnb
    go_wp2_with fail
    go_loopw [20] (fun vi wr => ∃ (m : Nat) (vr : Value) (wv : Nat → Value) (H : List Int), m ≤ n ∧ vi = .int .i64 (m : Int) ∧ QAt wr w.heap.size B gw gc n vr wv (wlP (grN N) m 0) (cntP (grN N) m 0) H ∧ H.Perm (natI (rdM (grN N) m)) ∧ Below w.heap.size w wr ∧ QBox wr (w.heap.size + 1) nilS nilS nilS) (fun vi _ => n - (intOf vi).toNat)
    case atStart => exact ⟨0, nilS, fun _ => nilS, [], Nat.zero_le _, rfl, HQS.out, List.Perm.refl _, HBS.out, HXS.out⟩
    case round =>
      obtain ⟨m, vr, wv, H, hm, rfl, hq, hp, hb, hx⟩ := hrel
      have HQ := Lib.hid hq
      have HP := Lib.hid hp
      have HB := Lib.hid hb
      have HX := Lib.hid hx
      obtain ⟨l1, l2, l3⟩ := hq.lts
      clear hq hp hb hx
      by_cases hml : m < n
      · have hxx := op_get (N := N) (i := m) (by rw [HN.out]; exact hml)
        obtain ⟨g, o, rfl, hg, d0, d1, d2, d3, d4⟩ := (H1.out.below HB.out (Nat.le_refl _)).at hxx
        have hmay := may_at HM.out (i := m) (by rw [HN.out]; exact hml)
        have HNE := Lib.hid (fun W => sneeds_any W (opAt N m) _ _ hmay)
        have HCAST := Lib.hid (nd_cast HM.out (i := m) (by rw [HN.out]; exact hml))
        have HLT : Hid (∀ k ∈ ndN N m, k < n) := Lib.hid (fun k hk => by
          have := nd_lt HM.out m (by show m < N.ops.length; rw [HN.out]; exact hml) k hk
          have e : (grN N).n = n := HN.out
          rw [e] at this; exact this)
        obtain ⟨xx, hxx2⟩ : ∃ x, opAt N m = x := ⟨_, rfl⟩
        rw [hxx2] at d0 d1 d2 d3 d4 HNE HCAST
        obtain ⟨xo, xa, xb, xc, xn⟩ := xx
        unfold opV at HNE
        dsimp only at d0 d1 d2 d3 d4 HNE
        have hx5 : OpBox (wr.alloc (.cells #[.int .i64 xo, .int .i64 xa, .int .i64 xb, .int .i64 xc, .int .i64 xn] 79)) wr.heap.size 79 ⟨xo, xa, xb, xc, xn⟩ := ⟨heap_alloc_new _ _⟩
        obtain ⟨a0, a1, a2, a3, a4, -, -, -⟩ := hx5.ats
        clear hxx hmay hxx2 hx5
        go_wp2_with fail
        refine (HNE.out _).mono ?_
        rintro e w6 ⟨lv, rfl, hi6, hb6, hn6⟩
        have HI6 := Lib.hid hi6
        have hb56 : Below wr.heap.size wr w6 := (below_new wr _).trans (hb6.mono (by simp))
        have HN6 : Hid (∀ g o n' c, lv = .slice (some ⟨g, o, none⟩) n' c → wr.heap.size ≤ g) := Lib.hid (fun g o n' c e => by have := hn6 g o n' c e; simp at this; omega)
        have HQ6 := Lib.hid (HQ.out.below hb56)
        have HB6 := Lib.hid (HB.out.trans (hb56.mono HB.out.size))
        have HX6 : Hid (QBox w6 (w.heap.size + 1) nilS nilS nilS) := Lib.hid ⟨(hb56.block _ (lt_of_block HX.out.cell)).trans HX.out.cell⟩
        have HWB : Hid (∀ s k, s < n → (wv s).ownBlock = some k → k < wr.heap.size) := Lib.hid (fun s k hs hk => ((HQ.out.wl s hs).lt k hk).2)
        obtain ⟨A4, c4, rfl, z3, z4⟩ := ints_form hi6
        obtain ⟨L, hL⟩ : ∃ L, (needI ⟨xo, xa, xb, xc, xn⟩).length = L := ⟨_, rfl⟩
        rw [hL] at HI6 z3 HN6 ⊢
        have HL : Hid ((ndN N m).length = L) := Lib.hid (by rw [← hL, ← HCAST.out, List.length_map])
        have hL3 : L ≤ 3 := by rw [← HL.out]; exact nd_three N m
        unfold maxLen at z4
        clear hi6 hb6 hn6 hL hb56
        go_wp2_with fail
        go_loopw [28] (fun vk wk => ∃ (k : Nat) (wv : Nat → Value), k ≤ L ∧ vk = .int .i64 (k : Int) ∧ QAt wk w.heap.size B gw gc n vr wv (wlP (grN N) m k) (cntP (grN N) m k) H ∧ Below w.heap.size w wk ∧ QBox wk (w.heap.size + 1) nilS nilS nilS ∧ Ints wk (.slice A4 L c4) (needI ⟨xo, xa, xb, xc, xn⟩) ∧ (∀ g o, A4 = some ⟨g, o, none⟩ → g ≠ gw ∧ g ≠ gc ∧ ∀ s, s < n → (wv s).ownBlock ≠ some g)) (fun vk _ => L - (intOf vk).toNat)
        case atStart =>
          exact ⟨0, wv, Nat.zero_le _, rfl, HQ6.out, HB6.out, HX6.out, HI6.out, fun g o e => by
            have h1 := HN6.out g o L c4 (by rw [e])
            refine ⟨by omega, by omega, fun s hs e2 => ?_⟩
            have := HWB.out s g hs e2
            omega⟩
        case round =>
          obtain ⟨k, wv, hk, rfl, hq, hb, hx, hii, hap⟩ := hrel
          have HQk := Lib.hid hq
          have HBk := Lib.hid hb
          have HXk := Lib.hid hx
          have HIk := Lib.hid hii
          have HAP := Lib.hid hap
          have hcB := hq.hp.row.cell
          have b0 : wr.cell? ⟨B, 0, none⟩ = some (rowV gw n) := by simp [World.cell?, hcB]
          have b1 : wr.cell? ⟨B, 1, none⟩ = some (rowV gc n) := by simp [World.cell?, hcB]
          obtain ⟨l1k, l2k, l3k⟩ := hq.lts
          have hgcB := hq.gc_ne.1
          have hBgw := hq.B_ne
          have ccm := (hq.cnt.cellAt m (by omega)).trans (intsOf_get _ m _ (cntP_at (G := grN N) (m := m) (k := k) (by rw [HGN.out]; exact hml)))
          have fcm := hq.cnt.frozenAt m
          clear hq hb hx hii hap hcB
          by_cases hkl : k < L
          · obtain ⟨s, hs⟩ : ∃ s, (ndN N m)[k]? = some s := ⟨_, List.getElem?_eq_getElem (by rw [HL.out]; exact hkl)⟩
            have hsn := HLT.out s (List.mem_of_getElem? hs)
            have hs2 : (needI ⟨xo, xa, xb, xc, xn⟩)[k]? = some (s : Int) := by rw [← HCAST.out, List.getElem?_map, hs]; rfl
            obtain ⟨gn, on, rfl, hgnl, e0⟩ := ints_at HIk.out hs2
            obtain ⟨ap1, ap2, ap3⟩ := HAP.out gn on rfl
            have cws := (HQk.out.wrow.cellAt s (by omega)).trans (show ((List.range n).map wv)[s]? = some (wv s) by rw [List.getElem?_map, List.getElem?_range hsn]; rfl)
            have fws := HQk.out.wrow.frozenAt s
            have hwl := HQk.out.wl s hsn
            have hwlen := wlP_len (grN N) (nd_three N) m k s
            obtain ⟨A5, c5, e5, z5, z6⟩ := ints_form (Ints.of_own (l := natI (wlP (grN N) m k s)) (by rw [natI_len]; exact hwl))
            rw [natI_len] at e5 z5
            obtain ⟨l5, hl5⟩ : ∃ l, (wlP (grN N) m k s).length = l := ⟨_, rfl⟩
            rw [hl5] at e5 z5 hwlen
            rw [e5] at cws
            have HWL : Hid (wr.ownsRow w.heap.size 3 1 (.slice A5 l5 c5) l5 (intsOf (natI (wlP (grN N) m k s)))) := Lib.hid (by rw [e5, hl5] at hwl; exact hwl)
            have HQ3 := Lib.hid (fun (w2' : World) => que_read (w2' := w2') (m := m) HQk.out hsn e5)
            have HPUT := Lib.hid (fun (w2' : World) (gg cap : Nat) => que_put (w2' := w2') (gg := gg) (cap := cap) (G := grN N) HQk.out HBk.out HXk.out HIk.out hgnl hg1 ap1 ap3 hs hsn e5 hl5)
            have hl5b : l5 ≤ 4000 := by omega
            have hszk := HBk.out.size
            have HSN := Lib.hid hsn
            clear hs hs2 hwl e5 hl5 ap3
            go_upto_region 8 with fail
            go_cut [] (fun wx => ∃ wv2 : Nat → Value, QAt wx w.heap.size B gw gc n vr wv2 (wlP (grN N) m (k + 1)) (cntP (grN N) m k) H ∧ Below w.heap.size w wx ∧ QBox wx (w.heap.size + 1) nilS nilS nilS ∧ Ints wx (.slice (some ⟨gn, on, none⟩) L c4) (needI ⟨xo, xa, xb, xc, xn⟩) ∧ (∀ x, x < n → (wv2 x).ownBlock ≠ some gn))
            case first =>
              go_region_law (refine step_append_lies _ (by rfl) _ _ _ (by rfl) w.heap.size 3 i0 _ 1 8 Try.underlying23 hi0 hz0 hz1 hz2 rfl (by omega) (.slice A5 l5 c5) l5 (intsOf (natI (wlP (grN N) m k s))) (by rfl) (by exact HWL.out.alloc _) ⟨wr.heap.size, 0, none⟩ 1 1 [.int .i64 (m : Int)] (by rfl) (by rfl) (World.news_of_block (cs := #[.int .i64 (m : Int)]) (t := 3) (fr := (0, 0)) (heap_alloc_new _ _)) (by simp [Value.oneCell']) (by omega) (by unfold maxLen; omega) (by omega) (by simp; omega) (wr.heap.size + 1) (by simp) ?_; intro gg cap w2' hown2 hgrow hat hlt; obtain ⟨r0, r1, r2⟩ := HQ3.out w2' hgrow)
              all_goals
                obtain ⟨e1, e2, e3, e4, e5⟩ := HPUT.out w2' gg cap hown2 hgrow (hat.imp id (fun e => e.trans (by simp)))
                go_wp2_with fail
                go_meet
                exact ⟨_, e1, e2, e3, e4, e5⟩
            case rest =>
              obtain ⟨wv2, e1, e2, e3, e4, e5⟩ := hcut
              have HQ3' := Lib.hid e1
              have HB3' := Lib.hid e2
              have HX3' := Lib.hid e3
              have HI3' := Lib.hid e4
              have HA3' := Lib.hid e5
              have hcB3 := e1.hp.row.cell
              have b13 : wc.cell? ⟨B, 1, none⟩ = some (rowV gc n) := by simp [World.cell?, hcB3]
              have ccm3 := (e1.cnt.cellAt m (by omega)).trans (intsOf_get _ m _ (cntP_at (G := grN N) (m := m) (k := k) (by rw [HGN.out]; exact hml)))
              have fcm3 := e1.cnt.frozenAt m
              have hgcs := e1.lts.2.2
              have HFIN : Hid (QAt (wc.setCell ⟨gc, m, none⟩ (.int .i64 ((k : Int) + 1))) w.heap.size B gw gc n vr wv2 (wlP (grN N) m (k + 1)) (cntP (grN N) m (k + 1)) H) := Lib.hid (by
                have := HQ3'.out.cntSet m ((k : Int) + 1)
                rw [cntP_set (by rw [HGN.out]; exact hml)] at this; exact this)
              have HFB : Hid (Below w.heap.size w (wc.setCell ⟨gc, m, none⟩ (.int .i64 ((k : Int) + 1)))) := Lib.hid (HB3'.out.setCell (p := ⟨gc, m, none⟩) (by show w.heap.size ≤ gc; omega) _)
              have HFX : Hid (QBox (wc.setCell ⟨gc, m, none⟩ (.int .i64 ((k : Int) + 1))) (w.heap.size + 1) nilS nilS nilS) := Lib.hid ⟨(Below.heap_setCell _ _ _ _ (by show w.heap.size + 1 ≠ gc; omega)).trans HX3'.out.cell⟩
              have HFI : Hid (Ints (wc.setCell ⟨gc, m, none⟩ (.int .i64 ((k : Int) + 1))) (.slice (some ⟨gn, on, none⟩) L c4) (needI ⟨xo, xa, xb, xc, xn⟩)) := Lib.hid (ints_kp HI3'.out ((Kp.refl (fun q => q = gc) wc).setCell (p := ⟨gc, m, none⟩) rfl _) (fun g o n' c' e he => by
                simp only [Value.slice.injEq, Option.some.injEq, Addr.mk.injEq] at e
                have eg : g = gn := e.1.1.symm
                exact ap2 (eg ▸ he)))
              have hk3 : (k : Int) ≤ 3 := by omega
              clear e1 e2 e3 e4 e5 hcB3 b0 b1 cws fws ccm fcm
              go_wp2_with fail
              exact ⟨⟨k + 1, _, by omega, by go_num, HFIN.out, HFB.out, HFX.out, HFI.out, fun g o e => by
                simp only [Option.some.injEq, Addr.mk.injEq] at e
                have eg : g = gn := e.1.symm
                subst eg
                exact ⟨ap1, ap2, HA3'.out⟩⟩, by simp [intOf]; omega⟩
          · have hkL : k = L := by omega
            subst hkL
            have HQN : Hid (QAt wr w.heap.size B gw gc n vr wv (wlP (grN N) (m + 1) 0) (cntP (grN N) (m + 1) 0) H) := Lib.hid (by
              have e1 : wlP (grN N) m k = wlP (grN N) (m + 1) 0 := by funext x; exact wlP_next (grN N) m HL.out.symm x
              have e2 : cntP (grN N) m k = cntP (grN N) (m + 1) 0 := cntP_next (grN N) m HL.out.symm
              have := HQk.out
              rw [e1, e2] at this; exact this)
            have hszk := HBk.out.size
            by_cases hk0 : k = 0
            · subst hk0
              have HPU := Lib.hid (hpush_any wr w.heap.size B _ _ vr H (m : Int) HQN.out.hp hszk (by rw [HP.out.length_eq, natI_len]; unfold rdM; have := filter_len m (fun j => ((grN N).nd j).length == 0); omega))
              go_wp2_with fail
              refine HPU.out.mono ?_
              rintro e w5 ⟨rfl, v5, l5, hp5, hh5, ho5, hk5⟩
              have HQ5 := Lib.hid (HQN.out.heap hh5 ho5 hk5)
              have HB5 : Hid (Below w.heap.size w w5) := Lib.hid (HBk.out.trans (hk5.below hszk (fun q _ e => by
                rcases e with e | e
                · have := HBB.out; omega
                · exact (HQN.out.hp.row.own.lt q e).1)))
              have HX5 : Hid (QBox w5 (w.heap.size + 1) nilS nilS nilS) := Lib.hid ⟨(hk5.block _ (lt_of_block HXk.out.cell) (fun e => by
                rcases e with e | e
                · have := HBB.out; omega
                · obtain ⟨cs, hc⟩ := own_cells HQN.out.hp.row.own e
                  have := HXk.out.cell
                  rw [hc] at this; simp at this)).trans HXk.out.cell⟩
              have HP5 : Hid (l5.Perm (natI (rdM (grN N) (m + 1)))) := Lib.hid (by
                rw [rdM_succ, if_pos (show ((grN N).nd m).length = 0 from HL.out)]
                refine hp5.trans ((List.Perm.cons _ HP.out).trans ?_)
                have : (m :: rdM (grN N) m).Perm (rdM (grN N) m ++ [m]) := List.perm_append_comm (l₁ := [m])
                have e := List.Perm.map Int.ofNat this
                unfold natI; exact e)
              clear hp5 hh5 ho5 hk5
              go_wp2_with fail
              exact ⟨⟨m + 1, v5, wv, l5, by omega, by go_num, HQ5.out, HP5.out, HB5.out, HX5.out⟩, by simp [intOf]; omega⟩
            · have HP5 : Hid (H.Perm (natI (rdM (grN N) (m + 1)))) := Lib.hid (by
                have e0 : ((grN N).nd m).length ≠ 0 := fun e => hk0 (HL.out.symm.trans e)
                rw [rdM_succ, if_neg e0]; exact HP.out)
              have hk0b : ((k : Int) == 0) = false := by simp; omega
              go_wp2_with fail
              exact ⟨⟨m + 1, vr, wv, H, by omega, by go_num, HQN.out, HP5.out, HBk.out, HXk.out⟩, by simp [intOf]; omega⟩
      · have hmn : m = n := by omega
        subst hmn
        have hcB := HQ.out.hp.row.cell
        have b0 : wr.cell? ⟨B, 0, none⟩ = some (rowV gw m) := by simp [World.cell?, hcB]
        have b1 : wr.cell? ⟨B, 1, none⟩ = some (rowV gc m) := by simp [World.cell?, hcB]
        have b2 : wr.cell? ⟨B, 2, none⟩ = some vr := by simp [World.cell?, hcB]
        obtain ⟨r0, r1, r2, f0, f1, f2⟩ := HX.out.ats
        obtain ⟨Av, nv, cv, rfl⟩ : ∃ A n c, vr = .slice A n c := by
          obtain ⟨-, h1 | ⟨g, cap, cur, e, -⟩⟩ := HQ.out.hp.row.own
          · exact ⟨_, _, _, h1.1⟩
          · exact ⟨_, _, _, e⟩
        have hBn := HBB.out
        have hBn2 : w.heap.size + 1 ≠ B := by omega
        have hBn3 : B ≠ w.heap.size + 1 := by omega
        have HFIN : Hid (∀ W, W = ((wr.setCell ⟨w.heap.size + 1, 0, none⟩ (rowV gw m)).setCell ⟨w.heap.size + 1, 1, none⟩ (rowV gc m)).setCell ⟨w.heap.size + 1, 2, none⟩ (.slice Av nv cv) → QuePost w N (.returned (.agg #[rowV gw m, rowV gc m, .slice Av nv cv])) W) := Lib.hid (fun W hW => by
          subst hW
          rw [HPS.out]
          have sc : ∀ p, p ≠ w.heap.size + 1 → (((wr.setCell ⟨w.heap.size + 1, 0, none⟩ (rowV gw m)).setCell ⟨w.heap.size + 1, 1, none⟩ (rowV gc m)).setCell ⟨w.heap.size + 1, 2, none⟩ (.slice Av nv cv)).heap[p]? = wr.heap[p]? := fun p hp => by
            rw [Below.heap_setCell _ _ _ _ hp, Below.heap_setCell _ _ _ _ hp, Below.heap_setCell _ _ _ _ hp]
          refine ⟨B, gw, gc, _, wv, H, rfl, ?_, ?_, ((HB.out.setCell (p := ⟨w.heap.size + 1, 0, none⟩) (by simp) _).setCell (p := ⟨w.heap.size + 1, 1, none⟩) (by simp) _).setCell (p := ⟨w.heap.size + 1, 2, none⟩) (by simp) _⟩
          · have hq := HQ.out
            have e1 : wlP (grN N) m 0 = wlA (grN N) := by funext x; unfold wlA; rw [HGN.out]
            rw [e1, cntA_start (grN N) HGN.out.symm] at hq
            refine hq.keep (by simp) (fun p hp hQ => sc p (fun e => ?_))
            have hcx := HX.out.cell
            rw [← e] at hcx
            rcases hQ with h | h | h | h | ⟨i, hi, h⟩
            · omega
            · omega
            · omega
            · obtain ⟨cs, hc⟩ := own_cells hq.hp.row.own h
              rw [hc] at hcx; simp at hcx
            · obtain ⟨cs, hc⟩ := own_cells (hq.wl i hi) h
              rw [hc] at hcx; simp at hcx
          · have := HP.out
            have e := rdM_all (grN N)
            rw [HGN.out] at e
            rw [e] at this; exact this)
        go_wp2_with fail
        obtain ⟨y0, y1, y2, -, -, -⟩ := (HX.out.set3 (rowV gw m) (rowV gc m) (.slice Av nv cv)).ats
        exact bodyPost_ret (v := .agg #[rowV gw m, rowV gc m, .slice Av nv cv]) (by simp [results, Try.results46, go_sem, y0, y1, y2]) rfl (HFIN.out _ rfl)
end Go.Proofs.Ytcphjehjdhgheaa.Nt
