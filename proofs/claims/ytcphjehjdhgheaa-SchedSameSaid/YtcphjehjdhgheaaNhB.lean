/- Push and Pop of the numbers that may be taken. Conditions: they lie in the queue. -/
import Derived.Test.YtcphjehjdhgheaaNhA
namespace Go.Proofs.Ytcphjehjdhgheaa.Nt
open Go.ChangeShapes Go.WideShapes Go.ChangeAt Go.RowKit Go.Proofs.Ytcphjehjdhgheaa.Tr
set_option linter.unusedVariables false
set_option linter.unusedSimpArgs false

/-- The queue's block, and the row of the numbers that may be taken. -/
structure RdAt (w : World) (base B : Nat) (c0 c1 v : Value) (l : List Int) : Prop where
  cell : w.heap[B]? = some (.cells #[c0, c1, v] 85 (0, 0))
  own : w.ownsRow base 3 1 v l.length (intsOf l)
theorem RdAt.ne {w : World} {base B : Nat} {c0 c1 v : Value} {l : List Int} (h : RdAt w base B c0 c1 v l) : ∀ k, v.ownBlock = some k → k ≠ B ∧ k < w.heap.size := by
  intro k hk
  obtain ⟨hl, h0 | ⟨g, cap, cur, rfl, hb, hh, _⟩⟩ := h.own
  · rw [h0.1] at hk; cases hk
  · have e : some g = some k := hk
    injection e with e
    subst e
    refine ⟨fun e => ?_, lt_of_block hh⟩
    subst e
    rw [h.cell] at hh
    simp at hh
theorem RdAt.lt {w : World} {base B : Nat} {c0 c1 v : Value} {l : List Int} (h : RdAt w base B c0 c1 v l) : B < w.heap.size := lt_of_block h.cell
theorem RdAt.at3 {w : World} {base B : Nat} {c0 c1 v : Value} {l : List Int} (h : RdAt w base B c0 c1 v l) : w.cell? ⟨B, 2, none⟩ = some v ∧ w.frozen? ⟨B, 2, none⟩ = false := by
  have := h.cell
  constructor <;> simp [World.cell?, World.frozen?, this]
theorem ta_int (x : Int) (W : World) : Sem.run Try.prog (Instr.typeAssert (.iface 3 (.int .i64 x)) 20 3 false) W = .ok (.int .i64 x) W := by kernel_rfl
/-- What stands in the queue's last cell is another slice. -/
theorem set_que {w : World} {B : Nat} {c0 c1 v u : Value} (h : w.heap[B]? = some (.cells #[c0, c1, v] 85 (0, 0))) : (w.setCell ⟨B, 2, none⟩ u).heap[B]? = some (.cells #[c0, c1, u] 85 (0, 0)) := by
  simp [World.setCell, Array.getElem?_modify, h]
def PushPost (w : World) (base B : Nat) (c0 c1 v : Value) (l : List Int) (x : Int) (e : Ending) (w' : World) : Prop :=
  e = .returned (.tuple #[]) ∧ ∃ g c, RdAt w' base B c0 c1 (.slice (some ⟨g, 0, none⟩) (l.length + 1) c) (l ++ [x]) ∧ (v.ownBlock = some g ∨ w.heap.size ≤ g) ∧ Kp (fun i => i = B ∨ v.ownBlock = some i) w w'
theorem push_end {w wa w2 : World} {base B : Nat} {c0 c1 v : Value} {l : List Int} {x : Int} (h : RdAt w base B c0 c1 v l) (ha : Below w.heap.size w wa) {g cap : Nat}
    (hown : w2.ownsRow base 3 1 (.slice (some ⟨g, 0, none⟩) (l.length + 1) cap) (l.length + 1) (intsOf l ++ [.int .i64 x])) (hg : wa.grownBy w2 v.ownBlock) (hat : v.ownBlock = some g ∨ g = wa.heap.size) :
    PushPost w base B c0 c1 v l x (.returned (.tuple #[])) (w2.setCell ⟨B, 2, none⟩ (.slice (some ⟨g, 0, none⟩) (l.length + 1) cap)) := by
  have hz := ha.size
  have hB := h.lt
  have hk : Kp (fun i => i = B ∨ v.ownBlock = some i) w w2 := ((Kp.of_below ha).wide (fun _ _ h => h.elim)).grown hg (fun k hk _ => .inr hk)
  have hBv : v.ownBlock ≠ some B := fun e => (h.ne B e).1 rfl
  have hcell : w2.heap[B]? = some (.cells #[c0, c1, v] 85 (0, 0)) := (hg.block B (by omega) (fun e => hBv e.symm)).trans ((ha.block B hB).trans h.cell)
  have hgB : g ≠ B := by
    rcases hat with e | e
    · exact (h.ne g e).1
    · omega
  refine ⟨rfl, g, cap, ⟨set_que hcell, ?_⟩, ?_, hk.setCell (p := ⟨B, 2, none⟩) (.inl rfl) _⟩
  · rw [ints_snoc, List.length_append]
    exact own_block hown (fun k hk => by
      have e : some g = some k := hk
      injection e with e
      subst e
      exact Below.heap_setCell _ _ _ _ hgB)
  · rcases hat with e | e
    · exact .inl e
    · exact .inr (by omega)
set_option maxRecDepth 100000 in
set_option maxHeartbeats 4000000 in
theorem rpush_any (w : World) (base B : Nat) (c0 c1 v : Value) (l : List Int) (x : Int) (h : RdAt w base B c0 c1 v l) (hb : base ≤ w.heap.size) (hn : l.length ≤ 100000) :
    Calls Try.prog 163 #[.pointer (some ⟨B, 2, none⟩), .iface 3 (.int .i64 x)] w (PushPost w base B c0 c1 v l x) := by
  obtain ⟨i0, hi, hz0, hz1, hz2⟩ := info_parts info3
  have H := Lib.hid h
  have hBl := h.lt
  obtain ⟨k0, k1⟩ := h.at3
  have hown := h.own
  have HO := Lib.hid hown
  have hta := ta_int x
  have HE := Lib.hid (fun (wa w2 : World) (g cap : Nat) (ha : Below w.heap.size w wa) => @push_end w wa w2 base B c0 c1 v l x h ha g cap)
  have hBv : Hid (v.ownBlock ≠ some B) := Lib.hid (fun e => (h.ne B e).1 rfl)
  clear h
  rcases hown.2 with ⟨rfl, h0⟩ | ⟨g0, cap0, cur, rfl, hbg, hh, hc1, hc2, -, -⟩
  · clear hown
    obtain rfl : l = [] := List.length_eq_zero_iff.1 h0
    clear h0
    have q3 : ∀ w2 : World, ((w.drew).alloc (.cells #[.int .i64 x] 3)).grownBy w2 (Value.slice none 0 0).ownBlock → w2.cell? ⟨B, 2, none⟩ = some (.slice none 0 0) ∧ w2.frozen? ⟨B, 2, none⟩ = false := fun w2 hg => by
      have e := (hg.block B (by simp; omega) (by intro e; cases e)).trans (Below.heap_alloc _ _ _ hBl)
      have := H.out.cell
      have e2 := e.trans this
      constructor <;> simp [World.cell?, World.frozen?, e2]
    have Q3 := Lib.hid q3
    clear q3
    go_enter Try.func163, Try.ntmps163
    go_wp2_with fail
    go_region_law (refine step_append_lies _ (by rfl) _ _ _ (by rfl) base 3 i0 _ 1 8 Try.underlying81 hi hz0 hz1 hz2 rfl (by omega) (.slice none 0 0) 0 [] (by rfl) (by exact HO.out.alloc _) ⟨w.heap.size, 0, none⟩ 1 1 [.int .i64 x] (by rfl) (by rfl) (World.news_of_block (cs := #[.int .i64 x]) (t := 3) (fr := (0, 0)) (heap_alloc_new _ _)) (by simp [Value.oneCell']) (by omega) (by unfold maxLen; omega) (by omega) (by simp; omega) (w.heap.size + 1) (by simp) ?_; intro gg cap w2 hown2 hgrow hat hlt; obtain ⟨q1, q2⟩ := Q3.out w2 hgrow)
    all_goals
      try go_wp2
      go_end0
      exact HE.out _ _ gg cap ((below_new w _).drew) hown2 hgrow (hat.imp id (fun e => e.trans (by simp)))
  · clear hown hh
    unfold maxLen at hc2
    have q3 : ∀ w2 : World, ((w.drew).alloc (.cells #[.int .i64 x] 3)).grownBy w2 (Value.slice (some ⟨g0, 0, none⟩) l.length cap0).ownBlock → w2.cell? ⟨B, 2, none⟩ = some (.slice (some ⟨g0, 0, none⟩) l.length cap0) ∧ w2.frozen? ⟨B, 2, none⟩ = false := fun w2 hg => by
      have e := (hg.block B (by simp; omega) (fun e => hBv.out e.symm)).trans (Below.heap_alloc _ _ _ hBl)
      have := H.out.cell
      have e2 := e.trans this
      constructor <;> simp [World.cell?, World.frozen?, e2]
    have Q3 := Lib.hid q3
    clear q3
    go_enter Try.func163, Try.ntmps163
    go_wp2_with fail
    go_region_law (refine step_append_lies _ (by rfl) _ _ _ (by rfl) base 3 i0 _ 1 8 Try.underlying81 hi hz0 hz1 hz2 rfl (by omega) (.slice (some ⟨g0, 0, none⟩) l.length cap0) l.length (intsOf l) (by rfl) (by exact HO.out.alloc _) ⟨w.heap.size, 0, none⟩ 1 1 [.int .i64 x] (by rfl) (by rfl) (World.news_of_block (cs := #[.int .i64 x]) (t := 3) (fr := (0, 0)) (heap_alloc_new _ _)) (by simp [Value.oneCell']) (by omega) (by unfold maxLen; omega) (by omega) (by simp; omega) (w.heap.size + 1) (by simp) ?_; intro gg cap w2 hown2 hgrow hat hlt; obtain ⟨q1, q2⟩ := Q3.out w2 hgrow)
    all_goals
      try go_wp2
      go_end0
      exact HE.out _ _ gg cap ((below_new w _).drew) hown2 hgrow (hat.imp id (fun e => e.trans (by simp)))
/-- Without the last one. -/
def PopPost (w : World) (base B : Nat) (c0 c1 : Value) (g n c : Nat) (l : List Int) (e : Ending) (w' : World) : Prop :=
  e = .returned (.iface 3 (.int .i64 (gd l n))) ∧ RdAt w' base B c0 c1 (.slice (some ⟨g, 0, none⟩) n c) (l.take n) ∧ Kp (fun i => i = B) w w'
set_option maxRecDepth 100000 in
set_option maxHeartbeats 4000000 in
theorem rpop_any (w : World) (base B g n c : Nat) (c0 c1 : Value) (l : List Int) (hl : l.length = n + 1) (h : RdAt w base B c0 c1 (.slice (some ⟨g, 0, none⟩) (n + 1) c) l) :
    Calls Try.prog 162 #[.pointer (some ⟨B, 2, none⟩)] w (PopPost w base B c0 c1 g n c l) := by
  obtain ⟨k0, k1⟩ := h.at3
  have hBl := h.lt
  have hgB := (h.ne g rfl).1
  have own := h.own
  rw [hl] at own
  have hcell := Lib.hid h.cell
  have hnl : n < l.length := by omega
  have h1 := (own.cellAt n (by omega)).trans (intsOf_get _ n _ (gd_at hnl))
  have HO : Hid (w.ownsRow base 3 1 (.slice (some ⟨g, 0, none⟩) n c) (l.take n).length (intsOf (l.take n))) := Lib.hid (by
    obtain ⟨hl0, h0 | ⟨g', cap, cur, e, hb, hh, hnc, hcm, hcs, hct⟩⟩ := own
    · cases h0.1
    · simp only [Value.slice.injEq, Option.some.injEq, Addr.mk.injEq] at e
      obtain ⟨⟨rfl, -, -⟩, -, rfl⟩ := e
      have e1 : (l.take n).length = n := by rw [List.length_take]; omega
      refine ⟨by rw [e1]; unfold intsOf; rw [List.length_map, e1]; omega, .inr ⟨g, c, cur, by rw [e1], hb, hh, by omega, hcm, hcs, ?_⟩⟩
      rw [e1]
      have e2 : cur.toList.take (n * 1) = (cur.toList.take ((n + 1) * 1)).take n := by rw [List.take_take]; congr 1; omega
      rw [e2, hct]; unfold intsOf; rw [List.map_take])
  have hcap : Hid (n + 1 ≤ c ∧ c ≤ maxLen) := Lib.hid (by
    obtain ⟨hl0, h0 | ⟨g', cap, cur, e, hb, hh, hnc, hcm, hcs, hct⟩⟩ := own
    · cases h0.1
    · simp only [Value.slice.injEq, Option.some.injEq, Addr.mk.injEq] at e
      obtain ⟨⟨rfl, -, -⟩, -, rfl⟩ := e
      exact ⟨by omega, hcm⟩)
  obtain ⟨x, hx⟩ : ∃ x, gd l n = x := ⟨_, rfl⟩
  have HX := Lib.hid hx
  rw [hx] at h1
  have hgl := (own.lt g rfl).2
  obtain ⟨p1, p2⟩ := hcap.out
  unfold maxLen at p2
  clear h own hx hl hnl
  go_enter Try.func162, Try.ntmps162
  go_wp2_with fail
  refine (len_any _ _ _ _).mono ?_
  rintro e w1 ⟨rfl, rfl⟩
  go_wp2
  go_ret
  refine ⟨by rw [HX.out]; rfl, ⟨set_que hcell.out, own_block HO.out (fun k hk => ?_)⟩, Kp.setCell (A := fun i => i = B) (p := ⟨B, 2, none⟩) (Kp.refl _ _) rfl _⟩
  have e : some g = some k := hk
  injection e with e
  subst e
  exact Below.heap_setCell _ _ _ _ hgB
end Go.Proofs.Ytcphjehjdhgheaa.Nt
