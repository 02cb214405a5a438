/- What the program reads. Conditions: lengths within a machine's; the library's variables read as they are laid. -/
import Derived.Test.YtgngdkbcndldfaaDoorFaK
namespace Go.Proofs.YtgngdkbcndldfaaDoor.Fr
open Go.ChangeShapes Go.WideShapes Go.ChangeAt Go.RowKit Go.Proofs.YtgngdkbcndldfaaDoor.Tr
set_option linter.unusedVariables false
set_option linter.unusedSimpArgs false
attribute [local go_sem] Oper.semAt_some

theorem own_turn {W W' : World} {B b : Nat} {row : Option Nat} {e : TypeId} {s : Nat} {v : Value} {n : Nat} {xs : List Value} (h : W.ownsRow b e s v n xs) (hg : W.grownBy W' row) (hr : ∀ r, row = some r → B ≤ r ∧ ∃ o : Obj, W.heap[r]? = some o ∧ o.isCells = false) : W'.ownsRow b e s v n xs :=
  own_block h (fun g hgo => hg.block g (h.lt g hgo).2 (fun e => by
    obtain ⟨_, o, ho, hc⟩ := hr g e.symm
    obtain ⟨cs, hcs⟩ := Tr.own_cells h hgo
    rw [hcs] at ho
    injection ho with ho
    rw [← ho] at hc
    cases hc))
theorem OutV.turn {W W' : World} {B b : Nat} {row : Option Nat} {v : Value} {R : List (List Int)} {vs : List Value} (h : OutV W b v R vs) (hg : W.grownBy W' row) (hr : ∀ r, row = some r → B ≤ r ∧ ∃ o : Obj, W.heap[r]? = some o ∧ o.isCells = false) : OutV W' b v R vs :=
  ⟨own_turn h.1 hg hr, h.2.1, fun i r u hi hu => own_turn (h.2.2 i r u hi hu) hg hr⟩
theorem below_turn {w W W' : World} {row : Option Nat} {B : Nat} (h : Below w.heap.size w W) (hB : w.heap.size ≤ B) (hg : W.grownBy W' row) (hr : ∀ r, row = some r → B ≤ r ∧ ∃ o : Obj, W.heap[r]? = some o ∧ o.isCells = false) : Below w.heap.size w W' :=
  h.grown hg h.size (fun k e => by have := (hr k e).1; omega)
/-- A line's row in one form. -/
def RowQ (o : Option (List Int)) (A : Option Addr) (n c : Nat) (b : Bool) (w w' : World) : Prop :=
  (o = none ∧ b = false) ∨ ∃ r, o = some r ∧ b = true ∧ n = r.length ∧ w'.ownsRow w.heap.size 3 1 (.slice A n c) n (intsOf r)
theorem row_one {o : Option (List Int)} {w : World} {e : Ending} {w' : World} (h : RowPost o w e w') : ∃ A n c b, e = .returned (.tuple #[.slice A n c, .bool b]) ∧ Below w.heap.size w w' ∧ RowQ o A n c b w w' := by
  obtain ⟨hb, ⟨h1, rfl⟩ | ⟨r, A, c, h1, rfl, h2⟩⟩ := h
  · exact ⟨_, _, _, _, rfl, hb, .inl ⟨h1, rfl⟩⟩
  · exact ⟨_, _, _, _, rfl, hb, .inr ⟨r, h1, rfl, rfl, h2⟩⟩
/-- Between two rounds. -/
structure RI (w : World) (tv : Value) (ts : List Int) (L : List Bs) (m : Nat) (pre : List (Fin m)) (W : World) : Prop where
  below : Below w.heap.size w W
  size_ : w.heap.size + 5 ≤ W.heap.size
  types : W.heap[w.heap.size]? = some (.cells #[tv] 22 (0, 0))
  res : W.heap[w.heap.size + 1]? = some (.cells #[.slice none 0 0] 24 (0, 0))
  flt : W.heap[w.heap.size + 1 + 1]? = some (.cells #[.int .i64 0, .int .i64 0] 27 (0, 0))
  rows : ∃ v R vs, W.heap[w.heap.size + 1 + 1 + 1]? = some (.cells #[v] 24 (0, 0)) ∧ OutV W (w.heap.size + 5) v R vs ∧ R.length = pre.length ∧ (pre = upto m pre.length → goM ts (L.take pre.length) = (R, true))
/-- Where a line is none. -/
structure XI (w : World) (ts : List Int) (L : List Bs) (m : Nat) (c : Code) (pre : List (Fin m)) (W : World) : Prop where
  code : c = .ret
  below : Below w.heap.size w W
  rows : ∃ (v : Value) (R : List (List Int)) (vs : List Value) (p : Nat) (kv : Int), W.heap[w.heap.size + 1]? = some (.cells #[v] 24 (0, 0)) ∧ W.heap[w.heap.size + 1 + 1]? = some (.cells #[.int .i64 17, .int .i64 kv] 27 (0, 0)) ∧ OutV W (w.heap.size + 5) v R vs ∧ R.length = p ∧ pre.length = p + 1 ∧
    (pre = upto m (p + 1) → kv = (p : Int) ∧ ∃ l, L[p]? = some l ∧ goM ts (L.take p) = (R, true) ∧ rowM ts (wordsM l) = none)
theorem turn_block {W W' : World} {B g : Nat} {row : Option Nat} {cs : Array Value} {T : TypeId} (h : W.heap[g]? = some (.cells cs T (0, 0))) (hg : W.grownBy W' row) (hr : ∀ r, row = some r → B ≤ r ∧ ∃ o : Obj, W.heap[r]? = some o ∧ o.isCells = false) : W'.heap[g]? = some (.cells cs T (0, 0)) := by
  rw [hg.block g (lt_of_block h) (fun e => by
    obtain ⟨_, o, ho, hc⟩ := hr g e.symm
    rw [h] at ho
    injection ho with ho
    rw [← ho] at hc
    cases hc)]
  exact h
theorem RI.own {w : World} {tv : Value} {ts : List Int} {L : List Bs} {m B : Nat} (hB : w.heap.size ≤ B) : OwnFrom B (RI w tv ts L m) := fun s W W' row h hg hr => by
  obtain ⟨v, R, vs, h1, h2, h3, h4⟩ := h.rows
  exact ⟨below_turn h.below hB hg hr, Nat.le_trans h.size_ hg.size, turn_block h.types hg hr, turn_block h.res hg hr, turn_block h.flt hg hr, v, R, vs, turn_block h1 hg hr, h2.turn hg hr, h3, h4⟩
theorem XI.own {w : World} {ts : List Int} {L : List Bs} {m B : Nat} (hB : w.heap.size ≤ B) (c : Code) : OwnFrom B (XI w ts L m c) := fun s W W' row h hg hr => by
  obtain ⟨v, R, vs, k, kv, h1, h2, h3, h4⟩ := h.rows
  exact ⟨h.code, below_turn h.below hB hg hr, v, R, vs, k, kv, turn_block h1 hg hr, turn_block h2 hg hr, h3.turn hg hr, h4⟩
theorem kq_b {n0 x4 : Nat} {w : World} (hn : n0 ≤ w.heap.size) (W : World) (l : Nat) (o o' : Obj) (hl : w.heap.size ≤ l) (h : W.heap[l]? = some o) (_ : o.isCells = false) (_ : o.isWalk = false) : Kq n0 x4 W (W.putObj l o') :=
  ⟨(grownBy_putObj' W l o').size, fun g hg _ _ _ => (grownBy_putObj' W l o').block g (by have := (Array.getElem?_eq_some_iff.1 h).1; omega) (fun e => by cases e; omega)⟩

/-- The five blocks ahead of the loop. -/
theorem five_blocks (w : World) (a b c d e : Obj) (W : World) (hW : W = ((((w.alloc a).alloc b).alloc c).alloc d).alloc e) :
    W.heap[w.heap.size]? = some a ∧ W.heap[w.heap.size + 1]? = some b ∧ W.heap[w.heap.size + 1 + 1]? = some c ∧ W.heap[w.heap.size + 1 + 1 + 1]? = some d ∧ W.heap[w.heap.size + 1 + 1 + 1 + 1]? = some e ∧ W.heap.size = w.heap.size + 5 ∧ Below w.heap.size w W := by
  subst hW
  obtain ⟨w1, h1⟩ : ∃ W, w.alloc a = W := ⟨_, rfl⟩
  obtain ⟨w2, h2⟩ : ∃ W, w1.alloc b = W := ⟨_, rfl⟩
  obtain ⟨w3, h3⟩ : ∃ W, w2.alloc c = W := ⟨_, rfl⟩
  obtain ⟨w4, h4⟩ : ∃ W, w3.alloc d = W := ⟨_, rfl⟩
  obtain ⟨w5, h5⟩ : ∃ W, w4.alloc e = W := ⟨_, rfl⟩
  have s1 : w1.heap.size = w.heap.size + 1 := by rw [← h1]; simp
  have s2 : w2.heap.size = w.heap.size + 1 + 1 := by rw [← h2]; simp; omega
  have s3 : w3.heap.size = w.heap.size + 1 + 1 + 1 := by rw [← h3]; simp; omega
  have s4 : w4.heap.size = w.heap.size + 1 + 1 + 1 + 1 := by rw [← h4]; simp; omega
  have s5 : w5.heap.size = w.heap.size + 5 := by rw [← h5]; simp; omega
  have k1 : ∀ j, j < w1.heap.size → w2.heap[j]? = w1.heap[j]? := fun j hj => by rw [← h2]; exact (below_new w1 b).block j hj
  have k2 : ∀ j, j < w2.heap.size → w3.heap[j]? = w2.heap[j]? := fun j hj => by rw [← h3]; exact (below_new w2 c).block j hj
  have k3 : ∀ j, j < w3.heap.size → w4.heap[j]? = w3.heap[j]? := fun j hj => by rw [← h4]; exact (below_new w3 d).block j hj
  have k4 : ∀ j, j < w4.heap.size → w5.heap[j]? = w4.heap[j]? := fun j hj => by rw [← h5]; exact (below_new w4 e).block j hj
  have n1 : w1.heap[w.heap.size]? = some a := by rw [← h1]; exact heap_alloc_new _ _
  have n2 : w2.heap[w1.heap.size]? = some b := by rw [← h2]; exact heap_alloc_new _ _
  have n3 : w3.heap[w2.heap.size]? = some c := by rw [← h3]; exact heap_alloc_new _ _
  have n4 : w4.heap[w3.heap.size]? = some d := by rw [← h4]; exact heap_alloc_new _ _
  have n5 : w5.heap[w4.heap.size]? = some e := by rw [← h5]; exact heap_alloc_new _ _
  have hb : Below w.heap.size w w5 := by
    rw [← h5, ← h4, ← h3, ← h2, ← h1]
    exact ((((below_new w a).alloc (by simp) b).alloc (by simp; omega) c).alloc (by simp; omega) d).alloc (by simp; omega) e
  rw [h1, h2, h3, h4, h5]
  refine ⟨?_, ?_, ?_, ?_, ?_, s5, hb⟩
  · rw [k4 _ (by omega), k3 _ (by omega), k2 _ (by omega), k1 _ (by omega)]; exact n1
  · rw [k4 _ (by omega), k3 _ (by omega), k2 _ (by omega), ← s1]; exact n2
  · rw [k4 _ (by omega), k3 _ (by omega), ← s2]; exact n3
  · rw [k4 _ (by omega), ← s3]; exact n4
  · rw [← s4]; exact n5

theorem keep_ret {W z : World} {B b x : Nat} {u v t : Value} (hb : Below W.heap.size W z) (h5 : b < x) (hx : x + 1 + 1 ≤ B) : KeepsFrom B W (((z.setCell ⟨x, 0, none⟩ v).setCell ⟨x + 1, 0, none⟩ u).setCell ⟨x + 1, 1, none⟩ t) :=
  ⟨by simp [World.setCell]; exact hb.size, fun j o hj hjo hc => by
    rw [Below.heap_setCell _ _ _ _ (by show j ≠ x + 1; omega), Below.heap_setCell _ _ _ _ (by show j ≠ x + 1; omega), Below.heap_setCell _ _ _ _ (by show j ≠ x; omega), hb.block j (Array.getElem?_eq_some_iff.1 hjo).1]
    exact hjo⟩
/-- What a round leaves that has one row more. -/
theorem round_kept {W z w4 : World} {B b x : Nat} {v : Value} {ob : Option Nat} {o : Obj} {k : Nat} {T : TypeId} {cs : Array Value} (hb : Below W.heap.size W z) (hg : (z.alloc o).grownBy w4 ob) (hob : ∀ g, ob = some g → B ≤ g ∧ (g < W.heap.size → ∃ cs T, W.heap[g]? = some (.cells cs T (0, 0)))) (hx : x + 1 + 1 < B) (hBW : B ≤ W.heap.size) :
    KeepsFrom B W (w4.setCell ⟨x + 1 + 1, 0, none⟩ v) ∧ Kq B x W (w4.setCell ⟨x + 1 + 1, 0, none⟩ v) := by
  have hs : W.heap.size ≤ w4.heap.size := by have := hb.size; have := hg.size; simp at this; omega
  have hkeep : ∀ j, j < W.heap.size → ob ≠ some j → j ≠ x + 1 + 1 → (w4.setCell ⟨x + 1 + 1, 0, none⟩ v).heap[j]? = W.heap[j]? := fun j hj hjo hjx => by
    rw [Below.heap_setCell _ _ _ _ (by show j ≠ x + 1 + 1; exact hjx), hg.block j (by have := hb.size; simp; omega) (fun e => hjo e.symm), Below.heap_alloc _ _ _ (by have := hb.size; omega), hb.block j hj]
  refine ⟨⟨by simp [World.setCell]; exact hs, fun j p hj hjo hc => ?_⟩, ⟨by simp [World.setCell]; exact hs, fun g h1 h2 h3 h4 => ?_⟩⟩
  · have hjl := (Array.getElem?_eq_some_iff.1 hjo).1
    rw [hkeep j hjl (fun e => by
      obtain ⟨_, h⟩ := hob j e
      obtain ⟨cs, T, h⟩ := h hjl
      rw [hjo] at h
      injection h with h
      rw [h] at hc
      cases hc) (by omega)]
    exact hjo
  · exact hkeep g (by omega) (fun e => by have := (hob g e).1; omega) (by omega)

/-- What lies where the loop's record is struck. -/
theorem told_end0 {w W : World} {D : Nat} {v u t : Value} {R : List (List Int)} {vs : List Value} (h4 : W.heap[w.heap.size + 1]? = some (.cells #[v] 24 (0, 0))) (h5 : W.heap[w.heap.size + 1 + 1]? = some (.cells #[u, t] 27 (0, 0)))
    (hO : OutV W (w.heap.size + 5) v R vs) (hK : W.heap[D]? = some (.deferred (some []))) (hb : Below w.heap.size w W) (hD : w.heap.size + 5 ≤ D) :
    W.heap[D]? = some (.deferred (some [])) ∧ (W.putObj D (.deferred none)).cell? ⟨w.heap.size + 1, 0, none⟩ = some v ∧ (W.putObj D (.deferred none)).cell? ⟨w.heap.size + 1 + 1, 0, none⟩ = some u ∧ (W.putObj D (.deferred none)).cell? ⟨w.heap.size + 1 + 1, 1, none⟩ = some t ∧
      RowsR (W.putObj D (.deferred none)) v R ∧ Below w.heap.size w (W.putObj D (.deferred none)) := by
  have e4 : (W.putObj D (.deferred none)).heap[w.heap.size + 1]? = some (.cells #[v] 24 (0, 0)) := (World.putObj_heap_other (by omega)).trans h4
  have e5 : (W.putObj D (.deferred none)).heap[w.heap.size + 1 + 1]? = some (.cells #[u, t] 27 (0, 0)) := (World.putObj_heap_other (by omega)).trans h5
  refine ⟨hK, by simp [World.cell?, e4], by simp [World.cell?, e5], by simp [World.cell?, e5], (hO.turn (B := w.heap.size + 5) (grownBy_putObj' W D _) (fun r e => by cases e; exact ⟨hD, _, hK, rfl⟩)).rows, ?_⟩
  exact hb.trans (belowK_b (w := w) (Nat.le_refl _) W D _ _ (by omega) hK rfl rfl)
theorem told_end {w W W9 : World} {D : Nat} {v : Value} {R : List (List Int)} {vs : List Value} (hW9 : ((W.setCell ⟨w.heap.size + 1, 0, none⟩ v).setCell ⟨w.heap.size + 1 + 1, 0, none⟩ (.int .i64 0)).setCell ⟨w.heap.size + 1 + 1, 1, none⟩ (.int .i64 0) = W9)
    (h4 : W.heap[w.heap.size + 1]? = some (.cells #[.slice none 0 0] 24 (0, 0))) (h5 : W.heap[w.heap.size + 1 + 1]? = some (.cells #[.int .i64 0, .int .i64 0] 27 (0, 0)))
    (hO : OutV W (w.heap.size + 5) v R vs) (hK : W.heap[D]? = some (.deferred (some []))) (hb : Below w.heap.size w W) (hD : w.heap.size + 5 ≤ D) :
    W9.heap[D]? = some (.deferred (some [])) ∧ (W9.putObj D (.deferred none)).cell? ⟨w.heap.size + 1, 0, none⟩ = some v ∧ (W9.putObj D (.deferred none)).cell? ⟨w.heap.size + 1 + 1, 0, none⟩ = some (.int .i64 0) ∧ (W9.putObj D (.deferred none)).cell? ⟨w.heap.size + 1 + 1, 1, none⟩ = some (.int .i64 0) ∧
      RowsR (W9.putObj D (.deferred none)) v R ∧ Below w.heap.size w (W9.putObj D (.deferred none)) := by
  subst hW9
  refine told_end0 (vs := vs) ?_ ?_ ?_ ?_ ?_ hD
  · simp [World.setCell, Array.getElem?_modify, h4]
  · simp [World.setCell, Array.getElem?_modify, h5]
  · exact ((hO.set (X := w.heap.size + 1) (by omega)).set (X := w.heap.size + 1 + 1) (by omega)).set (X := w.heap.size + 1 + 1) (by omega)
  · rw [Below.heap_setCell _ _ _ _ (by show D ≠ w.heap.size + 1 + 1; omega), Below.heap_setCell _ _ _ _ (by show D ≠ w.heap.size + 1 + 1; omega), Below.heap_setCell _ _ _ _ (by show D ≠ w.heap.size + 1; omega)]
    exact hK
  · exact ((hb.setCell (p := ⟨w.heap.size + 1, 0, none⟩) (by show w.heap.size ≤ w.heap.size + 1; omega) _).setCell (p := ⟨w.heap.size + 1 + 1, 0, none⟩) (by show w.heap.size ≤ w.heap.size + 1 + 1; omega) _).setCell (p := ⟨w.heap.size + 1 + 1, 1, none⟩) (by show w.heap.size ≤ w.heap.size + 1 + 1; omega) _
/-- The blocks of a call that reads nothing. -/
theorem three_blocks (w : World) (a b c : Obj) : (((w.alloc a).alloc b).alloc c).heap[w.heap.size]? = some a ∧ (((w.alloc a).alloc b).alloc c).heap[w.heap.size + 1]? = some b ∧ (((w.alloc a).alloc b).alloc c).heap[w.heap.size + 1 + 1]? = some c ∧ Below w.heap.size w (((w.alloc a).alloc b).alloc c) := by
  obtain ⟨w1, h1⟩ : ∃ W, w.alloc a = W := ⟨_, rfl⟩
  obtain ⟨w2, h2⟩ : ∃ W, w1.alloc b = W := ⟨_, rfl⟩
  have s1 : w1.heap.size = w.heap.size + 1 := by rw [← h1]; simp
  have s2 : w2.heap.size = w.heap.size + 1 + 1 := by rw [← h2]; simp; omega
  rw [h1, h2]
  refine ⟨?_, ?_, ?_, ?_⟩
  · rw [(below_new w2 c).block _ (by omega), ← h2, (below_new w1 b).block _ (by omega), ← h1]; exact heap_alloc_new _ _
  · rw [(below_new w2 c).block _ (by omega), ← s1, ← h2]; exact heap_alloc_new _ _
  · rw [← s2]; exact heap_alloc_new _ _
  · rw [← h2, ← h1]; exact ((below_new w a).alloc (by simp) b).alloc (by simp; omega) c

set_option maxRecDepth 100000 in
set_option maxHeartbeats 4000000 in
theorem Read_any (w : World) (hF : FrAt w) (tv : Value) (ts : List Int) (S : Bs) (ht : Ints w tv ts) (hS : S.length ≤ 1000000) :
    Calls Tryd.prog 10 #[tv, .string (bs S)] w (ReadPost (readM ts S) w) := by
  obtain ⟨i0, hi0, hz0, hz1, hz3⟩ := info_parts infoS
  obtain ⟨A, c, rfl, z1, z2⟩ := ints_form ht
  have HT := Lib.hid ht
  obtain ⟨n, hn⟩ : ∃ n, ts.length = n := ⟨_, rfl⟩
  obtain ⟨s, hs⟩ : ∃ n, S.length = n := ⟨_, rfl⟩
  have hsz : (bs S).size = s := by rw [bs_size, hs]
  rw [hn] at HT z1 ⊢
  rw [hs] at hS
  have HN := Lib.hid hn
  have HSL := Lib.hid hs
  have HF := Lib.hid hF
  unfold maxLen at z2
  clear ht hn hs hF
  by_cases hmany : 100000 < s ∨ 200 < n
  · have HM := Lib.hid (read_many (ts := ts) (S := S) (by rw [HSL.out, HN.out]; exact hmany))
    have hgo : ∀ (Q : Prop), ((100000 : Int) < (s : Int) → Q) → (¬ (100000 : Int) < (s : Int) → (200 : Int) < (n : Int) → Q) → Q := fun Q q1 q2 => by
      by_cases e : 100000 < s
      · exact q1 (by omega)
      · exact q2 (by omega) (by omega)
    rw [HM.out]
    obtain ⟨w3, hw3⟩ : ∃ W, ((w.alloc (.cells #[.slice A n c] 22)).alloc (.cells #[.slice none 0 0] 24)).alloc (.cells #[.int .i64 0, .int .i64 0] 27) = W := ⟨_, rfl⟩
    obtain ⟨e0, e4, e5, hb3⟩ := three_blocks w (.cells #[.slice A n c] 22) (.cells #[.slice none 0 0] 24) (.cells #[.int .i64 0, .int .i64 0] 27)
    rw [hw3] at e0 e4 e5 hb3
    have d0 : w3.cell? ⟨w.heap.size, 0, none⟩ = some (.slice A n c) := by unfold World.cell?; rw [e0]; rfl
    have d4 : w3.cell? ⟨w.heap.size + 1, 0, none⟩ = some (.slice none 0 0) := by unfold World.cell?; rw [e4]; rfl
    have f4 : w3.frozen? ⟨w.heap.size + 1, 0, none⟩ = false := by unfold World.frozen?; rw [e4]; rfl
    have d50 : w3.cell? ⟨w.heap.size + 1 + 1, 0, none⟩ = some (.int .i64 0) := by unfold World.cell?; rw [e5]; rfl
    have d51 : w3.cell? ⟨w.heap.size + 1 + 1, 1, none⟩ = some (.int .i64 0) := by unfold World.cell?; rw [e5]; rfl
    have f50 : w3.frozen? ⟨w.heap.size + 1 + 1, 0, none⟩ = false := by unfold World.frozen?; rw [e5]; rfl
    have f51 : w3.frozen? ⟨w.heap.size + 1 + 1, 1, none⟩ = false := by unfold World.frozen?; rw [e5]; rfl
    have HW : Hid (((w3.setCell ⟨w.heap.size + 1, 0, none⟩ (.slice none 0 0)).setCell ⟨w.heap.size + 1 + 1, 0, none⟩ (.int .i64 7)).setCell ⟨w.heap.size + 1 + 1, 1, none⟩ (.int .i64 (-1)) = ((w3.setCell ⟨w.heap.size + 1, 0, none⟩ (.slice none 0 0)).setCell ⟨w.heap.size + 1 + 1, 0, none⟩ (.int .i64 7)).setCell ⟨w.heap.size + 1 + 1, 1, none⟩ (.int .i64 (-1))) := Lib.hid rfl
    obtain ⟨W9, hW9⟩ : ∃ W9, ((w3.setCell ⟨w.heap.size + 1, 0, none⟩ (.slice none 0 0)).setCell ⟨w.heap.size + 1 + 1, 0, none⟩ (.int .i64 7)).setCell ⟨w.heap.size + 1 + 1, 1, none⟩ (.int .i64 (-1)) = W9 := ⟨_, rfl⟩
    have e4' : W9.heap[w.heap.size + 1]? = some (.cells #[.slice none 0 0] 24 (0, 0)) := by rw [← hW9]; simp [World.setCell, Array.getElem?_modify, e4]
    have e5' : W9.heap[w.heap.size + 1 + 1]? = some (.cells #[.int .i64 7, .int .i64 (-1)] 27 (0, 0)) := by rw [← hW9]; simp [World.setCell, Array.getElem?_modify, e5]
    have hb9 : Below w.heap.size w W9 := by
      rw [← hW9]
      exact ((hb3.setCell (p := ⟨w.heap.size + 1, 0, none⟩) (by show w.heap.size ≤ w.heap.size + 1; omega) _).setCell (p := ⟨w.heap.size + 1 + 1, 0, none⟩) (by show w.heap.size ≤ w.heap.size + 1 + 1; omega) _).setCell (p := ⟨w.heap.size + 1 + 1, 1, none⟩) (by show w.heap.size ≤ w.heap.size + 1 + 1; omega) _
    have HB9 := Lib.hid (And.intro e4' (And.intro e5' hb9))
    have HW9 := Lib.hid hW9
    clear hmany e0 e4 e5 hb3 e4' e5' hb9 hW9 HW
    refine hgo _ (fun he => ?_) (fun he he2 => ?_)
    all_goals
      clear hgo
      go_enter Tryd.func10, Tryd.ntmps10
      go_wp2_with fail
      rw [HW9.out]
      have g4 : W9.cell? ⟨w.heap.size + 1, 0, none⟩ = some (.slice none 0 0) := by unfold World.cell?; rw [HB9.out.1]; rfl
      have g50 : W9.cell? ⟨w.heap.size + 1 + 1, 0, none⟩ = some (.int .i64 7) := by unfold World.cell?; rw [HB9.out.2.1]; rfl
      have g51 : W9.cell? ⟨w.heap.size + 1 + 1, 1, none⟩ = some (.int .i64 (-1)) := by unfold World.cell?; rw [HB9.out.2.1]; rfl
      refine bodyPost_ret (v := .tuple #[.slice none 0 0, .agg #[.int .i64 7, .int .i64 (-1)]]) ?_ rfl ⟨_, rfl, rows_nil _, HB9.out.2.2⟩
      clear d0 d4 f4 d50 d51 f50 f51
      simp [results, Tryd.results10, go_sem, g4, g50, g51]
  · have hn1 : ¬ (100000 : Int) < (s : Int) := by omega
    have hn2 : ¬ (200 : Int) < (n : Int) := by omega
    have HMY : Hid (¬ (100000 < S.length ∨ 200 < ts.length)) := Lib.hid (by rw [HSL.out, HN.out]; exact hmany)
    obtain ⟨hln1, hln2⟩ := lines_small S
    obtain ⟨L, hL⟩ : ∃ L, linesM S = L := ⟨_, rfl⟩
    have HL := Lib.hid hL
    have HLL : Hid (∀ l ∈ L, l.length ≤ 1000000) := Lib.hid (fun l hl => by have := hln2 l (by rw [hL]; exact hl); rw [HSL.out] at this; omega)
    obtain ⟨m, hm⟩ : ∃ m, L.length = m := ⟨_, rfl⟩
    have HM := Lib.hid hm
    have hm6 : m ≤ 1000001 := by rw [hL, hm, HSL.out] at hln1; omega
    obtain ⟨w4, hw4⟩ : ∃ W, (((w.alloc (.cells #[.slice A n c] 22)).alloc (.cells #[.slice none 0 0] 24)).alloc (.cells #[.int .i64 0, .int .i64 0] 27)).alloc (.cells #[.slice none 0 0] 24) = W := ⟨_, rfl⟩
    have HLA := Lib.hid (lines_any w4 S)
    have HW4 := Lib.hid hw4
    clear hmany hln1 hln2 hL hm hw4
    refine (callsIn_wide (n := 10)).1 ?_
    refine callsIn_of_wp_marks Tryd.func10 rfl trivial ?_ rfl
    simp only [Tryd.ntmps10, List.size_toArray, List.length_cons, List.length_nil, Nat.reduceAdd, Nat.reduceSub, Array.replicate_succ, Array.replicate_zero, List.push_toArray, List.append_toArray, List.nil_append, List.cons_append]
    gi_wp2_with fail
    rw [HW4.out]
    refine ⟨trivial, ?_⟩
    refine (callsIn_wide.2 HLA.out).mono ?_
    rintro e w5 ⟨rfl, hw5⟩
    have hw5' := hw5
    rw [← HW4.out] at hw5'
    obtain ⟨e1, e2, e3, e4, e5, s5, hb5⟩ := five_blocks w _ _ _ _ _ w5 hw5'
    have hw4s : w4.heap.size = w.heap.size + 1 + 1 + 1 + 1 := by rw [← HW4.out]; simp
    have HB5 := Lib.hid hb5
    have HE := Lib.hid (And.intro e1 (And.intro e2 (And.intro e3 (And.intro e4 e5))))
    have HS5 := Lib.hid s5
    rw [hw4s]
    clear hw5 hw5' e1 e2 e3 e4 e5 hb5
    gi_wp2_with fail
    have hRI : RI w (.slice A n c) ts L m [] w5 := ⟨HB5.out, Nat.le_of_eq HS5.out.symm, HE.out.1, HE.out.2.1, HE.out.2.2.1, .slice none 0 0, [], [], HE.out.2.2.2.1, OutV.nil _ _, rfl, fun _ => rfl⟩
    obtain ⟨q0, hq0⟩ := HF.out.most
    have hq0l : 0 < w.heap.size := World.block_lt_of_cell? w _ hq0
    refine wpIn_rangeFunc_ownG (F := Fence.wide) rfl (by omega) (gf := 28) (lb := #[.pointer (some ⟨w.heap.size + 1 + 1 + 1 + 1, 0, none⟩)]) rfl trivial (enters_of Tryd.func28 (by kernel_rfl) rfl)
      (lines_stops 9 (by omega) (w.heap.size + 1 + 1 + 1 + 1) (w.heap.size + 5) (w.heap.size + 1) m S (by rw [HSL.out]; exact hS) L HL.out HM.out (by omega) (by omega) (by omega) (by omega) w5 (by rw [HS5.out]; exact Nat.le_refl _) (by unfold World.cell?; rw [HE.out.2.2.2.2]; rfl) ⟨q0, cell_up hq0 HB5.out⟩)
      Kq.trans (kq_b (by rw [HS5.out]; exact Nat.le_refl _)) (Below.refl _ _) (fun _ => rfl)
      (RI w (.slice A n c) ts L m) (XI w ts L m) (RI.own (by rw [HS5.out]; omega)) (fun cc => XI.own (by rw [HS5.out]; omega) cc) hRI
      (fun k => { tmps := #[.slice A n c, .string (bs S), .pointer (some ⟨w.heap.size, 0, none⟩), undef, .pointer (some ⟨w.heap.size + 1, 0, none⟩), .pointer (some ⟨w.heap.size + 1 + 1, 0, none⟩), .pointer (some ⟨w.heap.size + 1 + 1 + 1, 0, none⟩), .int .i64 (k.1 : Int), .string (bs (L.getD k.1 [])), undef, undef, .string (bs S), .int .i64 (s : Int), .bool false, .bool false, .slice A n c, .int .i64 (n : Int), .bool false, .bool false, undef, .string (bs S),
        .func (.func 28) #[] #[.pointer (some ⟨w.heap.size + 1 + 1 + 1 + 1, 0, none⟩)], .int .i64 (k.1 : Int), .string (bs (L.getD k.1 [])), undef, undef, undef, undef, undef, undef, undef, undef, undef, undef, undef, undef, undef, undef, undef, undef, undef, undef], defers := [] })
      ?assign ?body ?done ?stop
    case assign =>
      intro l k W K hK
      simp only [encL]
      gi_wp2
      exact hK
    case body =>
      rintro l pre k W hI hlen
      have hkm := k.2
      obtain ⟨x, hx⟩ : ∃ x, L[k.1]? = some x := ⟨_, List.getElem?_eq_getElem (by rw [HM.out]; exact hkm)⟩
      have hgd : L.getD k.1 [] = x := by rw [List.getD_eq_getElem?_getD, hx]; rfl
      rw [hgd]
      obtain ⟨hw1, hw2⟩ := words_small x
      have hxl := HLL.out x (List.mem_of_getElem? hx)
      have HX := Lib.hid hx
      have HI := Lib.hid hI
      obtain ⟨v0, R, vs, hr6, hO, hRl, hgo⟩ := hI.rows
      obtain ⟨q, hq⟩ : ∃ q, R.length = q := ⟨_, rfl⟩
      obtain ⟨A6, oc, rfl⟩ : ∃ A6 oc, v0 = .slice A6 q oc := by
        rcases hO.1.2 with ⟨h1, h2⟩ | ⟨gg, cap, cur, h1, _⟩
        · exact ⟨none, 0, by rw [h1]; rw [← hq, h2]⟩
        · exact ⟨_, _, by rw [h1, hq]⟩
      have HO := Lib.hid hO
      have HR6 := Lib.hid hr6
      have HQ := Lib.hid hq
      have HPL := Lib.hid (show pre.length = q by omega)
      have HGO := Lib.hid hgo
      clear hr6 hO hRl hgo hq
      have HWD : Hid (∀ Z, Calls Tryd.prog 17 #[.string (bs x)] Z (StrPost (wordsM x) Z)) := Lib.hid (fun Z => words_any Z x hxl)
      have HWS : Hid ((∀ y ∈ wordsM x, y.length ≤ 1000000) ∧ (wordsM x).length ≤ 1000001) := Lib.hid ⟨fun y hy => by have := hw1 y hy; omega, by omega⟩
      have HRD : Hid (∀ Z v, Below W.heap.size W Z → Strs Z v (wordsM x) → Calls Tryd.prog 16 #[.slice A n c, v] Z (fun e w' => ∃ RA rn rc b, e = .returned (.tuple #[.slice RA rn rc, .bool b]) ∧ Below Z.heap.size Z w' ∧ RowQ (rowM ts (wordsM x)) RA rn rc b Z w')) := Lib.hid (fun Z v hZ hv => (read_any Z ((HF.out.below HI.out.below).below hZ) _ v ts _ ((HT.out.below HI.out.below (Nat.le_refl _)).below hZ (Nat.le_refl _)) hv HWS.out.1 HWS.out.2).mono (fun _ _ h => row_one h))
      have c2 : W.cell? ⟨w.heap.size, 0, none⟩ = some (.slice A n c) := by unfold World.cell?; rw [hI.types]; rfl
      have HBD : Hid (Below W.heap.size W W.drew) := Lib.hid (Below.refl _ _).drew
      have c2l : w.heap.size < W.heap.size := by have := hI.size_; omega
      obtain ⟨WL, hWL⟩ : ∃ l, wordsM x = l := ⟨_, rfl⟩
      rw [hWL] at HWD HRD HWS
      have HWL := Lib.hid hWL
      clear hWL
      clear hI hx hw1 hw2 hgd
      gi_wp2
      gi_region_with (first
        | (refine ⟨trivial, ?_⟩; gi_at_call 17; refine (CallsIn.inRound l (callsIn_wide.2 (HWD.out _))).mono ?_; rintro e z1 ⟨v, rfl, hs, hb⟩; have HS1 := Lib.hid hs; have HB1 : Hid (Below W.heap.size W z1) := Lib.hid (HBD.out.trans hb); have c2z := (hb.cell (p := ⟨w.heap.size, 0, none⟩) c2l).trans c2; clear hs hb)
        | (refine ⟨trivial, ?_⟩; gi_at_call 16; refine (CallsIn.inRound l (callsIn_wide.2 (HRD.out _ _ HB1.out HS1.out))).mono ?_; rintro e z2 ⟨RA, rn, rc, b, rfl, hb2, hrow⟩; have HB2 : Hid (Below W.heap.size W z2 ∧ z1.heap.size ≤ z2.heap.size) := Lib.hid ⟨HB1.out.trans (hb2.mono HB1.out.size), hb2.size⟩; have HROW := Lib.hid hrow; clear hrow hb2))
      all_goals
        have hzs := HB2.out.1.size
        have HB := HB2.out.1
        have hWs := HI.out.size_
        have c6 : z2.cell? ⟨w.heap.size + 1 + 1 + 1, 0, none⟩ = some (.slice A6 q oc) := by unfold World.cell?; rw [HB.block _ (by show w.heap.size + 1 + 1 + 1 < _; omega), HR6.out]; rfl
        have f6 : z2.frozen? ⟨w.heap.size + 1 + 1 + 1, 0, none⟩ = false := by unfold World.frozen?; rw [HB.block _ (by show w.heap.size + 1 + 1 + 1 < _; omega), HR6.out]; rfl
        have h4 : z2.heap[w.heap.size + 1]? = some (.cells #[.slice none 0 0] 24 (0, 0)) := (HB.block _ (by omega)).trans HI.out.res
        have h5 : z2.heap[w.heap.size + 1 + 1]? = some (.cells #[.int .i64 0, .int .i64 0] 27 (0, 0)) := (HB.block _ (by omega)).trans HI.out.flt
        have H4 := Lib.hid h4
        have H5 := Lib.hid h5
        have d4 : z2.cell? ⟨w.heap.size + 1, 0, none⟩ = some (.slice none 0 0) := by unfold World.cell?; rw [h4]; rfl
        have f4 : z2.frozen? ⟨w.heap.size + 1, 0, none⟩ = false := by unfold World.frozen?; rw [h4]; rfl
        have d50 : z2.cell? ⟨w.heap.size + 1 + 1, 0, none⟩ = some (.int .i64 0) := by unfold World.cell?; rw [h5]; rfl
        have d51 : z2.cell? ⟨w.heap.size + 1 + 1, 1, none⟩ = some (.int .i64 0) := by unfold World.cell?; rw [h5]; rfl
        have f50 : z2.frozen? ⟨w.heap.size + 1 + 1, 0, none⟩ = false := by unfold World.frozen?; rw [h5]; rfl
        have f51 : z2.frozen? ⟨w.heap.size + 1 + 1, 1, none⟩ = false := by unfold World.frozen?; rw [h5]; rfl
        have HBx := Lib.hid HB
        clear HB h4 h5
        cases b with
        | false =>
          have HNO : Hid (rowM ts WL = none) := Lib.hid (by
            rcases HROW.out with ⟨h, _⟩ | ⟨r, _, h, _⟩
            · exact h
            · cases h)
          have HXI : Hid (KeepsFrom (w.heap.size + 5) W (((z2.setCell ⟨w.heap.size + 1, 0, none⟩ (.slice A6 q oc)).setCell ⟨w.heap.size + 1 + 1, 0, none⟩ (.int .i64 17)).setCell ⟨w.heap.size + 1 + 1, 1, none⟩ (.int .i64 (k.1 : Int))) ∧
              XI w ts L m .ret (pre ++ [k]) (((z2.setCell ⟨w.heap.size + 1, 0, none⟩ (.slice A6 q oc)).setCell ⟨w.heap.size + 1 + 1, 0, none⟩ (.int .i64 17)).setCell ⟨w.heap.size + 1 + 1, 1, none⟩ (.int .i64 (k.1 : Int)))) := Lib.hid (by
            refine ⟨keep_ret (b := w.heap.size) HBx.out (by omega) (by omega), rfl, ?_, .slice A6 q oc, R, vs, q, (k.1 : Int), ?_, ?_, ?_, HQ.out, ?_, ?_⟩
            · exact (((HI.out.below.trans (HBx.out.mono HI.out.below.size)).setCell (p := ⟨w.heap.size + 1, 0, none⟩) (by show w.heap.size ≤ w.heap.size + 1; omega) _).setCell (p := ⟨w.heap.size + 1 + 1, 0, none⟩) (by show w.heap.size ≤ w.heap.size + 1 + 1; omega) _).setCell (p := ⟨w.heap.size + 1 + 1, 1, none⟩) (by show w.heap.size ≤ w.heap.size + 1 + 1; omega) _
            · simp [World.setCell, Array.getElem?_modify, H4.out]
            · simp [World.setCell, Array.getElem?_modify, H5.out]
            · exact (((HO.out.below HBx.out).set (X := w.heap.size + 1) (by omega)).set (X := w.heap.size + 1 + 1) (by omega)).set (X := w.heap.size + 1 + 1) (by omega)
            · rw [List.length_append, HPL.out]; rfl
            · intro he
              have hqm : q < m := by rw [← HPL.out]; exact hlen
              rw [upto_succ hqm] at he
              obtain ⟨e1, e2⟩ := List.append_inj' he rfl
              have e3 : k = ⟨q, hqm⟩ := by simpa using e2
              have e4 : k.1 = q := by rw [e3]
              refine ⟨by rw [e4], x, by rw [← e4]; exact HX.out, ?_, by rw [HWL.out]; exact HNO.out⟩
              have := HGO.out (by rw [HPL.out]; exact e1)
              rw [HPL.out] at this
              exact this)
          clear hzs
          gi_wp2
          first | exact HXI.out | (rw [HS5.out]; exact HXI.out)
        | true =>
          obtain ⟨r, HSO, hrn, hown⟩ : ∃ r, Hid (rowM ts WL = some r) ∧ rn = r.length ∧ z2.ownsRow z1.heap.size 3 1 (.slice RA rn rc) rn (intsOf r) := by
            rcases HROW.out with ⟨_, h⟩ | ⟨r, h1, _, h2, h3⟩
            · cases h
            · exact ⟨r, Lib.hid h1, h2, h3⟩
          subst hrn
          have HR2 : Hid (z2.ownsRow (w.heap.size + 5) 3 1 (.slice RA r.length rc) r.length (intsOf r)) := Lib.hid (own_base hown (by have := HB1.out.size; omega))
          have HO2 := Lib.hid (HO.out.below HBx.out)
          have HOR : Hid (z2.ownsRow (w.heap.size + 5) 22 1 (.slice A6 q oc) q vs) := Lib.hid (by have := HO2.out.1; rw [HQ.out] at this; exact this)
          have HOW : Hid (∀ g, (Value.slice A6 q oc).ownBlock = some g → w.heap.size + 5 ≤ g ∧ (g < W.heap.size → ∃ cs T, W.heap[g]? = some (.cells cs T (0, 0)))) := Lib.hid (fun g hg => ⟨(HO.out.1.lt g hg).1, fun _ => by obtain ⟨cs, h⟩ := Tr.own_cells HO.out.1 hg; exact ⟨cs, _, h⟩⟩)
          clear hown
          have hqm : q < m := by rw [← HPL.out]; exact hlen
          gi_wp2_with (gi_at_builtin; refine wpListIn_append_own _ rfl (.tmp 36) (.tmp 38) 24 rfl (w.heap.size + 5) 22 i0 _ 1 24 Tryd.underlying24 hi0 hz0 hz1 hz3 rfl (by decide) (.slice A6 q oc) q _ rfl (HOR.out.alloc _) ⟨z2.heap.size, 0, none⟩ 1 1 [.slice RA r.length rc] rfl rfl ?a2 ?b2 ?c2 ?d2 ?e2 ?_)
          case a2 => exact World.news_of_block (t := 22) (fr := (0, 0)) (heap_alloc_new _ _)
          case b2 => simp [Value.oneCell']
          case c2 => unfold maxLen; omega
          case d2 => omega
          case e2 => simp; omega
          intro v' w6 hown6 hg6 _
          obtain ⟨g', cap', rfl⟩ := ownsRow_succ hown6
          have hold : ∀ j, j < w.heap.size + 5 → w6.heap[j]? = W.heap[j]? := fun j hj => by
            rw [hg6.block j (by simp; omega) (fun e => by have := (HOW.out j e.symm).1; omega), Below.heap_alloc _ _ _ (by omega), HBx.out.block j (by omega)]
          have g6 : w6.cell? ⟨w.heap.size + 1 + 1 + 1, 0, none⟩ = some (.slice A6 q oc) := by unfold World.cell?; rw [hold _ (by show w.heap.size + 1 + 1 + 1 < _; omega), HR6.out]; rfl
          have k6 : w6.frozen? ⟨w.heap.size + 1 + 1 + 1, 0, none⟩ = false := by unfold World.frozen?; rw [hold _ (by show w.heap.size + 1 + 1 + 1 < _; omega), HR6.out]; rfl
          have HEND : Hid (KeepsFrom (w.heap.size + 5) W (w6.setCell ⟨w.heap.size + 1 + 1 + 1, 0, none⟩ (.slice (some ⟨g', 0, none⟩) (q + 1) cap')) ∧ Kq (w.heap.size + 5) (w.heap.size + 1) W (w6.setCell ⟨w.heap.size + 1 + 1 + 1, 0, none⟩ (.slice (some ⟨g', 0, none⟩) (q + 1) cap')) ∧
              RI w (.slice A n c) ts L m (pre ++ [k]) (w6.setCell ⟨w.heap.size + 1 + 1 + 1, 0, none⟩ (.slice (some ⟨g', 0, none⟩) (q + 1) cap'))) := Lib.hid (by
            have hsn : OutV w6 (w.heap.size + 5) (.slice (some ⟨g', 0, none⟩) (q + 1) cap') (R ++ [r]) (vs ++ [.slice RA r.length rc]) := HO2.out.snoc HR2.out _ hg6 (by rw [HQ.out]; exact hown6)
            obtain ⟨k1, k2⟩ := round_kept (T := 22) (cs := #[]) (k := 0) (b := 0) (x := w.heap.size + 1) (v := .slice (some ⟨g', 0, none⟩) (q + 1) cap') HBx.out hg6 HOW.out (by omega) HI.out.size_
            have hs6 : w.heap.size + 5 ≤ w6.heap.size := by have := hg6.size; simp at this; omega
            refine ⟨k1, k2, ?_, by simp [World.setCell]; exact hs6, ?_, ?_, ?_, .slice (some ⟨g', 0, none⟩) (q + 1) cap', R ++ [r], vs ++ [.slice RA r.length rc], ?_, ?_, ?_, ?_⟩
            · exact (((HI.out.below.trans (HBx.out.mono HI.out.below.size)).trans ((below_new z2 _).mono (by omega))).grown hg6 (by simp; omega) (fun g e => by have := (HOW.out g e).1; omega)).setCell (p := ⟨w.heap.size + 1 + 1 + 1, 0, none⟩) (by show w.heap.size ≤ w.heap.size + 1 + 1 + 1; omega) _
            · rw [Below.heap_setCell _ _ _ _ (by show w.heap.size ≠ w.heap.size + 1 + 1 + 1; omega), hold _ (by omega)]; exact HI.out.types
            · rw [Below.heap_setCell _ _ _ _ (by show w.heap.size + 1 ≠ w.heap.size + 1 + 1 + 1; omega), hold _ (by omega)]; exact HI.out.res
            · rw [Below.heap_setCell _ _ _ _ (by show w.heap.size + 1 + 1 ≠ w.heap.size + 1 + 1 + 1; omega), hold _ (by omega)]; exact HI.out.flt
            · have := (hold (w.heap.size + 1 + 1 + 1) (by omega)).trans HR6.out
              simp [World.setCell, Array.getElem?_modify, this]
            · exact hsn.set (X := w.heap.size + 1 + 1 + 1) (by omega)
            · rw [List.length_append, List.length_append, HQ.out, HPL.out]; rfl
            · intro he
              rw [List.length_append, HPL.out] at he ⊢
              have he' : pre ++ [k] = upto m (q + 1) := he
              rw [upto_succ hqm] at he'
              obtain ⟨e1, e2⟩ := List.append_inj' he' rfl
              have e3 : k = ⟨q, hqm⟩ := by simpa using e2
              have e4 : k.1 = q := by rw [e3]
              have hg := HGO.out (by rw [HPL.out]; exact e1)
              rw [HPL.out] at hg
              exact go_next (by rw [← e4]; exact HX.out) hg (by rw [HWL.out]; exact HSO.out))
          clear hown6 hg6 hold hzs
          gi_wp2
          first | exact HEND.out | (rw [HS5.out]; exact HEND.out)
    case done =>
      rintro D ys W hD rfl hI hK
      obtain ⟨v0, R, vs, hr6, hO, hRl, hgo⟩ := hI.rows
      have hg := hgo (by rw [List.length_finRange, upto_all])
      rw [List.length_finRange] at hg hRl
      have HP : Hid (readM ts S = (R, 0, 0)) := Lib.hid (read_all HMY.out (by
        rw [List.take_of_length_le (by rw [HM.out]; exact Nat.le_refl _)] at hg
        rw [HL.out]; exact hg))
      have HI := Lib.hid hI
      have HO := Lib.hid hO
      have HK := Lib.hid hK
      have hDs : w.heap.size + 5 ≤ D := by rw [← HS5.out]; exact hD
      have c6 : W.cell? ⟨w.heap.size + 1 + 1 + 1, 0, none⟩ = some v0 := by unfold World.cell?; rw [hr6]; rfl
      have h4 := hI.res
      have h5 := hI.flt
      have H4 := Lib.hid h4
      have H5 := Lib.hid h5
      have d4 : W.cell? ⟨w.heap.size + 1, 0, none⟩ = some (.slice none 0 0) := by unfold World.cell?; rw [h4]; rfl
      have f4 : W.frozen? ⟨w.heap.size + 1, 0, none⟩ = false := by unfold World.frozen?; rw [h4]; rfl
      have d50 : W.cell? ⟨w.heap.size + 1 + 1, 0, none⟩ = some (.int .i64 0) := by unfold World.cell?; rw [h5]; rfl
      have d51 : W.cell? ⟨w.heap.size + 1 + 1, 1, none⟩ = some (.int .i64 0) := by unfold World.cell?; rw [h5]; rfl
      have f50 : W.frozen? ⟨w.heap.size + 1 + 1, 0, none⟩ = false := by unfold World.frozen?; rw [h5]; rfl
      have f51 : W.frozen? ⟨w.heap.size + 1 + 1, 1, none⟩ = false := by unfold World.frozen?; rw [h5]; rfl
      obtain ⟨A6, q, oc, rfl⟩ : ∃ A6 q oc, v0 = .slice A6 q oc := by
        rcases hO.1.2 with ⟨h1, h2⟩ | ⟨gg, cap, cur, h1, _⟩
        · exact ⟨_, _, _, h1⟩
        · exact ⟨_, _, _, h1⟩
      clear hI hO hK hr6 h4 h5 hg hgo hRl
      obtain ⟨W9, hW9⟩ : ∃ W9, ((W.setCell ⟨w.heap.size + 1, 0, none⟩ (.slice A6 q oc)).setCell ⟨w.heap.size + 1 + 1, 0, none⟩ (.int .i64 0)).setCell ⟨w.heap.size + 1 + 1, 1, none⟩ (.int .i64 0) = W9 := ⟨_, rfl⟩
      have HT9 := Lib.hid (told_end (D := D) hW9 H4.out H5.out HO.out HK.out HI.out.below hDs)
      have HW9 := Lib.hid hW9
      clear hW9
      gi_wp2
      rw [HW9.out]
      obtain ⟨hKr, g4, g50, g51, hrows, hbel⟩ := HT9.out
      refine ⟨by simp, .inl ⟨_, _, rfl, run_takeDeferred hKr, ?_⟩⟩
      refine ⟨.tuple #[.slice A6 q oc, .agg #[.int .i64 0, .int .i64 0]], ?_, .slice A6 q oc, by rw [HP.out], by rw [HP.out]; exact hrows, hbel⟩
      clear c6 d4 f4 d50 d51 f50 f51
      simp [results, Tryd.results10, go_sem, g4, g50, g51]
    case stop =>
      rintro D cc pre W hD ⟨k, hk, hpre⟩ hXI hK
      obtain ⟨v, R, vs, p, kv, h4, h5, hO, hRl, hpl, hgo⟩ := hXI.rows
      have hcc := hXI.code
      have hbW := hXI.below
      subst hcc
      have hkp : k = p + 1 := by rw [hpre, upto_length hk] at hpl; exact hpl
      obtain ⟨rfl, l, hl, hg, hno⟩ := hgo (by rw [hpre, hkp])
      have HP : Hid (readM ts S = (R, 17, (p : Int))) := Lib.hid (by
        have := read_stop (k := p) HMY.out (by rw [HL.out]; exact hl) (by rw [HL.out]; exact hg) hno
        rw [hRl] at this; exact this)
      have hDs : w.heap.size + 5 ≤ D := by rw [← HS5.out]; exact hD
      have HT9 := Lib.hid (told_end0 (D := D) h4 h5 hO hK hbW hDs)
      clear h4 h5 hO hRl hpl hgo hl hg hno hXI hK hbW hpre hk hkp
      gi_wp2
      obtain ⟨hKr, g4, g50, g51, hrows, hbel⟩ := HT9.out
      refine ⟨by simp, .inl ⟨_, _, rfl, run_takeDeferred hKr, ?_⟩⟩
      refine ⟨.tuple #[v, .agg #[.int .i64 17, .int .i64 (p : Int)]], ?_, v, by rw [HP.out], by rw [HP.out]; exact hrows, hbel⟩
      simp [results, Tryd.results10, go_sem, g4, g50, g51]
end Go.Proofs.YtgngdkbcndldfaaDoor.Fr
