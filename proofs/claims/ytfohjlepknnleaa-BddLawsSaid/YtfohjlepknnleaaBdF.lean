/- A store in memory, part by part; a draft in memory: what it holds. Conditions: none. -/
import Derived.Test.YtfohjlepknnleaaBdQ
import Derived.Deep.AppendLies
import Derived.Deep.RegionLaw
import Derived.Deep.RegionHeld3
namespace Go.Proofs.Ytfohjlepknnleaa.Bd
open Go.ChangeShapes Go.WideShapes Go.ChangeAt Go.RowKit
set_option linter.unusedVariables false
set_option linter.unusedSimpArgs false

/-- A store in memory, of blocks from B on. -/
structure StV (B : Nat) (w : World) (b vars budget : Nat) (nv : Value) (pb : Nat) (S : List Nd) : Prop where
  box : StBox w b vars budget nv (.map (some pb))
  row : w.ownsRow B 59 3 nv S.length (ndC S)
  map : ∃ f, MapK Try.prog 59 okN litN w pb S.length f ∧ Tells 2 0 S f
  good : Good vars S
  hb : B ≤ b
  hp : B ≤ pb
  hv : vars ≤ 30
  hbud : budget ≤ 10000
  hlen : S.length ≤ budget

theorem own_below {w w' : World} {base : Nat} {e : TypeId} {s : Nat} {v : Value} {n : Nat} {xs : List Value} (h : w.ownsRow base e s v n xs) (hb : Below w.heap.size w w') : w'.ownsRow base e s v n xs := by
  refine ⟨h.1, ?_⟩
  rcases h.2 with h0 | ⟨g, cap, cur, h1, h2, h3, h4⟩
  · exact .inl h0
  · exact .inr ⟨g, cap, cur, h1, h2, by rw [hb.block g (block_lt h3)]; exact h3, h4⟩

theorem StV.below {B : Nat} {w w' : World} {b vars budget : Nat} {nv : Value} {pb : Nat} {S : List Nd} (h : StV B w b vars budget nv pb S) (hb : Below w.heap.size w w') : StV B w' b vars budget nv pb S := by
  refine ⟨h.box.below hb h.box.lt, own_below h.row hb, ?_, h.good, h.hb, h.hp, h.hv, h.hbud, h.hlen⟩
  obtain ⟨f, h1, h2⟩ := h.map
  exact ⟨f, h1.below hb h1.lt, h2⟩

theorem ndC_at {ns : List Nd} {i : Nat} {t lo hi : Nat} (h : ns[i]? = some (t, lo, hi)) :
    (ndC ns)[i * 3]? = some (.int .i64 t) ∧ (ndC ns)[i * 3 + 1]? = some (.int .i64 lo) ∧ (ndC ns)[i * 3 + 2]? = some (.int .i64 hi) := by
  induction ns generalizing i with
  | nil => cases h
  | cons a l ih =>
    have e : ndC (a :: l) = cellsOf a ++ ndC l := rfl
    cases i with
    | zero =>
      have : a = (t, lo, hi) := by simpa using h
      subst this
      rw [e]
      exact ⟨rfl, rfl, rfl⟩
    | succ i =>
      have h2 : l[i]? = some (t, lo, hi) := by simpa using h
      obtain ⟨h3, h4, h5⟩ := ih h2
      have hl : (cellsOf a).length = 3 := rfl
      rw [e]
      refine ⟨?_, ?_, ?_⟩
      · rw [List.getElem?_append_right (by omega), hl, show (i + 1) * 3 - 3 = i * 3 from by omega]; exact h3
      · rw [List.getElem?_append_right (by omega), hl, show (i + 1) * 3 + 1 - 3 = i * 3 + 1 from by omega]; exact h4
      · rw [List.getElem?_append_right (by omega), hl, show (i + 1) * 3 + 2 - 3 = i * 3 + 2 from by omega]; exact h5

theorem row_at {w : World} {B : Nat} {v : Value} {ns : List Nd} (h : w.ownsRow B 59 3 v ns.length (ndC ns)) {i t lo hi : Nat} (hx : ns[i]? = some (t, lo, hi)) :
    ∃ g cap, v = .slice (some ⟨g, 0, none⟩) ns.length cap ∧ w.cell? ⟨g, i * 3, none⟩ = some (.int .i64 t) ∧ w.cell? ⟨g, i * 3 + 1, none⟩ = some (.int .i64 lo) ∧ w.cell? ⟨g, i * 3 + 2, none⟩ = some (.int .i64 hi) := by
  have hl := lt_of hx
  obtain ⟨g, cap, rfl, _, _⟩ := h.form (by omega)
  obtain ⟨a, b, c⟩ := ndC_at hx
  exact ⟨g, cap, rfl, by rw [h.cellAt _ (by omega)]; exact a, by rw [h.cellAt _ (by omega)]; exact b, by rw [h.cellAt _ (by omega)]; exact c⟩

theorem row_form {w : World} {B : Nat} {v : Value} {ns : List Nd} (h : w.ownsRow B 59 3 v ns.length (ndC ns)) : ∃ A cap, v = .slice A ns.length cap := by
  rcases h.2 with ⟨h0, h1⟩ | ⟨g, cap, cur, h1, h2, h3, h4⟩
  · exact ⟨none, 0, by rw [h0, h1]⟩
  · exact ⟨_, _, h1⟩

/-- What of a draft stays. -/
structure Dp where
  W0 : World
  B : Nat
  b : Nat
  vars : Nat
  budget : Nat
  nv : Value
  pb : Nat
  S : List Nd
  dd : Nat
  kb : Nat
  limit : Nat

/-- A draft in memory: the store is as it was; the fresh nodes; where they stand. -/
structure Dr (P : Dp) (w : World) (fv : Value) (F : List Nd) : Prop where
  st : StV P.B P.W0 P.b P.vars P.budget P.nv P.pb P.S
  below : Below P.W0.heap.size P.W0 w
  box : w.heap[P.dd]? = some (.cells #[.pointer (some ⟨P.b, 0, none⟩), fv, .map (some P.kb), .int .i64 (P.limit : Int)] 86 (0, 0))
  row : w.ownsRow P.W0.heap.size 59 3 fv F.length (ndC F)
  known : ∃ f, MapK Try.prog 59 okN litN w P.kb F.length f ∧ Tells 0 P.S.length F f
  good : Good P.vars (P.S ++ F)
  dd : P.W0.heap.size ≤ P.dd
  kb : P.W0.heap.size ≤ P.kb
  room : P.S.length + F.length ≤ 2097152
  lim : P.limit ≤ 2097152

theorem Dr.stv {P : Dp} {w : World} {fv : Value} {F : List Nd} (h : Dr P w fv F) : StV P.B w P.b P.vars P.budget P.nv P.pb P.S := h.st.below h.below
theorem Dr.kept {P : Dp} {w w' : World} {fv : Value} {F : List Nd} (h : Dr P w fv F) (hb : Below w.heap.size w w') : Dr P w' fv F := by
  obtain ⟨f, h1, h2⟩ := h.known
  exact ⟨h.st, h.below.trans (hb.mono h.below.size), (hb.block _ (block_lt h.box)).trans h.box, own_below h.row hb, ⟨f, h1.below hb h1.lt, h2⟩, h.good, h.dd, h.kb, h.room, h.lim⟩
/-- What the walk reads of a draft. -/
theorem Dr.ats {P : Dp} {w : World} {fv : Value} {F : List Nd} (h : Dr P w fv F) :
    (w.cell? ⟨P.dd, 0, none⟩ = some (.pointer (some ⟨P.b, 0, none⟩)) ∧ w.cell? ⟨P.dd, 1, none⟩ = some fv ∧ w.cell? ⟨P.dd, 2, none⟩ = some (.map (some P.kb)) ∧ w.cell? ⟨P.dd, 3, none⟩ = some (.int .i64 (P.limit : Int))) ∧
    (w.cell? ⟨P.b, 0, none⟩ = some (.int .i64 (P.vars : Int)) ∧ w.cell? ⟨P.b, 1, none⟩ = some (.int .i64 (P.budget : Int)) ∧ w.cell? ⟨P.b, 2, none⟩ = some P.nv ∧ w.cell? ⟨P.b, 3, none⟩ = some (.map (some P.pb))) := by
  have := h.box
  exact ⟨⟨by simp [World.cell?, this], by simp [World.cell?, this], by simp [World.cell?, this], by simp [World.cell?, this]⟩, h.stv.box.ats⟩
theorem dr_node {P : Dp} {w : World} {fv : Value} {F : List Nd} (h : Dr P w fv F) {i t lo hi : Nat} (hx : (P.S ++ F)[i]? = some (t, lo, hi)) : t ≤ 30 ∧ lo < 4194304 ∧ hi < 4194304 ∧ i < 4194304 := by
  have h0 := h.room
  have hv := h.st.hv
  have hl := lt_of hx
  rw [List.length_append] at hl
  by_cases h2 : 2 ≤ i
  · obtain ⟨a, _, c, d, _, _⟩ := h.good.node i t lo _ h2 hx
    omega
  · have e : i = 0 ∨ i = 1 := by omega
    rcases e with rfl | rfl
    · have := h.good.n0; rw [this] at hx; simp at hx; omega
    · have := h.good.n1; rw [this] at hx; simp at hx; omega

theorem below_new (w : World) (o : Obj) : Below w.heap.size w (w.alloc o) := (Below.refl _ _).alloc (Nat.le_refl _) _
theorem set3 {w : World} {b : Nat} {a0 a1 a2 u0 u1 u2 : Value} {T : TypeId} (h : w.heap[b]? = some (.cells #[a0, a1, a2] T (0, 0))) :
    (((w.setCell ⟨b, 0, none⟩ u0).setCell ⟨b, 1, none⟩ u1).setCell ⟨b, 2, none⟩ u2).heap[b]? = some (.cells #[u0, u1, u2] T (0, 0)) := by
  simp [World.setCell, Array.getElem?_modify, h]
theorem below_drewN {B : Nat} {a w : World} (h : Below B a w) (q : Nat) : Below B a (w.drewN q) := ⟨h.os, h.tape, h.output, h.size, h.block⟩
theorem one_new (w : World) (v : Value) (T : TypeId) (w1 : World) (h : w.alloc (.cells #[v] T) = w1) : w1.heap[w.heap.size]? = some (.cells #[v] T (0, 0)) ∧ w1.cell? ⟨w.heap.size, 0, none⟩ = some v ∧ w1.frozen? ⟨w.heap.size, 0, none⟩ = false ∧ Below w.heap.size w w1 ∧ w1.heap.size = w.heap.size + 1 := by
  subst h
  have h1 := heap_alloc_new w (.cells #[v] T)
  exact ⟨h1, by unfold World.cell?; rw [h1]; rfl, by unfold World.frozen?; rw [h1]; rfl, below_new _ _, by simp⟩
theorem one_set {w : World} {b : Nat} {a u : Value} {T : TypeId} (h : w.heap[b]? = some (.cells #[a] T (0, 0))) : (w.setCell ⟨b, 0, none⟩ u).heap[b]? = some (.cells #[u] T (0, 0)) := by
  simp [World.setCell, Array.getElem?_modify, h]

theorem three_new (w : World) (x y z : Value) (T : TypeId) (w1 : World) (h : w.alloc (.cells #[x, y, z] T) = w1) :
    w1.heap[w.heap.size]? = some (.cells #[x, y, z] T (0, 0)) ∧ (w1.cell? ⟨w.heap.size, 0, none⟩ = some x ∧ w1.cell? ⟨w.heap.size, 1, none⟩ = some y ∧ w1.cell? ⟨w.heap.size, 2, none⟩ = some z) ∧ Below w.heap.size w w1 ∧ w1.heap.size = w.heap.size + 1 := by
  subst h
  have h1 := heap_alloc_new w (.cells #[x, y, z] T)
  refine ⟨h1, ⟨?_, ?_, ?_⟩, below_new _ _, by simp⟩ <;> (unfold World.cell?; rw [h1]; rfl)

theorem size_new (w : World) (o : Obj) : (w.alloc o).heap.size = w.heap.size + 1 := by simp

set_option maxRecDepth 100000 in
set_option maxHeartbeats 1600000 in
theorem at_low (P : Dp) (w : World) (fv : Value) (F : List Nd) (h : Dr P w fv F) (i t lo hi : Nat) (h1 : P.S[i]? = some (t, lo, hi)) :
    Calls Try.prog 50 #[.pointer (some ⟨P.dd, 0, none⟩), .int .i64 (i : Int)] w (fun e w' => e = .returned (.agg #[.int .i64 (t : Int), .int .i64 (lo : Int), .int .i64 (hi : Int)]) ∧ Below w.heap.size w w') := by
  obtain ⟨n, hn⟩ : ∃ n, P.S.length = n := ⟨_, rfl⟩
  have hl := lt_of h1
  obtain ⟨w1, hw1⟩ : ∃ W, w.alloc (.cells #[.int .i64 0, .int .i64 0, .int .i64 0] 59) = W := ⟨_, rfl⟩
  have HB : Hid (Below w.heap.size w w1) := Lib.hid (by rw [← hw1]; exact below_new _ _)
  have HN := Lib.hid (show w1.heap[w.heap.size]? = some (.cells #[.int .i64 0, .int .i64 0, .int .i64 0] 59) from by rw [← hw1]; exact heap_alloc_new _ _)
  have z0 : w1.cell? ⟨w.heap.size, 0, none⟩ = some (.int .i64 0) := by simp [World.cell?, HN.out]
  have z1 : w1.cell? ⟨w.heap.size, 1, none⟩ = some (.int .i64 0) := by simp [World.cell?, HN.out]
  have z2 : w1.cell? ⟨w.heap.size, 2, none⟩ = some (.int .i64 0) := by simp [World.cell?, HN.out]
  have f0 : w1.frozen? ⟨w.heap.size, 0, none⟩ = false := by simp [World.frozen?, HN.out]
  have f1 : w1.frozen? ⟨w.heap.size, 1, none⟩ = false := by simp [World.frozen?, HN.out]
  have f2 : w1.frozen? ⟨w.heap.size, 2, none⟩ = false := by simp [World.frozen?, HN.out]
  have hk := h.kept HB.out
  obtain ⟨⟨a0, a1, a2, a3⟩, b0, b1, b2, b3⟩ := hk.ats
  obtain ⟨g, cap, hnv, c0, c1, c2⟩ := row_at hk.stv.row h1
  rw [hn] at hl hnv
  rw [hnv] at b2
  have hd : decide ((i : Int) < (n : Int)) = true := decide_eq_true (by omega)
  have hbd : n ≤ 10000 := by have := h.st.hlen; have := h.st.hbud; omega
  clear hk h1 hn hnv h
  go_enter Try.func50, Try.ntmps50
  go_wp2_with fail
  have hs := set3 (u0 := .int .i64 (t : Int)) (u1 := .int .i64 (lo : Int)) (u2 := .int .i64 (hi : Int)) HN.out
  obtain ⟨w2, hw2⟩ : ∃ W, ((w1.setCell ⟨w.heap.size, 0, none⟩ (.int .i64 (t : Int))).setCell ⟨w.heap.size, 1, none⟩ (.int .i64 (lo : Int))).setCell ⟨w.heap.size, 2, none⟩ (.int .i64 (hi : Int)) = W := ⟨_, rfl⟩
  have HB2 : Below w.heap.size w w2 := by rw [← hw2]; exact ((HB.out.setCell (Nat.le_refl _) _).setCell (Nat.le_refl _) _).setCell (Nat.le_refl _) _
  rw [hw2] at hs ⊢
  have y0 : w2.cell? ⟨w.heap.size, 0, none⟩ = some (.int .i64 t) := by simp [World.cell?, hs]
  have y1 : w2.cell? ⟨w.heap.size, 1, none⟩ = some (.int .i64 lo) := by simp [World.cell?, hs]
  have y2 : w2.cell? ⟨w.heap.size, 2, none⟩ = some (.int .i64 hi) := by simp [World.cell?, hs]
  refine bodyPost_ret (v := .agg #[.int .i64 (t : Int), .int .i64 (lo : Int), .int .i64 (hi : Int)]) (by simp [results, Try.results50, go_sem, y0, y1, y2]) rfl ⟨rfl, HB2⟩

set_option maxRecDepth 100000 in
set_option maxHeartbeats 1600000 in
theorem at_high (P : Dp) (w : World) (fv : Value) (F : List Nd) (h : Dr P w fv F) (x : Int) (j t lo hi : Nat) (hx : x = ((P.S.length + j : Nat) : Int)) (h1 : F[j]? = some (t, lo, hi)) :
    Calls Try.prog 50 #[.pointer (some ⟨P.dd, 0, none⟩), .int .i64 x] w (fun e w' => e = .returned (.agg #[.int .i64 (t : Int), .int .i64 (lo : Int), .int .i64 (hi : Int)]) ∧ Below w.heap.size w w') := by
  obtain ⟨n, hn⟩ : ∃ n, P.S.length = n := ⟨_, rfl⟩
  obtain ⟨m, hm⟩ : ∃ m, F.length = m := ⟨_, rfl⟩
  have hl := lt_of h1
  obtain ⟨w1, hw1⟩ : ∃ W, w.alloc (.cells #[.int .i64 0, .int .i64 0, .int .i64 0] 59) = W := ⟨_, rfl⟩
  have HB : Hid (Below w.heap.size w w1) := Lib.hid (by rw [← hw1]; exact below_new _ _)
  have HN := Lib.hid (show w1.heap[w.heap.size]? = some (.cells #[.int .i64 0, .int .i64 0, .int .i64 0] 59) from by rw [← hw1]; exact heap_alloc_new _ _)
  have z0 : w1.cell? ⟨w.heap.size, 0, none⟩ = some (.int .i64 0) := by simp [World.cell?, HN.out]
  have z1 : w1.cell? ⟨w.heap.size, 1, none⟩ = some (.int .i64 0) := by simp [World.cell?, HN.out]
  have z2 : w1.cell? ⟨w.heap.size, 2, none⟩ = some (.int .i64 0) := by simp [World.cell?, HN.out]
  have f0 : w1.frozen? ⟨w.heap.size, 0, none⟩ = false := by simp [World.frozen?, HN.out]
  have f1 : w1.frozen? ⟨w.heap.size, 1, none⟩ = false := by simp [World.frozen?, HN.out]
  have f2 : w1.frozen? ⟨w.heap.size, 2, none⟩ = false := by simp [World.frozen?, HN.out]
  have hk := h.kept HB.out
  obtain ⟨⟨a0, a1, a2, a3⟩, b0, b1, b2, b3⟩ := hk.ats
  obtain ⟨g, cap, hnv, c0, c1, c2⟩ := row_at hk.row h1
  obtain ⟨A, cS, hS⟩ := row_form hk.stv.row
  have hroom := h.room
  rw [hn] at hx hS hroom
  rw [hm] at hl hnv hroom
  rw [hnv] at a1
  rw [hS] at b2
  have hd : decide (x < (n : Int)) = false := decide_eq_false (by omega)
  have hsub : x - (n : Int) = (j : Int) := by omega
  have hb1 : 0 ≤ x ∧ x ≤ 4194304 := by omega
  obtain ⟨hb1, hb2⟩ := hb1
  have hs := set3 (u0 := .int .i64 (t : Int)) (u1 := .int .i64 (lo : Int)) (u2 := .int .i64 (hi : Int)) HN.out
  have HS := Lib.hid hs
  clear hk h1 hn hm hnv h hx hS hs
  go_enter Try.func50, Try.ntmps50
  go_wp2_with fail
  go_region
  go_wp2_with fail
  obtain ⟨w2, hw2⟩ : ∃ W, ((w1.setCell ⟨w.heap.size, 0, none⟩ (.int .i64 (t : Int))).setCell ⟨w.heap.size, 1, none⟩ (.int .i64 (lo : Int))).setCell ⟨w.heap.size, 2, none⟩ (.int .i64 (hi : Int)) = W := ⟨_, rfl⟩
  have HB2 : Below w.heap.size w w2 := by rw [← hw2]; exact ((HB.out.setCell (Nat.le_refl _) _).setCell (Nat.le_refl _) _).setCell (Nat.le_refl _) _
  have hs := HS.out
  rw [hw2] at hs ⊢
  have y0 : w2.cell? ⟨w.heap.size, 0, none⟩ = some (.int .i64 t) := by simp [World.cell?, hs]
  have y1 : w2.cell? ⟨w.heap.size, 1, none⟩ = some (.int .i64 lo) := by simp [World.cell?, hs]
  have y2 : w2.cell? ⟨w.heap.size, 2, none⟩ = some (.int .i64 hi) := by simp [World.cell?, hs]
  refine bodyPost_ret (v := .agg #[.int .i64 (t : Int), .int .i64 (lo : Int), .int .i64 (hi : Int)]) (by simp [results, Try.results50, go_sem, y0, y1, y2]) rfl ⟨rfl, HB2.drew⟩

/-- A node of a draft. -/
theorem at_any (P : Dp) (w : World) (fv : Value) (F : List Nd) (h : Dr P w fv F) (x : Int) (i t lo hi : Nat) (hx : x = (i : Int)) (h1 : (P.S ++ F)[i]? = some (t, lo, hi)) :
    Calls Try.prog 50 #[.pointer (some ⟨P.dd, 0, none⟩), .int .i64 x] w (fun e w' => e = .returned (.agg #[.int .i64 (t : Int), .int .i64 (lo : Int), .int .i64 (hi : Int)]) ∧ Below w.heap.size w w') := by
  by_cases c : i < P.S.length
  · rw [List.getElem?_append_left c] at h1
    rw [hx]
    exact at_low P w fv F h i t lo hi h1
  · rw [List.getElem?_append_right (by omega)] at h1
    exact at_high P w fv F h x (i - P.S.length) t lo hi (by omega) h1

theorem ret_int {a b : Int} (h : a = b) : Ending.returned (.int .i64 a) = .returned (.int .i64 b) := by rw [h]

set_option maxRecDepth 100000 in
set_option maxHeartbeats 1600000 in
/-- What a function is where a variable is false, and where it is true. -/
theorem sides_any (P : Dp) (w : World) (fv : Value) (F : List Nd) (h : Dr P w fv F) (x : Int) (f i : Nat) (hx : x = (f : Int)) (hf : f < (P.S ++ F).length) (hi : i ≤ 30) :
    Calls Try.prog 51 #[.pointer (some ⟨P.dd, 0, none⟩), .int .i64 x, .int .i64 (i : Int)] w (fun e w' => e = .returned (.tuple #[.int .i64 (side (P.S ++ F) f i false : Nat), .int .i64 (side (P.S ++ F) f i true : Nat)]) ∧ Below w.heap.size w w') := by
  obtain ⟨t, lo, hi, h1⟩ := at_of hf
  have HA := Lib.hid (at_any P w fv F h x f t lo hi hx h1)
  have HS0 : Hid (side (P.S ++ F) f i false = if i < t then f else lo) := Lib.hid (by unfold side; rw [h1]; rfl)
  have HS1 : Hid (side (P.S ++ F) f i true = if i < t then f else hi) := Lib.hid (by unfold side; rw [h1]; rfl)
  have HX := Lib.hid hx
  clear hx h1 hf h
  by_cases c : i < t
  · have hd : decide ((i : Int) < (t : Int)) = true := decide_eq_true (by omega)
    go_enter Try.func51, Try.ntmps51
    go_wp2_with fail
    refine HA.out.mono ?_
    rintro e w1 ⟨rfl, hb⟩
    have HB := Lib.hid hb
    have hs := hb.size
    clear hb
    go_wp2
    refine bodyPost_ret (v := .tuple #[.int .i64 x, .int .i64 x]) (by simp [results, Try.results51, go_sem]) rfl ⟨?_, HB.out.alloc hs _⟩
    rw [HS0.out, HS1.out, if_pos c, if_pos c, HX.out]
  · have hd : decide ((i : Int) < (t : Int)) = false := decide_eq_false (by omega)
    go_enter Try.func51, Try.ntmps51
    go_wp2_with fail
    refine HA.out.mono ?_
    rintro e w1 ⟨rfl, hb⟩
    have HB := Lib.hid hb
    have hs := hb.size
    clear hb
    go_wp2
    go_quiet (fail)
    go_wp2
    refine bodyPost_ret (v := .tuple #[.int .i64 (lo : Int), .int .i64 (hi : Int)]) (by simp [results, Try.results51, go_sem]) rfl ⟨?_, below_drewN (HB.out.alloc hs _) _⟩
    rw [HS0.out, HS1.out, if_neg c, if_neg c]
end Go.Proofs.Ytfohjlepknnleaa.Bd
