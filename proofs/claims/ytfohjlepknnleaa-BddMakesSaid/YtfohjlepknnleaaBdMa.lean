/- A store's operations: a variable; a choice of three; Not. Conditions: none. -/
import Derived.Test.YtfohjlepknnleaaBdKb
import Derived.Test.YtfohjlepknnleaaBdTv
namespace Go.Proofs.Ytfohjlepknnleaa.Bd
open Go.ChangeShapes Go.WideShapes Go.ChangeAt Go.RowKit
set_option linter.unusedVariables false
set_option linter.unusedSimpArgs false

/-- Cells that are neither a store's box nor nodes lie as they lay. -/
def Keeps (w w' : World) : Prop := ∀ (g : Nat) (cs : Array Value) (T : TypeId), w.heap[g]? = some (.cells cs T (0, 0)) → T ≠ 63 → T ≠ 59 → w'.heap[g]? = some (.cells cs T (0, 0))
theorem Keeps.trans {a b c : World} (h : Keeps a b) (k : Keeps b c) : Keeps a c := fun g cs T h1 h2 h3 => k g cs T (h g cs T h1 h2 h3) h2 h3
theorem Keeps.of {a b : World} (h : Below a.heap.size a b) : Keeps a b := fun g cs T h1 _ _ => (h.block g (block_lt h1)).trans h1
/-- A store, wherever its parts lie. -/
def StAt (B : Nat) (w : World) (b vars budget : Nat) (S : List Nd) : Prop := ∃ nv pb, StV B w b vars budget nv pb S
theorem StAt.below {B : Nat} {w w' : World} {b vars budget : Nat} {S : List Nd} (h : StAt B w b vars budget S) (hb : Below w.heap.size w w') : StAt B w' b vars budget S := by
  obtain ⟨nv, pb, h⟩ := h
  exact ⟨nv, pb, h.below hb⟩
/-- What an operation of a store tells, and leaves: at most K nodes more; no room only if these might not go in. -/
def OpPost (B : Nat) (w : World) (b vars budget : Nat) (S : List Nd) (K : Nat) (val : (Nat → Bool) → Bool) (e : Ending) (w' : World) : Prop :=
  Below B w w' ∧ Keeps w w' ∧ ((e = .returned (.tuple #[.int .i64 0, .int .i64 18]) ∧ budget ≤ S.length + K ∧ StAt B w' b vars budget S) ∨
    ∃ (N : List Nd) (y : Nat), e = .returned (.tuple #[.int .i64 (y : Int), .int .i64 0]) ∧ StAt B w' b vars budget N ∧ (∃ m, N = S ++ m) ∧ N.length ≤ S.length + K ∧ y < N.length ∧ ∀ r, den N y r = val r)
theorem KS.stv {P : Dp} {wl w' : World} {nv' : Value} {N : List Nd} (h : KS P wl w' nv' N) (st : StV P.B P.W0 P.b P.vars P.budget P.nv P.pb P.S) (G : Good P.vars N) (hl : N.length ≤ P.budget) : StV P.B w' P.b P.vars P.budget nv' P.pb N :=
  ⟨h.box, h.row, h.map, G, st.hb, st.hp, st.hv, st.hbud, hl⟩
theorem op_keep {P : Dp} {B b vars budget : Nat} {S : List Nd} {w w1 w' : World} {fv : Value} {F : List Nd} {x : Int} {e : Ending} {K : Nat} {val : (Nat → Bool) → Bool} (hD : Dr P w1 fv F) (e0 : P.W0 = w) (e1 : P.B = B) (e2 : P.b = b) (e3 : P.vars = vars) (e4 : P.budget = budget) (e5 : P.S = S)
    (hk : KeepPost P w1 F x e w') (hF : F.length ≤ K) (hx : x = -1 → P.budget ≤ P.S.length + K) (hv : ∀ f : Nat, x = (f : Int) → ∀ r, den (P.S ++ F) f r = val r) : OpPost B w b vars budget S K val e w' := by
  subst e0 e1 e2 e3 e4 e5
  have st := hD.st
  have hb1 := hD.below
  have hBW : P.B ≤ P.W0.heap.size := by have := st.hb; have := st.box.lt; omega
  obtain ⟨kf, km, _⟩ := st.map
  rcases hk with ⟨rfl, hb, hc⟩ | ⟨f, y, nv', N, rfl, rfl, hK, hG, hy, hN, hm, hden, hl⟩
  · have h1 : Below P.W0.heap.size P.W0 w' := hb1.trans (hb.mono hb1.size)
    refine ⟨h1.mono hBW, Keeps.of h1, .inl ⟨rfl, ?_, ⟨_, _, st.below h1⟩⟩⟩
    rcases hc with c | c
    · exact hx c
    · omega
  · have hs := hb1.size
    refine ⟨?_, ?_, .inr ⟨N, y, rfl, ⟨_, _, hK.stv st hG hN⟩, hm, by omega, hy, fun r => (hden r).trans (hv f rfl r)⟩⟩
    · refine ⟨hK.os.trans hb1.os, hK.tape.trans hb1.tape, hK.output.trans hb1.output, Nat.le_trans hs hK.size, fun g hg => ?_⟩
      have h1 := st.hb
      have h2 := st.hp
      rw [hK.keep g (by omega) (by omega) (by omega) (fun e => by have := (st.row.lt g e).1; omega)]
      exact hb1.block g (by omega)
    · intro g cs T h1 h2 h3
      have hlt := block_lt h1
      rw [hK.keep g (by omega) (fun e => by
        rw [e, st.box.cell] at h1
        injection h1 with h1
        injection h1 with _ h4 _
        exact h2 h4.symm) (map_ne km h1) (own_ne st.row h1 h3), hb1.block g hlt]
      exact h1

set_option maxRecDepth 100000 in
set_option maxHeartbeats 1600000 in
theorem var_bad (B : Nat) (w : World) (b vars budget : Nat) (S : List Nd) (h : StAt B w b vars budget S) (i : Int) (hi : ¬ (0 ≤ i ∧ i < (vars : Int))) :
    Calls Try.prog 15 #[.pointer (some ⟨b, 0, none⟩), .int .i64 i] w (fun e w' => e = .returned (.tuple #[.int .i64 0, .int .i64 1]) ∧ w' = w) := by
  obtain ⟨nv, pb, h⟩ := h
  have hc := hasVar_any B w b vars budget nv pb S h i
  have hd : (decide (0 ≤ i) && decide (i < (vars : Int))) = false := by
    by_cases h0 : 0 ≤ i
    · have : ¬ i < (vars : Int) := fun e => hi ⟨h0, e⟩
      simp [this]
    · simp [h0]
  rw [hd] at hc
  have HC := Lib.hid hc
  clear hc h hi hd
  go_enter Try.func15, Try.ntmps15
  go_wp2_with (go_at_call 33; with_reducible refine HC.out.mono ?_; rintro e w ⟨rfl, rfl⟩)
  refine bodyPost_ret (v := .tuple #[.int .i64 0, .int .i64 1]) (by simp [results, Try.results15, go_sem]) rfl ⟨rfl, rfl⟩

set_option maxRecDepth 100000 in
set_option maxHeartbeats 1600000 in
/-- A variable. -/
theorem var_any (B : Nat) (w : World) (b vars budget : Nat) (S : List Nd) (h : StAt B w b vars budget S) (i : Nat) (hi : i < vars) :
    Calls Try.prog 15 #[.pointer (some ⟨b, 0, none⟩), .int .i64 (i : Int)] w (OpPost B w b vars budget S 1 (fun r => r i)) := by
  obtain ⟨nv, pb, h⟩ := h
  have hc := hasVar_any B w b vars budget nv pb S h (i : Int)
  have hd : (decide ((0 : Int) ≤ (i : Int)) && decide ((i : Int) < (vars : Int))) = true := by simp; omega
  rw [hd] at hc
  have HC := Lib.hid hc
  have HDR := Lib.hid (draft_any B w b vars budget nv pb S h)
  clear hc h hd
  go_enter Try.func15, Try.ntmps15
  go_wp2_with fail
  refine HC.out.mono ?_
  rintro e w' ⟨rfl, hw'⟩
  subst hw'
  go_wp2_with fail
  refine HDR.out.mono ?_
  rintro e w1 ⟨hb1, P, e0, e1, e2, e3, e4, e5, e6, e7, e8, rfl, hD⟩
  have hS0 := hD.st.good
  have hP := put_any P w1 _ _ hD i 0 1 (by omega)
    (.inr ⟨0, rfl, by rw [List.append_nil]; have := hS0.two; omega, by rw [List.append_nil, tst_at hS0.n0]; omega⟩) (.inr ⟨1, rfl, by rw [List.append_nil]; have := hS0.two; omega, by rw [List.append_nil, tst_at hS0.n1]; omega⟩)
  have HP := Lib.hid hP
  have HE := Lib.hid (And.intro e0 (And.intro e1 (And.intro e2 (And.intro e3 (And.intro e4 (And.intro e7 e8))))))
  clear hP hS0 hD e0 e1 e2 e3 e4 e5 e6 e7 e8 hb1
  go_wp2_with fail
  refine HP.out.mono ?_
  rintro e w2 ⟨fv2, F2, hD2, -, hR⟩
  obtain ⟨e0, e1, e2, e3, e4, e7, e8⟩ := HE.out
  obtain ⟨x, rfl, hxb, hxn, hF2, hval⟩ : ∃ x : Int, e = .returned (.int .i64 x) ∧ (-1 ≤ x ∧ x < ((P.S ++ F2).length : Int)) ∧ (x = -1 → P.budget ≤ P.S.length + 1) ∧ F2.length ≤ 1 ∧ ∀ f : Nat, x = (f : Int) → ∀ r, den (P.S ++ F2) f r = r i := by
    rcases hR with ⟨rfl, rfl, hc⟩ | ⟨x, l, hh, rfl, el, eh, ⟨m, hm, hml⟩, hp⟩
    · exact ⟨-1, rfl, ⟨by omega, by omega⟩, fun _ => by rcases hc with c | c | c <;> first | omega | (rw [e8] at c; simp at c; omega), by simp, fun f hf => by omega⟩
    · refine ⟨x, rfl, ⟨by omega, by have := hp.lt; omega⟩, fun h => by omega, by rw [hm]; simpa using hml, fun f hf r => ?_⟩
      obtain rfl : f = x := by omega
      obtain rfl : l = 0 := by omega
      obtain rfl : hh = 1 := by omega
      rw [hp.val r, den_one, den_zero]
      cases r i <;> rfl
  have HK := Lib.hid ((keep_any P w2 fv2 F2 hD2 x hxb).mono (fun e w' hk => op_keep (K := 1) (val := fun r => r i) hD2 e0 e1 e2 e3 e4 e7 hk hF2 hxn hval))
  clear hD2 hR e0 e1 e2 e3 e4 e7 e8 hxb hxn hF2 hval
  go_wp2_with fail
  refine HK.out.mono ?_
  rintro e w3 hp
  obtain ⟨a, c, rfl⟩ : ∃ a c : Int, e = .returned (.tuple #[.int .i64 a, .int .i64 c]) := by
    rcases hp.2.2 with ⟨h, _⟩ | ⟨N, y, h, _⟩
    · exact ⟨_, _, h⟩
    · exact ⟨_, _, h⟩
  have HR := Lib.hid hp
  clear hp
  go_wp2
  refine bodyPost_ret (v := .tuple #[.int .i64 a, .int .i64 c]) (by simp [results, Try.results15, go_sem]) rfl HR.out
end Go.Proofs.Ytfohjlepknnleaa.Bd
