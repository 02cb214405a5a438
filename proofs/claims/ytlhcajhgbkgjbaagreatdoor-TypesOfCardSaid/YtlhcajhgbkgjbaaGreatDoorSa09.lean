/- The document's reader of programs: what is told, structs that are filled. Conditions: a reader lies in memory. -/
import Derived.Test.YtlhcajhgbkgjbaaGreatDoorSa08
import Derived.Test.YtlhcajhgbkgjbaaGreatDoorSa07
import Derived.Test.YtlhcajhgbkgjbaaGreatDoorMb17
import Derived.Test.YtlhcajhgbkgjbaaGreatDoorMb23
set_option linter.unusedVariables false
set_option linter.unusedSimpArgs false
namespace Go.Proofs.YtlhcajhgbkgjbaaGreatDoor.Rp
open Go.ChangeShapes Go.WideShapes Go.ChangeAt Go.RowKit
open Ex
open Tr (str ka1 ka6 Bytes Nd)
open Pg
theorem kj7 {w : World} {b b' : Nat} {v : Value} {l : List Tok} (h : TokOff w b v l) (hb : b <= b') : TokOff w b' v l := by
 obtain ⟨A, c, h0, h1, h2, h3⟩ := h
 refine ⟨A, c, h0, h1, h2, fun i t hi => ?_⟩
 obtain ⟨g, e1, e2, e3⟩ := h3 i t hi
 exact ⟨g, e1, by omega, e3⟩
def ExpG (w : World) (b : Nat) (x : List Nd × Rd) (e : Ending) (w' : World) : Prop := ∃ ev, e = .returned ev /\ PtW w' (ev, ⟨x.1, 0, 0⟩) /\ RdBy w w' b x.2
theorem RdBy.block {w w' : World} {b : Nat} {r : Rd} (h : RdBy w w' b r) {B : Nat} {o : Obj} (hB : w.heap[B]? = some o) (hne : B ≠ b) : w'.heap[B]? = some o :=
 (h.grown.block B (lt_of_block hB) (fun e => hne (by injection e))).trans hB
theorem blk2 {W : World} {B : Nat} {T : TypeId} {u0 u1 : Value} (h : W.heap[B]? = some (.cells #[u0, u1] T (0, 0))) (v0 v1 : Value) : ((W.setCell ⟨B, 0, none⟩ v0).setCell ⟨B, 1, none⟩ v1).heap[B]? = some (.cells #[v0, v1] T (0, 0)) := by
 have h2 := ka2 (v := v1) (ka2 (v := v0) h (k := 0) (by simp)) (k := 1) (by simp)
 simpa using h2
theorem ka7 {W : World} {B k : Nat} {v : Value} {B' : Nat} {o : Obj} (h : W.heap[B']? = some o) (hne : B' ≠ B) : (W.setCell ⟨B, k, none⟩ v).heap[B']? = some o :=
 (Below.heap_setCell W ⟨B, k, none⟩ v B' (by simpa using hne)).trans h
def PrmG (w : World) (b : Nat) (x : Prm × Rd) (e : Ending) (w' : World) : Prop := e = .returned (.agg #[.string (str x.1.name), .int .i64 x.1.ty]) /\ RdBy w w' b x.2
def UntG (w : World) (b : Nat) (x : Unt × Rd) (e : Ending) (w' : World) : Prop := ∃ iv vv qv lv, e = .returned (.agg #[.bool x.1.contract, .string (str x.1.name), iv, .string (str x.1.out.name), .int .i64 x.1.out.ty, vv, qv, lv]) /\ RowR 50 2 PrmV w' x.1.ins iv /\ RowR 50 2 PrmV w' x.1.vars vv /\ RowR 56 2 EqnV w' x.1.eqs qv /\ RowR 58 6 ItmV w' x.1.items lv /\ RdBy w w' b x.2
def RowG {α : Type} (T : TypeId) (K : Nat) (R : World -> α -> List Value -> Prop) (w : World) (b : Nat) (x : List α × Rd) (e : Ending) (w' : World) : Prop := ∃ v, e = .returned v /\ RowR T K R w' x.1 v /\ RdBy w w' b x.2
theorem RowG.of {α : Type} {T : TypeId} {K : Nat} {R : World -> α -> List Value -> Prop} {w w' : World} {b : Nat} {l : List α} {r : Rd} {X : List α × Rd} {v : Value} (hX : (l, r) = X) (h : RowR T K R w' l v) (g : RdBy w w' b r) : RowG T K R w b X (.returned v) w' := by
 subst hX; exact ⟨v, rfl, h, g⟩
theorem kbC {w : World} {base : Nat} {e : TypeId} {sz : Nat} {v : Value} {n : Nat} {xs : List Value} (h : w.ownsRow base e sz v n xs) : ∃ A c, v = .slice A n c /\ n <= c /\ c <= 9223372036854775807 := by
 obtain ⟨hl, ⟨rfl, rfl⟩ | ⟨g, cap, cur, rfl, hb, hh, hnc, hcm, _⟩⟩ := h
 · exact ⟨none, 0, rfl, Nat.le_refl _, by omega⟩
 · unfold maxLen at hcm; exact ⟨some ⟨g, 0, none⟩, cap, rfl, hnc, hcm⟩
theorem kcy {w : World} {v : Value} {p : Pt} (h : PtW w (v, p)) : ∃ A n c, v = .slice A n c /\ n <= c /\ c <= 9223372036854775807 := by
 obtain ⟨⟨A, c, hv, h1, h2, _⟩, _⟩ := h
 unfold maxLen at h2
 exact ⟨A, _, c, hv, h1, h2⟩
theorem kan {α : Type} {T : TypeId} {K : Nat} {R : World -> α -> List Value -> Prop} {w : World} {l : List α} {v : Value} (h : RowR T K R w l v) : ∃ A n c, v = .slice A n c /\ n <= c /\ c <= 9223372036854775807 := by
 obtain ⟨A, c, rfl, h1, h2, _⟩ := h
 unfold maxLen at h2
 exact ⟨A, _, c, rfl, h1, h2⟩
theorem RdBy.row {w w2 W w3 : World} {b : Nat} {q : Rd} {row : Option Nat} (h : RdBy w w2 b q) (hlt : b < w.heap.size) (hW : Below w2.heap.size w2 W) (hg : W.grownBy w3 row) (hrow : ∀ g, row = some g -> w.heap.size <= g) : RdBy w w3 b q := by
 have hs := h.grown.size
 have hs2 := hW.size
 have hk : ∀ g, g < w.heap.size -> w3.heap[g]? = w2.heap[g]? := fun g hg' => (hg.block g (by omega) (fun e => by have := hrow g e.symm; omega)).trans (hW.block g (by omega))
 exact ⟨h.rd.keep (Nat.le_trans hs2 hg.size) (fun g h1 _ => hk g (by omega)) (hk b hlt), ⟨(hg.os.trans hW.os).trans h.grown.os, (hg.tape.trans hW.tape).trans h.grown.tape, (hg.output.trans hW.output).trans h.grown.output, Nat.le_trans hs (Nat.le_trans hs2 hg.size), fun i hi hne => (hk i hi).trans (h.grown.block i hi hne)⟩⟩
theorem kbO {W : World} {B k : Nat} {v : Value} {g : Nat} (hne : g ≠ B) : (W.setCell ⟨B, k, none⟩ v).heap[g]? = W.heap[g]? := Below.heap_setCell W ⟨B, k, none⟩ v g (by simpa using hne)
theorem ka4 {P : TypeId -> Prop} {w : World} {B k : Nat} {cs : Array Value} {T : TypeId} {f : Nat × Nat} (hB : w.heap[B]? = some (Obj.cells cs T f)) (hP : P T) (v : Value) : Stay P w (w.setCell ⟨B, k, none⟩ v) :=
 ⟨by simp [World.setCell], fun g cs' T' f' hg hp => kbO (by
  rintro rfl
  rw [hB] at hg
  simp only [Option.some.injEq, Obj.cells.injEq] at hg
  exact hp (hg.2.1 ▸ hP))⟩
theorem kbh {P : TypeId -> Prop} {w W : World} {B : Nat} {cs : Array Value} {T : TypeId} {f : Nat × Nat} (hB : w.heap[B]? = some (Obj.cells cs T f)) (hP : P T) (hs : w.heap.size <= W.heap.size) (h : ∀ g, g ≠ B -> W.heap[g]? = w.heap[g]?) : Stay P w W :=
 ⟨hs, fun g cs' T' f' hg hp => h g (by
  rintro rfl
  rw [hB] at hg
  simp only [Option.some.injEq, Obj.cells.injEq] at hg
  exact hp (hg.2.1 ▸ hP))⟩
theorem blk3 {W : World} {B : Nat} {T : TypeId} {u0 u1 u2 : Value} (h : W.heap[B]? = some (.cells #[u0, u1, u2] T (0, 0))) (v0 v1 v2 : Value) : (((W.setCell ⟨B, 0, none⟩ v0).setCell ⟨B, 1, none⟩ v1).setCell ⟨B, 2, none⟩ v2).heap[B]? = some (.cells #[v0, v1, v2] T (0, 0)) := by
 have h0 := ka2 (v := v0) h (k := 0) (by simp)
 have h1 := ka2 (v := v1) h0 (k := 1) (by simp)
 have h2 := ka2 (v := v2) h1 (k := 2) (by simp)
 simpa using h2
theorem blk6 {W : World} {B : Nat} {T : TypeId} {u0 u1 u2 u3 u4 u5 : Value} (h : W.heap[B]? = some (.cells #[u0, u1, u2, u3, u4, u5] T (0, 0))) (v0 v1 v2 v3 v4 v5 : Value) : ((((((W.setCell ⟨B, 0, none⟩ v0).setCell ⟨B, 1, none⟩ v1).setCell ⟨B, 2, none⟩ v2).setCell ⟨B, 3, none⟩ v3).setCell ⟨B, 4, none⟩ v4).setCell ⟨B, 5, none⟩ v5).heap[B]? = some (.cells #[v0, v1, v2, v3, v4, v5] T (0, 0)) := by
 have h0 := ka2 (v := v0) h (k := 0) (by simp)
 have h1 := ka2 (v := v1) h0 (k := 1) (by simp)
 have h2 := ka2 (v := v2) h1 (k := 2) (by simp)
 have h3 := ka2 (v := v3) h2 (k := 3) (by simp)
 have h4 := ka2 (v := v4) h3 (k := 4) (by simp)
 have h5 := ka2 (v := v5) h4 (k := 5) (by simp)
 simpa using h5
theorem blk8 {W : World} {B : Nat} {T : TypeId} {u0 u1 u2 u3 u4 u5 u6 u7 : Value} (h : W.heap[B]? = some (.cells #[u0, u1, u2, u3, u4, u5, u6, u7] T (0, 0))) (v0 v1 v2 v3 v4 v5 v6 v7 : Value) : ((((((((W.setCell ⟨B, 0, none⟩ v0).setCell ⟨B, 1, none⟩ v1).setCell ⟨B, 2, none⟩ v2).setCell ⟨B, 3, none⟩ v3).setCell ⟨B, 4, none⟩ v4).setCell ⟨B, 5, none⟩ v5).setCell ⟨B, 6, none⟩ v6).setCell ⟨B, 7, none⟩ v7).heap[B]? = some (.cells #[v0, v1, v2, v3, v4, v5, v6, v7] T (0, 0)) := by
 have h0 := ka2 (v := v0) h (k := 0) (by simp)
 have h1 := ka2 (v := v1) h0 (k := 1) (by simp)
 have h2 := ka2 (v := v2) h1 (k := 2) (by simp)
 have h3 := ka2 (v := v3) h2 (k := 3) (by simp)
 have h4 := ka2 (v := v4) h3 (k := 4) (by simp)
 have h5 := ka2 (v := v5) h4 (k := 5) (by simp)
 have h6 := ka2 (v := v6) h5 (k := 6) (by simp)
 have h7 := ka2 (v := v7) h6 (k := 7) (by simp)
 simpa using h7
theorem pb {α β : Type} {f : PM α} {g : α -> PM β} {r r' : Rd} {a : α} (h : f r = (a, r')) : kar f g r = g a r' := by unfold kar; rw [h]
theorem pu {β : Type} {f : PM Unit} {g : Unit -> PM β} {r r' : Rd} (h : (f r).2 = r') : kar f g r = g () r' := by unfold kar; rw [h]
theorem UntG.of {w w' : World} {b : Nat} {c : Bool} {n on : Bytes} {ot : Int} {i vs : List Prm} {q : List Eqn} {l : List Itm} {iv vv qv lv : Value} {r : Rd} {X : Unt × Rd} (hX : (⟨c, n, i, ⟨on, ot⟩, vs, q, l⟩, r) = X) (h1 : RowR 50 2 PrmV w' i iv) (h2 : RowR 50 2 PrmV w' vs vv) (h3 : RowR 56 2 EqnV w' q qv) (h4 : RowR 58 6 ItmV w' l lv) (g : RdBy w w' b r) :
 UntG w b X (.returned (.agg #[.bool c, .string (str n), iv, .string (str on), .int .i64 ot, vv, qv, lv])) w' := by
 subst hX; exact ⟨iv, vv, qv, lv, rfl, h1, h2, h3, h4, g⟩
theorem ke5 (W : World) (cs : Array Value) (T : TypeId) (xs : List Value) (h : cs.toList = xs) {G : Nat} (hG : W.heap.size = G) : ∀ j u, xs[j]? = some u -> (W.alloc (.cells cs T)).cell? ((⟨G, 0, none⟩ : Addr).add j) = some u := by
 subst h; subst hG
 exact World.news_of_block (t := T) (fr := (0, 0)) (heap_alloc_new _ _)
theorem PrmG.of {w w' : World} {b : Nat} {n : Bytes} {t : Int} {r : Rd} {X : Prm × Rd} (hX : (⟨n, t⟩, r) = X) (g : RdBy w w' b r) : PrmG w b X (.returned (.agg #[.string (str n), .int .i64 t])) w' := by
 subst hX; exact ⟨rfl, g⟩
theorem kgy {α : Type} {sep : Bytes} {one : PM α} {k : Nat} {acc : List α} {r : Rd} (h : r.code ≠ 0) : inF sep one (k + 1) acc r = ([], r) := by
 show (if r.code = 0 then _ else _) = _; rw [if_neg h]
theorem km7 {α : Type} {sep : Bytes} {one : PM α} {k : Nat} {acc : List α} {r r1 r2 r3 : Rd} {a : α} (h : r.code = 0) (h1 : (kby acc.length r).2 = r1) (h2 : one r1 = (a, r2)) (h3 : kau [41] r2 = (true, r3)) : inF sep one (k + 1) acc r = (acc ++ [a], r3) := by
 show (if r.code = 0 then _ else _) = _; rw [if_pos h, pu h1, pb h2, pb h3]; rfl
theorem kjq {α : Type} {sep : Bytes} {one : PM α} {k : Nat} {acc : List α} {r r1 r2 r3 r4 : Rd} {a : α} (h : r.code = 0) (h1 : (kby acc.length r).2 = r1) (h2 : one r1 = (a, r2)) (h3 : kau [41] r2 = (false, r3)) (h4 : (kaj sep r3).2 = r4) : inF sep one (k + 1) acc r = inF sep one k (acc ++ [a]) r4 := by
 show (if r.code = 0 then _ else _) = _; rw [if_pos h, pu h1, pb h2, pb h3, if_neg (by decide)]
 exact pu h4
theorem kow {α : Type} {sep : Bytes} {one : PM α} {r r1 r2 : Rd} {B : Bool} (h1 : (kaj [40] r).2 = r1) (h2 : kau [41] r1 = (B, r2)) : inQ sep one r = if B then ([], r2) else inF sep one kaH [] r2 := by
 unfold inQ; rw [pu h1, pb h2]; cases B <;> rfl
theorem kc0 {n : Nat} {r r1 : Rd} (h : (kby n r).2 = r1) (hc : r1.code = 0) : n < 200 := by
 apply Classical.byContradiction; intro hn
 subst h
 unfold kby at hc; simp only at hc; rw [if_pos (by omega)] at hc
 exact kcf 7 (by decide) r hc
theorem kgQ {k : Nat} {acc : List Prm} {r : Rd} (h : r.code ≠ 0) : varF (k + 1) acc r = ([], r) := by
 show (if r.code = 0 then _ else _) = _; rw [if_neg h]
theorem kkC {k : Nat} {acc : List Prm} {r r1 r2 r3 : Rd} {a : Prm} {B : Bool} (h : r.code = 0) (h1 : (kby acc.length r).2 = r1) (h2 : kaK r1 = (a, r2)) (h3 : (kaj kaM r2).2 = r3) (h4 : kaP r3 = B) : varF (k + 1) acc r = if B then varF k (acc ++ [a]) r3 else (acc ++ [a], r3) := by
 show (if r.code = 0 then _ else _) = _; rw [if_pos h, pu h1, pb h2, pu h3, h4]
theorem ko9 {k : Nat} {acc : List Eqn} {r : Rd} (h : kaP r = false) : eqF (k + 1) acc r = (acc, r) := by
 show (if kaP r then _ else _) = _; rw [h]; rfl
theorem koa {k : Nat} {acc : List Eqn} {r r1 r2 r3 r4 r5 : Rd} {n : Bytes} {e : List Nd} (h : kaP r = true) (h1 : (kby acc.length r).2 = r1) (h2 : kbz r1 = (n, r2)) (h3 : (kaj sEq r2).2 = r3) (h4 : kbj r3 = (e, r4)) (h5 : (kaj kaM r4).2 = r5) : eqF (k + 1) acc r = eqF k (acc ++ [⟨n, e⟩]) r5 := by
 show (if kaP r then _ else _) = _; rw [h, if_pos rfl, pu h1]
 have : eqnQ r1 = (⟨n, e⟩, r5) := by unfold eqnQ; rw [pb h2, pu h3, pb h4, pu h5]; rfl
 rw [pb this]
theorem ko0 {k : Nat} {acc : List Itm} {r : Rd} (h : kaZ r = 0) : itF (k + 1) acc r = (acc, r) := by
 show (if kaZ r ≠ 0 then _ else _) = _; rw [if_neg (by simpa using h)]
theorem ko1 {k : Nat} {acc : List Itm} {r r1 r2 : Rd} {x : Option Itm} (h : kaZ r ≠ 0) (h1 : (kby acc.length r).2 = r1) (h2 : kfk r1 = (x, r2)) : itF (k + 1) acc r = itF k (acc ++ x.toList) r2 := by
 show (if kaZ r ≠ 0 then _ else _) = _; rw [if_pos h, pu h1, pb h2]
theorem kmH {k : Nat} {acc : List Unt} {r : Rd} (h : kdQ r = false) : unF (k + 1) acc r = (acc, r) := by
 show (if kdQ r then _ else _) = _; rw [h]; rfl
theorem kmI {k : Nat} {acc : List Unt} {r r1 r2 : Rd} {u : Unt} (h : kdQ r = true) (h1 : (kby acc.length r).2 = r1) (h2 : kgT r1 = (u, r2)) : unF (k + 1) acc r = unF k (acc ++ [u]) r2 := by
 show (if kdQ r then _ else _) = _; rw [h, if_pos rfl, pu h1, pb h2]
end Go.Proofs.YtlhcajhgbkgjbaaGreatDoor.Rp

/- Layer types: Check. Conditions: what is checked reads as a program's units, the table lies in memory. -/
namespace Go.Proofs.YtlhcajhgbkgjbaaGreatDoor.Ty
open Go.ChangeShapes Go.WideShapes Go.ChangeAt Go.RowKit
open Tr
open Pg (Prm Eqn Itm Unt)
open Go.Proofs.YtlhcajhgbkgjbaaGreatDoor.Ow (PrmN EqnN ItmN UntN RowN kav rown_form)
noncomputable def kdA : Nat -> (Bytes -> Option (List Int × Int)) -> List Unt -> Int × Int
 | _, _, [] => (0, 0)
 | n, g, u :: r => if kgd g u ≠ 0 then (kgd g u, (n : Int)) else kdA (n + 1) (addN g u) r
def kg8 (u : Unt) : Prop := u.ins.length <= 1000 /\ u.vars.length <= 1000 /\ u.items.length <= 1000000
def kj4 (w : World) (x : Int × Int) (e : Ending) (w' : World) : Prop := e = .returned (.agg #[.int .i64 x.1, .int .i64 x.2]) /\ Below w.heap.size w w'
set_option maxRecDepth 100000 in
set_option maxHeartbeats 8000000 in
theorem kmr (us : List Unt) (uv : Value) (m b : Bytes) (w : World) (hT : ShAt w) (hu : RowN 8 UntN w us uv) (hsm : ∀ u ∈ us, kg8 u) :
 Calls Tryz.prog 11 #[.agg #[uv, .string (str m), .string (str b)]] w (kj4 w (kdA 0 noN us)) := by
 have hmm := @run_makeMap Tryz.prog
 obtain ⟨R, hR⟩ : ∃ R, kdA 0 noN us = R := ⟨_, rfl⟩
 have HR : Hid (kdA 0 noN (us.drop 0) = R) := Lib.hid hR
 rw [hR]
 have HU := Lib.hid hu
 have HSM := Lib.hid hsm
 obtain ⟨A, c, rfl, h1, h2, -⟩ := rown_form hu
 unfold maxLen at h2
 have HTW : Hid (∀ W, Below w.heap.size w W -> ShAt W) := Lib.hid (fun W h => hT.below h hT.1)
 have N := kaV w (.cells #[.slice A us.length c, .string (str m), .string (str b)] 28) (.cells #[.int .i64 0, .int .i64 0] 35)
 obtain ⟨w1, hw1⟩ : ∃ W, (w.alloc (.cells #[.slice A us.length c, .string (str m), .string (str b)] 28)).alloc (.cells #[.int .i64 0, .int .i64 0] 35) = W := ⟨_, rfl⟩
 have n1 : w1.heap.size = w.heap.size + 2 := by rw [<- hw1]; simp
 rw [hw1] at N
 have hm1 := kc6.made (w0 := w) (w := w1) N.1
 have N2 := kaV w1 (.map #[] 0) (.cells #[.map none, .map (some w1.heap.size)] 65)
 have hm2 : kc6 w ((w1.alloc (.map #[] 0)).alloc (.cells #[.map none, .map (some w1.heap.size)] 65)) w1.heap.size 0 noN := hm1.below (below_new _ _)
 obtain ⟨w2, hw2⟩ : ∃ W, (w1.alloc (.map #[] 0)).alloc (.cells #[.map none, .map (some w1.heap.size)] 65) = W := ⟨_, rfl⟩
 rw [hw2] at N2 hm2
 have hb12 : Below w1.heap.size w1 w2 := N2.1
 have lx1 := lt_of_block N.2.1
 have lx2 := lt_of_block N.2.2
 have hX0 := (hb12.block _ lx1).trans N.2.1
 have hX1 := (hb12.block _ lx2).trans N.2.2
 have hX3 := N2.2.2
 rw [n1] at hm2 hX3 hw2
 have HB2 : Hid (Below w.heap.size w w2) := Lib.hid (N.1.trans (hb12.mono N.1.size))
 have HX1 := Lib.hid hX1
 have HX3 := Lib.hid hX3
 have HM2 := Lib.hid hm2
 have HW2 := Lib.hid hw2
 have HW1 := Lib.hid hw1
 have n2 : w2.heap.size = w.heap.size + 4 := by rw [<- hw2]; simp [n1]
 have HN2 := Lib.hid n2
 have x0 : w1.cell? ⟨w.heap.size, 0, none⟩ = some (.slice A us.length c) := (ka3 N.2.1 0).trans rfl
 have x02 : w2.cell? ⟨w.heap.size, 0, none⟩ = some (.slice A us.length c) := (ka3 hX0 0).trans rfl
 have HN1 := Lib.hid n1
 have HEND : Hid (∀ (wr : World) (p q : Int), Below w.heap.size w wr -> (p, q) = R -> ∀ e, e = Ending.returned (.agg #[.int .i64 p, .int .i64 q]) -> kj4 w R e ((wr.setCell ⟨w.heap.size + 1, 0, none⟩ (.int .i64 p)).setCell ⟨w.heap.size + 1, 1, none⟩ (.int .i64 q))) := Lib.hid (fun wr p q hb h e he => by
  subst h; subst he
  exact ⟨rfl, (hb.setCell (by simp) _).setCell (by simp) _⟩)
 clear hR hu hT hsm N N2 hm1 hm2 hb12 hX0 hX1 hX3 n2 HW1 HW2
 go_enter Tryz.func11, Tryz.ntmps11
 go_wp2
 go_loopw [12] (fun i wr => ∃ (k : Nat) (g : Bytes -> Option (List Int × Int)), k <= us.length /\ i = .int .i64 k /\ kc6 w wr (w.heap.size + 2) k g /\ Below w.heap.size w wr /\ wr.heap[w.heap.size + 1]? = some (.cells #[.int .i64 0, .int .i64 0] 35 (0, 0)) /\ wr.heap[w.heap.size + 2 + 1]? = some (.cells #[.map none, .map (some (w.heap.size + 2))] 65 (0, 0)) /\ Hid (kdA k g (us.drop k) = R)) (fun i _ => us.length - (intOf i).toNat)
 case atStart => exact ⟨0, noN, Nat.zero_le _, rfl, HM2.out, HB2.out, HX1.out, HX3.out, HR⟩
 case round =>
  obtain ⟨k, g, hk, rfl, hN, hb, hZ, hX, hm⟩ := hrel
  have HNk := Lib.hid hN
  have HBk := Lib.hid hb
  have HZk := Lib.hid hZ
  have HXk := Lib.hid hX
  have lz := lt_of_block hZ
  have lX := lt_of_block hX
  have p0 : wr.cell? ⟨w.heap.size + 2 + 1, 0, none⟩ = some (.map none) := (ka3 hX 0).trans rfl
  have p1 : wr.cell? ⟨w.heap.size + 2 + 1, 1, none⟩ = some (.map (some (w.heap.size + 2))) := (ka3 hX 1).trans rfl
  by_cases hlt : k < us.length
  · obtain ⟨u, hu⟩ : ∃ u, us[k]? = some u := ⟨_, List.getElem?_eq_getElem hlt⟩
    obtain ⟨gg, o, c', x, hv', hgl, hux, hxl, hcell⟩ := kav HU.out hu
    simp only [Value.slice.injEq, true_and] at hv'
    obtain ⟨rfl, rfl⟩ := hv'
    have HUX := Lib.hid hux
    obtain ⟨iv, vv, qv, lv, rfl, z1, z2, z3, z4, -⟩ := hux
    obtain ⟨B1, d1, rfl, -, -, -⟩ := rown_form z1
    obtain ⟨B2, d2, rfl, -, -, -⟩ := rown_form z2
    obtain ⟨B3, d3, rfl, -, -, -⟩ := rown_form z3
    obtain ⟨B4, d4, rfl, -, -, -⟩ := rown_form z4
    have q : ∀ j, j < 8 -> wr.cell? ⟨gg, o + k * 8 + j, none⟩ = _ := fun j hj => (hb.cell (p := ⟨gg, o + k * 8 + j, none⟩) hgl).trans (hcell j hj)
    have q0 : wr.cell? ⟨gg, o + k * 8, none⟩ = some (.bool u.contract) := q 0 (by omega)
    have q1 : wr.cell? ⟨gg, o + k * 8 + 1, none⟩ = some (.string (str u.name)) := q 1 (by omega)
    have q2 : wr.cell? ⟨gg, o + k * 8 + 2, none⟩ = some (.slice B1 u.ins.length d1) := q 2 (by omega)
    have q3 : wr.cell? ⟨gg, o + k * 8 + 3, none⟩ = some (.string (str u.out.name)) := q 3 (by omega)
    have q4 : wr.cell? ⟨gg, o + k * 8 + 4, none⟩ = some (.int .i64 u.out.ty) := q 4 (by omega)
    have q5 : wr.cell? ⟨gg, o + k * 8 + 5, none⟩ = some (.slice B2 u.vars.length d2) := q 5 (by omega)
    have q6 : wr.cell? ⟨gg, o + k * 8 + 6, none⟩ = some (.slice B3 u.eqs.length d3) := q 6 (by omega)
    have q7 : wr.cell? ⟨gg, o + k * 8 + 7, none⟩ = some (.slice B4 u.items.length d4) := q 7 (by omega)
    have hgr : gg < wr.heap.size := by have := hb.size; omega
    obtain ⟨w4, hw4⟩ : ∃ W, wr.alloc (.cells #[.bool u.contract, .string (str u.name), .slice B1 u.ins.length d1, .string (str u.out.name), .int .i64 u.out.ty, .slice B2 u.vars.length d2, .slice B3 u.eqs.length d3, .slice B4 u.items.length d4] 54) = W := ⟨_, rfl⟩
    have hb4 : Below wr.heap.size wr w4 := hw4 ▸ below_new wr _
    have hX4 : w4.heap[wr.heap.size]? = some (.cells #[.bool u.contract, .string (str u.name), .slice B1 u.ins.length d1, .string (str u.out.name), .int .i64 u.out.ty, .slice B2 u.vars.length d2, .slice B3 u.eqs.length d3, .slice B4 u.items.length d4] 54 (0, 0)) := hw4 ▸ heap_alloc_new wr _
    have hbw4 : Below w.heap.size w w4 := hb.trans (hb4.mono hb.size)
    have hsm := HSM.out u (List.mem_of_getElem? hu)
    have HC := Lib.hid (kgc (.map (some (w.heap.size + 2))) k g u _ w4 (.inr ⟨w, w.heap.size + 2, rfl, hN.below hb4⟩) (HTW.out w4 hbw4) (Ow.UntN.below hbw4 _ _ HUX.out) hsm.1 hsm.2.1 hsm.2.2)
    have HD : Hid ((if kgd g u ≠ 0 then (kgd g u, (k : Int)) else kdA (k + 1) (addN g u) (us.drop (k + 1))) = R) := Lib.hid (by rw [<- hm.out, drop_at hu]; rfl)
    have HADD : Hid (∀ W, Below wr.heap.size wr W -> Calls Tryz.prog 21 #[.agg #[.map none, .map (some (w.heap.size + 2))], .agg #[.bool u.contract, .string (str u.name), .slice B1 u.ins.length d1, .string (str u.out.name), .int .i64 u.out.ty, .slice B2 u.vars.length d2, .slice B3 u.eqs.length d3, .slice B4 u.items.length d4]] W (kjF w W (w.heap.size + 2) k g u)) := Lib.hid (fun W h => kjC w (.map none) (w.heap.size + 2) k g u _ W (HNk.out.below h) HUX.out (by unfold maxLen; omega))
    obtain ⟨z, hz⟩ : ∃ z, kgd g u = z := ⟨_, rfl⟩
    rw [hz] at HC HD
    have HW4 := Lib.hid hw4
    have HB4 := Lib.hid hb4
    have HX4 := Lib.hid hX4
    have lX4 := lt_of_block hX4
    clear hu hcell hN hb hZ hX hm hw4 hb4 hbw4 hX4 hz q hsm z1 z2 z3 z4
    go_wp2_with fail
    rw [HW4.out]
    go_wp2_with fail
    refine HC.out.mono ?_
    rintro r w5 ⟨rfl, hb5⟩
    have HB45 : Hid (Below wr.heap.size wr w5) := Lib.hid (HB4.out.trans (hb5.mono HB4.out.size))
    have HB5 : Hid (Below w.heap.size w w5) := Lib.hid (HBk.out.trans (HB45.out.mono HBk.out.size))
    have hX5 := (hb5.block _ lX4).trans HX4.out
    have hS5 := (HB45.out.block _ lX).trans HXk.out
    have hZ5 := (HB45.out.block _ lz).trans HZk.out
    have HZ5 := Lib.hid hZ5
    have HS5 := Lib.hid hS5
    have lz5 := lt_of_block hZ5
    have hsz5 := HB45.out.size
    by_cases hz0 : z = 0
    · subst hz0
      have HN2' : Hid (kdA (k + 1) (addN g u) (us.drop (k + 1)) = R) := Lib.hid (by have := HD.out; rw [if_neg (by simp)] at this; exact this)
      have s0 : w5.cell? ⟨w.heap.size + 2 + 1, 0, none⟩ = some (.map none) := (ka3 hS5 0).trans rfl
      have s1 : w5.cell? ⟨w.heap.size + 2 + 1, 1, none⟩ = some (.map (some (w.heap.size + 2))) := (ka3 hS5 1).trans rfl
      have t0 : w5.cell? ⟨wr.heap.size, 0, none⟩ = some (.bool u.contract) := (ka3 hX5 0).trans rfl
      have t1 : w5.cell? ⟨wr.heap.size, 1, none⟩ = some (.string (str u.name)) := (ka3 hX5 1).trans rfl
      have t2 : w5.cell? ⟨wr.heap.size, 2, none⟩ = some (.slice B1 u.ins.length d1) := (ka3 hX5 2).trans rfl
      have t3 : w5.cell? ⟨wr.heap.size, 3, none⟩ = some (.string (str u.out.name)) := (ka3 hX5 3).trans rfl
      have t4 : w5.cell? ⟨wr.heap.size, 4, none⟩ = some (.int .i64 u.out.ty) := (ka3 hX5 4).trans rfl
      have t5 : w5.cell? ⟨wr.heap.size, 5, none⟩ = some (.slice B2 u.vars.length d2) := (ka3 hX5 5).trans rfl
      have t6 : w5.cell? ⟨wr.heap.size, 6, none⟩ = some (.slice B3 u.eqs.length d3) := (ka3 hX5 6).trans rfl
      have t7 : w5.cell? ⟨wr.heap.size, 7, none⟩ = some (.slice B4 u.items.length d4) := (ka3 hX5 7).trans rfl
      have HA := Lib.hid (HADD.out w5 HB45.out)
      clear hb5 hX5 hS5 hZ5
      go_wp2_with fail
      refine HA.out.mono ?_
      rintro r w6 ⟨rfl, hN6, hs6, hg6⟩
      have HN6 := Lib.hid hN6
      have HZ6 : Hid (w6.heap[w.heap.size + 1]? = some (.cells #[.int .i64 0, .int .i64 0] 35 (0, 0))) := Lib.hid ((hg6.block _ (by omega) (by simp)).trans HZ5.out)
      have HS6 : Hid (w6.heap[w.heap.size + 2 + 1]? = some (.cells #[.map none, .map (some (w.heap.size + 2))] 65 (0, 0))) := Lib.hid ((hg6.block _ (by omega) (by simp)).trans HS5.out)
      have HB6 : Hid (Below w.heap.size w w6) := Lib.hid (HB5.out.grown hg6 HB5.out.size (fun j hj => by cases hj; omega))
      clear hN6 hg6
      go_wp2
      refine ⟨⟨k + 1, addN g u, by omega, by go_num, HN6.out, HB6.out, HZ6.out, HS6.out, HN2'⟩, by simp [intOf]; omega⟩
    · have hzb : (z != 0) = true := by simpa using hz0
      have HRR : Hid ((z, (k : Int)) = R) := Lib.hid (by have h := HD.out; rw [if_pos hz0] at h; exact h)
      have p0 : w5.cell? ⟨w.heap.size + 1, 0, none⟩ = some (.int .i64 0) := (ka3 hZ5 0).trans rfl
      have p1 : w5.cell? ⟨w.heap.size + 1, 1, none⟩ = some (.int .i64 0) := (ka3 hZ5 1).trans rfl
      have f0 : w5.frozen? ⟨w.heap.size + 1, 0, none⟩ = false := Ex.free_at hZ5 0
      have f1 : w5.frozen? ⟨w.heap.size + 1, 1, none⟩ = false := Ex.free_at hZ5 1
      clear hb5 hX5 hS5 hZ5 hz0
      go_wp2
      have Z := Go.Proofs.YtlhcajhgbkgjbaaGreatDoor.Rp.blk2 HZ5.out (.int .i64 z) (.int .i64 (k : Int))
      have z0 := (ka3 Z 0).trans (show _ = some (.int .i64 z) from rfl)
      have z1 := (ka3 Z 1).trans (show _ = some (.int .i64 (k : Int)) from rfl)
      clear p0 p1 f0 f1
      exact bodyPost_ret (v := .agg #[.int .i64 z, .int .i64 (k : Int)]) (by simp [results, Tryz.results11, go_sem, z0, z1]) rfl (HEND.out w5 z k HB5.out HRR.out _ rfl)
  · have hkl : k = us.length := by omega
    subst hkl
    have HRR : Hid (((0 : Int), (0 : Int)) = R) := Lib.hid (by rw [<- hm.out, List.drop_length]; rfl)
    have p0 : wr.cell? ⟨w.heap.size + 1, 0, none⟩ = some (.int .i64 0) := (ka3 hZ 0).trans rfl
    have p1 : wr.cell? ⟨w.heap.size + 1, 1, none⟩ = some (.int .i64 0) := (ka3 hZ 1).trans rfl
    have f0 : wr.frozen? ⟨w.heap.size + 1, 0, none⟩ = false := Ex.free_at hZ 0
    have f1 : wr.frozen? ⟨w.heap.size + 1, 1, none⟩ = false := Ex.free_at hZ 1
    clear hN hb hZ hX hm
    go_wp2
    have Z := Go.Proofs.YtlhcajhgbkgjbaaGreatDoor.Rp.blk2 HZk.out (.int .i64 0) (.int .i64 0)
    have z0 := (ka3 Z 0).trans (show _ = some (.int .i64 0) from rfl)
    have z1 := (ka3 Z 1).trans (show _ = some (.int .i64 0) from rfl)
    clear p0 p1 f0 f1
    exact bodyPost_ret (v := .agg #[.int .i64 0, .int .i64 0]) (by simp [results, Tryz.results11, go_sem, z0, z1]) rfl (HEND.out wr 0 0 HBk.out HRR.out _ rfl)
end Go.Proofs.YtlhcajhgbkgjbaaGreatDoor.Ty

/- Contracts of the document's reader of programs: whether an item begins. Conditions: a reader lies in memory. -/
namespace Go.Proofs.YtlhcajhgbkgjbaaGreatDoor.Rp
open Go.ChangeShapes Go.WideShapes Go.ChangeAt Go.RowKit
open Ex
open Tr (str ka1 ka6 Bytes Nd)
open Pg
theorem klU {r : Rd} (h : kaZ r ≠ 0) : r.next < r.l.length := by
 unfold kaZ at h
 split at h
 · exact keE (by assumption)
 split at h
 · exact keE (by assumption)
 split at h
 · exact keE (by assumption)
 split at h
 · exact keE (by assumption)
 split at h
 · exact keE (by assumption)
 · exact absurd rfl h
theorem kmQ {α : Type} {sep : Bytes} {one : PM α} (h : kbN one) : ∀ (k : Nat) (acc : List α), kbN (inF sep one k acc)
 | 0, acc => kam []
 | k + 1, acc => fun r hr => by rw [kgy hr]; exact hr
theorem kf2 {α : Type} {sep : Bytes} {one : PM α} (h : kbN one) : kbN (inQ sep one) := (kag _).bind fun _ => (kbv _).bind fun b => kcb (kam _) (kmQ h _ _)
theorem kgW (k : Int) : kbN (kbI k) := by
 unfold kbI
 refine kcb ?_ (kcb ?_ (kcb ?_ ?_))
 · exact kbQ.bind fun _ => (kag _).bind fun _ => kbw.bind fun _ => (kag _).bind fun _ => kam _
 · exact kbR.bind fun _ => (kag _).bind fun _ => kbw.bind fun _ => (kag _).bind fun _ => kbw.bind fun _ => (kag _).bind fun _ => kam _
 · exact kbR.bind fun _ => (kf2 kbw).bind fun _ => (kag _).bind fun _ => kam _
 · exact kbw.bind fun _ => (kag _).bind fun _ => kam _
theorem ker : kbN kfk := fun r h => by
 unfold kfk
 split
 · exact h
 · exact ((kgW _).bind fun _ => kam _) r.adv h
theorem koX {w : World} {b n : Nat} {r r1 : Rd} (h : RdIn w b r) (k : (kby n r).2 = r1) : r1.code ≠ 0 -> r1.l = [] := by
 subst k
 unfold kby
 simp only
 split
 · intro _; unfold Rd.fail; split <;> rfl
 · exact h.fine
theorem km3 {r : Rd} (h : r.code ≠ 0 -> r.l = []) (hc : r.code ≠ 0) : (kfk r).1 = none := by
 have : kaZ r = 0 := Classical.byContradiction fun hk => by
  have := klU hk; rw [h hc] at this; simp at this
 unfold kfk; rw [if_pos this]
set_option maxHeartbeats 4000000 in
theorem kkw (b : Nat) (r : Rd) (w : World) (hr : RdIn w b r) : Calls Tryz.prog 88 #[.pointer (some ⟨b, 0, none⟩)] w (fun e w' => e = .returned (.bool (decide (kaZ r ≠ 0))) /\ Below w.heap.size w w') := by
 have HR := Lib.hid hr
 clear hr
 have HA : ∀ (s : Bytes) (S : ByteArray) (B : Bool), S = str s -> r.isB s = B -> ∀ w', Below w.heap.size w w' -> Calls Tryz.prog 41 #[.pointer (some ⟨b, 0, none⟩), .string S] w' (fun e w'' => e = .returned (.bool B) /\ Below w.heap.size w w'') := fun s S B hS hB w' hb =>
  (km4 hS (HR.out.below hb) hB).mono fun e w'' h => ⟨h.1, hb.trans (h.2.mono hb.size)⟩
 have HAA := Lib.hid HA
 clear HA
 rcases Bool.eq_false_or_eq_true (r.isB kaS) with a1 | a1
 · have HT : Hid (decide (kaZ r ≠ 0) = true) := Lib.hid (by unfold kaZ; rw [a1]; rfl)
   rw [HT.out]
   have A1 := Lib.hid a1
   clear a1 HT
   go_enter Tryz.func88, Tryz.ntmps88
   go_wp2_with fail
   refine (HAA.out kaS _ true rfl A1.out _ (Below.refl _ _)).mono ?_
   rintro e w1 ⟨rfl, hb1⟩
   have HB1 := Lib.hid hb1
   clear hb1
   go_wp2
   go_ret
   exact ⟨rfl, HB1.out⟩
 rcases Bool.eq_false_or_eq_true (r.isB kas) with a2 | a2
 · have HT : Hid (decide (kaZ r ≠ 0) = true) := Lib.hid (by unfold kaZ; rw [a1, a2]; rfl)
   rw [HT.out]
   have A1 := Lib.hid a1
   have A2 := Lib.hid a2
   clear a1 a2 HT
   go_enter Tryz.func88, Tryz.ntmps88
   go_wp2_with fail
   refine (HAA.out kaS _ false rfl A1.out _ (Below.refl _ _)).mono ?_
   rintro e w1 ⟨rfl, hb1⟩
   have HB1 := Lib.hid hb1
   clear hb1
   go_wp2_with fail
   refine (HAA.out kas _ true rfl A2.out _ HB1.out).mono ?_
   rintro e w2 ⟨rfl, hb2⟩
   have HB2 := Lib.hid hb2
   clear hb2
   go_wp2
   go_ret
   exact ⟨rfl, HB2.out⟩
 rcases Bool.eq_false_or_eq_true (r.isB kc7) with a3 | a3
 · have HT : Hid (decide (kaZ r ≠ 0) = true) := Lib.hid (by unfold kaZ; rw [a1, a2, a3]; rfl)
   rw [HT.out]
   have A1 := Lib.hid a1
   have A2 := Lib.hid a2
   have A3 := Lib.hid a3
   clear a1 a2 a3 HT
   go_enter Tryz.func88, Tryz.ntmps88
   go_wp2_with fail
   refine (HAA.out kaS _ false rfl A1.out _ (Below.refl _ _)).mono ?_
   rintro e w1 ⟨rfl, hb1⟩
   have HB1 := Lib.hid hb1
   clear hb1
   go_wp2_with fail
   refine (HAA.out kas _ false rfl A2.out _ HB1.out).mono ?_
   rintro e w2 ⟨rfl, hb2⟩
   have HB2 := Lib.hid hb2
   clear hb2
   go_wp2_with fail
   refine (HAA.out kc7 _ true rfl A3.out _ HB2.out).mono ?_
   rintro e w3 ⟨rfl, hb3⟩
   have HB3 := Lib.hid hb3
   clear hb3
   go_wp2
   go_ret
   exact ⟨rfl, HB3.out⟩
 rcases Bool.eq_false_or_eq_true (r.isB kep) with a4 | a4
 · have HT : Hid (decide (kaZ r ≠ 0) = true) := Lib.hid (by unfold kaZ; rw [a1, a2, a3, a4]; rfl)
   rw [HT.out]
   have A1 := Lib.hid a1
   have A2 := Lib.hid a2
   have A3 := Lib.hid a3
   have A4 := Lib.hid a4
   clear a1 a2 a3 a4 HT
   go_enter Tryz.func88, Tryz.ntmps88
   go_wp2_with fail
   refine (HAA.out kaS _ false rfl A1.out _ (Below.refl _ _)).mono ?_
   rintro e w1 ⟨rfl, hb1⟩
   have HB1 := Lib.hid hb1
   clear hb1
   go_wp2_with fail
   refine (HAA.out kas _ false rfl A2.out _ HB1.out).mono ?_
   rintro e w2 ⟨rfl, hb2⟩
   have HB2 := Lib.hid hb2
   clear hb2
   go_wp2_with fail
   refine (HAA.out kc7 _ false rfl A3.out _ HB2.out).mono ?_
   rintro e w3 ⟨rfl, hb3⟩
   have HB3 := Lib.hid hb3
   clear hb3
   go_wp2_with fail
   refine (HAA.out kep _ true rfl A4.out _ HB3.out).mono ?_
   rintro e w4 ⟨rfl, hb4⟩
   have HB4 := Lib.hid hb4
   clear hb4
   go_wp2
   go_ret
   exact ⟨rfl, HB4.out⟩
 rcases Bool.eq_false_or_eq_true (r.isB kcw) with a5 | a5
 · have HT : Hid (decide (kaZ r ≠ 0) = true) := Lib.hid (by unfold kaZ; rw [a1, a2, a3, a4, a5]; rfl)
   rw [HT.out]
   have A1 := Lib.hid a1
   have A2 := Lib.hid a2
   have A3 := Lib.hid a3
   have A4 := Lib.hid a4
   have A5 := Lib.hid a5
   clear a1 a2 a3 a4 a5 HT
   go_enter Tryz.func88, Tryz.ntmps88
   go_wp2_with fail
   refine (HAA.out kaS _ false rfl A1.out _ (Below.refl _ _)).mono ?_
   rintro e w1 ⟨rfl, hb1⟩
   have HB1 := Lib.hid hb1
   clear hb1
   go_wp2_with fail
   refine (HAA.out kas _ false rfl A2.out _ HB1.out).mono ?_
   rintro e w2 ⟨rfl, hb2⟩
   have HB2 := Lib.hid hb2
   clear hb2
   go_wp2_with fail
   refine (HAA.out kc7 _ false rfl A3.out _ HB2.out).mono ?_
   rintro e w3 ⟨rfl, hb3⟩
   have HB3 := Lib.hid hb3
   clear hb3
   go_wp2_with fail
   refine (HAA.out kep _ false rfl A4.out _ HB3.out).mono ?_
   rintro e w4 ⟨rfl, hb4⟩
   have HB4 := Lib.hid hb4
   clear hb4
   go_wp2_with fail
   refine (HAA.out kcw _ true rfl A5.out _ HB4.out).mono ?_
   rintro e w5 ⟨rfl, hb5⟩
   have HB5 := Lib.hid hb5
   clear hb5
   go_wp2
   go_ret
   exact ⟨rfl, HB5.out⟩
 have HT : Hid (decide (kaZ r ≠ 0) = false) := Lib.hid (by unfold kaZ; rw [a1, a2, a3, a4, a5]; rfl)
 rw [HT.out]
 have A1 := Lib.hid a1
 have A2 := Lib.hid a2
 have A3 := Lib.hid a3
 have A4 := Lib.hid a4
 have A5 := Lib.hid a5
 clear a1 a2 a3 a4 a5 HT
 go_enter Tryz.func88, Tryz.ntmps88
 go_wp2_with fail
 refine (HAA.out kaS _ false rfl A1.out _ (Below.refl _ _)).mono ?_
 rintro e w1 ⟨rfl, hb1⟩
 have HB1 := Lib.hid hb1
 clear hb1
 go_wp2_with fail
 refine (HAA.out kas _ false rfl A2.out _ HB1.out).mono ?_
 rintro e w2 ⟨rfl, hb2⟩
 have HB2 := Lib.hid hb2
 clear hb2
 go_wp2_with fail
 refine (HAA.out kc7 _ false rfl A3.out _ HB2.out).mono ?_
 rintro e w3 ⟨rfl, hb3⟩
 have HB3 := Lib.hid hb3
 clear hb3
 go_wp2_with fail
 refine (HAA.out kep _ false rfl A4.out _ HB3.out).mono ?_
 rintro e w4 ⟨rfl, hb4⟩
 have HB4 := Lib.hid hb4
 clear hb4
 go_wp2_with fail
 refine (HAA.out kcw _ false rfl A5.out _ HB4.out).mono ?_
 rintro e w5 ⟨rfl, hb5⟩
 have HB5 := Lib.hid hb5
 clear hb5
 go_wp2
 go_ret
 exact ⟨rfl, HB5.out⟩
theorem kkv {b : Nat} {r : Rd} {w : World} {B : Bool} (hr : RdIn w b r) (h : decide (kaZ r ≠ 0) = B) : Calls Tryz.prog 88 #[.pointer (some ⟨b, 0, none⟩)] w (fun e w' => e = .returned (.bool B) /\ Below w.heap.size w w') := by
 subst h; exact kkw b r w hr
end Go.Proofs.YtlhcajhgbkgjbaaGreatDoor.Rp

/- Contracts of the document's reader of programs: what Parse tells. Conditions: a reader lies in memory. -/
namespace Go.Proofs.YtlhcajhgbkgjbaaGreatDoor.Rp
open Go.ChangeShapes Go.WideShapes Go.ChangeAt Go.RowKit
open Ex
open Tr (str ka1 ka6 Bytes Nd)
open Pg
def ParG (w : World) (x : Prg × Int × Int) (e : Ending) (w' : World) : Prop := ∃ uv, e = .returned (.tuple #[.agg #[uv, .string (str x.1.main), .string (str x.1.back)], .agg #[.int .i64 x.2.1, .int .i64 x.2.2]]) /\ RowR 54 8 UntV w' x.1.units uv /\ Below w.heap.size w w'
theorem kdD (w : World) (o o' : Obj) : Below w.heap.size w ((w.alloc o).alloc o') /\ ((w.alloc o).alloc o').heap[w.heap.size]? = some o /\ ((w.alloc o).alloc o').heap[w.heap.size + 1]? = some o' :=
 ⟨((Below.refl _ _).alloc (Nat.le_refl _) _).alloc (by simp) _, by rw [Below.heap_alloc _ _ _ (by simp)]; exact heap_alloc_new w o, kbo (by simp)⟩
theorem kqI {W : World} {X Y : Nat} {T U : TypeId} {u0 u1 u2 t0 t1 : Value} (hX : W.heap[X]? = some (.cells #[u0, u1, u2] T (0, 0))) (hY : W.heap[Y]? = some (.cells #[t0, t1] U (0, 0))) (hne : X ≠ Y) (v0 v1 v2 y0 y1 : Value) :
 (((((W.setCell ⟨X, 0, none⟩ v0).setCell ⟨X, 1, none⟩ v1).setCell ⟨X, 2, none⟩ v2).setCell ⟨Y, 0, none⟩ y0).setCell ⟨Y, 1, none⟩ y1).heap[X]? = some (.cells #[v0, v1, v2] T (0, 0)) /\
 (((((W.setCell ⟨X, 0, none⟩ v0).setCell ⟨X, 1, none⟩ v1).setCell ⟨X, 2, none⟩ v2).setCell ⟨Y, 0, none⟩ y0).setCell ⟨Y, 1, none⟩ y1).heap[Y]? = some (.cells #[y0, y1] U (0, 0)) :=
 ⟨ka7 (ka7 (blk3 hX v0 v1 v2) hne) hne, blk2 (ka7 (ka7 (ka7 hY hne.symm) hne.symm) hne.symm) y0 y1⟩
theorem koK {w w' : World} {v : Value} {l : List Tok} {b : Nat} (h : Lx.Toks w v l) (hb : Below w.heap.size w w') (hwb : w.heap.size <= b) : TokOff w' b v l := by
 exact kj7 ((kdW h).keep hb.size (fun g _ hg => hb.block g hg)) hwb
theorem kog {w wq w' : World} {b : Nat} {r : Rd} (h : Below w.heap.size w wq) (hb : w.heap.size <= b) (k : RdBy wq w' b r) : Below w.heap.size w w' :=
 ⟨k.grown.os.trans h.os, k.grown.tape.trans h.tape, k.grown.output.trans h.output, Nat.le_trans h.size k.grown.size, fun i hi => (k.grown.block i (Nat.lt_of_lt_of_le hi h.size) (fun e => by injection e; omega)).trans (h.block i hi)⟩
theorem kq5 {W : World} {X Y : Nat} {u0 u1 u2 t0 t1 : Value} (hX : W.heap[X]? = some (.cells #[u0, u1, u2] 28 (0, 0))) (hY : W.heap[Y]? = some (.cells #[t0, t1] 35 (0, 0))) (v0 v1 v2 y0 y1 : Value) :
 Stay (fun t => t = 28 ∨ t = 35) W (((((W.setCell ⟨X, 0, none⟩ v0).setCell ⟨X, 1, none⟩ v1).setCell ⟨X, 2, none⟩ v2).setCell ⟨Y, 0, none⟩ y0).setCell ⟨Y, 1, none⟩ y1) := by
 refine ⟨by simp [World.setCell], fun g cs T f hg hp => ?_⟩
 have h1 : g ≠ X := by
  rintro rfl
  rw [hX] at hg
  simp only [Option.some.injEq, Obj.cells.injEq] at hg
  exact hp (.inl hg.2.1.symm)
 have h2 : g ≠ Y := by
  rintro rfl
  rw [hY] at hg
  simp only [Option.some.injEq, Obj.cells.injEq] at hg
  exact hp (.inr hg.2.1.symm)
 simp only [kbO h1, kbO h2]
theorem kpC {w W : World} {X Y : Nat} (h : Below w.heap.size w W) (hX : w.heap.size <= X) (hY : w.heap.size <= Y) (v0 v1 v2 y0 y1 : Value) :
 Below w.heap.size w (((((W.setCell ⟨X, 0, none⟩ v0).setCell ⟨X, 1, none⟩ v1).setCell ⟨X, 2, none⟩ v2).setCell ⟨Y, 0, none⟩ y0).setCell ⟨Y, 1, none⟩ y1) :=
 ((((h.setCell hX _).setCell hX _).setCell hX _).setCell hY _).setCell hY _
theorem kf1 (k : Nat) : ∀ acc, kbN (itF k acc) := by
 induction k with
 | zero => intro acc; exact kam _
 | succ k ih => intro acc r h; show (((if kaZ r ≠ 0 then _ else _) : List Itm × Rd)).2.code ≠ 0; split; exact (kfL _).bind (fun _ => ker.bind fun x => ih _) r h; exact h
theorem kkN (k : Nat) : ∀ acc, kbN (eqF k acc) := by
 induction k with
 | zero => intro acc; exact kam _
 | succ k ih => intro acc r h; show (((if kaP r then _ else _) : List Eqn × Rd)).2.code ≠ 0; split; exact (kfL _).bind (fun _ => kkO.bind fun x => ih _) r h; exact h
theorem kjI : ∀ (k : Nat) (acc : List Prm), kbN (varF k acc)
 | 0, acc => kam []
 | k + 1, acc => fun r hr => by rw [kgQ hr]; exact hr
theorem kfz : kbN keg := kbR.bind fun _ => (kf2 kbQ).bind fun _ => ((kf1 _ _).bind fun _ => (kag _).bind fun _ => kam _).bind fun _ => kam _
theorem kjK : kbN knA := (kag _).bind fun _ => kbR.bind fun _ => (kf2 kbQ).bind fun _ => (kag _).bind fun _ => (kag _).bind fun _ => kbQ.bind fun _ => (kag _).bind fun _ => (kbv _).bind fun c => (kcb ((kf1 _ _).bind fun _ => (kag _).bind fun _ => kam _) (kam _)).bind fun _ => (kbv _).bind fun v => (kcb (kjI _ _) (kam _)).bind fun _ => (kag _).bind fun _ => ((kkN _ _).bind fun _ => (kag _).bind fun _ => kam _).bind fun _ => kam _
theorem kjJ : kbN kgT := (kbv _).bind fun c => kcb kfz kjK
theorem khm {w w' : World} {row : Option Nat} (h : w.drew.grownBy w' row) : w.grownBy w' row := ⟨h.os, h.tape, h.output, h.size, h.block⟩
theorem RdBy.undrew {w w' : World} {b : Nat} {r : Rd} (h : RdBy w.drew w' b r) : RdBy w w' b r := ⟨h.rd, khm h.grown⟩
theorem kfP {w : World} {B : Nat} {T : TypeId} {K : Nat} {v : Value} {n : Nat} {xs : List Value} (h : w.ownsRow (B + 1) T K v n xs) : v.ownBlock ≠ some B := fun e => by have := (h.lt _ e).1; omega
end Go.Proofs.YtlhcajhgbkgjbaaGreatDoor.Rp

