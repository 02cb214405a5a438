/- An operation that goes in; a function's number in a store, and in one that grows. Conditions: none. -/
import Derived.Test.YtfohjlepknnleaaBdUj
import Derived.Test.YtfohjlepknnleaaBdNf
import Derived.Test.YtfohjlepknnleaaBdNc
import Derived.Test.YtfohjlepknnleaaBdRd
import Derived.Test.YtfohjlepknnleaaBdC
import Derived.Test.YtfohjlepknnleaaBdL
import Derived.Test.YtfohjlepknnleaaBdOc
namespace Go.Proofs.Ytfohjlepknnleaa.Bd
open Go.ChangeShapes Go.WideShapes Go.ChangeAt Go.RowKit
set_option linter.unusedVariables false
set_option linter.unusedSimpArgs false

/-- A number, and what function it is. -/
def FnAt (S : List Nd) (x : Nat) (v : (Nat → Bool) → Bool) : Prop := x < S.length ∧ ∀ r, den S x r = v r
theorem FnAt.app {vars : Nat} {S : List Nd} {x : Nat} {v : (Nat → Bool) → Bool} (h : FnAt S x v) (G : Good vars S) (m : List Nd) : FnAt (S ++ m) x v :=
  ⟨by rw [List.length_append]; have := h.1; omega, fun r => by rw [den_app G r h.1]; exact h.2 r⟩
theorem FnAt.one {vars : Nat} {S : List Nd} {x y : Nat} {v u : (Nat → Bool) → Bool} (G : Good vars S) (h : FnAt S x v) (k : FnAt S y u) (e : ∀ r, v r = u r) : x = y :=
  canon G h.1 k.1 (fun r => by rw [h.2, k.2, e])
theorem FnAt.ne {S : List Nd} {x y : Nat} {v u : (Nat → Bool) → Bool} (h : FnAt S x v) (k : FnAt S y u) (r : Nat → Bool) (e : v r ≠ u r) : x ≠ y := fun he => by
  subst he; exact e (by rw [← h.2 r, k.2 r])
theorem fn_no {vars : Nat} {S : List Nd} (G : Good vars S) : FnAt S 0 (fun _ => false) := ⟨by have := G.two; omega, fun r => den_zero S r⟩
theorem fn_yes {vars : Nat} {S : List Nd} (G : Good vars S) : FnAt S 1 (fun _ => true) := ⟨by have := G.two; omega, fun r => den_one S r⟩
theorem StAt.good {B : Nat} {w : World} {b vars budget : Nat} {S : List Nd} (h : StAt B w b vars budget S) : Good vars S := by obtain ⟨nv, pb, h⟩ := h; exact h.good
/-- What an operation does that goes in. -/
def OkPost (B : Nat) (w : World) (b vars budget : Nat) (S : List Nd) (K : Nat) (val : (Nat → Bool) → Bool) (e : Ending) (w' : World) : Prop :=
  ∃ (m : List Nd) (y : Nat), e = .returned (.tuple #[.int .i64 (y : Int), .int .i64 0]) ∧ StAt B w' b vars budget (S ++ m) ∧ (S ++ m).length ≤ S.length + K ∧ FnAt (S ++ m) y val ∧ Below B w w' ∧ Keeps w w'
theorem OpPost.ok {B : Nat} {w w' : World} {b vars budget K : Nat} {S : List Nd} {val : (Nat → Bool) → Bool} {e : Ending} (h : OpPost B w b vars budget S K val e w') (hb : S.length + K < budget) : OkPost B w b vars budget S K val e w' := by
  obtain ⟨h1, h2, ⟨_, h3, _⟩ | ⟨N, y, rfl, hs, ⟨m, rfl⟩, hl, hy, hv⟩⟩ := h
  · omega
  · exact ⟨m, y, rfl, hs, hl, ⟨hy, hv⟩, h1, h2⟩
theorem RowB.keeps {w w' : World} {g : Nat} {l : List Bool} (h : RowB w g l) (hk : Keeps w w') : RowB w' g l := hk g _ _ h (by decide) (by decide)
theorem StoreAt.at {B : Nat} {w : World} {b vars budget : Nat} {ns : List Nd} (h : StoreAt B w b vars budget ns) (hv : vars ≤ 30) (hb : budget ≤ 10000) (hl : ns.length ≤ budget) : StAt B w b vars budget ns := by
  obtain ⟨nv, pb, f, h1, h2, h3, h4, h5, h6, h7⟩ := h
  exact ⟨nv, pb, h1, h2, ⟨f, h3, h4⟩, h5, h6, h7, hv, hb, hl⟩
theorem ints_two (w : World) (x y : Int) (w1 : World) (h : w.alloc (.cells #[.int .i64 x, .int .i64 y] 3) = w1) : IntsAt w1 (.slice (some ⟨w.heap.size, 0, none⟩) 2 2) [x, y] := by
  subst h
  have hn := heap_alloc_new w (.cells #[.int .i64 x, .int .i64 y] 3)
  refine ⟨_, _, rfl, fun i z hi => ⟨w.heap.size, 0, rfl, ?_⟩⟩
  match i, hi with
  | 0, hi => cases hi; unfold World.cell?; rw [hn]; rfl
  | 1, hi => cases hi; unfold World.cell?; rw [hn]; rfl
  | i + 2, hi => simp at hi
theorem bools_two (w : World) (x y : Bool) (w1 : World) (h : w.alloc (.cells #[.bool x, .bool y] 4) = w1) : BoolsAt w1 (.slice (some ⟨w.heap.size, 0, none⟩) 2 2) [x, y] := by
  subst h
  have hn := heap_alloc_new w (.cells #[.bool x, .bool y] 4)
  refine ⟨_, _, rfl, fun i z hi => ⟨w.heap.size, 0, rfl, ?_⟩⟩
  match i, hi with
  | 0, hi => cases hi; unfold World.cell?; rw [hn]; rfl
  | 1, hi => cases hi; unfold World.cell?; rw [hn]; rfl
  | i + 2, hi => simp at hi
/-- What live's function is: its first values, and how often it is true. -/
theorem wit_live {S : List Nd} {x : Nat} (G : Good 2 S) (h : FnAt S x (fun r => !r 0 && r 1)) : x ≠ 0 ∧ (List.range 2).map (witF S x x) = [false, true] ∧ cntD 2 S x = 1 := by
  have h1 := wit_doc (vars := 2) (k := 1) G h.1 (by decide) (by rw [h.2]; decide) (fun j hj => by
    obtain rfl : j = 0 := (by omega)
    rw [h.2]; decide)
  refine ⟨h1.1, ?_, ?_⟩
  · have := h1.2
    unfold witL at this
    rw [this]; decide
  · rw [← cntD_tab]
    have e : tabD 2 (den S x) = tabD 2 (fun r => !r 0 && r 1) := by
      unfold tabD
      exact List.map_congr_left (fun k _ => h.2 _)
    rw [e]; decide
end Go.Proofs.Ytfohjlepknnleaa.Bd
