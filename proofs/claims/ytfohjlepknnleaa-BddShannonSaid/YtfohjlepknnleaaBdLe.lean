/- What lies in memory at a law's call, once its functions are picked. Conditions: none. -/
import Derived.Test.YtfohjlepknnleaaBdLd
namespace Go.Proofs.Ytfohjlepknnleaa.Bd
open Go.ChangeShapes Go.WideShapes Go.ChangeAt Go.RowKit
set_option linter.unusedVariables false
set_option linter.unusedSimpArgs false

/-- The call itself in block E; a function's number and table in a block. -/
def OpBox (w : World) (E : Nat) (a0 a1 a2 a3 a4 : Int) (cb : Bool) : Prop := w.heap[E]? = some (.cells #[.int .i64 a0, .int .i64 a1, .int .i64 a2, .int .i64 a3, .int .i64 a4, .bool cb] 37 (0, 0))
def MdBox (w : World) (g vars x t : Nat) : Prop := w.heap[g]? = some (.cells #[.int .i64 (x : Int), .slice (some ⟨t, 0, none⟩) (2 ^ vars) (2 ^ vars)] 32 (0, 0))
theorem OpBox.keeps {w w' : World} {E : Nat} {a0 a1 a2 a3 a4 : Int} {cb : Bool} (h : OpBox w E a0 a1 a2 a3 a4 cb) (hk : Keeps w w') : OpBox w' E a0 a1 a2 a3 a4 cb := hk _ _ _ h (by decide) (by decide)
theorem MdBox.keeps {w w' : World} {g vars x t : Nat} (h : MdBox w g vars x t) (hk : Keeps w w') : MdBox w' g vars x t := hk _ _ _ h (by decide) (by decide)
theorem OpBox.ats {w : World} {E : Nat} {a0 a1 a2 a3 a4 : Int} {cb : Bool} (h : OpBox w E a0 a1 a2 a3 a4 cb) :
    w.cell? ⟨E, 0, none⟩ = some (.int .i64 a0) ∧ w.cell? ⟨E, 1, none⟩ = some (.int .i64 a1) ∧ w.cell? ⟨E, 2, none⟩ = some (.int .i64 a2) ∧ w.cell? ⟨E, 3, none⟩ = some (.int .i64 a3) ∧ w.cell? ⟨E, 4, none⟩ = some (.int .i64 a4) ∧ w.cell? ⟨E, 5, none⟩ = some (.bool cb) := by
  unfold OpBox at h
  refine ⟨?_, ?_, ?_, ?_, ?_, ?_⟩ <;> (unfold World.cell?; rw [h]; rfl)
theorem MdBox.ats {w : World} {g vars x t : Nat} (h : MdBox w g vars x t) : w.cell? ⟨g, 0, none⟩ = some (.int .i64 (x : Int)) ∧ w.cell? ⟨g, 1, none⟩ = some (.slice (some ⟨t, 0, none⟩) (2 ^ vars) (2 ^ vars)) := by
  unfold MdBox at h
  constructor <;> (unfold World.cell?; rw [h]; rfl)
/-- All of it. -/
structure Cx (w : World) (vars : Nat) (S : List Nd) (E fb gb hb : Nat) (a0 a1 a2 a3 a4 : Int) (cb : Bool) (fx ft gx gt hx ht no yes : Nat) : Prop where
  op : OpBox w E a0 a1 a2 a3 a4 cb
  f : MdBox w fb vars fx ft
  g : MdBox w gb vars gx gt
  h : MdBox w hb vars hx ht
  lf : fx < S.length
  lg : gx < S.length
  lh : hx < S.length
  tf : RowB w ft (tabD vars (den S fx))
  tg : RowB w gt (tabD vars (den S gx))
  th : RowB w ht (tabD vars (den S hx))
  tn : RowB w no (tabD vars (fun _ => false))
  ty : RowB w yes (tabD vars (fun _ => true))
theorem Cx.keeps {w w' : World} {vars : Nat} {S : List Nd} {E fb gb hb : Nat} {a0 a1 a2 a3 a4 : Int} {cb : Bool} {fx ft gx gt hx ht no yes : Nat} (h : Cx w vars S E fb gb hb a0 a1 a2 a3 a4 cb fx ft gx gt hx ht no yes) (hk : Keeps w w') : Cx w' vars S E fb gb hb a0 a1 a2 a3 a4 cb fx ft gx gt hx ht no yes :=
  ⟨h.op.keeps hk, h.f.keeps hk, h.g.keeps hk, h.h.keeps hk, h.lf, h.lg, h.lh, h.tf.keeps hk, h.tg.keeps hk, h.th.keeps hk, h.tn.keeps hk, h.ty.keeps hk⟩
/-- A table of the document's, as a value. -/
theorem tab_bools {w : World} {t vars : Nat} {P : (Nat → Bool) → Bool} (h : RowB w t (tabD vars P)) : BoolsAt w (.slice (some ⟨t, 0, none⟩) (2 ^ vars) (2 ^ vars)) (tabD vars P) := h.bools (tab_len vars P)
theorem rite_tab (w : World) (vars t1 t2 t3 : Nat) (P Q R : (Nat → Bool) → Bool) (hv : vars ≤ 20) (h1 : RowB w t1 (tabD vars P)) (h2 : RowB w t2 (tabD vars Q)) (h3 : RowB w t3 (tabD vars R)) :
    Calls Try.prog 27 #[.slice (some ⟨t1, 0, none⟩) (2 ^ vars) (2 ^ vars), .slice (some ⟨t2, 0, none⟩) (2 ^ vars) (2 ^ vars), .slice (some ⟨t3, 0, none⟩) (2 ^ vars) (2 ^ vars)] w (fun e w' => ∃ t, e = .returned (.slice (some ⟨t, 0, none⟩) (2 ^ vars) (2 ^ vars)) ∧ RowB w' t (tabD vars (fun r => if P r then Q r else R r)) ∧ Below w.heap.size w w') :=
  (rite_any w _ _ _ (tabD vars P) (tabD vars Q) (tabD vars R) (2 ^ vars) (show 2 ^ vars ≤ 2 ^ 20 from Nat.pow_le_pow_right (by omega) hv) (tab_bools h1) (tab_bools h2) (tab_bools h3) (tab_len _ _) (tab_len _ _) (tab_len _ _)).mono (by
    rintro e w' ⟨rfl, hr, hb⟩
    rw [tab_iteL] at hr
    refine ⟨w.heap.size, ?_, hr, hb⟩
    rw [tab_iteL, tab_len])
theorem rvar_tab (w : World) (vars j : Nat) (hv : vars ≤ 20) (hj : j < vars) :
    Calls Try.prog 26 #[.int .i64 (vars : Int), .int .i64 (j : Int)] w (fun e w' => ∃ t, e = .returned (.slice (some ⟨t, 0, none⟩) (2 ^ vars) (2 ^ vars)) ∧ RowB w' t (tabD vars (fun r => r j)) ∧ Below w.heap.size w w') :=
  (rvar_any w vars j hv hj).mono (by
    rintro e w' ⟨rfl, hr, hb⟩
    refine ⟨w.heap.size, ?_, hr, hb⟩
    rw [tab_len])
theorem rconst_tab (w : World) (vars : Nat) (c : Bool) (hv : vars ≤ 20) :
    Calls Try.prog 10 #[.int .i64 (vars : Int), .bool c] w (fun e w' => ∃ t, e = .returned (.slice (some ⟨t, 0, none⟩) (2 ^ vars) (2 ^ vars)) ∧ RowB w' t (tabD vars (fun _ => c)) ∧ Below w.heap.size w w') :=
  (rconst_any w vars c hv).mono (by
    rintro e w' ⟨rfl, hr, hb⟩
    refine ⟨w.heap.size, ?_, hr, hb⟩
    rw [tab_len])
theorem rres_tab (w : World) (vars t j : Nat) (c : Bool) (P : (Nat → Bool) → Bool) (hv : vars ≤ 20) (hj : j < vars) (h : RowB w t (tabD vars P)) :
    Calls Try.prog 28 #[.slice (some ⟨t, 0, none⟩) (2 ^ vars) (2 ^ vars), .int .i64 (vars : Int), .int .i64 (j : Int), .bool c] w (fun e w' => ∃ t, e = .returned (.slice (some ⟨t, 0, none⟩) (2 ^ vars) (2 ^ vars)) ∧ RowB w' t (tabD vars (fun r => P (upd r j c))) ∧ Below w.heap.size w w') :=
  (rrestrict_any w _ (tabD vars P) (2 ^ vars) vars j c hv hj rfl (tab_bools h) (tab_len _ _)).mono (by
    rintro e w' ⟨rfl, hr, hb⟩
    rw [tab_setL c P hj] at hr
    refine ⟨w.heap.size, ?_, hr, hb⟩
    rw [tab_setL c P hj, tab_len])
end Go.Proofs.Ytfohjlepknnleaa.Bd
