/- A function more in a law's list; a store beside a row that grows. Conditions: none. -/
import Derived.Test.YtfohjlepknnleaaBdLf
import Derived.Test.YtfohjlepknnleaaBdOq
import Derived.Deep.OwnRows
namespace Go.Proofs.Ytfohjlepknnleaa.Bd
open Go.ChangeShapes Go.WideShapes Go.ChangeAt Go.RowKit
set_option linter.unusedVariables false
set_option linter.unusedSimpArgs false

theorem infoMd : (Try.prog.info? 32).map (fun i => (i.zero, i.size, i.bytes)) = some (some (.agg #[.int .i64 0, .slice none 0 0]), 2, 32) := by kernel_rfl
theorem StAt.grown {B : Nat} {w w' : World} {b vars budget : Nat} {S : List Nd} (h : StAt B w b vars budget S) {row : Option Nat} (hg : w.grownBy w' row) (hr : ∀ g, row = some g → ∃ cs, w.heap[g]? = some (.cells cs 32 (0, 0))) : StAt B w' b vars budget S := by
  obtain ⟨nv, pb, h⟩ := h
  obtain ⟨f, k1, k2⟩ := h.map
  have K : ∀ k, k < w.heap.size → (∀ cs, w.heap[k]? ≠ some (.cells cs 32 (0, 0))) → w'.heap[k]? = w.heap[k]? := fun k hk hn => hg.block k hk (fun e => by
    obtain ⟨cs, hc⟩ := hr k e.symm
    exact hn cs hc)
  refine ⟨nv, pb, ⟨(K b h.box.lt (fun cs e => ?_)).trans h.box.cell⟩, own_keep h.row (fun g hgo => ?_), ⟨f, k1.keep (K pb k1.lt (fun cs e => map_ne k1 e rfl)), k2⟩, h.good, h.hb, h.hp, h.hv, h.hbud, h.hlen⟩
  · rw [h.box.cell] at e
    injection e with e
    injection e with _ e _
    exact absurd e (by decide)
  · obtain ⟨cs, h2⟩ := own_type h.row hgo
    refine K g (block_lt h2) (fun cs' e => ?_)
    rw [h2] at e
    injection e with e
    injection e with _ e _
    exact absurd e (by decide)
theorem mdC_snoc (vars : Nat) (l : List (Nat × Nat)) (p : Nat × Nat) : mdC vars (l ++ [p]) = mdC vars l ++ mdV vars p := by unfold mdC; simp
theorem Mds.snoc {B : Nat} {w w' : World} {v v' : Value} {vars : Nat} {S : List Nd} {l : List (Nat × Nat)} {z t : Nat} {row : Option Nat} (h : Mds B w v vars S l) (hrow : w'.ownsRow B 32 2 v' (l.length + 1) (mdC vars l ++ mdV vars (z, t))) (hg : w.grownBy w' row) (hr : ∀ g, row = some g → ∃ cs, w.heap[g]? = some (.cells cs 32 (0, 0)))
    (hz : z < S.length) (ht : RowB w t (tabD vars (den S z))) : Mds B w' v' vars S (l ++ [(z, t)]) := by
  have K : ∀ {t : Nat} {T : List Bool}, RowB w t T → RowB w' t T := fun {t T} hrb => by
    unfold RowB at hrb ⊢
    rw [hg.block t (block_lt hrb) (fun e => by
      obtain ⟨cs, hc⟩ := hr t e.symm
      rw [hrb] at hc
      injection hc with hc
      injection hc with _ hc _
      exact absurd hc (by decide))]
    exact hrb
  refine ⟨by rw [List.length_append, mdC_snoc]; exact hrow, fun i x t' hi => ?_⟩
  by_cases hil : i < l.length
  · rw [List.getElem?_append_left hil] at hi
    obtain ⟨h1, h2⟩ := h.each i x t' hi
    exact ⟨h1, K h2⟩
  · rw [List.getElem?_append_right (by omega)] at hi
    have : i - l.length = 0 := by
      have := (List.getElem?_eq_some_iff.1 hi).1
      simp at this; omega
    rw [this] at hi
    simp at hi
    obtain ⟨rfl, rfl⟩ := hi
    exact ⟨hz, K ht⟩
theorem mds_two {B : Nat} {w w' : World} {vars t0 t1 : Nat} {S : List Nd} (G : Good vars S) (h0 : RowB w t0 (tabD vars (fun _ => false))) (h1 : RowB w t1 (tabD vars (fun _ => true))) (hB : B ≤ w.heap.size)
    (hw : w.alloc (.cells #[.int .i64 0, .slice (some ⟨t0, 0, none⟩) (2 ^ vars) (2 ^ vars), .int .i64 1, .slice (some ⟨t1, 0, none⟩) (2 ^ vars) (2 ^ vars)] 32) = w') :
    Mds B w' (.slice (some ⟨w.heap.size, 0, none⟩) 2 2) vars S [(0, t0), (1, t1)] := by
  subst hw
  have hb := below_new w (.cells #[.int .i64 0, .slice (some ⟨t0, 0, none⟩) (2 ^ vars) (2 ^ vars), .int .i64 1, .slice (some ⟨t1, 0, none⟩) (2 ^ vars) (2 ^ vars)] 32)
  have e0 : tabD vars (den S 0) = tabD vars (fun _ => false) := by unfold tabD; exact List.map_congr_left (fun k _ => den_zero S _)
  have e1 : tabD vars (den S 1) = tabD vars (fun _ => true) := by unfold tabD; exact List.map_congr_left (fun k _ => den_one S _)
  have G2 := G.two
  refine ⟨World.ownsRow_lit (base := B) (e := 32) (size := 2) w #[.int .i64 0, .slice (some ⟨t0, 0, none⟩) (2 ^ vars) (2 ^ vars), .int .i64 1, .slice (some ⟨t1, 0, none⟩) (2 ^ vars) (2 ^ vars)] 2 hB (by unfold maxLen; omega) (by simp), fun i x t hi => ?_⟩
  match i, hi with
  | 0, hi => cases hi; exact ⟨by omega, by rw [e0]; exact h0.keeps (Keeps.of hb)⟩
  | 1, hi => cases hi; exact ⟨by omega, by rw [e1]; exact h1.keeps (Keeps.of hb)⟩
  | i + 2, hi => simp at hi
theorem new_law (w : World) (vars : Nat) (hv : vars ≤ 5) : Calls Try.prog 9 #[.int .i64 (vars : Int), .int .i64 10000] w (fun e w' => ∃ b, e = .returned (.tuple #[.pointer (some ⟨b, 0, none⟩), .int .i64 0]) ∧ StAt w.heap.size w' b vars 10000 [(vars, 0, 0), (vars, 1, 1)] ∧ Below w.heap.size w w') :=
  (new_ok w vars 10000 ⟨by omega, by omega, by omega⟩).mono (by
    rintro e w' ⟨h1, b, rfl, h2⟩
    exact ⟨b, rfl, h2.at (by omega) (by omega) (by simp), h1⟩)
end Go.Proofs.Ytfohjlepknnleaa.Bd
