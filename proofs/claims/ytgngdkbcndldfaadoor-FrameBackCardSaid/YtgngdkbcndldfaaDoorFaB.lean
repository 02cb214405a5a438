/- Rows of numbers and of strings in memory; whether a number fits. Conditions: none. -/
import Derived.Test.YtgngdkbcndldfaaDoorFaA
namespace Go.Proofs.YtgngdkbcndldfaaDoor.Fr
open Go.ChangeShapes Go.WideShapes Go.ChangeAt Go.RowKit Go.Proofs.YtgngdkbcndldfaaDoor.Tr
set_option linter.unusedVariables false
set_option linter.unusedSimpArgs false

theorem ints_form {w : World} {v : Value} {l : List Int} (h : Ints w v l) : ∃ A c, v = .slice A l.length c ∧ l.length ≤ c ∧ c ≤ maxLen := by obtain ⟨A, c, e, h1, h2, -⟩ := h; exact ⟨A, c, e, h1, h2⟩
theorem ints_at {w : World} {A : Option Addr} {n c i : Nat} {l : List Int} {x : Int} (h : Ints w (.slice A n c) l) (hi : l[i]? = some x) : ∃ g o, A = some ⟨g, o, none⟩ ∧ g < w.heap.size ∧ w.cell? ⟨g, o + i, none⟩ = some (.int .i64 x) := by
  obtain ⟨A', c', e, -, -, h3⟩ := h
  simp only [Value.slice.injEq] at e
  obtain ⟨rfl, -, -⟩ := e
  exact h3 i x hi

theorem wrapped (n : Int) : (n == wrap64 (wrap32 n)) = fitsM n := by
  rw [Bool.eq_iff_iff]; unfold fitsM; simp only [beq_iff_eq, decide_eq_true_eq]; unfold wrap64 wrap32; omega
theorem fits_any (n : Int) (w : World) : Calls Tryd.prog 45 #[.int .i64 n] w fun e w' => e = .returned (.bool (fitsM n)) ∧ w' = w := by
  go_enter Tryd.func45, Tryd.ntmps45
  go_wp2
  go_ret
  exact ⟨ret_bool (wrapped n), rfl⟩
theorem Fits_any (n : Int) (w : World) : Calls Tryd.prog 36 #[.int .i64 n] w fun e w' => e = .returned (.bool (fitsM n)) ∧ w' = w := by
  go_enter Tryd.func36, Tryd.ntmps36
  go_wp2_with (go_at_call 45; refine (fits_any _ _).mono ?_; rintro e w' ⟨rfl, rfl⟩)
  go_ret
  exact ⟨rfl, rfl⟩
theorem dfits_any (n : Int) (w : World) : Calls Tryd.prog 40 #[.int .i64 n] w fun e w' => e = .returned (.bool (fitsM n)) ∧ w' = w := by
  by_cases h1 : -2147483648 ≤ n
  · by_cases h2 : n ≤ 2147483647
    · have e : fitsM n = true := by unfold fitsM; simp; omega
      rw [e]
      go_enter Tryd.func40, Tryd.ntmps40
      go_wp2
      go_ret
      exact ⟨rfl, rfl⟩
    · have e : fitsM n = false := by unfold fitsM; simp; omega
      rw [e]
      go_enter Tryd.func40, Tryd.ntmps40
      go_wp2
      go_ret
      exact ⟨rfl, rfl⟩
  · have e : fitsM n = false := by unfold fitsM; simp; omega
    rw [e]
    go_enter Tryd.func40, Tryd.ntmps40
    go_wp2
    go_ret
    exact ⟨rfl, rfl⟩
/-- A slice value reads as rows of numbers. -/
def RowsR (w : World) (v : Value) (l : List (List Int)) : Prop :=
  ∃ A c, v = .slice A l.length c ∧ l.length ≤ c ∧ c ≤ maxLen ∧ ∀ i r, l[i]? = some r → ∃ g o u, A = some ⟨g, o, none⟩ ∧ g < w.heap.size ∧ w.cell? ⟨g, o + i, none⟩ = some u ∧ Ints w u r
theorem RowsR.form {w : World} {v : Value} {l : List (List Int)} (h : RowsR w v l) : ∃ A c, v = .slice A l.length c ∧ l.length ≤ c ∧ c ≤ maxLen := by obtain ⟨A, c, e, h1, h2, -⟩ := h; exact ⟨A, c, e, h1, h2⟩
theorem RowsR.below {w w' : World} {B : Nat} {v : Value} {l : List (List Int)} (h : RowsR w v l) (hb : Below B w w') (hB : w.heap.size ≤ B) : RowsR w' v l := by
  obtain ⟨A, c, rfl, h1, h2, h3⟩ := h
  refine ⟨A, c, rfl, h1, h2, fun i r hi => ?_⟩
  obtain ⟨g, o, u, hg, hlt, hc, hI⟩ := h3 i r hi
  exact ⟨g, o, u, hg, by have := hb.size; omega, (hb.cell (by show g < B; omega)).trans hc, hI.below hb hB⟩
theorem RowsR.at {w : World} {A : Option Addr} {n c i : Nat} {l : List (List Int)} {r : List Int} (h : RowsR w (.slice A n c) l) (hi : l[i]? = some r) : ∃ g o B d, A = some ⟨g, o, none⟩ ∧ g < w.heap.size ∧ w.cell? ⟨g, o + i, none⟩ = some (.slice B r.length d) ∧ r.length ≤ d ∧ d ≤ maxLen ∧ Ints w (.slice B r.length d) r := by
  obtain ⟨A', c', e, -, -, h3⟩ := h
  simp only [Value.slice.injEq] at e
  obtain ⟨rfl, -, -⟩ := e
  obtain ⟨g, o, u, hg, hlt, hc, hI⟩ := h3 i r hi
  obtain ⟨B, d, rfl, e1, e2⟩ := ints_form hI
  exact ⟨g, o, B, d, hg, hlt, hc, e1, e2, hI⟩
theorem rows_nil (w : World) : RowsR w (.slice none 0 0) [] := ⟨none, 0, rfl, Nat.le_refl _, by unfold maxLen; omega, fun i r h => by simp at h⟩
/-- A row of rows that one has made oneself. -/
def OutR (w : World) (b : Nat) (v : Value) (l : List (List Int)) : Prop :=
  ∃ vs : List Value, w.ownsRow b 22 1 v l.length vs ∧ vs.length = l.length ∧ ∀ (i : Nat) (r : List Int) (u : Value), l[i]? = some r → vs[i]? = some u → Ints w u r
theorem OutR.nil (w : World) (b : Nat) : OutR w b (.slice none 0 0) [] := ⟨[], World.ownsRow_nil _ _ _ _, rfl, fun i r u h => by simp at h⟩
theorem OutR.below {w w' : World} {b : Nat} {v : Value} {l : List (List Int)} (h : OutR w b v l) (hb : Below w.heap.size w w') : OutR w' b v l := by
  obtain ⟨vs, h1, h2, h3⟩ := h
  exact ⟨vs, own_below h1 hb, h2, fun i r u hi hu => (h3 i r u hi hu).below hb (Nat.le_refl _)⟩
theorem OutR.rows {w : World} {b : Nat} {v : Value} {l : List (List Int)} (h : OutR w b v l) : RowsR w v l := by
  obtain ⟨vs, h1, h2, h3⟩ := h
  obtain ⟨hl, h0 | ⟨g, cap, cur, rfl, hb, hh, hnc, hcm, hcs, hct⟩⟩ := h1
  · obtain ⟨rfl, h0⟩ := h0
    have : l = [] := List.length_eq_zero_iff.1 h0
    subst this
    exact rows_nil w
  · have h : w.ownsRow b 22 1 (.slice (some ⟨g, 0, none⟩) l.length cap) l.length vs := ⟨hl, .inr ⟨g, cap, cur, rfl, hb, hh, hnc, hcm, hcs, hct⟩⟩
    refine ⟨some ⟨g, 0, none⟩, cap, rfl, hnc, hcm, fun i r hi => ?_⟩
    have hil : i < l.length := (List.getElem?_eq_some_iff.1 hi).1
    obtain ⟨u, hu⟩ : ∃ u, vs[i]? = some u := ⟨_, List.getElem?_eq_getElem (by omega)⟩
    exact ⟨g, 0, u, rfl, lt_of_block hh, by rw [Nat.zero_add, h.cellAt _ (by omega)]; exact hu, h3 i r u hi hu⟩
theorem own_two {w : World} {b b' n n' : Nat} {T T' : TypeId} {v v' : Value} {xs ys : List Value} {s s' : Nat} (h : w.ownsRow b T s v n xs) (h' : w.ownsRow b' T' s' v' n' ys) (hT : T ≠ T') {k : Nat} (hk : v.ownBlock = some k) : v'.ownBlock ≠ some k := fun e => by
  obtain ⟨cs, hc⟩ := Tr.own_cells h hk
  obtain ⟨cs', hc'⟩ := Tr.own_cells h' e
  rw [hc] at hc'
  simp at hc'
  exact hT hc'.2
theorem infoS : (Tryd.prog.info? 22).map (fun i => (i.zero, i.size, i.bytes)) = some (some (.slice none 0 0), 1, 24) := by kernel_rfl
theorem drop_at {α : Type} {l : List α} {i : Nat} {x : α} (h : l[i]? = some x) : l.drop i = x :: l.drop (i + 1) := by
  obtain ⟨hi, e⟩ := List.getElem?_eq_some_iff.1 h
  rw [List.drop_eq_getElem_cons hi, e]
/-- A row of rows that one has made oneself, each row one's own. -/
def OutV (w : World) (b : Nat) (v : Value) (l : List (List Int)) (vs : List Value) : Prop :=
  w.ownsRow b 22 1 v l.length vs ∧ vs.length = l.length ∧ ∀ (i : Nat) (r : List Int) (u : Value), l[i]? = some r → vs[i]? = some u → w.ownsRow b 3 1 u r.length (intsOf r)
theorem OutV.nil (w : World) (b : Nat) : OutV w b (.slice none 0 0) [] [] := ⟨World.ownsRow_nil _ _ _ _, rfl, fun i r u h => by simp at h⟩
theorem OutV.below {w w' : World} {b : Nat} {v : Value} {l : List (List Int)} {vs : List Value} (h : OutV w b v l vs) (hb : Below w.heap.size w w') : OutV w' b v l vs := ⟨own_below h.1 hb, h.2.1, fun i r u hi hu => own_below (h.2.2 i r u hi hu) hb⟩
theorem OutV.rows {w : World} {b : Nat} {v : Value} {l : List (List Int)} {vs : List Value} (h : OutV w b v l vs) : RowsR w v l := OutR.rows ⟨vs, h.1, h.2.1, fun i r u hi hu => Ints.of_own (h.2.2 i r u hi hu)⟩
/-- A row of another type stays where one grows. -/
theorem own_past {w w7 : World} {b b' n n' s s' : Nat} {T T' : TypeId} {v v' : Value} {xs ys : List Value} (h : w.ownsRow b T s v n xs) (hr : w.ownsRow b' T' s' v' n' ys) (hT : T ≠ T') (o : Obj) (hg : (w.alloc o).grownBy w7 v'.ownBlock) : w7.ownsRow b T s v n xs :=
  own_block h (fun p hp => by
    have hpl := (h.lt p hp).2
    rw [hg.block p (by simp; omega) (fun e => own_two h hr hT hp e.symm), Below.heap_alloc _ _ _ hpl])
theorem OutV.snoc {w w7 : World} {b : Nat} {v v' u : Value} {l : List (List Int)} {vs : List Value} {r : List Int} (h : OutV w b v l vs) (hu : w.ownsRow b 3 1 u r.length (intsOf r)) (o : Obj) (hg : (w.alloc o).grownBy w7 v.ownBlock)
    (ho : w7.ownsRow b 22 1 v' (l.length + 1) (vs ++ [u])) : OutV w7 b v' (l ++ [r]) (vs ++ [u]) := by
  refine ⟨by rw [List.length_append]; exact ho, by rw [List.length_append, List.length_append, h.2.1]; rfl, fun i r' u' hi hu' => ?_⟩
  by_cases hil : i < l.length
  · rw [List.getElem?_append_left hil] at hi
    rw [List.getElem?_append_left (by rw [h.2.1]; exact hil)] at hu'
    exact own_past (h.2.2 i r' u' hi hu') h.1 (by decide) o hg
  · rw [List.getElem?_append_right (by omega)] at hi
    rw [List.getElem?_append_right (by rw [h.2.1]; omega), h.2.1] at hu'
    have h0 : i - l.length = 0 := by have := (List.getElem?_eq_some_iff.1 hi).1; simpa using this
    rw [h0] at hi hu'
    simp at hi hu'
    subst hi hu'
    exact own_past hu h.1 (by decide) o hg
theorem ints_eq (w : World) (u v : Value) (l : List Int) (hu : Ints w u l) (hv : Ints w v l) : Calls Tryd.prog 20 #[u, v] w (fun e w' => e = .returned (.bool true) ∧ Below w.heap.size w w') :=
  (ints_any u v l l w hu hv).mono (by
    rintro e w' ⟨rfl, n, rfl⟩
    exact ⟨by simp, below_drewN (Below.refl _ _) n⟩)
set_option maxRecDepth 100000 in
set_option maxHeartbeats 4000000 in
theorem rows_eq (w : World) (u v : Value) (l : List (List Int)) (hu : RowsR w u l) (hv : RowsR w v l) : Calls Tryd.prog 12 #[u, v] w (fun e w' => e = .returned (.bool true) ∧ Below w.heap.size w w') := by
  have HU := Lib.hid hu
  have HV := Lib.hid hv
  obtain ⟨A, c, rfl, z1, z2⟩ := hu.form
  obtain ⟨B, d, rfl, z3, z4⟩ := hv.form
  obtain ⟨n, hn⟩ : ∃ n, l.length = n := ⟨_, rfl⟩
  have HN := Lib.hid hn
  rw [hn] at HU HV z1 z3 ⊢
  unfold maxLen at z2 z4
  clear hu hv hn
  go_enter Tryd.func12, Tryd.ntmps12
  go_wp2_with fail
  go_loopw [5] (fun vi wr => ∃ k : Nat, k ≤ n ∧ vi = .int .i64 (k : Int) ∧ Below w.heap.size w wr) (fun vi _ => n - (intOf vi).toNat)
  case atStart => exact ⟨0, Nat.zero_le _, rfl, Below.refl _ _⟩
  case round =>
    obtain ⟨k, hk, rfl, hb⟩ := hrel
    have HB := Lib.hid hb
    by_cases hkn : k < n
    · obtain ⟨r, hr⟩ : ∃ r, l[k]? = some r := ⟨_, List.getElem?_eq_getElem (by rw [HN.out]; exact hkn)⟩
      obtain ⟨g, o, RA, rc, rfl, hg, e0, x1, x2, hI⟩ := (HU.out.below hb (Nat.le_refl _)).at hr
      obtain ⟨g', o', RB, rd, rfl, hg', f0, x3, x4, hJ⟩ := (HV.out.below hb (Nat.le_refl _)).at hr
      have hgr : g < wr.heap.size := hg
      have hgr' : g' < wr.heap.size := hg'
      have HI := Lib.hid hI
      have HJ := Lib.hid hJ
      unfold maxLen at x2 x4
      have HKS : Hid (∀ W, Below wr.heap.size wr W → W.cell? ⟨g, o + k, none⟩ = some (.slice RA r.length rc) ∧ W.cell? ⟨g', o' + k, none⟩ = some (.slice RB r.length rd)) := Lib.hid (fun W hW => ⟨(hW.cell hgr).trans e0, (hW.cell hgr').trans f0⟩)
      have HBcur : Hid (Below wr.heap.size wr wr.drew) := Lib.hid (Below.refl _ _).drew
      clear hr hI hJ hb e0 f0
      go_wp2_with fail
      go_region_held3 (fun W => W.cell? ⟨g, o + k, none⟩ = some (.slice RA r.length rc) ∧ W.cell? ⟨g', o' + k, none⟩ = some (.slice RB r.length rd))
        (exact HKS.out _ HBcur.out)
        (first | (go_at_call 20; with_reducible refine (ints_eq _ _ _ r (HI.out.below HBcur.out (Nat.le_refl _)) (HJ.out.below HBcur.out (Nat.le_refl _))).mono ?_; rintro e z1 ⟨rfl, hbz⟩; have HBcur := Lib.hid (HBcur.out.trans (hbz.mono HBcur.out.size)); clear hbz))
      all_goals
        rename_i z1 _
        have HB2 : Hid (Below w.heap.size w z1) := Lib.hid (HB.out.trans (HBcur.out.mono HB.out.size))
        go_wp2_with fail
        go_roundw
        case rel => exact ⟨k + 1, by omega, by go_num, HB2.out⟩
        case measure => simp [intOf]; omega
    · have hke : k = n := by omega
      subst hke
      go_wp2_with fail
      go_ret
      exact ⟨rfl, HB.out⟩
end Go.Proofs.YtgngdkbcndldfaaDoor.Fr
