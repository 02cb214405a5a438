/- Rows of numbers in memory; whether numbers may be those of inputs. Conditions: none. -/
import Derived.Test.YtcphjehjdhgheaaNkM
import Derived.Test.YtcphjehjdhgheaaNtP
namespace Go.Proofs.Ytcphjehjdhgheaa.Nt
open Go.ChangeShapes Go.WideShapes Go.ChangeAt Go.RowKit Go.Proofs.Ytcphjehjdhgheaa.Tr
set_option linter.unusedVariables false
set_option linter.unusedSimpArgs false

/-- A slice value reads as rows of numbers. -/
def RowsR (w : World) (v : Value) (l : List (List Int)) : Prop :=
  ∃ A c, v = .slice A l.length c ∧ l.length ≤ c ∧ c ≤ maxLen ∧ ∀ i r, l[i]? = some r → ∃ g o u, A = some ⟨g, o, none⟩ ∧ g < w.heap.size ∧ w.cell? ⟨g, o + i, none⟩ = some u ∧ Ints w u r
theorem RowsR.form {w : World} {v : Value} {l : List (List Int)} (h : RowsR w v l) : ∃ A c, v = .slice A l.length c ∧ l.length ≤ c ∧ c ≤ maxLen := by obtain ⟨A, c, e, h1, h2, -⟩ := h; exact ⟨A, c, e, h1, h2⟩
theorem RowsR.below {w w' : World} {B : Nat} {v : Value} {l : List (List Int)} (h : RowsR w v l) (hb : Below B w w') (hB : w.heap.size ≤ B) : RowsR w' v l := by
  obtain ⟨A, c, rfl, h1, h2, h3⟩ := h
  refine ⟨A, c, rfl, h1, h2, fun i r hi => ?_⟩
  obtain ⟨g, o, u, hg, hlt, hc, hI⟩ := h3 i r hi
  exact ⟨g, o, u, hg, by have := hb.size; omega, (hb.cell (by show g < B; omega)).trans hc, hI.below hb hB⟩
theorem RowsR.at {w : World} {A : Option Addr} {n c i : Nat} {l : List (List Int)} {r : List Int} (h : RowsR w (.slice A n c) l) (hi : l[i]? = some r) : ∃ g o B d, A = some ⟨g, o, none⟩ ∧ g < w.heap.size ∧ w.cell? ⟨g, o + i, none⟩ = some (.slice B r.length d) ∧ r.length ≤ d ∧ d ≤ maxLen ∧ Ints w (.slice B r.length d) r := by
  obtain ⟨A', c', e, -, -, h3⟩ := h
  simp only [Value.slice.injEq] at e
  obtain ⟨rfl, -, -⟩ := e
  obtain ⟨g, o, u, hg, hlt, hc, hI⟩ := h3 i r hi
  obtain ⟨B, d, rfl, e1, e2⟩ := ints_form hI
  exact ⟨g, o, B, d, hg, hlt, hc, e1, e2, hI⟩
theorem rows_nil (w : World) : RowsR w (.slice none 0 0) [] := ⟨none, 0, rfl, Nat.le_refl _, by unfold maxLen; omega, fun i r h => by simp at h⟩
/-- A row of rows that one has made oneself. -/
def OutR (w : World) (b : Nat) (v : Value) (l : List (List Int)) : Prop :=
  ∃ vs : List Value, w.ownsRow b 23 1 v l.length vs ∧ vs.length = l.length ∧ ∀ (i : Nat) (r : List Int) (u : Value), l[i]? = some r → vs[i]? = some u → Ints w u r
theorem OutR.nil (w : World) (b : Nat) : OutR w b (.slice none 0 0) [] := ⟨[], World.ownsRow_nil _ _ _ _, rfl, fun i r u h => by simp at h⟩
theorem OutR.below {w w' : World} {b : Nat} {v : Value} {l : List (List Int)} (h : OutR w b v l) (hb : Below w.heap.size w w') : OutR w' b v l := by
  obtain ⟨vs, h1, h2, h3⟩ := h
  exact ⟨vs, own_below h1 hb, h2, fun i r u hi hu => (h3 i r u hi hu).below hb (Nat.le_refl _)⟩
theorem OutR.rows {w : World} {b : Nat} {v : Value} {l : List (List Int)} (h : OutR w b v l) : RowsR w v l := by
  obtain ⟨vs, h1, h2, h3⟩ := h
  obtain ⟨hl, h0 | ⟨g, cap, cur, rfl, hb, hh, hnc, hcm, hcs, hct⟩⟩ := h1
  · obtain ⟨rfl, h0⟩ := h0
    have : l = [] := List.length_eq_zero_iff.1 h0
    subst this
    exact rows_nil w
  · have h : w.ownsRow b 23 1 (.slice (some ⟨g, 0, none⟩) l.length cap) l.length vs := ⟨hl, .inr ⟨g, cap, cur, rfl, hb, hh, hnc, hcm, hcs, hct⟩⟩
    refine ⟨some ⟨g, 0, none⟩, cap, rfl, hnc, hcm, fun i r hi => ?_⟩
    have hil : i < l.length := (List.getElem?_eq_some_iff.1 hi).1
    obtain ⟨u, hu⟩ : ∃ u, vs[i]? = some u := ⟨_, List.getElem?_eq_getElem (by omega)⟩
    exact ⟨g, 0, u, rfl, lt_of_block hh, by rw [Nat.zero_add, h.cellAt _ (by omega)]; exact hu, h3 i r u hi hu⟩
def okE (t x : Int) : Bool := fitsI x && !(t == 1 && x != 0 && x != 1)
theorem frame_all (tys row : List Int) (h : row.length = tys.length) : frameB tys row = (List.range row.length).all fun i => okE (tys.getD i 0) (row.getD i 0) := by
  unfold frameB okE; rw [decide_eq_true h]; rfl
theorem all_snoc (k : Nat) (f : Nat → Bool) : (List.range (k + 1)).all f = ((List.range k).all f && f k) := by rw [List.range_succ, List.all_append]; simp
theorem all_no {k n : Nat} {f : Nat → Bool} (h : k < n) (hf : f k = false) : (List.range n).all f = false := by
  cases e : (List.range n).all f with
  | false => rfl
  | true =>
    rw [List.all_eq_true] at e
    have := e k (by simpa using h)
    rw [hf] at this; cases this
theorem getD_of {l : List Int} {i : Nat} {x : Int} (h : l[i]? = some x) : l.getD i 0 = x := by simp [List.getD, h]
set_option maxRecDepth 100000 in
set_option maxHeartbeats 4000000 in
theorem dframe_any (w : World) (ov rv iv uv : Value) (tys row : List Int) (hi : Ints w iv tys) (hu : Ints w uv row) :
    Calls Try.prog 59 #[.agg #[ov, rv, iv], uv] w (fun e w' => e = .returned (.bool (frameB tys row)) ∧ Below w.heap.size w w') := by
  obtain ⟨A, c, rfl, z1, z2⟩ := ints_form hi
  obtain ⟨B, d, rfl, z3, z4⟩ := ints_form hu
  obtain ⟨x, hx⟩ : ∃ W, w.alloc (.cells #[ov, rv, .slice A tys.length c] 25) = W := ⟨_, rfl⟩
  have HBX : Hid (Below w.heap.size w x) := Lib.hid (by rw [← hx]; exact below_new _ _)
  have HXX : Hid (NetBox x w.heap.size 25 ov rv (.slice A tys.length c)) := Lib.hid (by rw [← hx]; exact box_new _ _ _ _ _)
  have HI := Lib.hid (hi.below HBX.out (Nat.le_refl _))
  have HU := Lib.hid (hu.below HBX.out (Nat.le_refl _))
  obtain ⟨p0, p1, p2⟩ := HXX.out.ats
  unfold maxLen at z2 z4
  clear hi hu
  by_cases hl : row.length = tys.length
  · have HF := Lib.hid (frame_all tys row hl)
    have hle : ((row.length : Int) != (tys.length : Int)) = false := by simp [hl]
    obtain ⟨n, hn⟩ : ∃ n, row.length = n := ⟨_, rfl⟩
    rw [← hl] at z1 hle p2 ⊢
    rw [hn] at z1 z3 hle p2 HF ⊢
    rw [← hl, hn] at hx HXX
    rw [← hl, hn] at HI
    rw [hn] at HU
    have HN := Lib.hid hn
    have HNT : Hid (tys.length = n) := Lib.hid (by rw [← hl]; exact hn)
    clear hl hn
    go_enter Try.func59, Try.ntmps59
    go_wp2
    clear hx
    go_loopw [5] (fun vi wr => ∃ k : Nat, k ≤ n ∧ vi = .int .i64 (k : Int) ∧ wr = x ∧ ((List.range k).all fun i => okE (tys.getD i 0) (row.getD i 0)) = true) (fun vi _ => n - (intOf vi).toNat)
    case atStart => exact ⟨0, Nat.zero_le _, rfl, rfl, rfl⟩
    case round =>
      obtain ⟨k, hk, rfl, rfl, ha⟩ := hrel
      have HA := Lib.hid ha
      clear ha
      by_cases hkn : k < n
      · obtain ⟨t, ht⟩ : ∃ t, tys[k]? = some t := ⟨_, List.getElem?_eq_getElem (by rw [HNT.out]; exact hkn)⟩
        obtain ⟨y, hy⟩ : ∃ t, row[k]? = some t := ⟨_, List.getElem?_eq_getElem (by rw [HN.out]; exact hkn)⟩
        obtain ⟨g, o, rfl, hg, a0⟩ := ints_at HI.out ht
        obtain ⟨g', o', rfl, hg', b0⟩ := ints_at HU.out hy
        have HE : Hid (okE (tys.getD k 0) (row.getD k 0) = okE t y) := Lib.hid (by rw [getD_of ht, getD_of hy])
        clear ht hy
        obtain ⟨b1, hb1⟩ : ∃ b, fitsI y = b := ⟨_, rfl⟩
        obtain ⟨b2, hb2⟩ : ∃ b, (t == 1) = b := ⟨_, rfl⟩
        obtain ⟨b3, hb3⟩ : ∃ b, (y != 0) = b := ⟨_, rfl⟩
        obtain ⟨b4, hb4⟩ : ∃ b, (y != 1) = b := ⟨_, rfl⟩
        have HO : Hid (okE t y = (b1 && !(b2 && b3 && b4))) := Lib.hid (by unfold okE; rw [hb1, hb2, hb3, hb4])
        by_cases hok : (b1 && !(b2 && b3 && b4)) = true
        · have HA2 : Hid (((List.range (k + 1)).all fun i => okE (tys.getD i 0) (row.getD i 0)) = true) := Lib.hid (by rw [all_snoc, HA.out, HE.out, HO.out, hok]; rfl)
          cases b1 <;> cases b2 <;> cases b3 <;> cases b4 <;> first | (exfalso; revert hok; decide) | skip
          all_goals
            go_wp2_with (go_at_call 98; with_reducible refine (dfits_any _ _).mono ?_; rw [hb1]; rintro e w' ⟨rfl, rfl⟩)
            exact ⟨⟨k + 1, by omega, by go_num, trivial, HA2.out⟩, by simp [intOf]; omega⟩
        · have HA2 : Hid (frameB tys row = false) := Lib.hid (by rw [HF.out]; exact all_no hkn (by rw [HE.out, HO.out]; simpa using hok))
          cases b1 <;> cases b2 <;> cases b3 <;> cases b4 <;> first | (exfalso; revert hok; decide) | skip
          all_goals
            go_wp2_with (go_at_call 98; with_reducible refine (dfits_any _ _).mono ?_; rw [hb1]; rintro e w' ⟨rfl, rfl⟩)
            go_ret
            exact ⟨ret_bool HA2.out.symm, HBX.out⟩
      · have hke : k = n := by omega
        subst hke
        go_wp2
        go_ret
        exact ⟨ret_bool (by rw [HF.out]; exact HA.out.symm), HBX.out⟩
  · have hle : ((row.length : Int) != (tys.length : Int)) = true := by rw [bne_iff_ne]; omega
    have e : frameB tys row = false := by unfold frameB; rw [decide_eq_false hl]; rfl
    rw [e]
    go_enter Try.func59, Try.ntmps59
    go_wp2
    go_ret
    exact ⟨rfl, HBX.out⟩
end Go.Proofs.Ytcphjehjdhgheaa.Nt
