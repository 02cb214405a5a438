/- Rows of numbers in memory; whether numbers may be those of inputs. Conditions: none. Arguments that are numbers, rows of numbers, code: what they read as. Conditions: none. -/
import Derived.Test.YtcphjehjdhgheaaNkM
import Derived.Test.YtcphjehjdhgheaaNtP
import Derived.Test.YtcphjehjdhgheaaNtOp
namespace Go.Proofs.Ytcphjehjdhgheaa.Nt
open Go.ChangeShapes Go.WideShapes Go.ChangeAt Go.RowKit Go.Proofs.Ytcphjehjdhgheaa.Tr
set_option linter.unusedVariables false
set_option linter.unusedSimpArgs false

/-- A slice value reads as rows of numbers. -/
def RowsR (w : World) (v : Value) (l : List (List Int)) : Prop :=
  ∃ A c, v = .slice A l.length c ∧ l.length ≤ c ∧ c ≤ maxLen ∧ ∀ i r, l[i]? = some r → ∃ g o u, A = some ⟨g, o, none⟩ ∧ g < w.heap.size ∧ w.cell? ⟨g, o + i, none⟩ = some u ∧ Ints w u r
theorem RowsR.form {w : World} {v : Value} {l : List (List Int)} (h : RowsR w v l) : ∃ A c, v = .slice A l.length c ∧ l.length ≤ c ∧ c ≤ maxLen := by obtain ⟨A, c, e, h1, h2, -⟩ := h; exact ⟨A, c, e, h1, h2⟩
theorem RowsR.below {w w' : World} {B : Nat} {v : Value} {l : List (List Int)} (h : RowsR w v l) (hb : Below B w w') (hB : w.heap.size ≤ B) : RowsR w' v l := by
  obtain ⟨A, c, rfl, h1, h2, h3⟩ := h
  refine ⟨A, c, rfl, h1, h2, fun i r hi => ?_⟩
  obtain ⟨g, o, u, hg, hlt, hc, hI⟩ := h3 i r hi
  exact ⟨g, o, u, hg, by have := hb.size; omega, (hb.cell (by show g < B; omega)).trans hc, hI.below hb hB⟩
theorem RowsR.at {w : World} {A : Option Addr} {n c i : Nat} {l : List (List Int)} {r : List Int} (h : RowsR w (.slice A n c) l) (hi : l[i]? = some r) : ∃ g o B d, A = some ⟨g, o, none⟩ ∧ g < w.heap.size ∧ w.cell? ⟨g, o + i, none⟩ = some (.slice B r.length d) ∧ r.length ≤ d ∧ d ≤ maxLen ∧ Ints w (.slice B r.length d) r := by
  obtain ⟨A', c', e, -, -, h3⟩ := h
  simp only [Value.slice.injEq] at e
  obtain ⟨rfl, -, -⟩ := e
  obtain ⟨g, o, u, hg, hlt, hc, hI⟩ := h3 i r hi
  obtain ⟨B, d, rfl, e1, e2⟩ := ints_form hI
  exact ⟨g, o, B, d, hg, hlt, hc, e1, e2, hI⟩
theorem rows_nil (w : World) : RowsR w (.slice none 0 0) [] := ⟨none, 0, rfl, Nat.le_refl _, by unfold maxLen; omega, fun i r h => by simp at h⟩
/-- A row of rows that one has made oneself. -/
def OutR (w : World) (b : Nat) (v : Value) (l : List (List Int)) : Prop :=
  ∃ vs : List Value, w.ownsRow b 23 1 v l.length vs ∧ vs.length = l.length ∧ ∀ (i : Nat) (r : List Int) (u : Value), l[i]? = some r → vs[i]? = some u → Ints w u r
theorem OutR.nil (w : World) (b : Nat) : OutR w b (.slice none 0 0) [] := ⟨[], World.ownsRow_nil _ _ _ _, rfl, fun i r u h => by simp at h⟩
theorem OutR.below {w w' : World} {b : Nat} {v : Value} {l : List (List Int)} (h : OutR w b v l) (hb : Below w.heap.size w w') : OutR w' b v l := by
  obtain ⟨vs, h1, h2, h3⟩ := h
  exact ⟨vs, own_below h1 hb, h2, fun i r u hi hu => (h3 i r u hi hu).below hb (Nat.le_refl _)⟩
theorem OutR.rows {w : World} {b : Nat} {v : Value} {l : List (List Int)} (h : OutR w b v l) : RowsR w v l := by
  obtain ⟨vs, h1, h2, h3⟩ := h
  obtain ⟨hl, h0 | ⟨g, cap, cur, rfl, hb, hh, hnc, hcm, hcs, hct⟩⟩ := h1
  · obtain ⟨rfl, h0⟩ := h0
    have : l = [] := List.length_eq_zero_iff.1 h0
    subst this
    exact rows_nil w
  · have h : w.ownsRow b 23 1 (.slice (some ⟨g, 0, none⟩) l.length cap) l.length vs := ⟨hl, .inr ⟨g, cap, cur, rfl, hb, hh, hnc, hcm, hcs, hct⟩⟩
    refine ⟨some ⟨g, 0, none⟩, cap, rfl, hnc, hcm, fun i r hi => ?_⟩
    have hil : i < l.length := (List.getElem?_eq_some_iff.1 hi).1
    obtain ⟨u, hu⟩ : ∃ u, vs[i]? = some u := ⟨_, List.getElem?_eq_getElem (by omega)⟩
    exact ⟨g, 0, u, rfl, lt_of_block hh, by rw [Nat.zero_add, h.cellAt _ (by omega)]; exact hu, h3 i r u hi hu⟩
def okE (t x : Int) : Bool := fitsI x && !(t == 1 && x != 0 && x != 1)
theorem frame_all (tys row : List Int) (h : row.length = tys.length) : frameB tys row = (List.range row.length).all fun i => okE (tys.getD i 0) (row.getD i 0) := by
  unfold frameB okE; rw [decide_eq_true h]; rfl
theorem all_snoc (k : Nat) (f : Nat → Bool) : (List.range (k + 1)).all f = ((List.range k).all f && f k) := by rw [List.range_succ, List.all_append]; simp
theorem all_no {k n : Nat} {f : Nat → Bool} (h : k < n) (hf : f k = false) : (List.range n).all f = false := by
  cases e : (List.range n).all f with
  | false => rfl
  | true =>
    rw [List.all_eq_true] at e
    have := e k (by simpa using h)
    rw [hf] at this; cases this
theorem getD_of {l : List Int} {i : Nat} {x : Int} (h : l[i]? = some x) : l.getD i 0 = x := by simp [List.getD, h]
set_option maxRecDepth 100000 in
set_option maxHeartbeats 4000000 in
theorem dframe_any (w : World) (ov rv iv uv : Value) (tys row : List Int) (hi : Ints w iv tys) (hu : Ints w uv row) :
    Calls Try.prog 59 #[.agg #[ov, rv, iv], uv] w (fun e w' => e = .returned (.bool (frameB tys row)) ∧ Below w.heap.size w w') := by
  obtain ⟨A, c, rfl, z1, z2⟩ := ints_form hi
  obtain ⟨B, d, rfl, z3, z4⟩ := ints_form hu
  obtain ⟨x, hx⟩ : ∃ W, w.alloc (.cells #[ov, rv, .slice A tys.length c] 25) = W := ⟨_, rfl⟩
  have HBX : Hid (Below w.heap.size w x) := Lib.hid (by rw [← hx]; exact below_new _ _)
  have HXX : Hid (NetBox x w.heap.size 25 ov rv (.slice A tys.length c)) := Lib.hid (by rw [← hx]; exact box_new _ _ _ _ _)
  have HI := Lib.hid (hi.below HBX.out (Nat.le_refl _))
  have HU := Lib.hid (hu.below HBX.out (Nat.le_refl _))
  obtain ⟨p0, p1, p2⟩ := HXX.out.ats
  unfold maxLen at z2 z4
  clear hi hu
  by_cases hl : row.length = tys.length
  · have HF := Lib.hid (frame_all tys row hl)
    have hle : ((row.length : Int) != (tys.length : Int)) = false := by simp [hl]
    obtain ⟨n, hn⟩ : ∃ n, row.length = n := ⟨_, rfl⟩
    rw [← hl] at z1 hle p2 ⊢
    rw [hn] at z1 z3 hle p2 HF ⊢
    rw [← hl, hn] at hx HXX
    rw [← hl, hn] at HI
    rw [hn] at HU
    have HN := Lib.hid hn
    have HNT : Hid (tys.length = n) := Lib.hid (by rw [← hl]; exact hn)
    clear hl hn
    go_enter Try.func59, Try.ntmps59
    go_wp2
    clear hx
    go_loopw [5] (fun vi wr => ∃ k : Nat, k ≤ n ∧ vi = .int .i64 (k : Int) ∧ wr = x ∧ ((List.range k).all fun i => okE (tys.getD i 0) (row.getD i 0)) = true) (fun vi _ => n - (intOf vi).toNat)
    case atStart => exact ⟨0, Nat.zero_le _, rfl, rfl, rfl⟩
    case round =>
      obtain ⟨k, hk, rfl, rfl, ha⟩ := hrel
      have HA := Lib.hid ha
      clear ha
      by_cases hkn : k < n
      · obtain ⟨t, ht⟩ : ∃ t, tys[k]? = some t := ⟨_, List.getElem?_eq_getElem (by rw [HNT.out]; exact hkn)⟩
        obtain ⟨y, hy⟩ : ∃ t, row[k]? = some t := ⟨_, List.getElem?_eq_getElem (by rw [HN.out]; exact hkn)⟩
        obtain ⟨g, o, rfl, hg, a0⟩ := ints_at HI.out ht
        obtain ⟨g', o', rfl, hg', b0⟩ := ints_at HU.out hy
        have HE : Hid (okE (tys.getD k 0) (row.getD k 0) = okE t y) := Lib.hid (by rw [getD_of ht, getD_of hy])
        clear ht hy
        obtain ⟨b1, hb1⟩ : ∃ b, fitsI y = b := ⟨_, rfl⟩
        obtain ⟨b2, hb2⟩ : ∃ b, (t == 1) = b := ⟨_, rfl⟩
        obtain ⟨b3, hb3⟩ : ∃ b, (y != 0) = b := ⟨_, rfl⟩
        obtain ⟨b4, hb4⟩ : ∃ b, (y != 1) = b := ⟨_, rfl⟩
        have HO : Hid (okE t y = (b1 && !(b2 && b3 && b4))) := Lib.hid (by unfold okE; rw [hb1, hb2, hb3, hb4])
        by_cases hok : (b1 && !(b2 && b3 && b4)) = true
        · have HA2 : Hid (((List.range (k + 1)).all fun i => okE (tys.getD i 0) (row.getD i 0)) = true) := Lib.hid (by rw [all_snoc, HA.out, HE.out, HO.out, hok]; rfl)
          cases b1 <;> cases b2 <;> cases b3 <;> cases b4 <;> first | (exfalso; revert hok; decide) | skip
          all_goals
            go_wp2_with (go_at_call 98; with_reducible refine (dfits_any _ _).mono ?_; rw [hb1]; rintro e w' ⟨rfl, rfl⟩)
            exact ⟨⟨k + 1, by omega, by go_num, trivial, HA2.out⟩, by simp [intOf]; omega⟩
        · have HA2 : Hid (frameB tys row = false) := Lib.hid (by rw [HF.out]; exact all_no hkn (by rw [HE.out, HO.out]; simpa using hok))
          cases b1 <;> cases b2 <;> cases b3 <;> cases b4 <;> first | (exfalso; revert hok; decide) | skip
          all_goals
            go_wp2_with (go_at_call 98; with_reducible refine (dfits_any _ _).mono ?_; rw [hb1]; rintro e w' ⟨rfl, rfl⟩)
            go_ret
            exact ⟨ret_bool HA2.out.symm, HBX.out⟩
      · have hke : k = n := by omega
        subst hke
        go_wp2
        go_ret
        exact ⟨ret_bool (by rw [HF.out]; exact HA.out.symm), HBX.out⟩
  · have hle : ((row.length : Int) != (tys.length : Int)) = true := by rw [bne_iff_ne]; omega
    have e : frameB tys row = false := by unfold frameB; rw [decide_eq_false hl]; rfl
    rw [e]
    go_enter Try.func59, Try.ntmps59
    go_wp2
    go_ret
    exact ⟨rfl, HBX.out⟩
end Go.Proofs.Ytcphjehjdhgheaa.Nt

namespace Go.Proofs.Ytcphjehjdhgheaa.Nt
open Go.ChangeShapes Go.WideShapes Go.ChangeAt Go.RowKit Go.Deep Go.Proofs.Ytcphjehjdhgheaa.Tr
set_option linter.unusedVariables false
set_option linter.unusedSimpArgs false
set_option maxRecDepth 100000

def insCells (x : Ins6) : List Value := [.int .i64 x.op, .int .i64 x.d, .int .i64 x.a, .int .i64 x.b, .int .i64 x.c, .int .i64 x.n]
def insOfL (l : List Ins6) : List Value := l.flatMap insCells
def insV (x : Ins6) : Value := .agg #[.int .i64 x.op, .int .i64 x.d, .int .i64 x.a, .int .i64 x.b, .int .i64 x.c, .int .i64 x.n]
/-- A slice value reads as a list of instructions. -/
def InsR (w : World) (v : Value) (l : List Ins6) : Prop :=
  ∃ A c, v = .slice A l.length c ∧ l.length ≤ c ∧ c ≤ maxLen ∧ ∀ i x, l[i]? = some x → ∃ g o, A = some ⟨g, o, none⟩ ∧ g < w.heap.size ∧
    w.cell? ⟨g, o + i * 6, none⟩ = some (.int .i64 x.op) ∧ w.cell? ⟨g, o + i * 6 + 1, none⟩ = some (.int .i64 x.d) ∧ w.cell? ⟨g, o + i * 6 + 2, none⟩ = some (.int .i64 x.a) ∧
    w.cell? ⟨g, o + i * 6 + 3, none⟩ = some (.int .i64 x.b) ∧ w.cell? ⟨g, o + i * 6 + 4, none⟩ = some (.int .i64 x.c) ∧ w.cell? ⟨g, o + i * 6 + 5, none⟩ = some (.int .i64 x.n)
/-- .. code: its three slices. -/
def CodR (w : World) (iv ov pv : Value) (C : Cod) : Prop := InsR w iv C.ins ∧ Ints w ov C.outs ∧ Ints w pv C.inp
theorem ins_len6 (l : List Ins6) : (insOfL l).length = l.length * 6 := by
  induction l with
  | nil => rfl
  | cons a r ih => show ([_, _, _, _, _, _] ++ insOfL r).length = _; rw [List.length_append, ih]; simp; omega
theorem ins_snoc (l : List Ins6) (x : Ins6) : insOfL (l ++ [x]) = insOfL l ++ insCells x := by simp [insOfL]
theorem ins_at6 (l : List Ins6) (i : Nat) (x : Ins6) (h : l[i]? = some x) (k : Nat) (hk : k < 6) : (insOfL l)[i * 6 + k]? = (insCells x)[k]? := by
  induction l generalizing i with
  | nil => simp at h
  | cons a r ih =>
    cases i with
    | zero =>
      simp at h; subst h
      show (insCells a ++ insOfL r)[0 * 6 + k]? = _
      rw [List.getElem?_append_left (by simp [insCells]; omega)]; congr 1; omega
    | succ i =>
      simp at h
      show (insCells a ++ insOfL r)[(i + 1) * 6 + k]? = _
      rw [List.getElem?_append_right (by simp [insCells]; omega), ← ih i h]
      congr 1; simp [insCells]; omega
theorem InsR.of_own {w : World} {b T : Nat} {v : Value} {l : List Ins6} (h : w.ownsRow b T 6 v l.length (insOfL l)) : InsR w v l := by
  obtain ⟨hl, h0 | ⟨g, cap, cur, rfl, hb, hh, hnc, hcm, hcs, hct⟩⟩ := h
  · obtain ⟨rfl, h0⟩ := h0
    have : l = [] := List.length_eq_zero_iff.1 h0
    subst this
    exact ⟨none, 0, rfl, by simp, by unfold maxLen; omega, fun i t h => by simp at h⟩
  · have h : w.ownsRow b T 6 (.slice (some ⟨g, 0, none⟩) l.length cap) l.length (insOfL l) := ⟨hl, .inr ⟨g, cap, cur, rfl, hb, hh, hnc, hcm, hcs, hct⟩⟩
    refine ⟨some ⟨g, 0, none⟩, cap, rfl, hnc, hcm, fun i x hi => ⟨g, 0, rfl, lt_of_block hh, ?_⟩⟩
    have hil : i < l.length := (List.getElem?_eq_some_iff.1 hi).1
    have q : ∀ k, k < 6 → w.cell? ⟨g, 0 + i * 6 + k, none⟩ = (insCells x)[k]? := fun k hk => by
      rw [Nat.zero_add, h.cellAt _ (by omega), ins_at6 l i x hi k hk]
    exact ⟨q 0 (by omega), q 1 (by omega), q 2 (by omega), q 3 (by omega), q 4 (by omega), q 5 (by omega)⟩
theorem InsR.keep {w w' : World} {v : Value} {l : List Ins6} (h : InsR w v l) (hs : w.heap.size ≤ w'.heap.size) (hk : ∀ p : Addr, p.block < w.heap.size → w'.cell? p = w.cell? p) : InsR w' v l := by
  obtain ⟨A, c, rfl, h1, h2, h3⟩ := h
  refine ⟨A, c, rfl, h1, h2, fun i t hi => ?_⟩
  obtain ⟨g, o, hg, hlt, c0, c1, c2, c3, c4, c5⟩ := h3 i t hi
  exact ⟨g, o, hg, by omega, (hk _ hlt).trans c0, (hk _ hlt).trans c1, (hk _ hlt).trans c2, (hk _ hlt).trans c3, (hk _ hlt).trans c4, (hk _ hlt).trans c5⟩
theorem InsR.below {w w' : World} {B : Nat} {v : Value} {l : List Ins6} (h : InsR w v l) (hb : Below B w w') (hB : w.heap.size ≤ B) : InsR w' v l := h.keep hb.size fun p hp => hb.cell (by omega)
theorem CodR.below {w w' : World} {B : Nat} {iv ov pv : Value} {C : Cod} (h : CodR w iv ov pv C) (hb : Below B w w') (hB : w.heap.size ≤ B) : CodR w' iv ov pv C := ⟨h.1.below hb hB, h.2.1.below hb hB, h.2.2.below hb hB⟩
theorem InsR.form {w : World} {v : Value} {l : List Ins6} (h : InsR w v l) : ∃ A c, v = .slice A l.length c ∧ l.length ≤ c ∧ c ≤ maxLen := by obtain ⟨A, c, e, h1, h2, -⟩ := h; exact ⟨A, c, e, h1, h2⟩
theorem InsR.at {w : World} {A : Option Addr} {n c i : Nat} {l : List Ins6} {x : Ins6} (h : InsR w (.slice A n c) l) (hi : l[i]? = some x) : ∃ g o, A = some ⟨g, o, none⟩ ∧ g < w.heap.size ∧
    w.cell? ⟨g, o + i * 6, none⟩ = some (.int .i64 x.op) ∧ w.cell? ⟨g, o + i * 6 + 1, none⟩ = some (.int .i64 x.d) ∧ w.cell? ⟨g, o + i * 6 + 2, none⟩ = some (.int .i64 x.a) ∧
    w.cell? ⟨g, o + i * 6 + 3, none⟩ = some (.int .i64 x.b) ∧ w.cell? ⟨g, o + i * 6 + 4, none⟩ = some (.int .i64 x.c) ∧ w.cell? ⟨g, o + i * 6 + 5, none⟩ = some (.int .i64 x.n) := by
  obtain ⟨A', c', e, -, -, h3⟩ := h
  simp only [Value.slice.injEq] at e
  obtain ⟨rfl, -, -⟩ := e
  exact h3 i x hi
theorem InsR.take {w : World} {A : Option Addr} {k n c : Nat} {l : List Ins6} (h : InsR w (.slice A n c) l) (hk : k ≤ n) : InsR w (.slice A k c) (l.take k) := by
  obtain ⟨A', c', e, h1, h2, h3⟩ := h
  simp only [Value.slice.injEq] at e
  obtain ⟨rfl, rfl, rfl⟩ := e
  refine ⟨A, c, by rw [List.length_take, Nat.min_eq_left hk], by rw [List.length_take]; omega, h2, fun i x hi => ?_⟩
  rw [List.getElem?_take] at hi
  split at hi
  · exact h3 i x hi
  · simp at hi
theorem ins_nil (w : World) : InsR w (.slice none 0 0) [] := ⟨none, 0, rfl, Nat.le_refl _, by unfold maxLen; omega, fun i x h => by simp at h⟩

/-- A number of 64 bits. -/
def W64 (n : Int) : Prop := (Lit.int .i64 n).wf = true
theorem w64_of {n : Int} (h1 : -9223372036854775808 ≤ n) (h2 : n ≤ 9223372036854775807) : W64 n := by unfold W64; simp [Lit.wf, IntKind.min, IntKind.max, IntKind.signed, IntKind.bits]; omega
structure InsW (x : Ins6) : Prop where
  a : W64 x.a
  b : W64 x.b
  c : W64 x.c
  n : W64 x.n
  d : W64 x.d
/-- Of code that came in. -/
def CodW (C : Cod) : Prop := (∀ x ∈ C.ins, InsW x) ∧ ∀ k ∈ C.outs, W64 k
theorem cells112 : Try.prog.cellsOf 112 = 6 := by kernel_rfl
theorem cells52 : Try.prog.cellsOf 52 = 1 := by kernel_rfl
theorem cells54 : Try.prog.cellsOf 54 = 5 := by kernel_rfl
section
variable {H : Type} {enc : TypeId × Value → H} {w : World} {base : Nat} {spare : Nat → Bool} {held : Bool}
theorem open_ints {r : Reach} {b0 : Nat} {v : Value} {d : DataW H} {p : List MemPlace} (hv : Value.okWide Try.prog w r b0 23 v) (h : DataW.Trod enc Try.prog w base spare held 23 v d p) : ∃ l, Ints w v l := by
  obtain ⟨a0, len, cap, rfl⟩ := okWide_slice Try.underlying23 hv
  obtain ⟨fuel, hf⟩ := h
  obtain ⟨u, l, hcs, h1⟩ := trod_row (R := fun (a : Int) x => x = [Value.int .i64 a]) Try.underlying23 cells3 (by omega) int_cells hf
  simp [Value.cells] at hcs
  subst hcs
  exact ⟨l, Ints.of_rowN h1⟩
theorem int_cells' (n : Nat) (cs : List Value) (y : DataW H × List MemPlace) (h : DataW.trod enc Try.prog w base spare held n 3 cs = some y) : ∃ a : Int, cs = [Value.int .i64 a] ∧ W64 a := by
  obtain ⟨n0, e0, -, hw⟩ := DataW.trod_int Try.underlying3 h
  exact ⟨n0, e0, hw⟩
theorem row_cells (n : Nat) (cs : List Value) (y : DataW H × List MemPlace) (h : DataW.trod enc Try.prog w base spare held n 23 cs = some y) : ∃ a : List Int, ∃ u, cs = [u] ∧ Ints w u a := by
  obtain ⟨u, l, hcs, h1⟩ := trod_row (R := fun (a : Int) x => x = [Value.int .i64 a]) Try.underlying23 cells3 (by omega) int_cells h
  exact ⟨l, u, hcs, Ints.of_rowN h1⟩
theorem open_rows {r : Reach} {b0 : Nat} {v : Value} {d : DataW H} {p : List MemPlace} (hv : Value.okWide Try.prog w r b0 46 v) (h : DataW.Trod enc Try.prog w base spare held 46 v d p) : ∃ l, RowsR w v l := by
  obtain ⟨a0, len, cap, rfl⟩ := okWide_slice Try.underlying46 hv
  obtain ⟨fuel, hf⟩ := h
  obtain ⟨u, l, hcs, h1⟩ := trod_row (R := fun (a : List Int) x => ∃ u, x = [u] ∧ Ints w u a) Try.underlying46 cells23 (by omega) row_cells hf
  simp [Value.cells] at hcs
  subst hcs
  refine ⟨l, ?_⟩
  obtain ⟨A, c, e, h1, h2, h3⟩ := h1
  refine ⟨A, c, e, h1, h2, fun i r hi => ?_⟩
  obtain ⟨g, o, cs, hA, hg, ⟨u, rfl, hI⟩, -, hc⟩ := h3 i r hi
  have := hc 0 (by omega)
  rw [Nat.mul_one, Nat.add_zero] at this
  exact ⟨g, o, u, hA, hg, this, hI⟩
theorem ins_cells (n : Nat) (cs : List Value) (y : DataW H × List MemPlace) (h : DataW.trod enc Try.prog w base spare held n 112 cs = some y) : ∃ a : Ins6, cs = insCells a ∧ InsW a := by
  obtain ⟨xs, m, _, _, hlen, hxl, hf⟩ := DataW.trod_struct Try.underlying112 h
  rw [cells112] at hlen
  have hx6 : xs.length = 6 := hxl
  match cs, hlen, xs, hx6 with
  | [c0, c1, c2, c3, c4, c5], _, [y0, y1, y2, y3, y4, y5], _ =>
    have f0 : DataW.trod enc Try.prog w base spare held m 3 [c0] = some y0 := by have := hf 0 _ rfl; simpa [cells3] using this
    have f1 : DataW.trod enc Try.prog w base spare held m 3 [c1] = some y1 := by have := hf 1 _ rfl; simpa [cells3] using this
    have f2 : DataW.trod enc Try.prog w base spare held m 3 [c2] = some y2 := by have := hf 2 _ rfl; simpa [cells3] using this
    have f3 : DataW.trod enc Try.prog w base spare held m 3 [c3] = some y3 := by have := hf 3 _ rfl; simpa [cells3] using this
    have f4 : DataW.trod enc Try.prog w base spare held m 3 [c4] = some y4 := by have := hf 4 _ rfl; simpa [cells3] using this
    have f5 : DataW.trod enc Try.prog w base spare held m 3 [c5] = some y5 := by have := hf 5 _ rfl; simpa [cells3] using this
    obtain ⟨n0, e0⟩ := int_cells _ _ _ f0
    obtain ⟨n1, e1, g1⟩ := int_cells' _ _ _ f1
    obtain ⟨n2, e2, g2⟩ := int_cells' _ _ _ f2
    obtain ⟨n3, e3, g3⟩ := int_cells' _ _ _ f3
    obtain ⟨n4, e4, g4⟩ := int_cells' _ _ _ f4
    obtain ⟨n5, e5, g5⟩ := int_cells' _ _ _ f5
    simp only [List.cons.injEq, and_true] at e0 e1 e2 e3 e4 e5
    subst e0 e1 e2 e3 e4 e5
    exact ⟨⟨n0, n1, n2, n3, n4, n5⟩, rfl, ⟨g2, g3, g4, g5, g1⟩⟩
theorem InsR.of_rowN {v : Value} {l : List Ins6} (h : RowN 6 (fun (a : Ins6) x => x = insCells a ∧ InsW a) w l v) : InsR w v l ∧ ∀ x ∈ l, InsW x := by
  obtain ⟨A, c, e, h1, h2, h3⟩ := h
  refine ⟨⟨A, c, e, h1, h2, fun i x hi => ?_⟩, fun x hx => by
    obtain ⟨i, hi, e⟩ := List.mem_iff_getElem.1 hx
    obtain ⟨-, -, -, -, -, ⟨-, h⟩, -⟩ := h3 i x (by rw [List.getElem?_eq_getElem hi, e])
    exact h⟩
  obtain ⟨g, o, cs, hA, hg, ⟨rfl, -⟩, -, hc⟩ := h3 i x hi
  exact ⟨g, o, hA, hg, hc 0 (by omega), hc 1 (by omega), hc 2 (by omega), hc 3 (by omega), hc 4 (by omega), hc 5 (by omega)⟩
theorem Ints.of_rowN' {v : Value} {l : List Int} (h : RowN 1 (fun (a : Int) x => x = [Value.int .i64 a] ∧ W64 a) w l v) : Ints w v l ∧ ∀ x ∈ l, W64 x := by
  obtain ⟨A, c, e, h1, h2, h3⟩ := h
  refine ⟨⟨A, c, e, h1, h2, fun i x hi => ?_⟩, fun x hx => by
    obtain ⟨i, hi, e⟩ := List.mem_iff_getElem.1 hx
    obtain ⟨-, -, -, -, -, ⟨-, h⟩, -⟩ := h3 i x (by rw [List.getElem?_eq_getElem hi, e])
    exact h⟩
  obtain ⟨g, o, cs, hA, hg, ⟨rfl, -⟩, -, hc⟩ := h3 i x hi
  have := hc 0 (by omega)
  rw [Nat.mul_one, Nat.add_zero] at this
  exact ⟨g, o, hA, hg, this⟩
/-- An argument that is code. -/
theorem open_code {r : Reach} {b0 : Nat} {v : Value} {d : DataW H} {p : List MemPlace} (hv : Value.okWide Try.prog w r b0 54 v) (h : DataW.Trod enc Try.prog w base spare held 54 v d p) :
    ∃ iv ov pv C, v = .agg #[iv, .int .i64 C.regs, .int .i64 C.slots, ov, pv] ∧ CodR w iv ov pv C ∧ CodW C ∧ W64 C.regs ∧ W64 C.slots := by
  obtain ⟨cs, rfl, hsz⟩ := okWide_struct Try.underlying54 hv
  obtain ⟨fuel, hf⟩ := h
  obtain ⟨l⟩ := cs
  simp only [Value.cells] at hf
  obtain ⟨xs, m, _, _, hlen, hxl, hf⟩ := DataW.trod_struct Try.underlying54 hf
  rw [cells54] at hlen
  have hx6 : xs.length = 5 := hxl
  match l, hlen, xs, hx6 with
  | [c0, c1, c2, c3, c4], _, [y0, y1, y2, y3, y4], _ =>
    have f0 : DataW.trod enc Try.prog w base spare held m 52 [c0] = some y0 := by have := hf 0 _ rfl; simpa [cells23, cells52, cells3] using this
    have f1 : DataW.trod enc Try.prog w base spare held m 3 [c1] = some y1 := by have := hf 1 _ rfl; simpa [cells23, cells52, cells3] using this
    have f2 : DataW.trod enc Try.prog w base spare held m 3 [c2] = some y2 := by have := hf 2 _ rfl; simpa [cells23, cells52, cells3] using this
    have f3 : DataW.trod enc Try.prog w base spare held m 23 [c3] = some y3 := by have := hf 3 _ rfl; simpa [cells23, cells52, cells3] using this
    have f4 : DataW.trod enc Try.prog w base spare held m 23 [c4] = some y4 := by have := hf 4 _ rfl; simpa [cells23, cells52, cells3] using this
    obtain ⟨v0, l0, e0, h0⟩ := trod_row (R := fun (a : Ins6) x => x = insCells a ∧ InsW a) Try.underlying52 cells112 (by omega) ins_cells f0
    obtain ⟨n1, e1, g1⟩ := int_cells' _ _ _ f1
    obtain ⟨n2, e2, g2⟩ := int_cells' _ _ _ f2
    obtain ⟨v3, l3, e3, h3⟩ := trod_row (R := fun (a : Int) x => x = [Value.int .i64 a] ∧ W64 a) Try.underlying23 cells3 (by omega) int_cells' f3
    obtain ⟨v4, l4, e4, h4⟩ := trod_row (R := fun (a : Int) x => x = [Value.int .i64 a]) Try.underlying23 cells3 (by omega) int_cells f4
    simp only [List.cons.injEq, and_true] at e0 e1 e2 e3 e4
    subst e0 e1 e2 e3 e4
    exact ⟨c0, c3, c4, ⟨l0, n1, n2, l3, l4⟩, rfl, ⟨(InsR.of_rowN h0).1, (Ints.of_rowN' h3).1, Ints.of_rowN h4⟩, ⟨(InsR.of_rowN h0).2, (Ints.of_rowN' h3).2⟩, g1, g2⟩
end
end Go.Proofs.Ytcphjehjdhgheaa.Nt
