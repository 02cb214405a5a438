/- Where a text stands among some, how often; the document's Vars. Conditions: slices are read as lists. -/
import Derived.Test.YtmggedjolocgdaaTreeVa
namespace Go.Proofs.Ytmggedjolocgdaa.Tr
open Go.ChangeShapes Go.WideShapes Go.ChangeAt Go.RowKit Go.Maps
set_option linter.unusedVariables false
set_option linter.unusedSimpArgs false

/-- The first place of a text among some. -/
def placeM : List Bytes → Bytes → Option Nat
  | [], _ => none
  | a :: r, s => if a == s then some 0 else (placeM r s).map (· + 1)
def placeI (l : List Bytes) (s : Bytes) : Int := match placeM l s with
  | some k => (k : Int)
  | none => -1
theorem place_at (s : Bytes) : ∀ (l : List Bytes) (k : Nat), l[k]? = some s → (l.take k).contains s = false → placeM l s = some k := by
  intro l
  induction l with
  | nil => intro k h; simp at h
  | cons a r ih =>
    intro k h hn
    cases k with
    | zero => simp at h; subst h; simp [placeM]
    | succ k =>
      rw [List.take_succ_cons, List.contains_cons, Bool.or_eq_false_iff] at hn
      have ha : (a == s) = false := by
        have := hn.1
        rw [beq_eq_false_iff_ne] at this ⊢
        exact fun h => this h.symm
      simp only [placeM, ha]
      rw [ih k (by simpa using h) hn.2]; rfl
theorem place_none (s : Bytes) : ∀ l : List Bytes, l.contains s = false → placeM l s = none := by
  intro l
  induction l with
  | nil => intro _; rfl
  | cons a r ih =>
    intro h
    rw [List.contains_cons, Bool.or_eq_false_iff] at h
    have ha : (a == s) = false := by
      have := h.1
      rw [beq_eq_false_iff_ne] at this ⊢
      exact fun h => this h.symm
    simp only [placeM, ha]
    rw [ih h.2]; rfl
theorem place_some (s : Bytes) : ∀ (l : List Bytes) (k : Nat), placeM l s = some k → l[k]? = some s := by
  intro l
  induction l with
  | nil => intro k h; simp [placeM] at h
  | cons a r ih =>
    intro k h
    simp only [placeM] at h
    split at h
    · rename_i ha
      simp at h ha
      subst h ha; rfl
    · rw [Option.map_eq_some_iff] at h
      obtain ⟨j, hj, rfl⟩ := h
      simpa using ih j hj
set_option maxHeartbeats 800000 in
theorem place_any (v : Value) (l : List Bytes) (s : Bytes) (w : World) (hv : Strs w v l) : Calls Try.prog 52 #[v, .string (str s)] w fun e w' => e = .returned (.int .i64 (placeI l s)) ∧ w = w' := by
  obtain ⟨A, c, rfl, h1, h2, hA⟩ := hv
  unfold maxLen at h2
  have HA := Lib.hid hA
  clear hA
  go_enter Try.func52, Try.ntmps52
  go_wp2
  go_loop [5] (fun i => ∃ k : Nat, k ≤ l.length ∧ i = .int .i64 k ∧ Hid ((l.take k).contains s = false)) (fun i => l.length - (intOf i).toNat)
  case atStart => exact ⟨0, Nat.zero_le _, rfl, by rw [List.take_zero]; rfl⟩
  case round =>
    obtain ⟨k, hk, rfl, hn⟩ := hrel
    by_cases hlt : k < l.length
    · obtain ⟨x, hx⟩ : ∃ x, l[k]? = some x := ⟨_, List.getElem?_eq_getElem hlt⟩
      obtain ⟨g, o, rfl, hg, a0⟩ := HA.out k x hx
      have HX := Lib.hid hx
      clear hx
      rcases Bool.eq_false_or_eq_true (x == s) with hq | hq
      · have HR := Lib.hid (show placeI l s = (k : Int) by unfold placeI; rw [place_at s l k (by rw [HX.out, beq_iff_eq.1 hq]) hn.out])
        have hb : ((str x).toList == (str s).toList) = true := by rw [str_beq]; exact hq
        go_wp2
        go_ret
        exact ⟨by rw [HR.out]; rfl, rfl⟩
      · have HN := Lib.hid (contains_next l k x s HX.out hn.out hq)
        have hb : ((str x).toList == (str s).toList) = false := by rw [str_beq]; exact hq
        go_wp2
        refine ⟨⟨k + 1, by omega, by go_num, HN.out⟩, by simp [intOf]; omega⟩
    · have HR := Lib.hid (show placeI l s = -1 by unfold placeI; have := hn.out; rw [List.take_of_length_le (by omega)] at this; rw [place_none s l this])
      go_wp2
      go_ret
      exact ⟨by rw [HR.out]; rfl, rfl⟩

theorem has_lit (v : Value) (l : List Bytes) (s : Bytes) (b : Bool) (w : World) (hv : Strs w v l) (h : l.contains s = b) : Calls Try.prog 43 #[v, .string (str s)] w fun e w' => e = .returned (.bool b) ∧ w = w' := by rw [← h]; exact has_any v l s w hv
/-- The loop's relation. -/
structure RVarsRel (w : World) (l : List Nd) (k : Nat) (wr : World) (nv : Value) : Prop where
  le : k ≤ l.length
  row : wr.ownsRow w.heap.size 9 1 nv (varsOf (l.take k)).length (strsOf (varsOf (l.take k)))
  below : Below w.heap.size w wr
set_option maxRecDepth 100000 in
set_option maxHeartbeats 1600000 in
theorem rvars_any (v : Value) (e : List Nd) (w : World) (hv : Nodes w v e) (hnn : (normB e).length ≤ 1000000) : Calls Try.prog 25 #[v] w (StrsPost w (varsM e)) := by
  have HV := Lib.hid hv
  obtain ⟨A, c, rfl, h1, h2, hA⟩ := hv
  clear hA
  unfold maxLen at h2
  obtain ⟨i0, hi, hz0, hz1, hz2⟩ := info_parts info9
  go_enter Try.func25, Try.ntmps25
  go_wp2_with fail
  refine (rnorm_any _ e _ HV.out).mono ?_
  rintro r w2 ⟨ov, rfl, hown, hb⟩
  obtain ⟨l, hl⟩ : ∃ l, normB e = l := ⟨_, rfl⟩
  have HL := Lib.hid (show varsM e = varsOf l by unfold varsM; rw [hl])
  rw [hl] at hown hnn
  clear hl
  have hs2 := hb.size
  have HB := Lib.hid hb
  have hnds := Nodes.of_own hown
  obtain ⟨A2, c2, rfl, y1, y2, hA2⟩ := hnds
  have HA2 := Lib.hid hA2
  unfold maxLen at y2
  have HREL0 : Hid (RVarsRel w2 l 0 w2 (.slice none 0 0)) := Lib.hid ⟨Nat.zero_le _, World.ownsRow_nil _ _ _ _, Below.refl _ _⟩
  clear hown hb hA2
  go_wp2
  go_loopw [3, 4] (fun nv i wr => ∃ (k : Nat) (nv' : Value), nv' = nv ∧ i = .int .i64 k ∧ RVarsRel w2 l k wr nv') (fun _ i _ => l.length - (intOf i).toNat)
  case atStart => exact ⟨0, _, rfl, rfl, HREL0.out⟩
  case round =>
    obtain ⟨k, nv', rfl, rfl, hrel⟩ := hrel
    have hk := hrel.le
    have HREL := Lib.hid hrel
    have hs := hrel.below.size
    by_cases hlt : k < l.length
    · obtain ⟨x, hx⟩ : ∃ x, l[k]? = some x := ⟨_, List.getElem?_eq_getElem hlt⟩
      obtain ⟨g, o, rfl, hg, a0', a1', a2', a3', a4', a5'⟩ := HA2.out k x hx
      have a0 := (hrel.below.cell (p := ⟨g, o + k * 6, none⟩) hg).trans a0'
      have a5 := (hrel.below.cell (p := ⟨g, o + k * 6 + 5, none⟩) hg).trans a5'
      have HS := Lib.hid (Strs.of_own hrel.row)
      have HX := Lib.hid hx
      clear hx hrel a0' a1' a2' a3' a4' a5'
      by_cases ho : x.op = 3
      · have HO := Lib.hid ho
        have ho' : (x.op == 3) = true := by simp [ho]
        clear ho
        have hlen := vars_len_le l k
        rcases Bool.eq_false_or_eq_true ((varsOf (l.take k)).contains x.name) with hc | hc
        · have HAN := Lib.hid (show varsOf (l.take (k + 1)) = varsOf (l.take k) by rw [varsOf_next l k x HX.out]; unfold addName; rw [if_pos HO.out, if_pos hc])
          have HC := Lib.hid hc
          clear hc
          go_wp2_with fail
          refine (has_lit _ _ x.name true _ HS.out HC.out).mono ?_
          rintro r w4 ⟨rfl, rfl⟩
          go_wp2
          refine ⟨⟨k + 1, _, rfl, by go_num, by omega, by rw [HAN.out]; exact HREL.out.row, HREL.out.below⟩, by simp [intOf]; omega⟩
        · have HAN := Lib.hid (show varsOf (l.take (k + 1)) = varsOf (l.take k) ++ [x.name] by rw [varsOf_next l k x HX.out]; unfold addName; rw [if_pos HO.out, if_neg (by rw [hc]; simp)])
          have HC := Lib.hid hc
          clear hc
          go_wp2_with fail
          refine (has_lit _ _ x.name false _ HS.out HC.out).mono ?_
          rintro r w4 ⟨rfl, rfl⟩
          go_wp2_with (at_builtin; refine wpList_append_own _ rfl (.tmp 29) (.tmp 35) 36 rfl w2.heap.size 9 i0 (.string ⟨#[]⟩) 1 16 Try.underlying36 hi hz0 hz1 hz2 rfl (by decide) _ _ _ rfl (HREL.out.row.alloc _) ⟨wr.heap.size, 0, none⟩ 1 1 [.string (str x.name)] rfl rfl ?a1 ?b1 ?c1 ?d1 ?e1 ?_)
          case a1 => exact cell_one_new _ _ _
          case b1 => first | rfl | (intro u hu; simp at hu; subst hu; rfl)
          case c1 => unfold maxLen; omega
          case d1 => omega
          case e1 => simp; omega
          intro v' w3 hown3 hgrow3 _
          have HB3 := Lib.hid ((HREL.out.below.alloc hs (.cells #[.string (str x.name)] 9)).grown hgrow3 (by simp; omega) (fun j hj => (HREL.out.row.lt j hj).1))
          have HO3 := Lib.hid hown3
          clear hown3 hgrow3
          go_wp2
          refine ⟨⟨k + 1, _, rfl, by go_num, by omega, by rw [HAN.out, strs_snoc, List.length_append]; exact HO3.out, HB3.out⟩, by simp [intOf]; omega⟩
      · have ho' : (x.op == 3) = false := by simp [ho]
        have HAN := Lib.hid (show varsOf (l.take (k + 1)) = varsOf (l.take k) by rw [varsOf_next l k x HX.out]; unfold addName; rw [if_neg ho])
        clear ho
        go_wp2
        refine ⟨⟨k + 1, _, rfl, by go_num, by omega, by rw [HAN.out]; exact HREL.out.row, HREL.out.below⟩, by simp [intOf]; omega⟩
    · have hkl : k = l.length := by omega
      subst hkl
      clear hrel
      go_wp2
      go_ret
      have h5 := HREL.out.row
      have h6 := HREL.out.below
      rw [List.take_length] at h5
      rw [HL.out]
      exact ⟨_, rfl, own_base h5 hs2, HB.out.trans (h6.mono hs2)⟩
end Go.Proofs.Ytmggedjolocgdaa.Tr
