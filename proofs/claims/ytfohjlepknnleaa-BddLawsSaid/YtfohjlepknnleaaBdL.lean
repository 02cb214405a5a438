/- The document's tables of functions of truth: constants, variables, choices, a variable that is set; equal tables are equal functions. Conditions: none. Diagrams: the nodes of a function alone, under new numbers. Conditions: none. Tables and diagrams, more: what the document's functions of tables make, and its first row. Conditions: none. -/
import Derived.Test.YtfohjlepknnleaaBdT
namespace Go.Proofs.Ytfohjlepknnleaa.Bd
set_option linter.unusedVariables false
set_option linter.unusedSimpArgs false

theorem tab_len (vars : Nat) (P : (Nat → Bool) → Bool) : (tabD vars P).length = 2 ^ vars := by unfold tabD; simp

theorem tab_at {vars k : Nat} (P : (Nat → Bool) → Bool) (h : k < 2 ^ vars) : (tabD vars P)[k]? = some (P (rowF vars k)) := by
  unfold tabD
  rw [List.getElem?_map, List.getElem?_range h]
  rfl

theorem tab_ext {vars : Nat} {P : (Nat → Bool) → Bool} {T : List Bool} (hl : T.length = 2 ^ vars) (h : ∀ k, k < 2 ^ vars → T[k]? = some (P (rowF vars k))) : T = tabD vars P := by
  apply List.ext_getElem?
  intro k
  by_cases c : k < 2 ^ vars
  · rw [h k c, tab_at P c]
  · rw [List.getElem?_eq_none (by omega), List.getElem?_eq_none (by rw [tab_len]; omega)]

/-- Every choice of values stands in a row. -/
theorem rws_mem : ∀ (m i : Nat) (r s : Nat → Bool), ∃ u, u ∈ rws m i r ∧ (∀ v, i ≤ v → v < i + m → u v = s v) ∧ (∀ v, ¬ (i ≤ v ∧ v < i + m) → u v = r v) := by
  intro m
  induction m with
  | zero => intro i r s; exact ⟨r, List.mem_singleton.mpr rfl, fun v a b => by omega, fun v _ => rfl⟩
  | succ m ih =>
    intro i r s
    obtain ⟨u, h1, h2, h3⟩ := ih (i + 1) (upd r i (s i)) s
    refine ⟨u, ?_, fun v a b => ?_, fun v a => ?_⟩
    · show u ∈ rws m (i + 1) (upd r i false) ++ rws m (i + 1) (upd r i true)
      rw [List.mem_append]
      cases hs : s i with
      | false => rw [hs] at h1; exact Or.inl h1
      | true => rw [hs] at h1; exact Or.inr h1
    · by_cases c : v = i
      · subst c; rw [h3 v (by omega), upd_same]
      · exact h2 v (by omega) (by omega)
    · rw [h3 v (by omega), upd_other (by omega)]

theorem row_of (vars : Nat) (s : Nat → Bool) : ∃ k, k < 2 ^ vars ∧ ∀ v, v < vars → rowF vars k v = s v := by
  obtain ⟨u, h1, h2, _⟩ := rws_mem vars 0 zeros s
  rw [← rws_eq] at h1
  obtain ⟨k, hk, rfl⟩ := List.mem_map.mp h1
  exact ⟨k, List.mem_range.mp hk, fun v hv => h2 v (Nat.zero_le _) (by omega)⟩

/-- Two numbers are the same just if their tables are. -/
theorem same_iff {vars : Nat} {ns : List Nd} (G : Good vars ns) {f g : Nat} (hf : f < ns.length) (hg : g < ns.length) : f = g ↔ tabD vars (den ns f) = tabD vars (den ns g) := by
  constructor
  · rintro rfl; rfl
  · intro h
    refine canon G hf hg (fun r => ?_)
    obtain ⟨k, hk, hr⟩ := row_of vars r
    have e : (tabD vars (den ns f))[k]? = (tabD vars (den ns g))[k]? := by rw [h]
    rw [tab_at _ hk, tab_at _ hk] at e
    have e2 : den ns f (rowF vars k) = den ns g (rowF vars k) := by simpa using e
    rw [← den_congr G f f (Nat.le_refl _) hf (fun v _ hv => hr v hv), ← den_congr G g g (Nat.le_refl _) hg (fun v _ hv => hr v hv)]
    exact e2

/-- The row with one variable's value turned. -/
def setRow (vars k i : Nat) (b : Bool) : Nat := if rowF vars k i = b then k else if b then k + 2 ^ (vars - 1 - i) else k - 2 ^ (vars - 1 - i)

theorem bit_parts (k j : Nat) : k = 2 ^ (j + 1) * (k / 2 ^ (j + 1)) + k % 2 ^ (j + 1) := (Nat.div_add_mod _ _).symm

theorem bit_mod (k j : Nat) : k.testBit j = decide (2 ^ j ≤ k % 2 ^ (j + 1)) := by
  have h1 : k.testBit j = (k % 2 ^ (j + 1)).testBit j := by
    rw [Nat.testBit_mod_two_pow]
    simp
  rw [h1]
  have hlt : k % 2 ^ (j + 1) < 2 ^ (j + 1) := Nat.mod_lt _ (Nat.two_pow_pos _)
  have h2 : 2 ^ (j + 1) = 2 ^ j + 2 ^ j := by rw [Nat.pow_succ]; omega
  by_cases c : 2 ^ j ≤ k % 2 ^ (j + 1)
  · obtain ⟨e, he⟩ : ∃ e, k % 2 ^ (j + 1) = 2 ^ j + e := ⟨k % 2 ^ (j + 1) - 2 ^ j, by omega⟩
    rw [he, Nat.testBit_two_pow_add_eq, Nat.testBit_lt_two_pow (by omega)]
    simp
  · rw [Nat.testBit_lt_two_pow (by omega)]
    simp [c]

/-- A digit that is not there, put. -/
theorem add_bit {k j : Nat} (h : k.testBit j = false) (x : Nat) : (k + 2 ^ j).testBit x = if x = j then true else k.testBit x := by
  rw [bit_mod] at h
  have h0 : ¬ 2 ^ j ≤ k % 2 ^ (j + 1) := by simpa using h
  have h2 : 2 ^ (j + 1) = 2 ^ j + 2 ^ j := by rw [Nat.pow_succ]; omega
  have e1 : k + 2 ^ j = 2 ^ (j + 1) * (k / 2 ^ (j + 1)) + (2 ^ j + k % 2 ^ (j + 1)) := by have := bit_parts k j; omega
  have e2 : k.testBit x = (2 ^ (j + 1) * (k / 2 ^ (j + 1)) + k % 2 ^ (j + 1)).testBit x := by rw [← bit_parts k j]
  rw [e1, e2, Nat.testBit_two_pow_mul_add _ (by omega), Nat.testBit_two_pow_mul_add _ (by omega)]
  by_cases c : x = j
  · subst c
    rw [if_pos (by omega), if_pos rfl, Nat.testBit_two_pow_add_eq, Nat.testBit_lt_two_pow (by omega)]
    rfl
  · rw [if_neg c]
    by_cases d : x < j + 1
    · rw [if_pos d, if_pos d, Nat.testBit_two_pow_add_gt (by omega)]
    · rw [if_neg d, if_neg d]

theorem set_row {vars k i : Nat} {b : Bool} (hk : k < 2 ^ vars) (hi : i < vars) : setRow vars k i b < 2 ^ vars ∧ ∀ v, v < vars → rowF vars (setRow vars k i b) v = upd (rowF vars k) i b v := by
  have hb : vars = (vars - 1 - i) + 1 + i := by omega
  have hr := rowF_at (k := k) hi
  have hp : 2 ^ (vars - 1 - i + 1) ≤ 2 ^ vars := Nat.pow_le_pow_right (by omega) (by omega)
  unfold setRow
  by_cases c : rowF vars k i = b
  · rw [if_pos c]
    refine ⟨hk, fun v hv => ?_⟩
    by_cases d : v = i
    · subst d; rw [upd_same, c]
    · rw [upd_other d]
  · rw [if_neg c]
    cases b with
    | true =>
      have h0 : k.testBit (vars - 1 - i) = false := by rw [← hr]; simpa using c
      have h1 := add_bit h0
      refine ⟨?_, fun v hv => ?_⟩
      · show k + 2 ^ (vars - 1 - i) < 2 ^ vars
        refine Nat.lt_pow_two_of_testBit _ (fun x hx => ?_)
        rw [h1 x, if_neg (by omega)]
        exact Nat.testBit_lt_two_pow (Nat.lt_of_lt_of_le hk (Nat.pow_le_pow_right (by omega) hx))
      · show rowF vars (k + 2 ^ (vars - 1 - i)) v = _
        rw [rowF_at hv, h1]
        by_cases d : v = i
        · subst d; rw [if_pos rfl, upd_same]
        · rw [if_neg (by omega), upd_other d, rowF_at hv]
    | false =>
      have h0 : k.testBit (vars - 1 - i) = true := by rw [← hr]; simpa using c
      have hge : 2 ^ (vars - 1 - i) ≤ k := Nat.ge_two_pow_of_testBit h0
      obtain ⟨q, rfl⟩ : ∃ q, k = q + 2 ^ (vars - 1 - i) := ⟨k - 2 ^ (vars - 1 - i), by omega⟩
      have hq : q.testBit (vars - 1 - i) = false := by
        rw [Nat.add_comm, Nat.testBit_two_pow_add_eq] at h0
        simpa using h0
      have h1 := add_bit hq
      refine ⟨by show q + 2 ^ (vars - 1 - i) - 2 ^ (vars - 1 - i) < 2 ^ vars; rw [Nat.add_sub_cancel]; exact Nat.lt_of_le_of_lt (Nat.le_add_right _ _) hk, fun v hv => ?_⟩
      show rowF vars (q + 2 ^ (vars - 1 - i) - 2 ^ (vars - 1 - i)) v = _
      rw [Nat.add_sub_cancel, rowF_at hv]
      by_cases d : v = i
      · subst d; rw [upd_same]; exact hq
      · rw [upd_other d, rowF_at hv, h1, if_neg (by omega)]

/-- A table with a variable set. -/
theorem tab_set {vars i : Nat} {b : Bool} {ns ns' : List Nd} {f x : Nat} (G : Good vars ns) (hf : f < ns.length) (hi : i < vars) (hx : ∀ r, den ns' x r = den ns f (upd r i b)) {k : Nat} (hk : k < 2 ^ vars) :
    (tabD vars (den ns f))[setRow vars k i b]? = some (den ns' x (rowF vars k)) := by
  obtain ⟨h1, h2⟩ := set_row (b := b) hk hi
  rw [tab_at _ h1, hx, den_congr G f f (Nat.le_refl _) hf (fun v _ hv => h2 v hv)]
end Go.Proofs.Ytfohjlepknnleaa.Bd

namespace Go.Proofs.Ytfohjlepknnleaa.Bd
set_option linter.unusedVariables false
set_option linter.unusedSimpArgs false

/-- Of the nodes behind the first 'size' those that are marked have been kept up to the i-th; 'to' tells where. -/
structure Kept (vars size : Nat) (ns : List Nd) (mk : Nat → Prop) (to : Nat → Nat) (i : Nat) (N : List Nd) : Prop where
  good : Good vars N
  back : ∀ g, g < size + i → (g < size ∨ mk (g - size)) → to g < N.length ∧ tst N (to g) = tst ns g ∧ ∀ r, den N (to g) r = den ns g r
  onto : ∀ j, j < N.length → ∃ g, g < size + i ∧ (g < size ∨ mk (g - size)) ∧ to g = j

theorem kept_start {vars : Nat} {S F : List Nd} {mk : Nat → Prop} {to : Nat → Nat} (G : Good vars S) (hto : ∀ g, g < S.length → to g = g) : Kept vars S.length (S ++ F) mk to 0 S := by
  refine ⟨G, fun g hg _ => ?_, fun j hj => ⟨j, by omega, Or.inl hj, hto j hj⟩⟩
  have h : g < S.length := by omega
  rw [hto g h]
  exact ⟨h, (tst_app h).symm, fun r => (den_app G r h).symm⟩

theorem kept_pass {vars size i : Nat} {ns N : List Nd} {mk : Nat → Prop} {to : Nat → Nat} (K : Kept vars size ns mk to i N) (h : ¬ mk i) : Kept vars size ns mk to (i + 1) N := by
  refine ⟨K.good, fun g hg hm => ?_, fun j hj => ?_⟩
  · have : g < size + i := by
      rcases hm with a | a
      · omega
      · by_cases c : g = size + i
        · subst c; rw [show size + i - size = i from by omega] at a; exact absurd a h
        · omega
    exact K.back g this hm
  · obtain ⟨g, a, b, c⟩ := K.onto j hj
    exact ⟨g, by omega, b, c⟩

/-- A node of the ones kept, read back: its number is where one of them went. -/
theorem kept_take {vars size i t lo hi : Nat} {ns N : List Nd} {mk : Nat → Prop} {to : Nat → Nat} (K : Kept vars size ns mk to i N) (G : Good vars ns) (hs : 2 ≤ size)
    (hm : mk i) (hat : ns[size + i]? = some (t, lo, hi)) (hlo : lo < size ∨ mk (lo - size)) (hhi : hi < size ∨ mk (hi - size)) (hto : to (size + i) = N.length) :
    Kept vars size ns mk to (i + 1) (N ++ [(t, to lo, to hi)]) := by
  obtain ⟨h6, hne, h3, h4, h5, h7⟩ := G.node (size + i) t lo hi (by omega) hat
  have hl := lt_of hat
  obtain ⟨l1, l2, l3⟩ := K.back lo h3 hlo
  obtain ⟨k1, k2, k3⟩ := K.back hi h4 hhi
  have hne2 : to lo ≠ to hi := fun e => hne (canon G (by omega) (by omega) (fun r => by rw [← l3, ← k3, e]))
  have hnew : ∀ j, 2 ≤ j → N[j]? ≠ some (t, to lo, to hi) := by
    intro j hj h
    obtain ⟨g, a, b, c⟩ := K.onto j (lt_of h)
    obtain ⟨b1, b2, b3⟩ := K.back g a b
    have : g = size + i := canon G (by omega) hl (fun r => by
      rw [← b3, c, den_step K.good hj h, den_step G (by omega) hat, l3, k3])
    omega
  have P := put_new K.good h6 hne2 l1 k1 (by rw [l2]; exact h5) (by rw [k2]; exact h7) hnew
  refine ⟨P.good, fun g hg hmg => ?_, fun j hj => ?_⟩
  · by_cases c : g = size + i
    · subst c
      rw [hto]
      refine ⟨P.lt, ?_, fun r => ?_⟩
      · rw [tst_at hat]
        exact tst_at (lo := to lo) (hi := to hi) (by rw [List.getElem?_append_right (Nat.le_refl _), Nat.sub_self]; rfl)
      · rw [P.val r, l3, k3, den_step G (by omega) hat]
    · obtain ⟨b1, b2, b3⟩ := K.back g (by omega) hmg
      exact ⟨by rw [List.length_append]; omega, by rw [tst_app b1]; exact b2, fun r => by rw [den_app K.good r b1]; exact b3 r⟩
  · rw [List.length_append, List.length_singleton] at hj
    by_cases c : j < N.length
    · obtain ⟨g, a, b, e⟩ := K.onto j c
      exact ⟨g, by omega, b, e⟩
    · exact ⟨size + i, by omega, Or.inr (by rw [show size + i - size = i from by omega]; exact hm), by rw [hto]; omega⟩

theorem kept_len {vars size : Nat} {ns N : List Nd} {mk : Nat → Prop} {to : Nat → Nat} {i : Nat} (K : Kept vars size ns mk to i N) {f : Nat} (hf : f < size + i) (hm : f < size ∨ mk (f - size)) :
    to f < N.length ∧ ∀ r, den N (to f) r = den ns f r := ⟨(K.back f hf hm).1, (K.back f hf hm).2.2⟩
end Go.Proofs.Ytfohjlepknnleaa.Bd

namespace Go.Proofs.Ytfohjlepknnleaa.Bd
set_option linter.unusedVariables false
set_option linter.unusedSimpArgs false

theorem rowF_out {vars k v : Nat} (h : vars ≤ v) : rowF vars k v = false := by
  unfold rowF fill
  rw [if_neg (by omega)]
  rfl

theorem set_fun {vars k i : Nat} {b : Bool} (hk : k < 2 ^ vars) (hi : i < vars) : rowF vars (setRow vars k i b) = upd (rowF vars k) i b := by
  funext v
  by_cases c : v < vars
  · exact (set_row hk hi).2 v c
  · rw [rowF_out (by omega), upd_other (by omega), rowF_out (by omega)]

/-- A table's row with a variable's value set. -/
theorem tab_set_at {vars k i : Nat} {b : Bool} (P : (Nat → Bool) → Bool) (hk : k < 2 ^ vars) (hi : i < vars) : (tabD vars P)[setRow vars k i b]? = some (P (upd (rowF vars k) i b)) := by
  rw [tab_at P (set_row hk hi).1, set_fun hk hi]

/-- A variable of a row is a digit of its number. -/
theorem digit_at {vars k i : Nat} (h : i < vars) : rowF vars k i = decide ((k >>> (vars - 1 - i)) % 2 = 1) := by
  rw [rowF_at h, Nat.testBit_eq_decide_div_mod_eq, Nat.shiftRight_eq_div_pow]

theorem first_some {vars k : Nat} {P : (Nat → Bool) → Bool} (hk : k < 2 ^ vars) (hp : P (rowF vars k) = true) (hn : ∀ j, j < k → P (rowF vars j) = false) : (rws vars 0 zeros).find? P = some (rowF vars k) := by
  rw [← rws_eq, List.find?_map]
  have : (List.range (2 ^ vars)).find? (P ∘ fun k => fill 0 vars k zeros) = some k := by
    rw [List.find?_range_eq_some]
    refine ⟨hp, List.mem_range.mpr hk, fun j hj => ?_⟩
    have := hn j hj
    show (!(P (rowF vars j))) = true
    rw [this]
    rfl
  rw [this]
  rfl

theorem first_none {vars : Nat} {P : (Nat → Bool) → Bool} (hn : ∀ j, j < 2 ^ vars → P (rowF vars j) = false) : (rws vars 0 zeros).find? P = none := by
  rw [List.find?_eq_none]
  intro x hx
  rw [← rws_eq] at hx
  obtain ⟨k, hk, rfl⟩ := List.mem_map.mp hx
  have := hn k (List.mem_range.mp hk)
  rw [show fill 0 vars k zeros = rowF vars k from rfl, this]
  simp

/-- The first values at which a function of the store is true, as a row of values. -/
def witL (vars : Nat) (ns : List Nd) (f : Nat) : List Bool := (List.range vars).map (witF ns f f)

theorem wit_doc {vars k f : Nat} {ns : List Nd} (G : Good vars ns) (hf : f < ns.length) (hk : k < 2 ^ vars) (hp : den ns f (rowF vars k) = true) (hn : ∀ j, j < k → den ns f (rowF vars j) = false) :
    f ≠ 0 ∧ witL vars ns f = (List.range vars).map (rowF vars k) := by
  have h0 : f ≠ 0 := by
    rintro rfl
    rw [den_zero] at hp
    cases hp
  refine ⟨h0, ?_⟩
  have h1 := find_first G vars 0 f f zeros (by omega) hf h0 (Nat.zero_le _) (Nat.le_refl _)
  rw [first_some hk hp hn] at h1
  have h2 : rowF vars k = wfill ns f f 0 vars zeros := by simpa using h1
  rw [h2]
  unfold witL
  refine List.map_congr_left (fun v hv => ?_)
  unfold wfill
  rw [if_pos ⟨Nat.zero_le _, by have := List.mem_range.mp hv; omega⟩]

theorem wit_doc_none {vars f : Nat} {ns : List Nd} (G : Good vars ns) (hf : f < ns.length) (hn : ∀ j, j < 2 ^ vars → den ns f (rowF vars j) = false) : f = 0 := by
  by_cases h0 : f = 0
  · exact h0
  · have h1 := find_first G vars 0 f f zeros (by omega) hf h0 (Nat.zero_le _) (Nat.le_refl _)
    rw [first_none hn] at h1
    cases h1

/-- At the values that Witness tells a function is true. -/
theorem wit_true {vars f : Nat} {ns : List Nd} (G : Good vars ns) (hf : f < ns.length) (h0 : f ≠ 0) : den ns f (fun v => if v < vars then witF ns f f v else false) = true := by
  have h1 := find_first G vars 0 f f zeros (by omega) hf h0 (Nat.zero_le _) (Nat.le_refl _)
  have h2 := List.find?_some h1
  rw [← h2]
  refine den_congr G f f (Nat.le_refl _) hf (fun v _ hv => ?_)
  unfold wfill
  rw [if_pos hv, if_pos ⟨Nat.zero_le _, by omega⟩]

/-- A function is true somewhere just if it is not the false one. -/
theorem cntD_pos {vars f : Nat} {ns : List Nd} (G : Good vars ns) (hf : f < ns.length) : 0 < cntD vars ns f ↔ f ≠ 0 := by
  constructor
  · rintro h rfl
    rw [cntD_const _ _ 0 (by omega)] at h
    omega
  · intro h0
    have h1 := find_first G vars 0 f f zeros (by omega) hf h0 (Nat.zero_le _) (Nat.le_refl _)
    have h2 := List.find?_some h1
    have h3 := List.mem_of_find?_eq_some h1
    unfold cntD cnt
    rw [List.count_pos_iff]
    exact List.mem_map.mpr ⟨_, h3, h2⟩

/-- What a function and its Not have of all values is all. -/
theorem cnt_not (m i : Nat) (P Q : (Nat → Bool) → Bool) (h : ∀ r, Q r = !P r) (r : Nat → Bool) : cnt m i P r + cnt m i Q r = 2 ^ m := by
  induction m generalizing i r with
  | zero => rw [cnt_zero, cnt_zero, h]; cases P r <;> rfl
  | succ m ih =>
    rw [cnt_succ, cnt_succ, Nat.pow_succ]
    have h1 := ih (i + 1) (upd r i false)
    have h2 := ih (i + 1) (upd r i true)
    omega

/-- Shannon: twice a function's count is its two sides' together. -/
theorem cnt_shannon {vars i : Nat} (hi : i < vars) (P : (Nat → Bool) → Bool) : 2 * cnt vars 0 P zeros = cnt vars 0 (fun r => P (upd r i false)) zeros + cnt vars 0 (fun r => P (upd r i true)) zeros := by
  have upd2 : ∀ (u : Nat → Bool) (a b : Bool), upd (upd u i b) i a = upd u i a := fun u a b => by
    funext v
    unfold upd
    by_cases c : v = i
    · rw [if_pos c, if_pos c]
    · rw [if_neg c, if_neg c, if_neg c]
  refine cnt_half vars 0 i P (fun r => P (upd r i true)) (fun r => P (upd r i false)) zeros (Nat.zero_le _) (by omega) (fun u => ?_) (fun u b => ?_) (fun u b => ?_)
  · have h := upd_self u i
    cases c : u i with
    | true => rw [c] at h; rw [if_pos rfl, h]
    | false => rw [c] at h; rw [if_neg (by simp), h]
  · show P (upd (upd u i b) i true) = _; rw [upd2]
  · show P (upd (upd u i b) i false) = _; rw [upd2]
end Go.Proofs.Ytfohjlepknnleaa.Bd
