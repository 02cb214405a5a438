/- Diagrams as plain lists of nodes (the variable that is tested, low, high): their values, and that two numbers of one function are the same. Conditions: none. Diagrams: a node more; a choice of three; a variable that is set. Conditions: none. Diagrams and the document's tables: rows, how often a function is true, where first. Conditions: none. -/
import Derived.Lib.Hide
namespace Go.Proofs.Ytfohjlepknnleaa.Bd
set_option linter.unusedVariables false
set_option linter.unusedSimpArgs false

abbrev Nd := Nat × Nat × Nat

def ev (ns : List Nd) (r : Nat → Bool) : Nat → Nat → Bool
  | 0, f => f == 1
  | k + 1, f => if f < 2 then f == 1 else match ns[f]? with
    | none => false
    | some n => ev ns r k (if r n.1 then n.2.2 else n.2.1)

/-- What a function is at values of the variables. -/
def den (ns : List Nd) (f : Nat) (r : Nat → Bool) : Bool := ev ns r f f

/-- The variable that a function tests. -/
def tst (ns : List Nd) (f : Nat) : Nat := match ns[f]? with | none => 0 | some n => n.1

structure Good (vars : Nat) (ns : List Nd) : Prop where
  two : 2 ≤ ns.length
  n0 : ns[0]? = some (vars, 0, 0)
  n1 : ns[1]? = some (vars, 1, 1)
  node : ∀ i t lo hi, 2 ≤ i → ns[i]? = some (t, lo, hi) → t < vars ∧ lo ≠ hi ∧ lo < i ∧ hi < i ∧ t < tst ns lo ∧ t < tst ns hi
  inj : ∀ i j n, 2 ≤ i → 2 ≤ j → ns[i]? = some n → ns[j]? = some n → i = j

theorem good_new (vars : Nat) : Good vars [(vars, 0, 0), (vars, 1, 1)] := by
  refine ⟨by simp, rfl, rfl, ?_, ?_⟩
  · intro i t lo hi h2 h
    have := (List.getElem?_eq_some_iff.mp h).1
    simp at this
    omega
  · intro i j n h2 _ h
    have := (List.getElem?_eq_some_iff.mp h).1
    simp at this
    omega

theorem at_of {ns : List Nd} {f : Nat} (h : f < ns.length) : ∃ t lo hi, ns[f]? = some (t, lo, hi) :=
  ⟨_, _, _, List.getElem?_eq_getElem h⟩

theorem lt_of {ns : List Nd} {f : Nat} {n : Nd} (h : ns[f]? = some n) : f < ns.length := (List.getElem?_eq_some_iff.mp h).1

theorem tst_at {ns : List Nd} {f t lo hi : Nat} (h : ns[f]? = some (t, lo, hi)) : tst ns f = t := by
  unfold tst
  rw [h]

theorem ev_one {ns : List Nd} {r : Nat → Bool} {k f : Nat} (h : f < 2) : ev ns r k f = (f == 1) := by
  cases k with
  | zero => rfl
  | succ k => show (if f < 2 then _ else _) = _; rw [if_pos h]

theorem ev_step {ns : List Nd} {r : Nat → Bool} {k f t lo hi : Nat} (h2 : 2 ≤ f) (h : ns[f]? = some (t, lo, hi)) :
    ev ns r (k + 1) f = ev ns r k (if r t then hi else lo) := by
  show (if f < 2 then _ else _) = _
  rw [if_neg (by omega), h]

theorem ev_fuel {vars : Nat} {ns : List Nd} (G : Good vars ns) (r : Nat → Bool) : ∀ (b f k m : Nat), f ≤ b → f < ns.length → f ≤ k → f ≤ m → ev ns r k f = ev ns r m f
  | b, f, k, m, hb, hl, hk, hm => by
    by_cases h2 : f < 2
    · rw [ev_one h2, ev_one h2]
    · obtain ⟨t, lo, hi, h⟩ := at_of hl
      obtain ⟨_, _, h3, h4, _, _⟩ := G.node f t lo hi (by omega) h
      obtain ⟨k, rfl⟩ : ∃ k', k = k' + 1 := ⟨k - 1, by omega⟩
      obtain ⟨m, rfl⟩ : ∃ m', m = m' + 1 := ⟨m - 1, by omega⟩
      obtain ⟨b, rfl⟩ : ∃ b', b = b' + 1 := ⟨b - 1, by omega⟩
      rw [ev_step (by omega) h, ev_step (by omega) h]
      by_cases hr : r t = true
      · rw [if_pos hr]; exact ev_fuel G r b hi k m (by omega) (by omega) (by omega) (by omega)
      · rw [if_neg hr]; exact ev_fuel G r b lo k m (by omega) (by omega) (by omega) (by omega)

theorem den_zero (ns : List Nd) (r : Nat → Bool) : den ns 0 r = false := by unfold den; rw [ev_one (by omega)]; rfl
theorem den_one (ns : List Nd) (r : Nat → Bool) : den ns 1 r = true := by unfold den; rw [ev_one (by omega)]; rfl

theorem den_step {vars : Nat} {ns : List Nd} (G : Good vars ns) {r : Nat → Bool} {f t lo hi : Nat} (h2 : 2 ≤ f) (h : ns[f]? = some (t, lo, hi)) :
    den ns f r = if r t then den ns hi r else den ns lo r := by
  obtain ⟨_, _, h3, h4, _, _⟩ := G.node f t lo hi h2 h
  have hl := lt_of h
  unfold den
  obtain ⟨k, rfl⟩ : ∃ k', f = k' + 1 := ⟨f - 1, by omega⟩
  rw [ev_step h2 h]
  by_cases hr : r t = true
  · rw [if_pos hr, if_pos hr]; exact ev_fuel G r hi hi k hi (by omega) (by omega) (by omega) (by omega)
  · rw [if_neg hr, if_neg hr]; exact ev_fuel G r lo lo k lo (by omega) (by omega) (by omega) (by omega)

theorem tst_le {vars : Nat} {ns : List Nd} (G : Good vars ns) {f : Nat} (hl : f < ns.length) : tst ns f ≤ vars := by
  by_cases h0 : f = 0
  · subst h0; rw [tst_at G.n0]; omega
  by_cases h1 : f = 1
  · subst h1; rw [tst_at G.n1]; omega
  obtain ⟨t, lo, hi, h⟩ := at_of hl
  rw [tst_at h]
  have := (G.node f t lo hi (by omega) h).1
  omega

theorem tst_lt {vars : Nat} {ns : List Nd} (G : Good vars ns) {f : Nat} (h2 : 2 ≤ f) (hl : f < ns.length) : tst ns f < vars := by
  obtain ⟨t, lo, hi, h⟩ := at_of hl
  rw [tst_at h]
  exact (G.node f t lo hi h2 h).1

/-- Values with one variable's set. -/
def upd (r : Nat → Bool) (v : Nat) (b : Bool) : Nat → Bool := fun i => if i = v then b else r i

theorem upd_same (r : Nat → Bool) (v : Nat) (b : Bool) : upd r v b v = b := by unfold upd; rw [if_pos rfl]
theorem upd_other {r : Nat → Bool} {v i : Nat} {b : Bool} (h : i ≠ v) : upd r v b i = r i := by unfold upd; rw [if_neg h]

/-- A function hangs on no variable ahead of the one that it tests. -/
theorem den_congr {vars : Nat} {ns : List Nd} (G : Good vars ns) {r s : Nat → Bool} : ∀ (b f : Nat), f ≤ b → f < ns.length → (∀ v, tst ns f ≤ v → v < vars → r v = s v) → den ns f r = den ns f s
  | b, f, hb, hl, hv => by
    by_cases h0 : f = 0
    · subst h0; rw [den_zero, den_zero]
    by_cases h1 : f = 1
    · subst h1; rw [den_one, den_one]
    obtain ⟨t, lo, hi, h⟩ := at_of hl
    obtain ⟨h6, _, h3, h4, h5, h7⟩ := G.node f t lo hi (by omega) h
    rw [tst_at h] at hv
    obtain ⟨b, rfl⟩ : ∃ b', b = b' + 1 := ⟨b - 1, by omega⟩
    rw [den_step G (by omega) h, den_step G (by omega) h, hv t (Nat.le_refl _) h6,
      den_congr G b lo (by omega) (by omega) (fun v a c => hv v (by omega) c),
      den_congr G b hi (by omega) (by omega) (fun v a c => hv v (by omega) c)]

theorem den_free {vars : Nat} {ns : List Nd} (G : Good vars ns) {r : Nat → Bool} {f v : Nat} {b : Bool} (hl : f < ns.length) (hv : v < tst ns f) : den ns f (upd r v b) = den ns f r :=
  den_congr G f f (Nat.le_refl _) hl (fun i hi _ => upd_other (by omega))

/-- Two numbers of one function are the same. -/
theorem canon_at {vars : Nat} {ns : List Nd} (G : Good vars ns) : ∀ (d f g : Nat), f < ns.length → g < ns.length → vars - tst ns f ≤ d → vars - tst ns g ≤ d → (∀ r, den ns f r = den ns g r) → f = g := by
  intro d
  induction d with
  | zero =>
    intro f g hf hg ht hu he
    have small : ∀ x, x < ns.length → vars - tst ns x ≤ 0 → x < 2 := fun x hx h => by
      by_cases h2 : x < 2
      · exact h2
      · have := tst_lt G (by omega) hx; omega
    have h1 := small f hf ht
    have h2 := small g hg hu
    have h3 := he (fun _ => false)
    have e1 : f = 0 ∨ f = 1 := by omega
    have e2 : g = 0 ∨ g = 1 := by omega
    rcases e1 with rfl | rfl <;> rcases e2 with rfl | rfl
    · rfl
    · rw [den_zero, den_one] at h3; cases h3
    · rw [den_zero, den_one] at h3; cases h3
    · rfl
  | succ d ih =>
    intro f g hf hg ht hu he
    -- one that tests the first variable of all
    have key : ∀ x y, x < ns.length → y < ns.length → vars - tst ns x = d + 1 → vars - tst ns y ≤ d → (∀ r, den ns x r = den ns y r) → False := by
      intro x y hx hy h1 h2 hxy
      have hx2 : 2 ≤ x := by
        by_cases h : x < 2
        · have e1 : x = 0 ∨ x = 1 := by omega
          rcases e1 with rfl | rfl
          · rw [tst_at G.n0] at h1; omega
          · rw [tst_at G.n1] at h1; omega
        · omega
      obtain ⟨t, lo, hi, h⟩ := at_of hx
      rw [tst_at h] at h1
      obtain ⟨h6, hne, h3, h4, h5, h7⟩ := G.node x t lo hi hx2 h
      refine hne (ih lo hi (by omega) (by omega) (by omega) (by omega) (fun r => ?_))
      have a1 := hxy (upd r t false)
      have a2 := hxy (upd r t true)
      rw [den_step G hx2 h, upd_same, if_neg (by simp), den_free G (by omega) h5, den_free G hy (by omega)] at a1
      rw [den_step G hx2 h, upd_same, if_pos rfl, den_free G (by omega) h7, den_free G hy (by omega)] at a2
      rw [a1, a2]
    by_cases c1 : vars - tst ns f ≤ d
    · by_cases c2 : vars - tst ns g ≤ d
      · exact ih f g hf hg c1 c2 he
      · exact (key g f hg hf (by omega) c1 (fun r => (he r).symm)).elim
    · by_cases c2 : vars - tst ns g ≤ d
      · exact (key f g hf hg (by omega) c2 he).elim
      · have two : ∀ x, x < ns.length → ¬ vars - tst ns x ≤ d → 2 ≤ x := fun x hx h => by
          by_cases h2 : x < 2
          · have e1 : x = 0 ∨ x = 1 := by omega
            rcases e1 with rfl | rfl
            · rw [tst_at G.n0] at h; omega
            · rw [tst_at G.n1] at h; omega
          · omega
        have hf2 := two f hf c1
        have hg2 := two g hg c2
        obtain ⟨t, lo, hi, h⟩ := at_of hf
        obtain ⟨u, la, ha, k⟩ := at_of hg
        rw [tst_at h] at ht c1
        rw [tst_at k] at hu c2
        obtain ⟨h6, _, h3, h4, h5, h7⟩ := G.node f t lo hi hf2 h
        obtain ⟨k6, _, k3, k4, k5, k7⟩ := G.node g u la ha hg2 k
        have htu : t = u := by omega
        subst htu
        have e1 : lo = la := ih lo la (by omega) (by omega) (by omega) (by omega) (fun r => by
          have a1 := he (upd r t false)
          rw [den_step G hf2 h, den_step G hg2 k, upd_same, if_neg (by simp), if_neg (by simp), den_free G (by omega) h5, den_free G (by omega) k5] at a1
          exact a1)
        have e2 : hi = ha := ih hi ha (by omega) (by omega) (by omega) (by omega) (fun r => by
          have a1 := he (upd r t true)
          rw [den_step G hf2 h, den_step G hg2 k, upd_same, if_pos rfl, if_pos rfl, den_free G (by omega) h7, den_free G (by omega) k7] at a1
          exact a1)
        subst e1 e2
        exact G.inj f g _ hf2 hg2 h k

theorem canon {vars : Nat} {ns : List Nd} (G : Good vars ns) {f g : Nat} (hf : f < ns.length) (hg : g < ns.length) (he : ∀ r, den ns f r = den ns g r) : f = g :=
  canon_at G vars f g hf hg (by omega) (by omega) he
end Go.Proofs.Ytfohjlepknnleaa.Bd

namespace Go.Proofs.Ytfohjlepknnleaa.Bd
set_option linter.unusedVariables false
set_option linter.unusedSimpArgs false

theorem at_app {ns m : List Nd} {f : Nat} (h : f < ns.length) : (ns ++ m)[f]? = ns[f]? := List.getElem?_append_left h

theorem tst_app {ns m : List Nd} {f : Nat} (h : f < ns.length) : tst (ns ++ m) f = tst ns f := by
  unfold tst
  rw [at_app h]

theorem ev_app {vars : Nat} {ns m : List Nd} (G : Good vars ns) (r : Nat → Bool) : ∀ (k f : Nat), f < ns.length → ev (ns ++ m) r k f = ev ns r k f := by
  intro k
  induction k with
  | zero => intro f _; rfl
  | succ k ih =>
    intro f hl
    by_cases h2 : f < 2
    · rw [ev_one h2, ev_one h2]
    · obtain ⟨t, lo, hi, h⟩ := at_of hl
      obtain ⟨_, _, h3, h4, _, _⟩ := G.node f t lo hi (by omega) h
      rw [ev_step (by omega) h, ev_step (by omega) ((at_app hl).trans h)]
      by_cases hr : r t = true
      · rw [if_pos hr]; exact ih hi (by omega)
      · rw [if_neg hr]; exact ih lo (by omega)

theorem den_app {vars : Nat} {ns m : List Nd} (G : Good vars ns) {f : Nat} (r : Nat → Bool) (hl : f < ns.length) : den (ns ++ m) f r = den ns f r := ev_app G r f f hl

/-- A node more, that there is not yet. -/
theorem good_snoc {vars : Nat} {ns : List Nd} (G : Good vars ns) {t lo hi : Nat} (ht : t < vars) (hne : lo ≠ hi) (h1 : lo < ns.length) (h2 : hi < ns.length)
    (h3 : t < tst ns lo) (h4 : t < tst ns hi) (hnew : ∀ i, 2 ≤ i → ns[i]? ≠ some (t, lo, hi)) : Good vars (ns ++ [(t, lo, hi)]) := by
  have two := G.two
  have cases3 : ∀ {i : Nat} {n : Nd}, (ns ++ [(t, lo, hi)])[i]? = some n → (i < ns.length ∧ ns[i]? = some n) ∨ (i = ns.length ∧ n = (t, lo, hi)) := by
    intro i n h
    by_cases c : i < ns.length
    · exact Or.inl ⟨c, by rw [at_app c] at h; exact h⟩
    · have hl := lt_of h
      rw [List.length_append, List.length_singleton] at hl
      have : i = ns.length := by omega
      subst this
      rw [List.getElem?_append_right (Nat.le_refl _), Nat.sub_self] at h
      exact Or.inr ⟨rfl, by simpa using h.symm⟩
  refine ⟨by rw [List.length_append]; omega, by rw [at_app (by omega)]; exact G.n0, by rw [at_app (by omega)]; exact G.n1, ?_, ?_⟩
  · intro i u la ha hi2 h
    rcases cases3 h with ⟨c, h⟩ | ⟨c, h⟩
    · obtain ⟨a, b, c1, d, e, f⟩ := G.node i u la ha hi2 h
      exact ⟨a, b, c1, d, by rw [tst_app (by omega)]; exact e, by rw [tst_app (by omega)]; exact f⟩
    · obtain ⟨rfl, rfl, rfl⟩ : u = t ∧ la = lo ∧ ha = hi := by simpa using h
      exact ⟨ht, hne, by omega, by omega, by rw [tst_app h1]; exact h3, by rw [tst_app h2]; exact h4⟩
  · intro i j n hi2 hj2 a b
    rcases cases3 a with ⟨c, a⟩ | ⟨c, a⟩ <;> rcases cases3 b with ⟨d, b⟩ | ⟨d, b⟩
    · exact G.inj i j n hi2 hj2 a b
    · exact (hnew i hi2 (by rw [a, b])).elim
    · exact (hnew j hj2 (by rw [b, a])).elim
    · omega

/-- What putting a node answers: the nodes behind it, and its number. -/
structure PutTo (vars : Nat) (ns : List Nd) (t lo hi : Nat) (ns' : List Nd) (x : Nat) : Prop where
  good : Good vars ns'
  lt : x < ns'.length
  val : ∀ r, den ns' x r = if r t then den ns hi r else den ns lo r
  ge : t ≤ tst ns' x

theorem put_same {vars : Nat} {ns : List Nd} (G : Good vars ns) {t lo : Nat} (h : lo < ns.length) (h3 : t < tst ns lo) : PutTo vars ns t lo lo ns lo :=
  ⟨G, h, fun r => by by_cases c : r t = true <;> simp [c], by omega⟩

theorem put_is {vars : Nat} {ns : List Nd} (G : Good vars ns) {t lo hi x : Nat} (h2 : 2 ≤ x) (h : ns[x]? = some (t, lo, hi)) : PutTo vars ns t lo hi ns x :=
  ⟨G, lt_of h, fun r => den_step G h2 h, by rw [tst_at h]; omega⟩

theorem put_new {vars : Nat} {ns : List Nd} (G : Good vars ns) {t lo hi : Nat} (ht : t < vars) (hne : lo ≠ hi) (h1 : lo < ns.length) (h2 : hi < ns.length)
    (h3 : t < tst ns lo) (h4 : t < tst ns hi) (hnew : ∀ i, 2 ≤ i → ns[i]? ≠ some (t, lo, hi)) : PutTo vars ns t lo hi (ns ++ [(t, lo, hi)]) ns.length := by
  have G2 := good_snoc G ht hne h1 h2 h3 h4 hnew
  have two := G.two
  have hat : (ns ++ [(t, lo, hi)])[ns.length]? = some (t, lo, hi) := by
    rw [List.getElem?_append_right (Nat.le_refl _), Nat.sub_self]; rfl
  refine ⟨G2, by rw [List.length_append, List.length_singleton]; omega, fun r => ?_, by rw [tst_at hat]; omega⟩
  rw [den_step G2 two hat, den_app G r h1, den_app G r h2]

/-- What a function is with a variable set, that is not behind the one that it tests. -/
def side (ns : List Nd) (f i : Nat) (b : Bool) : Nat := match ns[f]? with
  | none => 0
  | some n => if i < n.1 then f else if b then n.2.2 else n.2.1

theorem upd_self (r : Nat → Bool) (v : Nat) : upd r v (r v) = r := by
  funext i
  unfold upd
  by_cases h : i = v
  · rw [if_pos h, h]
  · rw [if_neg h]

theorem side_ok {vars : Nat} {ns : List Nd} (G : Good vars ns) {f i : Nat} {b : Bool} (hl : f < ns.length) (hi : i ≤ tst ns f) (hv : i < vars) :
    side ns f i b < ns.length ∧ i < tst ns (side ns f i b) ∧ (∀ r, den ns (side ns f i b) r = den ns f (upd r i b)) := by
  obtain ⟨t, lo, ha, h⟩ := at_of hl
  have hs : side ns f i b = if i < t then f else if b then ha else lo := by unfold side; rw [h]
  rw [tst_at h] at hi
  by_cases c : i < t
  · rw [hs, if_pos c]
    exact ⟨hl, by rw [tst_at h]; exact c, fun r => (den_free G hl (by rw [tst_at h]; exact c)).symm⟩
  · have hit : t = i := by omega
    subst hit
    have h2 : 2 ≤ f := by
      by_cases h0 : f = 0
      · subst h0; have := tst_at G.n0; rw [tst_at h] at this; omega
      by_cases h1 : f = 1
      · subst h1; have := tst_at G.n1; rw [tst_at h] at this; omega
      omega
    obtain ⟨h6, _, h3, h4, h5, h7⟩ := G.node f t lo ha h2 h
    rw [hs, if_neg c]
    cases b with
    | true =>
      refine ⟨by show ha < _; omega, h7, fun r => ?_⟩
      rw [den_step G h2 h, upd_same, if_pos rfl, den_free G (by omega) h7]
      rfl
    | false =>
      refine ⟨by show lo < _; omega, h5, fun r => ?_⟩
      rw [den_step G h2 h, upd_same, if_neg (by simp), den_free G (by omega) h5]
      rfl

/-- What a choice of three answers: g where f is, else h; it tests nothing ahead of i. -/
structure IteTo (vars : Nat) (ns : List Nd) (f g h i : Nat) (ns' : List Nd) (x : Nat) : Prop where
  more : ∃ m, ns' = ns ++ m
  good : Good vars ns'
  lt : x < ns'.length
  val : ∀ r, den ns' x r = if den ns f r then den ns g r else den ns h r
  ge : i ≤ tst ns' x

theorem ite_first {vars : Nat} {ns : List Nd} (G : Good vars ns) {f g h i : Nat} (hg : g < ns.length) (hi : i ≤ tst ns g) (hc : f = 1 ∨ g = h) : IteTo vars ns f g h i ns g := by
  refine ⟨⟨[], (List.append_nil _).symm⟩, G, hg, fun r => ?_, hi⟩
  rcases hc with rfl | rfl
  · rw [den_one]; rfl
  · by_cases c : den ns f r = true <;> simp [c]

theorem ite_second {vars : Nat} {ns : List Nd} (G : Good vars ns) {g h i : Nat} (hh : h < ns.length) (hi : i ≤ tst ns h) : IteTo vars ns 0 g h i ns h :=
  ⟨⟨[], (List.append_nil _).symm⟩, G, hh, fun r => by rw [den_zero]; rfl, hi⟩

theorem ite_itself {vars : Nat} {ns : List Nd} (G : Good vars ns) {f i : Nat} (hf : f < ns.length) (hi : i ≤ tst ns f) : IteTo vars ns f 1 0 i ns f :=
  ⟨⟨[], (List.append_nil _).symm⟩, G, hf, fun r => by rw [den_one, den_zero]; by_cases c : den ns f r = true <;> simp [c], hi⟩

/-- A choice by its two sides. -/
theorem ite_step {vars : Nat} {ns n1 n2 n3 : List Nd} (G : Good vars ns) {f g h i x0 x1 x : Nat} (hv : i < vars) (hf : f < ns.length) (hg : g < ns.length) (hh : h < ns.length)
    (tf : i ≤ tst ns f) (tg : i ≤ tst ns g) (th : i ≤ tst ns h)
    (H0 : IteTo vars ns (side ns f i false) (side ns g i false) (side ns h i false) (i + 1) n1 x0)
    (H1 : IteTo vars n1 (side ns f i true) (side ns g i true) (side ns h i true) (i + 1) n2 x1)
    (hm : ∃ m, n3 = n2 ++ m) (P : PutTo vars n2 i x0 x1 n3 x) : IteTo vars ns f g h i n3 x := by
  obtain ⟨m1, e1⟩ := H0.more
  obtain ⟨m2, e2⟩ := H1.more
  obtain ⟨m3, e3⟩ := hm
  obtain ⟨f1, f2, f3⟩ := side_ok (b := false) G hf tf hv
  obtain ⟨g1, g2, g3⟩ := side_ok (b := false) G hg tg hv
  obtain ⟨h1, h2, h3⟩ := side_ok (b := false) G hh th hv
  obtain ⟨F1, F2, F3⟩ := side_ok (b := true) G hf tf hv
  obtain ⟨G1, G2, G3⟩ := side_ok (b := true) G hg tg hv
  obtain ⟨K1, K2, K3⟩ := side_ok (b := true) G hh th hv
  refine ⟨⟨m1 ++ m2 ++ m3, by rw [e3, e2, e1]; simp⟩, P.good, P.lt, fun r => ?_, P.ge⟩
  rw [P.val r]
  by_cases c : r i = true
  · rw [if_pos c, H1.val r, e1, den_app G r F1, den_app G r G1, den_app G r K1, F3, G3, K3]
    have hr : upd r i true = r := by have := upd_self r i; rw [c] at this; exact this
    rw [hr]
  · have c2 : r i = false := by simpa using c
    rw [if_neg c]
    have hr : upd r i false = r := by have := upd_self r i; rw [c2] at this; exact this
    have h0 := H0.val r
    rw [f3, g3, h3, hr] at h0
    rw [e2, den_app H0.good r H0.lt]
    exact h0

/-- What a function is with a variable set. -/
structure SetTo (vars : Nat) (ns : List Nd) (f v : Nat) (b : Bool) (i : Nat) (ns' : List Nd) (x : Nat) : Prop where
  more : ∃ m, ns' = ns ++ m
  good : Good vars ns'
  lt : x < ns'.length
  val : ∀ r, den ns' x r = den ns f (upd r v b)
  ge : i ≤ tst ns' x

theorem set_far {vars : Nat} {ns : List Nd} (G : Good vars ns) {f v i : Nat} {b : Bool} (hf : f < ns.length) (hv : v < tst ns f) (hi : i ≤ tst ns f) : SetTo vars ns f v b i ns f :=
  ⟨⟨[], (List.append_nil _).symm⟩, G, hf, fun r => (den_free G hf hv).symm, hi⟩

theorem set_here {vars : Nat} {ns : List Nd} (G : Good vars ns) {f v i lo hi : Nat} {b : Bool} (h2 : 2 ≤ f) (h : ns[f]? = some (v, lo, hi)) (hi2 : i ≤ v) : SetTo vars ns f v b i ns (if b then hi else lo) := by
  obtain ⟨h6, _, h3, h4, h5, h7⟩ := G.node f v lo hi h2 h
  have hl := lt_of h
  refine ⟨⟨[], (List.append_nil _).symm⟩, G, ?_, fun r => ?_, ?_⟩
  · cases b
    · show lo < _; omega
    · show hi < _; omega
  · rw [den_step G h2 h, upd_same]
    cases b
    · rw [if_neg (by simp), if_neg (by simp), den_free G (by omega) h5]
    · rw [if_pos rfl, if_pos rfl, den_free G (by omega) h7]
  · cases b
    · show i ≤ tst ns lo; omega
    · show i ≤ tst ns hi; omega

theorem set_step {vars : Nat} {ns n1 n2 n3 : List Nd} (G : Good vars ns) {f v t lo hi x0 x1 x i : Nat} {b : Bool} (h2 : 2 ≤ f) (h : ns[f]? = some (t, lo, hi)) (hv : t < v) (hi2 : i ≤ t)
    (H0 : SetTo vars ns lo v b (t + 1) n1 x0) (H1 : SetTo vars n1 hi v b (t + 1) n2 x1)
    (hm : ∃ m, n3 = n2 ++ m) (P : PutTo vars n2 t x0 x1 n3 x) : SetTo vars ns f v b i n3 x := by
  obtain ⟨m1, e1⟩ := H0.more
  obtain ⟨m2, e2⟩ := H1.more
  obtain ⟨m3, e3⟩ := hm
  obtain ⟨h6, _, h3, h4, h5, h7⟩ := G.node f t lo hi h2 h
  have hl := lt_of h
  refine ⟨⟨m1 ++ m2 ++ m3, by rw [e3, e2, e1]; simp⟩, P.good, P.lt, fun r => ?_, Nat.le_trans hi2 P.ge⟩
  rw [P.val r, den_step G h2 h, upd_other (by omega)]
  by_cases c : r t = true
  · rw [if_pos c, if_pos c, H1.val r, e1, den_app G _ (by omega)]
  · have h0 := H0.val r
    rw [if_neg c, if_neg c, e2, den_app H0.good r H0.lt]
    exact h0
end Go.Proofs.Ytfohjlepknnleaa.Bd

namespace Go.Proofs.Ytfohjlepknnleaa.Bd
set_option linter.unusedVariables false
set_option linter.unusedSimpArgs false

/-- Values: those of the m variables from i on are k's digits, the highest first. -/
def fill (i m k : Nat) (r : Nat → Bool) : Nat → Bool := fun v => if i ≤ v ∧ v < i + m then k.testBit (i + m - 1 - v) else r v

def zeros : Nat → Bool := fun _ => false
/-- The values of all variables in a row of a table. -/
def rowF (vars k : Nat) : Nat → Bool := fill 0 vars k zeros

theorem rowF_at {vars k i : Nat} (h : i < vars) : rowF vars k i = k.testBit (vars - 1 - i) := by
  unfold rowF fill
  rw [if_pos ⟨Nat.zero_le _, by omega⟩, Nat.zero_add]

/-- All values of m variables from i on, in a table's order. -/
def rws : Nat → Nat → (Nat → Bool) → List (Nat → Bool)
  | 0, _, r => [r]
  | m + 1, i, r => rws m (i + 1) (upd r i false) ++ rws m (i + 1) (upd r i true)

theorem fill_low {i m k : Nat} {r : Nat → Bool} (h : k < 2 ^ m) : fill i (m + 1) k r = fill (i + 1) m k (upd r i false) := by
  funext v
  unfold fill upd
  by_cases c : v = i
  · subst c
    rw [if_pos ⟨Nat.le_refl _, by omega⟩, if_neg (by omega), if_pos rfl, show v + (m + 1) - 1 - v = m from by omega]
    exact Nat.testBit_lt_two_pow h
  · by_cases d : i + 1 ≤ v ∧ v < i + 1 + m
    · rw [if_pos (by omega), if_pos d]; congr 1; omega
    · rw [if_neg (by omega), if_neg d, if_neg c]

theorem fill_high {i m k : Nat} {r : Nat → Bool} (h : k < 2 ^ m) : fill i (m + 1) (2 ^ m + k) r = fill (i + 1) m k (upd r i true) := by
  funext v
  unfold fill upd
  by_cases c : v = i
  · subst c
    rw [if_pos ⟨Nat.le_refl _, by omega⟩, if_neg (by omega), if_pos rfl, show v + (m + 1) - 1 - v = m from by omega, Nat.testBit_two_pow_add_eq, Nat.testBit_lt_two_pow h]
    rfl
  · by_cases d : i + 1 ≤ v ∧ v < i + 1 + m
    · rw [if_pos (by omega), if_pos d, show i + (m + 1) - 1 - v = i + 1 + m - 1 - v from by omega]
      exact Nat.testBit_two_pow_add_gt (by omega) k
    · rw [if_neg (by omega), if_neg d, if_neg c]

theorem rws_eq : ∀ (m i : Nat) (r : Nat → Bool), (List.range (2 ^ m)).map (fun k => fill i m k r) = rws m i r := by
  intro m
  induction m with
  | zero =>
    intro i r
    show [fill i 0 0 r] = [r]
    congr 1
    funext v
    unfold fill
    rw [if_neg (by omega)]
  | succ m ih =>
    intro i r
    rw [show 2 ^ (m + 1) = 2 ^ m + 2 ^ m from by rw [Nat.pow_succ]; omega, List.range_add, List.map_append, List.map_map]
    show _ = rws m (i + 1) (upd r i false) ++ rws m (i + 1) (upd r i true)
    rw [← ih, ← ih]
    congr 1
    · exact List.map_congr_left (fun k hk => fill_low (List.mem_range.mp hk))
    · exact List.map_congr_left (fun k hk => fill_high (List.mem_range.mp hk))

/-- A function's table. -/
def tabD (vars : Nat) (P : (Nat → Bool) → Bool) : List Bool := (List.range (2 ^ vars)).map (fun k => P (rowF vars k))

theorem tabD_rws (vars : Nat) (P : (Nat → Bool) → Bool) : tabD vars P = (rws vars 0 zeros).map P := by
  unfold tabD
  rw [← rws_eq, List.map_map]
  rfl

/-- How often a function is true. -/
def cnt (m i : Nat) (P : (Nat → Bool) → Bool) (r : Nat → Bool) : Nat := ((rws m i r).map P).count true

theorem cnt_zero (i : Nat) (P : (Nat → Bool) → Bool) (r : Nat → Bool) : cnt 0 i P r = if P r = true then 1 else 0 := by
  unfold cnt
  show [P r].count true = _
  cases P r <;> rfl

theorem cnt_succ (m i : Nat) (P : (Nat → Bool) → Bool) (r : Nat → Bool) : cnt (m + 1) i P r = cnt m (i + 1) P (upd r i false) + cnt m (i + 1) P (upd r i true) := by
  unfold cnt
  show (List.map P (rws m (i + 1) (upd r i false) ++ rws m (i + 1) (upd r i true))).count true = _
  rw [List.map_append, List.count_append]

theorem cnt_congr : ∀ (m i : Nat) (P Q : (Nat → Bool) → Bool) (r s : Nat → Bool), (∀ u v : Nat → Bool, (∀ x, ¬ (i ≤ x ∧ x < i + m) → u x = r x) → (∀ x, ¬ (i ≤ x ∧ x < i + m) → v x = s x) → (∀ x, i ≤ x ∧ x < i + m → u x = v x) → P u = Q v) → cnt m i P r = cnt m i Q s := by
  intro m
  induction m with
  | zero =>
    intro i P Q r s h
    rw [cnt_zero, cnt_zero, h r s (fun _ _ => rfl) (fun _ _ => rfl) (fun x a => by omega)]
  | succ m ih =>
    intro i P Q r s h
    rw [cnt_succ, cnt_succ]
    have go : ∀ b : Bool, cnt m (i + 1) P (upd r i b) = cnt m (i + 1) Q (upd s i b) := fun b => ih (i + 1) P Q _ _ (fun u v hu hv huv => h u v
      (fun x hx => by rw [hu x (by omega), upd_other (by omega)])
      (fun x hx => by rw [hv x (by omega), upd_other (by omega)])
      (fun x hx => by
        by_cases c : x = i
        · subst c; rw [hu x (by omega), hv x (by omega), upd_same, upd_same]
        · exact huv x (by omega)))
    rw [go false, go true]

/-- A function that goes on by one variable's value is true as often as the half of both. -/
theorem cnt_half : ∀ (m i t : Nat) (P A B : (Nat → Bool) → Bool) (r : Nat → Bool), i ≤ t → t < i + m →
    (∀ u, P u = if u t then A u else B u) → (∀ u b, A (upd u t b) = A u) → (∀ u b, B (upd u t b) = B u) →
    2 * cnt m i P r = cnt m i B r + cnt m i A r := by
  intro m
  induction m with
  | zero => intro i t P A B r h1 h2; omega
  | succ m ih =>
    intro i t P A B r h1 h2 hP hA hB
    rw [cnt_succ, cnt_succ, cnt_succ]
    by_cases c : i = t
    · subst c
      have free : ∀ (Q : (Nat → Bool) → Bool), (∀ u b, Q (upd u i b) = Q u) → cnt m (i + 1) Q (upd r i false) = cnt m (i + 1) Q (upd r i true) := fun Q hQ =>
        cnt_congr m (i + 1) Q Q _ _ (fun u v hu hv huv => by
          have h3 : upd u i true = v := by
            funext x
            by_cases d : x = i
            · subst d; rw [upd_same, hv x (by omega), upd_same]
            · rw [upd_other d]
              by_cases d2 : i + 1 ≤ x ∧ x < i + 1 + m
              · exact huv x d2
              · rw [hu x d2, hv x d2, upd_other d, upd_other d]
          rw [← hQ u true, h3])
      have one : ∀ (Q : (Nat → Bool) → Bool) (b : Bool), (∀ u : Nat → Bool, u i = b → P u = Q u) → cnt m (i + 1) P (upd r i b) = cnt m (i + 1) Q (upd r i b) := fun Q b hQ =>
        cnt_congr m (i + 1) P Q _ _ (fun u v hu hv huv => by
          have h3 : u = v := by
            funext x
            by_cases d2 : i + 1 ≤ x ∧ x < i + 1 + m
            · exact huv x d2
            · rw [hu x d2, hv x d2]
          rw [← h3]
          exact hQ u (by rw [hu i (by omega), upd_same]))
      have e1 := one B false (fun u hu => by rw [hP, hu]; rfl)
      have e2 := one A true (fun u hu => by rw [hP, hu]; rfl)
      have e3 := free A hA
      have e4 := free B hB
      omega
    · have h3 := ih (i + 1) t P A B (upd r i false) (by omega) (by omega) hP hA hB
      have h4 := ih (i + 1) t P A B (upd r i true) (by omega) (by omega) hP hA hB
      omega

theorem cnt_none (m i : Nat) (r : Nat → Bool) : cnt m i (fun _ => false) r = 0 := by
  induction m generalizing i r with
  | zero => rw [cnt_zero]; rfl
  | succ m ih => rw [cnt_succ, ih, ih]

theorem cnt_all (m i : Nat) (r : Nat → Bool) : cnt m i (fun _ => true) r = 2 ^ m := by
  induction m generalizing i r with
  | zero => rw [cnt_zero]; rfl
  | succ m ih => rw [cnt_succ, ih, ih, Nat.pow_succ]; omega

/-- How often one of a store's functions is true. -/
def cntD (vars : Nat) (ns : List Nd) (f : Nat) : Nat := cnt vars 0 (den ns f) zeros

theorem cntD_const (vars : Nat) (ns : List Nd) (b : Nat) (h : b < 2) : cntD vars ns b = b * 2 ^ vars := by
  unfold cntD
  have e : b = 0 ∨ b = 1 := by omega
  rcases e with rfl | rfl
  · rw [show den ns 0 = fun _ => false from funext (den_zero ns), cnt_none, Nat.zero_mul]
  · rw [show den ns 1 = fun _ => true from funext (den_one ns), cnt_all, Nat.one_mul]

theorem cntD_node {vars : Nat} {ns : List Nd} (G : Good vars ns) {f t lo hi : Nat} (h2 : 2 ≤ f) (h : ns[f]? = some (t, lo, hi)) :
    cntD vars ns f = (cntD vars ns lo + cntD vars ns hi) / 2 := by
  obtain ⟨h6, _, h3, h4, h5, h7⟩ := G.node f t lo hi h2 h
  have hl := lt_of h
  have := cnt_half vars 0 t (den ns f) (den ns hi) (den ns lo) zeros (by omega) (by omega) (fun u => den_step G h2 h) (fun u b => den_free G (by omega) h7) (fun u b => den_free G (by omega) h5)
  unfold cntD
  omega

theorem cnt_le (m i : Nat) (P : (Nat → Bool) → Bool) (r : Nat → Bool) : cnt m i P r ≤ 2 ^ m := by
  induction m generalizing i r with
  | zero => rw [cnt_zero]; by_cases c : P r = true <;> simp [c]
  | succ m ih => rw [cnt_succ, Nat.pow_succ]; have := ih (i + 1) (upd r i false); have := ih (i + 1) (upd r i true); omega

theorem cntD_tab (vars : Nat) (ns : List Nd) (f : Nat) : (tabD vars (den ns f)).count true = cntD vars ns f := by
  unfold cntD cnt
  rw [tabD_rws]

/-! ### Where first -/

/-- The values on a function's way to the first row at which it is true. -/
def witF (ns : List Nd) : Nat → Nat → Nat → Bool
  | 0, _, _ => false
  | k + 1, f, v => if f < 2 then false else match ns[f]? with
    | none => false
    | some n => if n.2.1 = 0 then (if v = n.1 then true else witF ns k n.2.2 v) else witF ns k n.2.1 v

theorem wit_one {ns : List Nd} {k f v : Nat} (h : f < 2) : witF ns k f v = false := by
  cases k with
  | zero => rfl
  | succ k => show (if f < 2 then _ else _) = _; rw [if_pos h]

theorem wit_step {ns : List Nd} {k f v t lo hi : Nat} (h2 : 2 ≤ f) (h : ns[f]? = some (t, lo, hi)) :
    witF ns (k + 1) f v = if lo = 0 then (if v = t then true else witF ns k hi v) else witF ns k lo v := by
  show (if f < 2 then _ else _) = _
  rw [if_neg (by omega), h]

/-- It sets no variable ahead of the one that the function tests. -/
theorem wit_far {vars : Nat} {ns : List Nd} (G : Good vars ns) : ∀ (k f v : Nat), f < ns.length → v < tst ns f → witF ns k f v = false := by
  intro k
  induction k with
  | zero => intro f v _ _; rfl
  | succ k ih =>
    intro f v hl hv
    by_cases h2 : f < 2
    · exact wit_one h2
    · obtain ⟨t, lo, hi, h⟩ := at_of hl
      obtain ⟨h6, _, h3, h4, h5, h7⟩ := G.node f t lo hi (by omega) h
      rw [tst_at h] at hv
      rw [wit_step (by omega) h]
      by_cases c : lo = 0
      · rw [if_pos c, if_neg (by omega)]; exact ih hi v (by omega) (by omega)
      · rw [if_neg c]; exact ih lo v (by omega) (by omega)

theorem find_app {α : Type} (p : α → Bool) (a b : List α) : (a ++ b).find? p = match a.find? p with | some x => some x | none => b.find? p := by
  rw [List.find?_append]
  cases a.find? p <;> rfl

/-- Values with those from i on as a function's first row has them. -/
def wfill (ns : List Nd) (k f i m : Nat) (r : Nat → Bool) : Nat → Bool := fun v => if i ≤ v ∧ v < i + m then witF ns k f v else r v

theorem find_zero (ns : List Nd) : ∀ (m i : Nat) (r : Nat → Bool), (rws m i r).find? (den ns 0) = none := by
  intro m
  induction m with
  | zero => intro i r; show List.find? _ [r] = none; simp [den_zero]
  | succ m ih =>
    intro i r
    show List.find? _ (rws m (i + 1) (upd r i false) ++ rws m (i + 1) (upd r i true)) = none
    rw [find_app, ih, ih]

/-- The first row at which a function that is not the false one is true. -/
theorem find_first {vars : Nat} {ns : List Nd} (G : Good vars ns) : ∀ (m i k f : Nat) (r : Nat → Bool), i + m = vars → f < ns.length → f ≠ 0 → i ≤ tst ns f → f ≤ k →
    (rws m i r).find? (den ns f) = some (wfill ns k f i m r) := by
  intro m
  induction m with
  | zero =>
    intro i k f r him hl h0 hi hk
    have h2 : f < 2 := by
      by_cases h : f < 2
      · exact h
      · have := tst_lt G (by omega) hl; omega
    obtain rfl : f = 1 := by omega
    have e : wfill ns k 1 i 0 r = r := by
      funext v
      unfold wfill
      rw [if_neg (by omega)]
    rw [e]
    show List.find? _ [r] = some r
    simp [den_one]
  | succ m ih =>
    intro i k f r him hl h0 hi hk
    show List.find? _ (rws m (i + 1) (upd r i false) ++ rws m (i + 1) (upd r i true)) = _
    rw [find_app]
    by_cases c : i < tst ns f
    · rw [ih (i + 1) k f (upd r i false) (by omega) hl h0 (by omega) hk]
      show some _ = some _
      congr 1
      funext v
      unfold wfill
      by_cases d : v = i
      · subst d; rw [if_neg (by omega), if_pos (by omega), upd_same, wit_far G k f v hl c]
      · by_cases d2 : i + 1 ≤ v ∧ v < i + 1 + m
        · rw [if_pos d2, if_pos (by omega)]
        · rw [if_neg d2, if_neg (by omega), upd_other d]
    · have h2 : 2 ≤ f := by
        by_cases h : f < 2
        · obtain rfl : f = 1 := by omega
          rw [tst_at G.n1] at c
          omega
        · omega
      obtain ⟨t, lo, ha, h⟩ := at_of hl
      obtain ⟨h6, hne, h3, h4, h5, h7⟩ := G.node f t lo ha h2 h
      rw [tst_at h] at hi c
      obtain rfl : t = i := by omega
      obtain ⟨k, rfl⟩ : ∃ k', k = k' + 1 := ⟨k - 1, by omega⟩
      -- each half is one of the two sides
      have half : ∀ (b : Bool) (x : Nat), (∀ u : Nat → Bool, u t = b → den ns f u = den ns x u) → (rws m (t + 1) (upd r t b)).find? (den ns f) = (rws m (t + 1) (upd r t b)).find? (den ns x) := by
        intro b x hx
        have key : ∀ (n j : Nat) (s : Nat → Bool), t < j → s t = b → (rws n j s).find? (den ns f) = (rws n j s).find? (den ns x) := by
          intro n
          induction n with
          | zero => intro j s hj hs; show List.find? _ [s] = List.find? _ [s]; simp only [List.find?_cons, List.find?_nil, hx s hs]
          | succ n ih2 =>
            intro j s hj hs
            show List.find? _ (rws n (j + 1) (upd s j false) ++ rws n (j + 1) (upd s j true)) = List.find? _ (rws n (j + 1) (upd s j false) ++ rws n (j + 1) (upd s j true))
            rw [find_app, find_app, ih2 (j + 1) (upd s j false) (by omega) (by rw [upd_other (by omega)]; exact hs), ih2 (j + 1) (upd s j true) (by omega) (by rw [upd_other (by omega)]; exact hs)]
        exact key m (t + 1) _ (by omega) (upd_same r t b)
      rw [half false lo (fun u hu => by rw [den_step G h2 h, hu]; rfl), half true ha (fun u hu => by rw [den_step G h2 h, hu]; rfl)]
      have fin : ∀ (b : Bool) (x : Nat), (∀ v, t < v → witF ns (k + 1) f v = witF ns k x v) → witF ns (k + 1) f t = b →
          wfill ns k x (t + 1) m (upd r t b) = wfill ns (k + 1) f t (m + 1) r := fun b x h8 h9 => by
        funext v
        unfold wfill
        by_cases d : v = t
        · subst d; rw [if_neg (by omega), if_pos (by omega), upd_same, h9]
        · by_cases d2 : t + 1 ≤ v ∧ v < t + 1 + m
          · rw [if_pos d2, if_pos (by omega), h8 v (by omega)]
          · rw [if_neg d2, if_neg (by omega), upd_other d]
      by_cases c0 : lo = 0
      · subst c0
        rw [find_zero, ih (t + 1) k ha (upd r t true) (by omega) (by omega) (fun e => hne e.symm) (by omega) (by omega)]
        show some _ = some _
        rw [fin true ha (fun v hv => by rw [wit_step h2 h, if_pos rfl, if_neg (by omega)]) (by rw [wit_step h2 h, if_pos rfl, if_pos rfl])]
      · rw [ih (t + 1) k lo (upd r t false) (by omega) (by omega) c0 (by omega) (by omega)]
        show some _ = some _
        rw [fin false lo (fun v hv => by rw [wit_step h2 h, if_neg c0]) (by rw [wit_step h2 h, if_neg c0]; exact wit_far G k lo t (by omega) h5)]
end Go.Proofs.Ytfohjlepknnleaa.Bd
