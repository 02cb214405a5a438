/- What layer prog reads of tokens, as plain functions. Conditions: none. -/
import Derived.Test.YtobkcdkffcenbaaGreatDoorCa10
import Derived.Test.YtobkcdkffcenbaaGreatDoorCb16
import Derived.Test.YtobkcdkffcenbaaGreatDoorCb17
set_option linter.unusedVariables false
set_option linter.unusedSimpArgs false
namespace Go.Proofs.YtobkcdkffcenbaaGreatDoor.Pg
open Go.Proofs.YtobkcdkffcenbaaGreatDoor.Tr Go.Proofs.YtobkcdkffcenbaaGreatDoor.Ex
structure Prm where
  name : Bytes
  ty : Int
deriving DecidableEq
structure Eqn where
  name : Bytes
  e : List Nd
deriving DecidableEq
structure Itm where
  kind : Int
  name : Bytes
  ty : Int
  e : List Nd
  f : List Nd
  args : List (List Nd)
deriving DecidableEq
structure Unt where
  contract : Bool
  name : Bytes
  ins : List Prm
  out : Prm
  vars : List Prm
  eqs : List Eqn
  items : List Itm
deriving DecidableEq
structure Prg where
  units : List Unt
  main : Bytes
  back : Bytes
deriving DecidableEq
def wNode : Bytes := [110, 111, 100, 101]
def wContract : Bytes := [99, 111, 110, 116, 114, 97, 99, 116]
def wAssume : Bytes := [97, 115, 115, 117, 109, 101]
def wGhost : Bytes := [103, 104, 111, 115, 116]
def wMode : Bytes := [109, 111, 100, 101]
def wImport : Bytes := [105, 109, 112, 111, 114, 116]
end Go.Proofs.YtobkcdkffcenbaaGreatDoor.Pg

/- What types expressions are of, as plain functions of trees. Conditions: none. -/
namespace Go.Proofs.YtobkcdkffcenbaaGreatDoor.Ty
open Go.Proofs.YtobkcdkffcenbaaGreatDoor.Tr
open Go.Proofs.YtobkcdkffcenbaaGreatDoor.Pg (Prm Unt)
structure Env where
  str : Bytes → Option Int
  nod : Bytes → Option (List Int × Int)
abbrev Ty := Int × List Int
def shapeY (op : Int) (l : List Int) : Except Int Int :=
  if op = 10 ∨ op = 11 then (if l.getD 0 0 = l.getD 1 0 then .ok 1 else .error 10)
  else if op = 19 then (if l.getD 0 0 = l.getD 1 0 then .ok (l.getD 0 0) else .error 10)
  else if op = 21 then .ok (l.getD 0 0)
  else if op = 26 then (if l.getD 0 0 = 1 ∧ l.getD 1 0 = l.getD 2 0 then .ok (l.getD 1 0) else .error 10)
  else if op = 5 ∨ (14 ≤ op ∧ op ≤ 18) then (if l.all (· == 2) then .ok 2 else .error 10)
  else if op = 12 ∨ op = 13 then (if l.all (· == 2) then .ok 1 else .error 10)
  else (if l.all (· == 1) then .ok 1 else .error 10)
def argsY : List Ty → List Int
  | [] => []
  | [a] => [a.1]
  | b :: a :: _ => b.2 ++ [a.1]
def callY (s : Option (List Int × Int)) (a : List Int) : Except Int Ty :=
  match s with
  | none => .error 14
  | some (ins, out) => if ins.length ≠ a.length then .error 14 else if ins ≠ a then .error 10 else .ok (out, [])
def varY (s : Option Int) : Except Int Ty := match s with | none => .error 8 | some t => .ok (t, [])
def stepY (E : Env) (x : Lab) (l : List Ty) : Except Int Ty :=
  if x.op = 1 then .ok (2, []) else if x.op = 2 then .ok (1, [])
  else if x.op = 28 then .ok (0, argsY l)
  else if x.op = 3 then varY (E.str x.name)
  else if x.op = 27 then callY (E.nod x.name) (l.headD (0, [])).2
  else (shapeY x.op (l.map (·.1))).map fun t => (t, [])
def tyT (E : Env) : T → Except Int Ty
  | .l0 x => stepY E x []
  | .l1 x p => (tyT E p).bind fun a => stepY E x [a]
  | .l2 x p q => (tyT E p).bind fun a => (tyT E q).bind fun b => stepY E x [a, b]
  | .l3 x p q r => (tyT E p).bind fun a => (tyT E q).bind fun b => (tyT E r).bind fun c => stepY E x [a, b, c]
noncomputable def tyM (E : Env) (e : List Nd) : Int × Int := if mayB e = true then (match tyT E (root e) with | .ok r => (r.1, 0) | .error c => (0, c)) else (0, 1)
theorem bind_ok {α β : Type} {x : Except Int α} {f : α → Except Int β} {b : β} (h : x.bind f = .ok b) : ∃ a, x = .ok a ∧ f a = .ok b := by
  cases x with
  | error c => cases h
  | ok a => exact ⟨a, rfl, h⟩
theorem bind_of {α β : Type} {x : Except Int α} {f : α → Except Int β} {a : α} (h : x = .ok a) : x.bind f = f a := by subst h; rfl
theorem shape_err (op : Int) (l : List Int) (c : Int) (h : shapeY op l = .error c) : c = 10 := by
  unfold shapeY at h
  repeat (first | (split at h) | (injection h with h; exact h.symm) | (cases h))
theorem step_err (E : Env) (x : Lab) (l : List Ty) (c : Int) (h : stepY E x l = .error c) : c = 8 ∨ c = 10 ∨ c = 14 := by
  unfold stepY at h
  split at h
  · cases h
  split at h
  · cases h
  split at h
  · cases h
  split at h
  · unfold varY at h
    split at h
    · injection h with h; exact .inl h.symm
    · cases h
  split at h
  · unfold callY at h
    split at h
    · injection h with h; exact .inr (.inr h.symm)
    · split at h
      · injection h with h; exact .inr (.inr h.symm)
      · split at h
        · injection h with h; exact .inr (.inl h.symm)
        · cases h
  · cases hs : shapeY x.op (l.map (·.1)) with
    | error d =>
      rw [hs] at h
      injection h with h
      subst h
      exact .inr (.inl (shape_err _ _ _ hs))
    | ok t => rw [hs] at h; cases h
theorem tyT_err (E : Env) : ∀ (t : T) (c : Int), tyT E t = .error c → c = 8 ∨ c = 10 ∨ c = 14
  | .l0 x, c, h => step_err E x [] c h
  | .l1 x p, c, h => by
    cases hp : tyT E p with
    | error d =>
      have : tyT E (.l1 x p) = .error d := by show (tyT E p).bind _ = _; rw [hp]; rfl
      rw [this] at h; injection h with h; subst h; exact tyT_err E p d hp
    | ok a => exact step_err E x [a] c (by have : tyT E (.l1 x p) = stepY E x [a] := by (show (tyT E p).bind _ = _; rw [hp]; rfl)
                                           rw [this] at h; exact h)
  | .l2 x p q, c, h => by
    cases hp : tyT E p with
    | error d =>
      have : tyT E (.l2 x p q) = .error d := by show (tyT E p).bind _ = _; rw [hp]; rfl
      rw [this] at h; injection h with h; subst h; exact tyT_err E p d hp
    | ok a =>
      cases hq : tyT E q with
      | error d =>
        have : tyT E (.l2 x p q) = .error d := by show (tyT E p).bind _ = _; rw [hp]; show (tyT E q).bind _ = _; rw [hq]; rfl
        rw [this] at h; injection h with h; subst h; exact tyT_err E q d hq
      | ok b =>
        have : tyT E (.l2 x p q) = stepY E x [a, b] := by show (tyT E p).bind _ = _; rw [hp]; show (tyT E q).bind _ = _; rw [hq]; rfl
        rw [this] at h; exact step_err E x [a, b] c h
  | .l3 x p q r, c, h => by
    cases hp : tyT E p with
    | error d =>
      have : tyT E (.l3 x p q r) = .error d := by show (tyT E p).bind _ = _; rw [hp]; rfl
      rw [this] at h; injection h with h; subst h; exact tyT_err E p d hp
    | ok a =>
      cases hq : tyT E q with
      | error d =>
        have : tyT E (.l3 x p q r) = .error d := by show (tyT E p).bind _ = _; rw [hp]; show (tyT E q).bind _ = _; rw [hq]; rfl
        rw [this] at h; injection h with h; subst h; exact tyT_err E q d hq
      | ok b =>
        cases hr : tyT E r with
        | error d =>
          have : tyT E (.l3 x p q r) = .error d := by show (tyT E p).bind _ = _; rw [hp]; show (tyT E q).bind _ = _; rw [hq]; show (tyT E r).bind _ = _; rw [hr]; rfl
          rw [this] at h; injection h with h; subst h; exact tyT_err E r d hr
        | ok s =>
          have : tyT E (.l3 x p q r) = stepY E x [a, b, s] := by show (tyT E p).bind _ = _; rw [hp]; show (tyT E q).bind _ = _; rw [hq]; show (tyT E r).bind _ = _; rw [hr]; rfl
          rw [this] at h; exact step_err E x [a, b, s] c h
def strOf (l : List Prm) (n : Bytes) : Option Int := (l.find? fun p => p.name == n).map (·.ty)
def nodOf (us : List Unt) (n : Bytes) : Option (List Int × Int) := (us.find? fun u => u.name == n && !u.contract).map fun u => (u.ins.map (·.ty), u.out.ty)
def envOf (l : List Prm) (us : List Unt) : Env := ⟨strOf l, nodOf us⟩
theorem tyM_ok {E : Env} {e : List Nd} {r : Ty} (h : mayB e = true) (hr : tyT E (root e) = .ok r) : tyM E e = (r.1, 0) := by unfold tyM; rw [if_pos h, hr]
theorem tyT_mk (E : Env) (x : Lab) (l : List T) (h : l.length ≤ 3) (v : List Ty) (hv : l.map (tyT E) = v.map .ok) : tyT E (mkT x l) = stepY E x v := by
  match l, h with
  | [], _ =>
    match v, hv with
    | [], _ => rfl
    | _ :: _, hv => cases hv
  | [p], _ =>
    match v, hv with
    | [], hv => simp at hv
    | [a], hv => simp at hv; exact bind_of hv
    | _ :: _ :: _, hv => simp at hv
  | [p, q], _ =>
    match v, hv with
    | [], hv => simp at hv
    | [_], hv => simp at hv
    | [a, b], hv => simp at hv; exact (bind_of hv.1).trans (bind_of hv.2)
    | _ :: _ :: _ :: _, hv => simp at hv
  | [p, q, r], _ =>
    match v, hv with
    | [], hv => simp at hv
    | [_], hv => simp at hv
    | [_, _], hv => simp at hv
    | [a, b, c], hv => simp at hv; exact (bind_of hv.1).trans ((bind_of hv.2.1).trans (bind_of hv.2.2))
    | _ :: _ :: _ :: _ :: _, hv => simp at hv
theorem tyT_kid (E : Env) (x : Lab) (l : List T) (h : l.length ≤ 3) (r : Ty) (hr : tyT E (mkT x l) = .ok r) (t : T) (ht : t ∈ l) : ∃ s, tyT E t = .ok s := by
  match l, h, ht with
  | [p], _, ht =>
    simp at ht; subst ht
    obtain ⟨a, ha, _⟩ := bind_ok hr
    exact ⟨a, ha⟩
  | [p, q], _, ht =>
    obtain ⟨a, ha, hr⟩ := bind_ok hr
    obtain ⟨b, hb, _⟩ := bind_ok hr
    simp at ht
    rcases ht with rfl | rfl
    · exact ⟨a, ha⟩
    · exact ⟨b, hb⟩
  | [p, q, s], _, ht =>
    obtain ⟨a, ha, hr⟩ := bind_ok hr
    obtain ⟨b, hb, hr⟩ := bind_ok hr
    obtain ⟨c, hc, _⟩ := bind_ok hr
    simp at ht
    rcases ht with rfl | rfl | rfl
    · exact ⟨a, ha⟩
    · exact ⟨b, hb⟩
    · exact ⟨c, hc⟩
theorem tyT_down (E : Env) {e : List Nd} (h : Ahead e) {j : Nat} : ∀ i, i < e.length → j ∈ desc e i → ∀ r, tyT E (tree e i) = .ok r → ∃ s, tyT E (tree e j) = .ok s := by
  intro i
  induction i using Nat.strongRecOn with
  | ind i ih =>
    intro hi hd r hr
    have hn := of_getD hi
    rw [desc_eq h hn, List.mem_append, List.mem_flatMap] at hd
    rcases hd with ⟨k, hk, hd⟩ | hd
    · have hki := h i _ hn k hk
      rw [tree_eq h hn] at hr
      obtain ⟨s, hs⟩ := tyT_kid E _ _ (by rw [List.length_map]; exact kids_small _) r hr (tree e k.toNat) (List.mem_map.2 ⟨k, hk, rfl⟩)
      exact ih k.toNat (by omega) (by omega) hd s hs
    · simp at hd; subst hd; exact ⟨r, hr⟩
theorem tyT_part (E : Env) {e : List Nd} (h : Tr.May e) {r : Ty} (hr : tyT E (root e) = .ok r) {j : Nat} (hj : j < e.length) : ∃ s, tyT E (tree e j) = .ok s :=
  tyT_down E h.ahead (e.length - 1) (by have := h.pos; omega) (h.all (e.length - 1 - j) j (Nat.le_refl _) hj) r hr
theorem tyT_step (E : Env) {e : List Nd} (h : Ahead e) {i : Nat} {n : Nd} (hn : e[i]? = some n) (V : Nat → Ty) (hV : ∀ j, j < i → tyT E (tree e j) = .ok (V j)) :
    tyT E (tree e i) = stepY E n.lab ((kidsM n).map fun k => V k.toNat) := by
  rw [tree_eq h hn]
  have hl : ((kidsM n).map fun k => tree e k.toNat).length ≤ 3 := by rw [List.length_map]; exact kids_small n
  rw [tyT_mk E n.lab _ hl ((kidsM n).map fun k => V k.toNat) (by
    rw [List.map_map, List.map_map]
    apply List.map_congr_left
    intro k hk
    have := h i _ hn k hk
    exact hV k.toNat (by omega))]
end Go.Proofs.YtobkcdkffcenbaaGreatDoor.Ty

/- The first node of an expression in order that has no type tells the error of the whole; what an Arrow and an If are of. Conditions: none. -/
namespace Go.Proofs.YtobkcdkffcenbaaGreatDoor.Ty
open Go.Proofs.YtobkcdkffcenbaaGreatDoor.Tr
theorem tree_seg {e : List Nd} (t : T) (b i : Nat) (ho : t.okB = true) (hs : Seg e b (t.flat b)) (hi : i = b + t.size - 1) : tree e i = t := by
  subst hi
  unfold tree
  exact tr_flat t b _ ho hs (by omega)
theorem ty1e {E : Env} {x : Lab} {p : T} {c : Int} (h : tyT E p = .error c) : tyT E (.l1 x p) = .error c := by show (tyT E p).bind _ = _; rw [h]; rfl
theorem ty2 {E : Env} {x : Lab} {p q : T} {a b : Ty} (h : tyT E p = .ok a) (k : tyT E q = .ok b) : tyT E (.l2 x p q) = stepY E x [a, b] := (bind_of h).trans (bind_of k)
theorem ty2a {E : Env} {x : Lab} {p q : T} {c : Int} (h : tyT E p = .error c) : tyT E (.l2 x p q) = .error c := by show (tyT E p).bind _ = _; rw [h]; rfl
theorem ty2b {E : Env} {x : Lab} {p q : T} {a : Ty} {c : Int} (h : tyT E p = .ok a) (k : tyT E q = .error c) : tyT E (.l2 x p q) = .error c := (bind_of h).trans (by rw [k]; rfl)
theorem ty3a {E : Env} {x : Lab} {p q r : T} {c : Int} (h : tyT E p = .error c) : tyT E (.l3 x p q r) = .error c := by show (tyT E p).bind _ = _; rw [h]; rfl
theorem ty3b {E : Env} {x : Lab} {p q r : T} {a : Ty} {c : Int} (h : tyT E p = .ok a) (k : tyT E q = .error c) : tyT E (.l3 x p q r) = .error c := (bind_of h).trans (by rw [k]; rfl)
theorem ty3c {E : Env} {x : Lab} {p q r : T} {a b : Ty} {c : Int} (h : tyT E p = .ok a) (k : tyT E q = .ok b) (m : tyT E r = .error c) : tyT E (.l3 x p q r) = .error c := (bind_of h).trans ((bind_of k).trans (by rw [m]; rfl))
def OkFrom (E : Env) (e : List Nd) (b n : Nat) : Prop := ∀ j, j < n → ∃ s, tyT E (tree e (b + j)) = .ok s
theorem OkFrom.app {E : Env} {e : List Nd} {b n m : Nat} (h : OkFrom E e b n) (k : OkFrom E e (b + n) m) : OkFrom E e b (n + m) := fun j hj => by
  by_cases hn : j < n
  · exact h j hn
  · obtain ⟨s, hs⟩ := k (j - n) (by omega)
    exact ⟨s, by rw [← hs]; congr 2; omega⟩
theorem OkFrom.one {E : Env} {e : List Nd} {b : Nat} {s : Ty} (h : tyT E (tree e b) = .ok s) : OkFrom E e b 1 := fun j hj => by
  have : j = 0 := by omega
  subst this
  exact ⟨s, h⟩
theorem OkFrom.none (E : Env) (e : List Nd) (b : Nat) : OkFrom E e b 0 := fun j hj => by omega
def BadFrom (E : Env) (e : List Nd) (b n : Nat) (c : Int) : Prop := ∃ k, k < n ∧ OkFrom E e b k ∧ tyT E (tree e (b + k)) = .error c
theorem BadFrom.left {E : Env} {e : List Nd} {b n : Nat} {c : Int} (h : BadFrom E e b n c) (m : Nat) : BadFrom E e b (n + m) c := by
  obtain ⟨k, h1, h2⟩ := h
  exact ⟨k, by omega, h2⟩
theorem BadFrom.right {E : Env} {e : List Nd} {b n m : Nat} {c : Int} (k : OkFrom E e b n) (h : BadFrom E e (b + n) m c) : BadFrom E e b (n + m) c := by
  obtain ⟨j, h1, h2, h3⟩ := h
  exact ⟨n + j, by omega, k.app h2, by rw [← Nat.add_assoc]; exact h3⟩
theorem BadFrom.one {E : Env} {e : List Nd} {b : Nat} {c : Int} (h : tyT E (tree e b) = .error c) : BadFrom E e b 1 c := ⟨0, by omega, OkFrom.none E e b, h⟩
theorem scan (E : Env) {e : List Nd} (t : T) : ∀ b, t.okB = true → Seg e b (t.flat b) → (∀ r, tyT E t = .ok r → OkFrom E e b t.size) ∧ (∀ c, tyT E t = .error c → BadFrom E e b t.size c) := by
  induction t with
  | l0 x =>
    intro b ho hs
    have ht := tree_seg (.l0 x) b b ho hs (by simp only [T.size]; omega)
    exact ⟨fun r hr => OkFrom.one (by rw [ht]; exact hr), fun c hc => BadFrom.one (by rw [ht]; exact hc)⟩
  | l1 x p ih =>
    intro b ho hs
    have ht := tree_seg (.l1 x p) b (b + p.size) ho hs (by simp only [T.size]; omega)
    have ho' := ho
    simp only [T.okB, Bool.and_eq_true] at ho'
    obtain ⟨i1, i2⟩ := ih b ho'.2 hs.left
    cases hp : tyT E p with
    | error d =>
      refine ⟨(fun r hr => by rw [ty1e hp] at hr; cases hr), fun c hc => ?_⟩
      rw [ty1e hp] at hc; injection hc with hc; subst hc
      exact (i2 d hp).left 1
    | ok a => exact ⟨fun r hr => (i1 a hp).app (OkFrom.one (by rw [ht]; exact hr)), fun c hc => BadFrom.right (i1 a hp) (BadFrom.one (by rw [ht]; exact hc))⟩
  | l2 x p q ih1 ih2 =>
    intro b ho hs
    have ht := tree_seg (.l2 x p q) b (b + (p.size + q.size)) ho hs (by simp only [T.size]; omega)
    have ho' := ho
    simp only [T.okB, Bool.and_eq_true] at ho'
    have hs2 := hs.left.right
    rw [T.flat_len] at hs2
    obtain ⟨i1, i2⟩ := ih1 b ho'.1.2 hs.left.left
    obtain ⟨j1, j2⟩ := ih2 (b + p.size) ho'.2 hs2
    cases hp : tyT E p with
    | error d =>
      refine ⟨(fun r hr => by rw [ty2a hp] at hr; cases hr), fun c hc => ?_⟩
      rw [ty2a hp] at hc; injection hc with hc; subst hc
      exact ((i2 d hp).left q.size).left 1
    | ok a =>
      cases hq : tyT E q with
      | error d =>
        refine ⟨(fun r hr => by rw [ty2b hp hq] at hr; cases hr), fun c hc => ?_⟩
        rw [ty2b hp hq] at hc; injection hc with hc; subst hc
        exact (BadFrom.right (i1 a hp) (j2 d hq)).left 1
      | ok a2 => exact ⟨fun r hr => ((i1 a hp).app (j1 a2 hq)).app (OkFrom.one (by rw [ht]; exact hr)), fun c hc => BadFrom.right ((i1 a hp).app (j1 a2 hq)) (BadFrom.one (by rw [ht]; exact hc))⟩
  | l3 x p q r ih1 ih2 ih3 =>
    intro b ho hs
    have ht := tree_seg (.l3 x p q r) b (b + (p.size + q.size + r.size)) ho hs (by simp only [T.size]; omega)
    have ho' := ho
    simp only [T.okB, Bool.and_eq_true] at ho'
    have hs2 := hs.left.left.right
    have hs3 := hs.left.right
    rw [T.flat_len] at hs2
    rw [List.length_append, T.flat_len, T.flat_len, ← Nat.add_assoc] at hs3
    obtain ⟨i1, i2⟩ := ih1 b ho'.1.1.2 hs.left.left.left
    obtain ⟨j1, j2⟩ := ih2 (b + p.size) ho'.1.2 hs2
    obtain ⟨k1, k2⟩ := ih3 (b + p.size + q.size) ho'.2 hs3
    rw [Nat.add_assoc b p.size q.size] at k1 k2
    cases hp : tyT E p with
    | error d =>
      refine ⟨(fun s hr => by rw [ty3a hp] at hr; cases hr), fun c hc => ?_⟩
      rw [ty3a hp] at hc; injection hc with hc; subst hc
      exact (((i2 d hp).left q.size).left r.size).left 1
    | ok a =>
      cases hq : tyT E q with
      | error d =>
        refine ⟨(fun s hr => by rw [ty3b hp hq] at hr; cases hr), fun c hc => ?_⟩
        rw [ty3b hp hq] at hc; injection hc with hc; subst hc
        exact ((BadFrom.right (i1 a hp) (j2 d hq)).left r.size).left 1
      | ok a2 =>
        have hpq := (i1 a hp).app (j1 a2 hq)
        cases hr : tyT E r with
        | error d =>
          refine ⟨(fun s hr' => by rw [ty3c hp hq hr] at hr'; cases hr'), fun c hc => ?_⟩
          rw [ty3c hp hq hr] at hc; injection hc with hc; subst hc
          exact (BadFrom.right hpq (k2 d hr)).left 1
        | ok a3 => exact ⟨fun s hs => (hpq.app (k1 a3 hr)).app (OkFrom.one (by rw [ht]; exact hs)), fun c hc => BadFrom.right (hpq.app (k1 a3 hr)) (BadFrom.one (by rw [ht]; exact hc))⟩
theorem tyT_first (E : Env) {e : List Nd} (h : Tr.May e) (hn : normM e = e) {c : Int} (hc : tyT E (root e) = .error c) : ∃ k, k < e.length ∧ (∀ j, j < k → ∃ s, tyT E (tree e j) = .ok s) ∧ tyT E (tree e k) = .error c := by
  have hf : (root e).flat 0 = e := hn
  obtain ⟨k, h1, h2, h3⟩ := (scan E (e := e) (root e) 0 h.root_ok (by rw [hf]; exact Seg.self e)).2 c hc
  have hl : (root e).size = e.length := h.size
  refine ⟨k, by omega, fun j hj => ?_, by rw [Nat.zero_add] at h3; exact h3⟩
  obtain ⟨s, hs⟩ := h2 j hj
  rw [Nat.zero_add] at hs
  exact ⟨s, hs⟩
theorem tyT_stop (E : Env) {e : List Nd} (h : Tr.May e) (hn : normM e = e) {i : Nat} (hi : i < e.length) {c : Int} (hok : ∀ j, j < i → ∃ s, tyT E (tree e j) = .ok s) (hc : tyT E (tree e i) = .error c) : tyT E (root e) = .error c := by
  cases hr : tyT E (root e) with
  | ok r =>
    obtain ⟨s, hs⟩ := tyT_part E h hr hi
    rw [hc] at hs; cases hs
  | error d =>
    obtain ⟨k, h1, h2, h3⟩ := tyT_first E h hn hr
    rcases Nat.lt_trichotomy k i with hlt | heq | hgt
    · obtain ⟨s, hs⟩ := hok k hlt
      rw [h3] at hs; cases hs
    · subst heq; rw [hc] at h3; exact h3.symm
    · obtain ⟨s, hs⟩ := h2 i hgt
      rw [hc] at hs; cases hs
theorem tyM_normM (E : Env) {e : List Nd} (h : Tr.May e) : tyM E (normM e) = tyM E e := by unfold tyM; rw [may_yes h, may_yes h.norm, h.root_norm]
theorem arrow_ok (E : Env) (x : Lab) (hx : x.op = 19) (p q : T) (r : Ty) : tyT E (.l2 x p q) = .ok r ↔ ∃ a b, tyT E p = .ok a ∧ tyT E q = .ok b ∧ a.1 = b.1 ∧ r = (a.1, []) := by
  have hst : ∀ a b : Ty, stepY E x [a, b] = if a.1 = b.1 then .ok (a.1, []) else .error 10 := fun a b => by
    unfold stepY shapeY
    simp only [hx]
    by_cases h : a.1 = b.1 <;> simp [h] <;> rfl
  constructor
  · intro h
    obtain ⟨a, ha, h⟩ := bind_ok h
    obtain ⟨b, hb, h⟩ := bind_ok h
    rw [hst] at h
    by_cases hab : a.1 = b.1
    · rw [if_pos hab] at h; injection h with h
      exact ⟨a, b, ha, hb, hab, h.symm⟩
    · rw [if_neg hab] at h; cases h
  · rintro ⟨a, b, ha, hb, hab, rfl⟩
    rw [ty2 ha hb, hst, if_pos hab]
end Go.Proofs.YtobkcdkffcenbaaGreatDoor.Ty

/- The arguments of a call, by their numbers, and what they are of. Conditions: the expression may be. -/
namespace Go.Proofs.YtobkcdkffcenbaaGreatDoor.Ty
open Go.Proofs.YtobkcdkffcenbaaGreatDoor.Tr
def argsNo (e : List Nd) : Nat → Int → List Int
  | 0, _ => []
  | f + 1, k => if k < 0 then [] else argsNo e f (e.getD k.toNat default).b ++ [(e.getD k.toNat default).a]
def argsAt (e : List Nd) (k : Int) : List Int := argsNo e (k + 1).toNat k
def IsArgs (e : List Nd) (i : Nat) (k : Int) : Prop := k = -1 ∨ (0 ≤ k ∧ k < i ∧ Tr.opAt e k = 28)
theorem held_one (a : Int) : heldM [a] = if a = -1 then [] else [a] := by
  unfold heldM
  by_cases h : a = -1 <;> simp [h]
theorem kids_27 {x : Nd} (h : x.op = 27) : kidsM x = heldM [x.a] := by
  obtain ⟨op, a, b, c, n, s⟩ := x
  simp only at h; subst h; rfl
theorem kids_28 {x : Nd} (h : x.op = 28) : kidsM x = heldM [x.b] ++ [x.a] := by
  obtain ⟨op, a, b, c, n, s⟩ := x
  simp only at h; subst h; rfl
theorem call_args {e : List Nd} {i : Nat} {x : Nd} (h : Tr.Good e i x) (hx : x.op = 27) : IsArgs e i x.a := by
  by_cases ha : x.a = -1
  · exact .inl ha
  · have hk : kidsM x = [x.a] := by rw [kids_27 hx, held_one, if_neg ha]
    have h1 := h.ahead x.a (by rw [hk]; simp)
    have h2 := h.args
    rw [hk] at h2
    simp [argsL, hx] at h2
    exact .inr ⟨h1.1, h1.2, h2⟩
theorem args_next {e : List Nd} {i : Nat} {x : Nd} (h : Tr.Good e i x) (hx : x.op = 28) : IsArgs e i x.b ∧ 0 ≤ x.a ∧ x.a < i := by
  have ha : x.a ∈ kidsM x := by rw [kids_28 hx]; simp
  refine ⟨?_, (h.ahead _ ha).1, (h.ahead _ ha).2⟩
  by_cases hb : x.b = -1
  · exact .inl hb
  · have hk : kidsM x = [x.b, x.a] := by rw [kids_28 hx, held_one, if_neg hb]; rfl
    have h1 := h.ahead x.b (by rw [hk]; simp)
    have h2 := h.args
    rw [hk] at h2
    simp [argsL, hx] at h2
    exact .inr ⟨h1.1, h1.2, h2.1⟩
theorem argsAt_none (e : List Nd) : argsAt e (-1) = [] := rfl
theorem argsNo_fuel {e : List Nd} (h : ∀ i x, e[i]? = some x → Tr.Good e i x) : ∀ (f g : Nat) (k : Int) (i : Nat), i ≤ e.length → IsArgs e i k → (k + 1).toNat ≤ f → (k + 1).toNat ≤ g → argsNo e f k = argsNo e g k := by
  intro f
  induction f with
  | zero =>
    intro g k i hi hk h1 h2
    have : k = -1 := by rcases hk with hk | ⟨hk, _⟩ <;> omega
    subst this
    cases g <;> rfl
  | succ f ih =>
    intro g k i hi hk h1 h2
    rcases hk with rfl | ⟨k0, k1, k2⟩
    · cases g <;> rfl
    · cases g with
      | zero => omega
      | succ g =>
        obtain ⟨n, rfl⟩ := Int.eq_ofNat_of_zero_le k0
        have hn : e[n]? = some (e.getD n default) := of_getD (by omega)
        have hb := (args_next (h n _ hn) (by simpa [Tr.opAt] using k2)).1
        simp only [argsNo]
        rw [if_neg (by omega), if_neg (by omega), Int.toNat_natCast]
        have hlt : (e.getD n default).b < (n : Int) := by rcases hb with hb | ⟨_, hb, _⟩ <;> omega
        rw [ih g _ n (by omega) hb (by omega) (by omega)]
theorem argsAt_step {e : List Nd} (h : ∀ i x, e[i]? = some x → Tr.Good e i x) {n : Nat} {x : Nd} (hx : e[n]? = some x) (h28 : x.op = 28) : argsAt e (n : Int) = argsAt e x.b ++ [x.a] := by
  have hn := (List.getElem?_eq_some_iff.1 hx).1
  have hd := getD_of hx
  have hb := (args_next (h n _ hx) h28).1
  unfold argsAt
  rw [show ((n : Int) + 1).toNat = n + 1 by omega]
  simp only [argsNo]
  rw [if_neg (by omega), Int.toNat_natCast, hd]
  have hlt : x.b < (n : Int) := by rcases hb with hb | ⟨_, hb, _⟩ <;> omega
  rw [argsNo_fuel h n _ _ n (by omega) hb (by omega) (Nat.le_refl _)]
theorem argsAt_lt {e : List Nd} (h : ∀ i x, e[i]? = some x → Tr.Good e i x) : ∀ (i : Nat) (k : Int), i ≤ e.length → IsArgs e i k → ∀ a ∈ argsAt e k, 0 ≤ a ∧ a < i := by
  intro i
  induction i using Nat.strongRecOn with
  | ind i ih =>
    intro k hi hk a ha
    rcases hk with rfl | ⟨k0, k1, k2⟩
    · rw [argsAt_none] at ha; cases ha
    · obtain ⟨n, rfl⟩ := Int.eq_ofNat_of_zero_le k0
      have hn : e[n]? = some (e.getD n default) := of_getD (by omega)
      have h28 : (e.getD n default).op = 28 := by simpa [Tr.opAt] using k2
      obtain ⟨hb, a0, a1⟩ := args_next (h n _ hn) h28
      rw [argsAt_step h hn h28, List.mem_append] at ha
      rcases ha with ha | ha
      · have := ih n (by omega) _ (by omega) hb a ha
        omega
      · rw [List.mem_singleton] at ha; subst ha; exact ⟨a0, by omega⟩
theorem argsAt_len {e : List Nd} (h : ∀ i x, e[i]? = some x → Tr.Good e i x) : ∀ (i : Nat) (k : Int), i ≤ e.length → IsArgs e i k → (argsAt e k).length ≤ i := by
  intro i
  induction i using Nat.strongRecOn with
  | ind i ih =>
    intro k hi hk
    rcases hk with rfl | ⟨k0, k1, k2⟩
    · rw [argsAt_none]; simp
    · obtain ⟨n, rfl⟩ := Int.eq_ofNat_of_zero_le k0
      have hn : e[n]? = some (e.getD n default) := of_getD (by omega)
      have h28 : (e.getD n default).op = 28 := by simpa [Tr.opAt] using k2
      have hb := (args_next (h n _ hn) h28).1
      rw [argsAt_step h hn h28, List.length_append]
      have := ih n (by omega) _ (by omega) hb
      simp only [List.length_cons, List.length_nil]; omega
theorem args_ty (E : Env) {e : List Nd} (h : ∀ i x, e[i]? = some x → Tr.Good e i x) (V : Nat → Ty) : ∀ (i : Nat) (k : Int), i ≤ e.length → IsArgs e i k → (∀ j, j < i → tyT E (tree e j) = .ok (V j)) →
    (if k < 0 then [] else (V k.toNat).2) = (argsAt e k).map (fun a => (V a.toNat).1) := by
  have hA : Ahead e := fun i n hn => (h i n hn).ahead
  intro i
  induction i using Nat.strongRecOn with
  | ind i ih =>
    intro k hi hk hV
    rcases hk with rfl | ⟨k0, k1, k2⟩
    · rfl
    · obtain ⟨n, rfl⟩ := Int.eq_ofNat_of_zero_le k0
      have hn : e[n]? = some (e.getD n default) := of_getD (by omega)
      have h28 : (e.getD n default).op = 28 := by simpa [Tr.opAt] using k2
      obtain ⟨hb, a0, a1⟩ := args_next (h n _ hn) h28
      have hs := tyT_step E hA hn V (fun j hj => hV j (by omega))
      rw [hV n (by omega)] at hs
      rw [if_neg (by omega), Int.toNat_natCast, argsAt_step h hn h28, List.map_append]
      have hi2 := ih n (by omega) _ (by omega) hb (fun j hj => hV j (by omega))
      rw [← hi2]
      have hst : stepY E (e.getD n default).lab ((kidsM (e.getD n default)).map fun k => V k.toNat) = .ok (0, argsY ((kidsM (e.getD n default)).map fun k => V k.toNat)) := by
        unfold stepY
        rw [if_neg (by rw [show (e.getD n default).lab.op = 28 from h28]; decide), if_neg (by rw [show (e.getD n default).lab.op = 28 from h28]; decide), if_pos (show (e.getD n default).lab.op = 28 from h28)]
      rw [hst] at hs
      injection hs with hs
      rw [hs]
      show argsY _ = _
      rw [kids_28 h28, held_one]
      rcases hb with hb | ⟨b0, b1, b2⟩
      · rw [hb, if_pos rfl, if_pos (by omega)]; rfl
      · rw [if_neg (by omega), if_neg (by omega)]; rfl
theorem step_call (E : Env) {e : List Nd} (h : ∀ i x, e[i]? = some x → Tr.Good e i x) (V : Nat → Ty) {i : Nat} {x : Nd} (hx : e[i]? = some x) (h27 : x.op = 27) (hV : ∀ j, j < i → tyT E (tree e j) = .ok (V j)) :
    stepY E x.lab ((kidsM x).map fun k => V k.toNat) = callY (E.nod x.name) ((argsAt e x.a).map (fun a => (V a.toNat).1)) := by
  have hi := (List.getElem?_eq_some_iff.1 hx).1
  have ha := call_args (h i x hx) h27
  rw [← args_ty E h V i x.a (by omega) ha hV]
  unfold stepY
  have ho : x.lab.op = 27 := h27
  rw [if_neg (by rw [ho]; decide), if_neg (by rw [ho]; decide), if_neg (by rw [ho]; decide), if_neg (by rw [ho]; decide), if_pos ho, kids_27 h27, held_one]
  show callY (E.nod x.name) _ = _
  congr 1
  rcases ha with ha | ⟨a0, a1, a2⟩
  · rw [ha, if_pos rfl, if_pos (by omega)]; rfl
  · rw [if_neg (by omega), if_neg (by omega)]; rfl
end Go.Proofs.YtobkcdkffcenbaaGreatDoor.Ty

/- Programs in memory: rows of streams, equations, items, units; worlds in which all blocks but those of some types stay. Conditions: none. -/
namespace Go.Proofs.YtobkcdkffcenbaaGreatDoor.Pg
open Go.ChangeShapes Go.WideShapes Go.ChangeAt Go.RowKit
open Go.Proofs.YtobkcdkffcenbaaGreatDoor.Ex Go.Proofs.YtobkcdkffcenbaaGreatDoor.Tr
structure Stay (P : TypeId → Prop) (w w' : World) : Prop where
  size : w.heap.size ≤ w'.heap.size
  block : ∀ (g : Nat) (cs : Array Value) (T : TypeId) (f : Nat × Nat), w.heap[g]? = some (Obj.cells cs T f) → ¬ P T → w'.heap[g]? = w.heap[g]?
theorem Stay.refl (P : TypeId → Prop) (w : World) : Stay P w w := ⟨Nat.le_refl _, fun _ _ _ _ _ _ => rfl⟩
theorem Stay.trans {P : TypeId → Prop} {w w1 w2 : World} (h : Stay P w w1) (k : Stay P w1 w2) : Stay P w w2 :=
  ⟨Nat.le_trans h.size k.size, fun g cs T f hg hp => (k.block g cs T f ((h.block g cs T f hg hp).trans hg) hp).trans (h.block g cs T f hg hp)⟩
theorem Stay.below {P : TypeId → Prop} {w w' : World} (h : Below w.heap.size w w') : Stay P w w' := ⟨h.size, fun g cs T f hg _ => h.block g (lt_of_block hg)⟩
theorem Stay.grown {P : TypeId → Prop} {w w' : World} {row : Option Nat} (h : w.grownBy w' row) (hb : ∀ B, row = some B → ∃ cs T f, w.heap[B]? = some (Obj.cells cs T f) ∧ P T) : Stay P w w' :=
  ⟨h.size, fun g cs T f hg hp => h.block g (lt_of_block hg) (fun e => by
    obtain ⟨cs', T', f', h1, h2⟩ := hb g e.symm
    rw [hg] at h1
    simp only [Option.some.injEq, Obj.cells.injEq] at h1
    exact hp (h1.2.1 ▸ h2))⟩
theorem Stay.pt {P : TypeId → Prop} {w w' : World} {x : Value × Pt} (h : Stay P w w') (hp : ¬ P 70) (k : PtW w x) : PtW w' x :=
  k.keep h.size (fun g ⟨cs, f, hc⟩ => h.block g cs 70 f hc hp)
def RowR {α : Type} (T : TypeId) (K : Nat) (R : World → α → List Value → Prop) (w : World) (l : List α) (v : Value) : Prop :=
  ∃ A c, v = .slice A l.length c ∧ l.length ≤ c ∧ c ≤ maxLen ∧ ∀ (i : Nat) (a : α), l[i]? = some a → ∃ (g : Nat) (x : List Value) (cs : Array Value) (f : Nat × Nat), A = some ⟨g, 0, none⟩ ∧ w.heap[g]? = some (Obj.cells cs T f) ∧ R w a x ∧ x.length = K ∧ ∀ k, k < K → cs[i * K + k]? = x[k]?
theorem RowR.stay {α : Type} {T : TypeId} {K : Nat} {R : World → α → List Value → Prop} {P : TypeId → Prop} {w w' : World} {l : List α} {v : Value} (h : RowR T K R w l v) (st : Stay P w w') (hT : ¬ P T) (hR : ∀ a x, R w a x → R w' a x) : RowR T K R w' l v := by
  obtain ⟨A, c, rfl, h1, h2, h3⟩ := h
  refine ⟨A, c, rfl, h1, h2, fun i a hi => ?_⟩
  obtain ⟨g, x, cs, f, e1, e2, e3, e4, e5⟩ := h3 i a hi
  exact ⟨g, x, cs, f, e1, (st.block g cs T f e2 hT).trans e2, hR a x e3, e4, e5⟩
theorem RowR.nil {α : Type} (T : TypeId) (K : Nat) (R : World → α → List Value → Prop) (w : World) : RowR T K R w [] (.slice none 0 0) :=
  ⟨none, 0, rfl, by simp, by unfold maxLen; omega, fun i a h => by simp at h⟩
def PrmV (w : World) (p : Prm) (x : List Value) : Prop := x = [.string (str p.name), .int .i64 p.ty]
def EqnV (w : World) (q : Eqn) (x : List Value) : Prop := ∃ ev, x = [.string (str q.name), ev] ∧ PtW w (ev, ⟨q.e, 0, 0⟩)
def ExpV (w : World) (e : List Nd) (x : List Value) : Prop := ∃ ev, x = [ev] ∧ PtW w (ev, ⟨e, 0, 0⟩)
def ItmV (w : World) (i : Itm) (x : List Value) : Prop := ∃ ev fv av, x = [.int .i64 i.kind, .string (str i.name), .int .i64 i.ty, ev, fv, av] ∧ PtW w (ev, ⟨i.e, 0, 0⟩) ∧ PtW w (fv, ⟨i.f, 0, 0⟩) ∧ RowR 32 1 ExpV w i.args av
def UntV (w : World) (u : Unt) (x : List Value) : Prop := ∃ iv vv qv lv, x = [.bool u.contract, .string (str u.name), iv, .string (str u.out.name), .int .i64 u.out.ty, vv, qv, lv] ∧ RowR 45 2 PrmV w u.ins iv ∧ RowR 45 2 PrmV w u.vars vv ∧ RowR 51 2 EqnV w u.eqs qv ∧ RowR 53 6 ItmV w u.items lv
def Kept (P : TypeId → Prop) : Prop := ¬ P 70 ∧ ¬ P 32 ∧ ¬ P 45 ∧ ¬ P 51 ∧ ¬ P 53
theorem PrmV.stay {P : TypeId → Prop} {w w' : World} (st : Stay P w w') (p : Prm) (x : List Value) (h : PrmV w p x) : PrmV w' p x := h
theorem EqnV.stay {P : TypeId → Prop} {w w' : World} (st : Stay P w w') (h58 : ¬ P 70) (p : Eqn) (x : List Value) (h : EqnV w p x) : EqnV w' p x := by
  obtain ⟨ev, h1, h2⟩ := h; exact ⟨ev, h1, st.pt h58 h2⟩
theorem ExpV.stay {P : TypeId → Prop} {w w' : World} (st : Stay P w w') (h58 : ¬ P 70) (p : List Nd) (x : List Value) (h : ExpV w p x) : ExpV w' p x := by
  obtain ⟨ev, h1, h2⟩ := h; exact ⟨ev, h1, st.pt h58 h2⟩
theorem ItmV.stay {P : TypeId → Prop} {w w' : World} (st : Stay P w w') (h58 : ¬ P 70) (h23 : ¬ P 32) (p : Itm) (x : List Value) (h : ItmV w p x) : ItmV w' p x := by
  obtain ⟨ev, fv, av, h1, h2, h3, h4⟩ := h
  exact ⟨ev, fv, av, h1, st.pt h58 h2, st.pt h58 h3, h4.stay st h23 (ExpV.stay st h58)⟩
theorem UntV.stay {P : TypeId → Prop} {w w' : World} (st : Stay P w w') (hk : Kept P) (p : Unt) (x : List Value) (h : UntV w p x) : UntV w' p x := by
  obtain ⟨iv, vv, qv, lv, h1, h2, h3, h4, h5⟩ := h
  obtain ⟨k1, k2, k3, k4, k5⟩ := hk
  exact ⟨iv, vv, qv, lv, h1, h2.stay st k3 (PrmV.stay st), h3.stay st k3 (PrmV.stay st), h4.stay st k4 (EqnV.stay st k1), h5.stay st k5 (ItmV.stay st k1 k2)⟩
theorem flat_at {K : Nat} : ∀ (xs : List (List Value)) (i : Nat) (x : List Value), (∀ y ∈ xs, y.length = K) → xs[i]? = some x → ∀ k, k < K → xs.flatten[i * K + k]? = x[k]?
  | [], i, x, _, h, k, _ => by simp at h
  | y :: r, 0, x, hw, h, k, hk => by
    simp at h; subst h
    rw [List.flatten_cons, Nat.zero_mul, Nat.zero_add, List.getElem?_append_left (by rw [hw y (by simp)]; exact hk)]
  | y :: r, i + 1, x, hw, h, k, hk => by
    simp at h
    have hy := hw y (by simp)
    have e : (i + 1) * K = i * K + K := Nat.succ_mul i K
    rw [List.flatten_cons, List.getElem?_append_right (by omega), ← flat_at r i x (fun z hz => hw z (by simp [hz])) h k hk]
    congr 1; omega
theorem flat_len {K : Nat} : ∀ (xs : List (List Value)), (∀ y ∈ xs, y.length = K) → xs.flatten.length = xs.length * K
  | [], _ => by simp
  | y :: r, h => by rw [List.flatten_cons, List.length_append, h y (by simp), flat_len r (fun z hz => h z (by simp [hz])), List.length_cons, Nat.succ_mul]; omega
structure OList {α : Type} (T : TypeId) (K : Nat) (R : World → α → List Value → Prop) (w : World) (base : Nat) (ov : Value) (l : List α) (xs : List (List Value)) : Prop where
  own : w.ownsRow base T K ov l.length xs.flatten
  len : xs.length = l.length
  wid : ∀ y ∈ xs, y.length = K
  el : ∀ (i : Nat) (x : List Value) (a : α), xs[i]? = some x → l[i]? = some a → R w a x
section
variable {α : Type} {T : TypeId} {K : Nat} {R : World → α → List Value → Prop}
theorem OList.nil (w : World) (base : Nat) : OList (α := α) T K R w base (.slice none 0 0) [] [] :=
  ⟨World.ownsRow_nil _ _ _ _, rfl, fun y h => by simp at h, fun i x a h => by simp at h⟩
theorem OList.typed {w : World} {base : Nat} {ov : Value} {l : List α} {xs : List (List Value)} (h : OList T K R w base ov l xs) : ∀ B, ov.ownBlock = some B → ∃ cs f, w.heap[B]? = some (Obj.cells cs T f) := by
  intro B hB
  obtain ⟨hl, h0 | ⟨g, cap, cur, hv, hb, hh, _⟩⟩ := h.own
  · rw [h0.1] at hB; cases hB
  · rw [hv] at hB
    have e : some g = some B := hB
    injection e with e
    subst e
    exact ⟨_, _, hh⟩
theorem OList.row {w : World} {base : Nat} {ov : Value} {l : List α} {xs : List (List Value)} (h : OList T K R w base ov l xs) : RowR T K R w l ov := by
  obtain ⟨hl, h0 | ⟨g, cap, cur, rfl, hb, hh, hnc, hcm, hcs, hct⟩⟩ := h.own
  · obtain ⟨rfl, h0⟩ := h0
    have : l = [] := List.length_eq_zero_iff.1 h0
    subst this
    exact RowR.nil _ _ _ _
  · have hown : w.ownsRow base T K (.slice (some ⟨g, 0, none⟩) l.length cap) l.length xs.flatten := ⟨hl, .inr ⟨g, cap, cur, rfl, hb, hh, hnc, hcm, hcs, hct⟩⟩
    refine ⟨some ⟨g, 0, none⟩, cap, rfl, hnc, hcm, fun i a hi => ?_⟩
    have hil : i < l.length := (List.getElem?_eq_some_iff.1 hi).1
    obtain ⟨x, hx⟩ : ∃ x, xs[i]? = some x := ⟨_, List.getElem?_eq_getElem (by rw [h.len]; exact hil)⟩
    refine ⟨g, x, cur, _, rfl, hh, h.el i x a hx hi, h.wid x (List.mem_of_getElem? hx), fun k hk => ?_⟩
    have hle : (i + 1) * K ≤ l.length * K := Nat.mul_le_mul_right K hil
    rw [Nat.succ_mul] at hle
    have c := hown.cellAt (i * K + k) (by omega)
    rw [flat_at xs i x h.wid hx k hk] at c
    rw [← c]
    simp [World.cell?, hh]
theorem OList.keep {w w' : World} {base : Nat} {ov : Value} {l : List α} {xs : List (List Value)} (h : OList T K R w base ov l xs) (hk : ∀ g, ov.ownBlock = some g → w'.heap[g]? = w.heap[g]?) (hR : ∀ a x, R w a x → R w' a x) : OList T K R w' base ov l xs :=
  ⟨own_block h.own hk, h.len, h.wid, fun i x a h1 h2 => hR a x (h.el i x a h1 h2)⟩
theorem OList.stay {P : TypeId → Prop} {w w' : World} {base : Nat} {ov : Value} {l : List α} {xs : List (List Value)} (h : OList T K R w base ov l xs) (st : Stay P w w') (hT : ¬ P T) (hR : ∀ a x, R w a x → R w' a x) : OList T K R w' base ov l xs :=
  h.keep (fun g hg => by obtain ⟨cs, f, hc⟩ := h.typed g hg; exact st.block g cs T f hc hT) hR
theorem OList.snoc {w W w' : World} {base : Nat} {ov ov' : Value} {l : List α} {xs : List (List Value)} {a : α} {x : List Value} (h : OList T K R w base ov l xs) (hx : R w a x) (hl : x.length = K) (hW : Below w.heap.size w W) (hown : w'.ownsRow base T K ov' (l.length + 1) (xs.flatten ++ x)) (hg : W.grownBy w' ov.ownBlock)
    (hR : Stay (fun t => t = T) w w' → ∀ a x, R w a x → R w' a x) : OList T K R w' base ov' (l ++ [a]) (xs ++ [x]) := by
  have st : Stay (fun t => t = T) w w' := (Stay.below hW).trans (Stay.grown hg (fun B hB => by
    obtain ⟨cs, f, hc⟩ := h.typed B hB
    exact ⟨cs, T, f, (hW.block B (lt_of_block hc)).trans hc, rfl⟩))
  refine ⟨by rw [List.length_append, List.flatten_append]; simpa using hown, by rw [List.length_append, List.length_append, h.len]; rfl, fun y hy => ?_, fun i y b h1 h2 => hR st _ _ ?_⟩
  · rcases List.mem_append.1 hy with h1 | h1
    · exact h.wid y h1
    · simp at h1; rw [h1]; exact hl
  · by_cases hi : i < xs.length
    · rw [List.getElem?_append_left hi] at h1
      rw [List.getElem?_append_left (by rw [← h.len]; exact hi)] at h2
      exact h.el i y b h1 h2
    · rw [List.getElem?_append_right (by omega)] at h1
      rw [List.getElem?_append_right (by rw [← h.len]; omega)] at h2
      have e0 : i - xs.length = 0 := by
        have := (List.getElem?_eq_some_iff.1 h1).1
        simp at this; omega
      rw [e0] at h1
      rw [← h.len, e0] at h2
      simp at h1 h2
      subst h1; subst h2
      exact hx
end
end Go.Proofs.YtobkcdkffcenbaaGreatDoor.Pg

