/- What layer tree makes of lists of nodes, as plain functions; the trees that expressions are. Conditions: none. -/
import GoSem.Op.String
namespace Go.Proofs.Ytmggedjolocgdaa.Tr
abbrev Bytes := List UInt8

structure Nd where
  op : Int
  a : Int
  b : Int
  c : Int
  n : Int
  name : Bytes
deriving DecidableEq, Inhabited

structure Lab where
  op : Int
  n : Int
  name : Bytes
deriving DecidableEq, Inhabited

def Nd.lab (x : Nd) : Lab := ⟨x.op, x.n, x.name⟩

def heldM (l : List Int) : List Int := l.filter (fun k => k != -1)
def unaryB (op : Int) : Bool := op == 4 || op == 5 || op == 21 || op == 22 || op == 23 || op == 24 || op == 25
def binaryB (op : Int) : Bool := decide (6 ≤ op) && decide (op ≤ 20)

/-- The operands of a node, in order. -/
def kidsM (x : Nd) : List Int :=
  if unaryB x.op then [x.a] else if x.op = 26 then [x.a, x.b, x.c] else if x.op = 27 then heldM [x.a]
  else if x.op = 28 then heldM [x.b] ++ [x.a] else if binaryB x.op then [x.a, x.b] else []

/-- A node of a label and operands. -/
def mkL (x : Lab) : List Int → Nd
  | [] => ⟨x.op, -1, -1, -1, x.n, x.name⟩
  | [i] => ⟨x.op, i, -1, -1, x.n, x.name⟩
  | [i, j] => if x.op = 28 then ⟨x.op, j, i, -1, x.n, x.name⟩ else ⟨x.op, i, j, -1, x.n, x.name⟩
  | i :: j :: k :: _ => ⟨x.op, i, j, k, x.n, x.name⟩

def fitsB (op : Int) (m : Nat) : Bool :=
  if unaryB op then m == 1 else if op = 26 then m == 3 else if op = 27 then m == 0 || m == 1
  else if op = 28 then m == 1 || m == 2 else if binaryB op then m == 2 else m == 0

inductive T where
  | l0 (x : Lab)
  | l1 (x : Lab) (p : T)
  | l2 (x : Lab) (p q : T)
  | l3 (x : Lab) (p q r : T)
deriving DecidableEq, Inhabited

def mkT (x : Lab) : List T → T
  | [] => .l0 x
  | [p] => .l1 x p
  | [p, q] => .l2 x p q
  | p :: q :: r :: _ => .l3 x p q r

def T.lab : T → Lab
  | .l0 x => x | .l1 x _ => x | .l2 x _ _ => x | .l3 x _ _ _ => x
def T.kids : T → List T
  | .l0 _ => [] | .l1 _ p => [p] | .l2 _ p q => [p, q] | .l3 _ p q r => [p, q, r]
def T.size : T → Nat
  | .l0 _ => 1 | .l1 _ p => p.size + 1 | .l2 _ p q => p.size + q.size + 1 | .l3 _ p q r => p.size + q.size + r.size + 1
def T.depth : T → Nat
  | .l0 _ => 1 | .l1 _ p => p.depth + 1 | .l2 _ p q => max p.depth q.depth + 1 | .l3 _ p q r => max (max p.depth q.depth) r.depth + 1
/-- The nodes of a tree, in order, where so many stand ahead. -/
def T.flat : T → Nat → List Nd
  | .l0 x, _ => [mkL x []]
  | .l1 x p, b => p.flat b ++ [mkL x [(b + p.size - 1 : Nat)]]
  | .l2 x p q, b => p.flat b ++ q.flat (b + p.size) ++ [mkL x [(b + p.size - 1 : Nat), (b + p.size + q.size - 1 : Nat)]]
  | .l3 x p q r, b => p.flat b ++ q.flat (b + p.size) ++ r.flat (b + p.size + q.size) ++ [mkL x [(b + p.size - 1 : Nat), (b + p.size + q.size - 1 : Nat), (b + p.size + q.size + r.size - 1 : Nat)]]

theorem T.size_pos (t : T) : 0 < t.size := by cases t <;> simp [T.size]
theorem T.depth_pos (t : T) : 0 < t.depth := by cases t <;> simp [T.depth]
theorem T.flat_len (t : T) : ∀ b, (t.flat b).length = t.size := by
  induction t with
  | l0 x => intro b; rfl
  | l1 x p ih => intro b; simp [T.flat, T.size, ih]
  | l2 x p q ih1 ih2 => intro b; simp [T.flat, T.size, ih1, ih2]; omega
  | l3 x p q r ih1 ih2 ih3 => intro b; simp [T.flat, T.size, ih1, ih2, ih3]; omega
theorem mkT_kids (t : T) : mkT t.lab t.kids = t := by cases t <;> rfl

/-- The tree of a node of a list. -/
def tr (e : List Nd) : Nat → Nat → T
  | 0, _ => default
  | f + 1, i => mkT (e.getD i default).lab ((kidsM (e.getD i default)).map fun k => tr e f k.toNat)
def tree (e : List Nd) (i : Nat) : T := tr e (i + 1) i

/-- Operands stand ahead. -/
def Ahead (e : List Nd) : Prop := ∀ (i : Nat) n, e[i]? = some n → ∀ k ∈ kidsM n, 0 ≤ k ∧ k < i

theorem tr_fuel {e : List Nd} (h : Ahead e) : ∀ (f g i : Nat), i < f → i < g → i < e.length → tr e f i = tr e g i := by
  intro f
  induction f with
  | zero => intro g i hf; omega
  | succ f ih =>
    intro g i hf hg hi
    cases g with
    | zero => omega
    | succ g =>
      simp only [tr]
      congr 1
      apply List.map_congr_left
      intro k hk
      have hn : e[i]? = some (e.getD i default) := by simp [List.getD, List.getElem?_eq_getElem hi]
      have := h i _ hn k hk
      exact ih g k.toNat (by omega) (by omega) (by omega)
theorem tree_eq {e : List Nd} (h : Ahead e) {i : Nat} {n : Nd} (hn : e[i]? = some n) : tree e i = mkT n.lab ((kidsM n).map fun k => tree e k.toNat) := by
  have hi : i < e.length := (List.getElem?_eq_some_iff.1 hn).1
  have e1 : e.getD i default = n := by simp [List.getD, hn]
  unfold tree
  rw [tr]
  rw [e1]
  congr 1
  apply List.map_congr_left
  intro k hk
  have := h i _ hn k hk
  exact tr_fuel h _ _ _ (by omega) (by omega) (by omega)

theorem kids_small (n : Nd) : (kidsM n).length ≤ 3 := by
  unfold kidsM
  repeat' split
  all_goals simp [heldM, List.filter_cons]
  all_goals (repeat' split)
  all_goals simp
theorem mkT_size (x : Lab) (l : List T) (h : l.length ≤ 3) : (mkT x l).size = (l.map T.size).sum + 1 := by
  match l, h with
  | [], _ => rfl
  | [p], _ => simp [mkT, T.size]
  | [p, q], _ => simp [mkT, T.size]
  | [p, q, r], _ => simp [mkT, T.size]; omega
theorem mkT_lab (x : Lab) (l : List T) : (mkT x l).lab = x := by
  match l with
  | [] => rfl
  | [_] => rfl
  | [_, _] => rfl
  | _ :: _ :: _ :: _ => rfl
theorem mkT_kidsOf (x : Lab) (l : List T) (h : l.length ≤ 3) : (mkT x l).kids = l := by
  match l, h with
  | [], _ => rfl
  | [_], _ => rfl
  | [_, _], _ => rfl
  | [_, _, _], _ => rfl

/-- Which tree a list of nodes has depends on the nodes up to it alone. -/
theorem tr_append (e x : List Nd) (h : Ahead e) : ∀ f i, i < e.length → tr (e ++ x) f i = tr e f i := by
  intro f
  induction f with
  | zero => intro i _; rfl
  | succ f ih =>
    intro i hi
    have e1 : (e ++ x).getD i default = e.getD i default := by
      simp [List.getD, List.getElem?_append_left hi]
    simp only [tr, e1]
    congr 1
    apply List.map_congr_left
    intro k hk
    have hn : e[i]? = some (e.getD i default) := by simp [List.getD, List.getElem?_eq_getElem hi]
    have := h i _ hn k hk
    exact ih _ (by omega)
theorem tree_append {e x : List Nd} (h : Ahead e) {i : Nat} (hi : i < e.length) : tree (e ++ x) i = tree e i := tr_append e x h _ _ hi
theorem fits_kids (n : Nd) : fitsB n.op (kidsM n).length = true := by
  unfold kidsM fitsB
  split
  · simp
  split
  · simp
  split
  · simp only [heldM, List.filter_cons]; split <;> simp
  split
  · simp only [heldM, List.filter_cons]; split <;> simp
  split <;> simp
theorem mkL_op (x : Lab) (l : List Int) : (mkL x l).op = x.op := by
  match l with
  | [] => rfl
  | [_] => rfl
  | [_, _] => simp only [mkL]; split <;> rfl
  | _ :: _ :: _ :: _ => rfl
theorem mkL_lab (x : Lab) (l : List Int) : (mkL x l).lab = x := by
  match l with
  | [] => rfl
  | [_] => rfl
  | [_, _] => simp only [mkL]; split <;> rfl
  | _ :: _ :: _ :: _ => rfl
theorem kids_mkL (x : Lab) (l : List Int) (h : fitsB x.op l.length = true) (hne : ∀ k ∈ l, k ≠ -1) : kidsM (mkL x l) = l := by
  have ho := mkL_op x l
  unfold kidsM
  rw [ho]
  unfold fitsB at h
  split at h
  · rename_i hu
    rw [if_pos hu]
    match l, h with
    | [i], _ => rfl
  rename_i hu
  rw [if_neg hu]
  split at h
  · rename_i h26
    rw [if_pos h26]
    match l, h with
    | [i, j, k], _ => rfl
  rename_i h26
  rw [if_neg h26]
  split at h
  · rename_i h27
    rw [if_pos h27]
    match l, h with
    | [], _ => rfl
    | [i], _ => have := hne i (by simp); simp [mkL, heldM, this]
  rename_i h27
  rw [if_neg h27]
  split at h
  · rename_i h28
    rw [if_pos h28]
    match l, h with
    | [i], _ => simp [mkL, heldM]
    | [i, j], _ => have := hne i (by simp); simp [mkL, heldM, h28, this]
  rename_i h28
  rw [if_neg h28]
  split at h
  · rename_i hb
    rw [if_pos hb]
    match l, h with
    | [i, j], _ => simp [mkL, h28]
  · rename_i hb
    rw [if_neg hb]
    match l, h with
    | [], _ => rfl

/-- A node's number and name may be. -/
def plainB (x : Lab) : Bool :=
  decide (1 ≤ x.op) && decide (x.op ≤ 28) && ((x.name != []) == (x.op == 3 || x.op == 27)) &&
    decide (0 ≤ x.n) && decide (x.n ≤ if x.op = 1 then 2147483647 else if x.op = 2 then 1 else if x.op = 25 then 1000 else 0)
/-- Which operands are Args, by their operators. -/
def argsL (op : Int) : List Int → Bool
  | [] => true
  | [p] => (p == 28) == (op == 27)
  | [p, q] => ((p == 28) == (op == 27 || op == 28)) && ((q == 28) == (op == 27))
  | p :: q :: r :: _ => ((p == 28) == (op == 27)) && ((q == 28) == (op == 27)) && ((r == 28) == (op == 27))
def opAt (e : List Nd) (k : Int) : Int := (e.getD k.toNat default).op
structure Good (e : List Nd) (i : Nat) (n : Nd) : Prop where
  plain : plainB n.lab = true
  bare : n = mkL n.lab (kidsM n)
  ahead : ∀ k ∈ kidsM n, 0 ≤ k ∧ k < i
  args : argsL n.op ((kidsM n).map (opAt e)) = true
def usesM (e : List Nd) (j : Nat) : Nat := (e.flatMap kidsM).count (j : Int)

/-- How deep the nodes are, where operands that are no nodes ahead are left out. -/
def deepF (ds : List Nat) (n : Nd) : Nat := (kidsM n).foldl (fun (d : Nat) (k : Int) => if 0 ≤ k ∧ k < (ds.length : Int) then max d (1 + ds.getD k.toNat 0) else d) 1
def deepsM (e : List Nd) : List Nat := e.foldl (fun ds n => ds ++ [deepF ds n]) []
def depthM (e : List Nd) : Nat := (deepsM e).getLastD 0

structure May (e : List Nd) : Prop where
  pos : 0 < e.length
  le : e.length ≤ 5000
  node : ∀ i n, e[i]? = some n → Good e i n
  uses : ∀ j, j + 1 < e.length → usesM e j = 1
  last : (e.getD (e.length - 1) default).op ≠ 28
  deep : depthM e ≤ 40

theorem May.ahead {e : List Nd} (h : May e) : Ahead e := fun i n hn => (h.node i n hn).ahead

theorem deeps_snoc (e : List Nd) (n : Nd) : deepsM (e ++ [n]) = deepsM e ++ [deepF (deepsM e) n] := by simp [deepsM, List.foldl_append]
theorem foldl_len (e : List Nd) : ∀ acc : List Nat, (e.foldl (fun ds n => ds ++ [deepF ds n]) acc).length = acc.length + e.length := by
  induction e with
  | nil => intro acc; rfl
  | cons a r ih => intro acc; simp only [List.foldl_cons]; rw [ih]; simp; omega
theorem deeps_len (e : List Nd) : (deepsM e).length = e.length := by
  have := foldl_len e []; unfold deepsM; rw [this]; simp

theorem tree_lab {e : List Nd} (h : Ahead e) {i : Nat} {n : Nd} (hn : e[i]? = some n) : (tree e i).lab = n.lab := by rw [tree_eq h hn, mkT_lab]
theorem tree_op {e : List Nd} (h : Ahead e) {i : Nat} (hi : i < e.length) : (tree e i).lab.op = (e.getD i default).op := by
  have hn : e[i]? = some (e.getD i default) := by simp [List.getD, List.getElem?_eq_getElem hi]
  rw [tree_lab h hn]; rfl

/-- Deepness by the tree. -/
theorem mkT_depth (x : Lab) (l : List T) (h : l.length ≤ 3) : (mkT x l).depth = l.foldl (fun d t => max d (1 + t.depth)) 1 := by
  match l, h with
  | [], _ => rfl
  | [p], _ => simp [mkT, T.depth]; omega
  | [p, q], _ => simp [mkT, T.depth]; omega
  | [p, q, r], _ => simp [mkT, T.depth]; omega

theorem Ahead.left {e x : List Nd} (h : Ahead (e ++ x)) : Ahead e := fun i n hn => by
  have hi : i < e.length := (List.getElem?_eq_some_iff.1 hn).1
  exact h i n (by rw [List.getElem?_append_left hi]; exact hn)

theorem foldl_congr {α β : Type} (f g : β → α → β) (l : List α) (h : ∀ b, ∀ a ∈ l, f b a = g b a) : ∀ b, l.foldl f b = l.foldl g b := by
  induction l with
  | nil => intro b; rfl
  | cons a r ih => intro b; simp only [List.foldl_cons]; rw [h b a (by simp)]; exact ih (fun b x hx => h b x (by simp [hx])) _

theorem deeps_tree (e : List Nd) : Ahead e → ∀ i, i < e.length → (deepsM e)[i]? = some (tree e i).depth := by
  generalize hr : e.reverse = r
  revert e
  induction r with
  | nil => intro e hr h i hi; simp at hr; subst hr; simp at hi
  | cons n r ih =>
    intro e hr h i hi
    have he : e = r.reverse ++ [n] := by rw [← List.reverse_reverse e, hr, List.reverse_cons]
    generalize hq : r.reverse = q at he
    subst he
    have hqa : Ahead q := h.left
    have hq' : q.reverse = r := by rw [← hq, List.reverse_reverse]
    rw [deeps_snoc]
    by_cases hi' : i < q.length
    · rw [List.getElem?_append_left (by rw [deeps_len]; exact hi'), ih q hq' hqa i hi', tree_append hqa hi']
    · have : i = q.length := by simp at hi; omega
      subst this
      rw [List.getElem?_append_right (by rw [deeps_len]; exact Nat.le_refl _), deeps_len, Nat.sub_self]
      simp only [List.getElem?_cons_zero, Option.some.injEq]
      have hn : (q ++ [n])[q.length]? = some n := by simp
      have ha := h _ _ hn
      rw [tree_eq h hn, mkT_depth _ _ (by rw [List.length_map]; exact kids_small n), List.foldl_map]
      unfold deepF
      apply foldl_congr
      intro b k hk
      have hk2 := ha k hk
      rw [if_pos (by rw [deeps_len]; omega)]
      have e2 := ih q hq' hqa k.toNat (by omega)
      rw [tree_append hqa (by omega)]
      simp [List.getD, e2]
theorem depth_tree {e : List Nd} (h : Ahead e) (hp : 0 < e.length) : depthM e = (tree e (e.length - 1)).depth := by
  have := deeps_tree e h (e.length - 1) (by omega)
  unfold depthM
  rw [List.getLastD_eq_getLast?, List.getLast?_eq_getElem?, deeps_len, this]; rfl
/-- The nodes of which a node is made, by their numbers, in order. -/
def ds (e : List Nd) : Nat → Nat → List Nat
  | 0, _ => []
  | f + 1, i => ((kidsM (e.getD i default)).flatMap fun k => ds e f k.toNat) ++ [i]
def desc (e : List Nd) (i : Nat) : List Nat := ds e (i + 1) i

theorem getD_of {e : List Nd} {i : Nat} {n : Nd} (hn : e[i]? = some n) : e.getD i default = n := by simp [List.getD, hn]
theorem of_getD {e : List Nd} {i : Nat} (hi : i < e.length) : e[i]? = some (e.getD i default) := by simp [List.getD, List.getElem?_eq_getElem hi]
theorem ds_fuel {e : List Nd} (h : Ahead e) : ∀ (f g i : Nat), i < f → i < g → i < e.length → ds e f i = ds e g i := by
  intro f
  induction f with
  | zero => intro g i hf; omega
  | succ f ih =>
    intro g i hf hg hi
    cases g with
    | zero => omega
    | succ g =>
      simp only [ds]
      congr 1
      rw [List.flatMap_def, List.flatMap_def]
      congr 1
      apply List.map_congr_left
      intro k hk
      have := h i _ (of_getD hi) k hk
      exact ih g k.toNat (by omega) (by omega) (by omega)
theorem desc_eq {e : List Nd} (h : Ahead e) {i : Nat} {n : Nd} (hn : e[i]? = some n) : desc e i = ((kidsM n).flatMap fun k => desc e k.toNat) ++ [i] := by
  have hi : i < e.length := (List.getElem?_eq_some_iff.1 hn).1
  unfold desc
  rw [ds, getD_of hn, List.flatMap_def, List.flatMap_def]
  congr 2
  apply List.map_congr_left
  intro k hk
  have := h i _ hn k hk
  exact ds_fuel h _ _ _ (by omega) (by omega) (by omega)
theorem desc_le {e : List Nd} (h : Ahead e) : ∀ i, i < e.length → ∀ x ∈ desc e i, x ≤ i := by
  intro i
  induction i using Nat.strongRecOn with
  | ind i ih =>
    intro hi x hx
    rw [desc_eq h (of_getD hi)] at hx
    rw [List.mem_append, List.mem_flatMap] at hx
    rcases hx with ⟨k, hk, hx⟩ | hx
    · have := h i _ (of_getD hi) k hk
      have := ih k.toNat (by omega) (by omega) x hx
      omega
    · simp at hx; omega
theorem desc_self {e : List Nd} (h : Ahead e) {i : Nat} (hi : i < e.length) : i ∈ desc e i := by
  rw [desc_eq h (of_getD hi)]; simp
theorem desc_kid {e : List Nd} (h : Ahead e) {i : Nat} {n : Nd} (hn : e[i]? = some n) {k : Int} (hk : k ∈ kidsM n) {x : Nat} (hx : x ∈ desc e k.toNat) : x ∈ desc e i := by
  rw [desc_eq h hn, List.mem_append, List.mem_flatMap]; exact .inl ⟨k, hk, hx⟩
/-- Whatever stands in a node, but it, is an operand of another one there. -/
theorem desc_up {e : List Nd} (h : Ahead e) : ∀ i, i < e.length → ∀ x ∈ desc e i, x ≠ i → ∃ y n, y ∈ desc e i ∧ e[y]? = some n ∧ (x : Int) ∈ kidsM n ∧ x < y := by
  intro i
  induction i using Nat.strongRecOn with
  | ind i ih =>
    intro hi x hx hne
    have hn := of_getD hi
    rw [desc_eq h hn, List.mem_append, List.mem_flatMap] at hx
    rcases hx with ⟨k, hk, hx⟩ | hx
    · have hki := h i _ hn k hk
      by_cases hxk : x = k.toNat
      · exact ⟨i, _, desc_self h hi, hn, by rw [hxk, Int.toNat_of_nonneg hki.1]; exact hk, by omega⟩
      · obtain ⟨y, n, hy, h1, h2, h3⟩ := ih k.toNat (by omega) (by omega) x hx hxk
        exact ⟨y, n, desc_kid h hn hk hy, h1, h2, h3⟩
    · simp at hx; omega

/-- Each node is an operand of one at most. -/
def Once (e : List Nd) : Prop := ∀ j, usesM e j ≤ 1
theorem count_flatMap_get {α : Type} (f : α → List Int) (x : Int) : ∀ (l : List α) (i : Nat) (a : α), l[i]? = some a → (f a).count x ≤ (l.flatMap f).count x := by
  intro l
  induction l with
  | nil => intro i a h; simp at h
  | cons b r ih =>
    intro i a h
    rw [List.flatMap_cons, List.count_append]
    cases i with
    | zero => simp at h; subst h; omega
    | succ i => have := ih i a (by simpa using h); omega
theorem count_flatMap_two {α : Type} (f : α → List Int) (x : Int) : ∀ (l : List α) (i j : Nat) (a b : α), i < j → l[i]? = some a → l[j]? = some b → (f a).count x + (f b).count x ≤ (l.flatMap f).count x := by
  intro l
  induction l with
  | nil => intro i j a b _ h; simp at h
  | cons c r ih =>
    intro i j a b hij h h'
    rw [List.flatMap_cons, List.count_append]
    cases j with
    | zero => omega
    | succ j =>
      cases i with
      | zero =>
        simp at h; subst h
        have := count_flatMap_get f x r j b (by simpa using h')
        omega
      | succ i => have := ih i j a b (by omega) (by simpa using h) (by simpa using h'); omega
theorem once_parent {e : List Nd} (ho : Once e) {x y z : Nat} {n m : Nd} (hn : e[y]? = some n) (hm : e[z]? = some m) (h1 : (x : Int) ∈ kidsM n) (h2 : (x : Int) ∈ kidsM m) : y = z := by
  have c1 : 1 ≤ (kidsM n).count (x : Int) := List.one_le_count_iff.2 h1
  have c2 : 1 ≤ (kidsM m).count (x : Int) := List.one_le_count_iff.2 h2
  have := ho x
  unfold usesM at this
  rcases Nat.lt_trichotomy y z with h | h | h
  · have := count_flatMap_two kidsM (x : Int) e y z n m h hn hm; omega
  · exact h
  · have := count_flatMap_two kidsM (x : Int) e z y m n h hm hn; omega
theorem once_nodup {e : List Nd} (ho : Once e) (h : Ahead e) {i : Nat} {n : Nd} (hn : e[i]? = some n) : (kidsM n).Nodup := by
  rw [List.nodup_iff_count]
  intro k
  by_cases hk : k ∈ kidsM n
  · have hk2 := h i n hn k hk
    have := count_flatMap_get kidsM k e i n hn
    have h2 := ho k.toNat
    unfold usesM at h2
    rw [Int.toNat_of_nonneg hk2.1] at h2
    omega
  · rw [List.count_eq_zero_of_not_mem hk]; omega
/-- Two operands of one node have nothing in common. -/
theorem apart {e : List Nd} (ho : Once e) (h : Ahead e) {i : Nat} {n : Nd} (hn : e[i]? = some n) {k1 k2 : Int} (h1 : k1 ∈ kidsM n) (h2 : k2 ∈ kidsM n) (hne : k1 ≠ k2) :
    ∀ x, x ∈ desc e k1.toNat → x ∈ desc e k2.toNat → False := by
  have hi : i < e.length := (List.getElem?_eq_some_iff.1 hn).1
  have a1 := h i n hn k1 h1
  have a2 := h i n hn k2 h2
  have key : ∀ d x, k1.toNat - x ≤ d → x ∈ desc e k1.toNat → x ∈ desc e k2.toNat → False := by
    intro d
    induction d with
    | zero =>
      intro x hd hx1 hx2
      have l1 := desc_le h _ (by omega) x hx1
      have : x = k1.toNat := by omega
      subst this
      have hx : k1.toNat ≠ k2.toNat := by omega
      obtain ⟨y, m, hy, hm, hk, hl⟩ := desc_up h _ (by omega) _ hx2 hx
      have := once_parent ho hn hm (x := k1.toNat) (by rw [Int.toNat_of_nonneg a1.1]; exact h1) hk
      subst this
      have := desc_le h _ (by omega) _ hy
      omega
    | succ d ih =>
      intro x hd hx1 hx2
      by_cases e1 : x = k1.toNat
      · exact ih x (by omega) hx1 hx2
      by_cases e2 : x = k2.toNat
      · subst e2
        obtain ⟨y, m, hy, hm, hk, hl⟩ := desc_up h _ (by omega) _ hx1 (by omega)
        have := once_parent ho hn hm (x := k2.toNat) (by rw [Int.toNat_of_nonneg a2.1]; exact h2) hk
        subst this
        have := desc_le h _ (by omega) _ hy
        omega
      · obtain ⟨y, m, hy, hm, hk, hl⟩ := desc_up h _ (by omega) _ hx1 e1
        obtain ⟨z, m', hz, hm', hk', hl'⟩ := desc_up h _ (by omega) _ hx2 e2
        have := once_parent ho hm hm' hk hk'
        subst this
        have l1 := desc_le h _ (by omega) y hy
        exact ih y (by omega) hy hz
  exact fun x hx hy => key _ x (Nat.le_refl _) hx hy

theorem desc_size {e : List Nd} (h : Ahead e) : ∀ i, i < e.length → (desc e i).length = (tree e i).size := by
  intro i
  induction i using Nat.strongRecOn with
  | ind i ih =>
    intro hi
    have hn := of_getD hi
    rw [desc_eq h hn, tree_eq h hn, mkT_size _ _ (by rw [List.length_map]; exact kids_small _), List.length_append, List.length_flatMap, List.map_map]
    congr 1
    congr 1
    apply List.map_congr_left
    intro k hk
    have := h i _ hn k hk
    exact ih k.toNat (by omega) (by omega)
theorem desc_nodup {e : List Nd} (ho : Once e) (h : Ahead e) : ∀ i, i < e.length → (desc e i).Nodup := by
  intro i
  induction i using Nat.strongRecOn with
  | ind i ih =>
    intro hi
    have hn := of_getD hi
    rw [desc_eq h hn, List.nodup_append]
    refine ⟨?_, by simp, ?_⟩
    · unfold List.Nodup; rw [List.flatMap_def, List.pairwise_flatten]
      refine ⟨?_, ?_⟩
      · intro l hl
        rw [List.mem_map] at hl
        obtain ⟨k, hk, rfl⟩ := hl
        have := h i _ hn k hk
        exact ih k.toNat (by omega) (by omega)
      · rw [List.pairwise_map]
        refine List.Pairwise.imp_of_mem ?_ (once_nodup ho h hn)
        intro a b ha hb hab x hx y hy hxy
        subst hxy
        exact apart ho h hn ha hb hab x hx hy
    · intro a ha b hb hab
      simp at hb
      subst hab
      subst hb
      rw [List.mem_flatMap] at ha
      obtain ⟨k, hk, hx⟩ := ha
      have := h _ _ hn k hk
      have := desc_le h k.toNat (by omega) _ hx
      omega
theorem May.once {e : List Nd} (h : May e) : Once e := by
  intro j
  by_cases hj : j + 1 < e.length
  · rw [h.uses j hj]; omega
  · unfold usesM
    rw [List.count_eq_zero_of_not_mem]
    · omega
    · intro hm
      rw [List.mem_flatMap] at hm
      obtain ⟨n, hn, hk⟩ := hm
      obtain ⟨i, hi⟩ := List.mem_iff_getElem?.1 hn
      have := h.ahead i n hi _ hk
      have := (List.getElem?_eq_some_iff.1 hi).1
      omega
theorem May.all {e : List Nd} (h : May e) : ∀ d j, e.length - 1 - j ≤ d → j < e.length → j ∈ desc e (e.length - 1) := by
  intro d
  have hp := h.pos
  induction d with
  | zero => intro j hd hj; have : j = e.length - 1 := by omega
            rw [this]; exact desc_self h.ahead (by omega)
  | succ d ih =>
    intro j hd hj
    by_cases he : j + 1 < e.length
    · have hu := h.uses j he
      unfold usesM at hu
      have hm : (j : Int) ∈ e.flatMap kidsM := List.one_le_count_iff.1 (by omega)
      rw [List.mem_flatMap] at hm
      obtain ⟨n, hn, hk⟩ := hm
      obtain ⟨i, hi⟩ := List.mem_iff_getElem?.1 hn
      have ha := h.ahead i n hi _ hk
      have hil := (List.getElem?_eq_some_iff.1 hi).1
      have hy := ih i (by omega) hil
      -- the operands of what stands in a node stand there, too
      have key : ∀ r, r < e.length → ∀ y ∈ desc e r, ∀ m, e[y]? = some m → ∀ k ∈ kidsM m, k.toNat ∈ desc e r := by
        intro r
        induction r using Nat.strongRecOn with
        | ind r ihr =>
          intro hr y hy m hm k hk
          have hrn := of_getD hr
          have hy' := hy
          rw [desc_eq h.ahead hrn, List.mem_append, List.mem_flatMap] at hy'
          rcases hy' with ⟨k', hk', hy'⟩ | hy'
          · have := h.ahead r _ hrn k' hk'
            exact desc_kid h.ahead hrn hk' (ihr k'.toNat (by omega) (by omega) y hy' m hm k hk)
          · simp at hy'; subst hy'
            have hkr := h.ahead y m hm k hk
            exact desc_kid h.ahead hm hk (desc_self h.ahead (by omega))
      have := key _ (by omega) i hy n hi _ hk
      simpa using this
    · have : j = e.length - 1 := by omega
      rw [this]; exact desc_self h.ahead (by omega)
theorem nodup_le : ∀ (n : Nat) (l : List Nat), l.Nodup → (∀ x ∈ l, x < n) → l.length ≤ n := by
  intro n
  induction n with
  | zero => intro l _ h; cases l with
    | nil => simp
    | cons a r => have := h a (by simp); omega
  | succ n ih =>
    intro l hn h
    have e := List.length_eq_countP_add_countP (fun x => x != n) (l := l)
    have e1 : l.countP (fun x => x != n) = (l.filter (fun x => x != n)).length := List.countP_eq_length_filter
    have e2 : l.countP (fun x => decide ¬(x != n) = true) = l.count n := by
      unfold List.count; congr 1; funext x; by_cases hx : x = n <;> simp [hx]
    have := ih (l.filter (fun x => x != n)) (hn.filter _) (fun x hx => by
      rw [List.mem_filter] at hx; have := h x hx.1; have := hx.2; simp at this; omega)
    have := List.nodup_iff_count.1 hn n
    omega
theorem range_le : ∀ (n : Nat) (l : List Nat), (∀ x, x < n → x ∈ l) → n ≤ l.length := by
  intro n
  induction n with
  | zero => intro l _; omega
  | succ n ih =>
    intro l h
    have e := List.length_eq_countP_add_countP (fun x => x != n) (l := l)
    have e1 : l.countP (fun x => x != n) = (l.filter (fun x => x != n)).length := List.countP_eq_length_filter
    have e2 : l.countP (fun x => decide ¬(x != n) = true) = l.count n := by
      unfold List.count; congr 1; funext x; by_cases hx : x = n <;> simp [hx]
    have := ih (l.filter (fun x => x != n)) (fun x hx => by
      rw [List.mem_filter]; exact ⟨h x (by omega), by simp; omega⟩)
    have := List.one_le_count_iff.2 (h n (by omega))
    omega
theorem May.size {e : List Nd} (h : May e) : (tree e (e.length - 1)).size = e.length := by
  have hp := h.pos
  rw [← desc_size h.ahead _ (by omega)]
  have hnd := desc_nodup h.once h.ahead (e.length - 1) (by omega)
  have l1 := nodup_le e.length _ hnd (fun x hx => by have := desc_le h.ahead _ (by omega) x hx; omega)
  have l2 := range_le e.length (desc e (e.length - 1)) (fun x hx => h.all _ x (Nat.le_refl _) hx)
  omega
/-! ### Trees that may be, and their nodes in order -/
def argsT (op : Int) (l : List T) : Bool := argsL op (l.map (·.lab.op))
def T.okB : T → Bool
  | .l0 x => plainB x && fitsB x.op 0
  | .l1 x p => plainB x && fitsB x.op 1 && argsT x.op [p] && p.okB
  | .l2 x p q => plainB x && fitsB x.op 2 && argsT x.op [p, q] && p.okB && q.okB
  | .l3 x p q r => plainB x && fitsB x.op 3 && argsT x.op [p, q, r] && p.okB && q.okB && r.okB
theorem mkT_ok (x : Lab) (l : List T) (h : l.length ≤ 3) (h1 : plainB x = true) (h2 : fitsB x.op l.length = true) (h3 : argsT x.op l = true) (h4 : ∀ t ∈ l, t.okB = true) : (mkT x l).okB = true := by
  match l, h with
  | [], _ => simp only [mkT, T.okB, h1, Bool.true_and]; exact h2
  | [p], _ => simp only [mkT, T.okB, h1, Bool.true_and, h3, h4 p (by simp), Bool.and_true]; exact h2
  | [p, q], _ => simp only [mkT, T.okB, h1, Bool.true_and, h3, h4 p (by simp), h4 q (by simp), Bool.and_true]; exact h2
  | [p, q, r], _ => simp only [mkT, T.okB, h1, Bool.true_and, h3, h4 p (by simp), h4 q (by simp), h4 r (by simp), Bool.and_true]; exact h2
theorem May.ok {e : List Nd} (h : May e) : ∀ i, i < e.length → (tree e i).okB = true := by
  intro i
  induction i using Nat.strongRecOn with
  | ind i ih =>
    intro hi
    have hn := of_getD hi
    have g := h.node i _ hn
    rw [tree_eq h.ahead hn]
    apply mkT_ok
    · rw [List.length_map]; exact kids_small _
    · exact g.plain
    · rw [List.length_map]; exact fits_kids _
    · unfold argsT
      rw [List.map_map]
      have e1 : (kidsM (e.getD i default)).map ((fun t : T => t.lab.op) ∘ fun k => tree e k.toNat) = (kidsM (e.getD i default)).map (opAt e) := by
        apply List.map_congr_left
        intro k hk
        have := g.ahead k hk
        exact tree_op h.ahead (by omega)
      rw [e1]; exact g.args
    · intro t ht
      rw [List.mem_map] at ht
      obtain ⟨k, hk, rfl⟩ := ht
      have := g.ahead k hk
      exact ih k.toNat (by omega) (by omega)
/-- The whole expression as a tree. -/
def root (e : List Nd) : T := tree e (e.length - 1)
theorem May.root_ok {e : List Nd} (h : May e) : (root e).okB = true := h.ok _ (by have := h.pos; omega)
theorem May.root_depth {e : List Nd} (h : May e) : (root e).depth = depthM e := (depth_tree h.ahead h.pos).symm
theorem May.root_lab {e : List Nd} (h : May e) : (root e).lab.op ≠ 28 := by
  unfold root
  rw [tree_op h.ahead (by have := h.pos; omega)]; exact h.last

/-- A tree's nodes stand in a list from a place on. -/
def Seg (e : List Nd) (b : Nat) (s : List Nd) : Prop := ∀ j x, s[j]? = some x → e[b + j]? = some x
theorem Seg.left {e : List Nd} {b : Nat} {s t : List Nd} (h : Seg e b (s ++ t)) : Seg e b s := fun j x hj => h j x (by
  rw [List.getElem?_append_left (List.getElem?_eq_some_iff.1 hj).1]; exact hj)
theorem Seg.right {e : List Nd} {b : Nat} {s t : List Nd} (h : Seg e b (s ++ t)) : Seg e (b + s.length) t := fun j x hj => by
  have := h (s.length + j) x (by rw [List.getElem?_append_right (by omega), Nat.add_sub_cancel_left]; exact hj)
  rw [Nat.add_assoc]; exact this
theorem Seg.self (e : List Nd) : Seg e 0 e := fun j x hj => by rw [Nat.zero_add]; exact hj
theorem Seg.mid (a s c : List Nd) : Seg (a ++ s ++ c) a.length s := fun j x hj => by
  have hl := (List.getElem?_eq_some_iff.1 hj).1
  rw [List.append_assoc, List.getElem?_append_right (by omega), Nat.add_sub_cancel_left, List.getElem?_append_left hl]; exact hj

theorem okB_fits (t : T) (h : t.okB = true) : fitsB t.lab.op t.kids.length = true := by
  cases t <;> simp only [T.okB, Bool.and_eq_true] at h
  · exact h.2
  · exact h.1.1.2
  · exact h.1.1.1.2
  · exact h.1.1.1.1.2

theorem tr_flat {e : List Nd} (t : T) : ∀ (b f : Nat), t.okB = true → Seg e b (t.flat b) → b + t.size - 1 < f → tr e f (b + t.size - 1) = t := by
  induction t with
  | l0 x =>
    intro b f ho hs hf
    cases f with
    | zero => omega
    | succ f =>
      have hn : e[b]? = some (mkL x []) := hs 0 _ rfl
      have hfit : fitsB x.op 0 = true := okB_fits _ ho
      show tr e (f + 1) (b + 1 - 1) = _
      rw [Nat.add_sub_cancel, tr, getD_of hn, mkL_lab, kids_mkL x [] hfit (by simp)]; rfl
  | l1 x p ih =>
    intro b f ho hs hf
    have hp := p.size_pos
    have hfit : fitsB x.op 1 = true := okB_fits _ ho
    simp only [T.okB, Bool.and_eq_true] at ho
    simp only [T.size] at hf ⊢
    cases f with
    | zero => omega
    | succ f =>
      have hs1 := hs.left
      have hs2 := hs.right
      rw [T.flat_len] at hs2
      have hn : e[b + (p.size + 1) - 1]? = some (mkL x [((b + p.size - 1 : Nat) : Int)]) := hs2 0 _ rfl
      rw [tr, getD_of hn, mkL_lab, kids_mkL x [_] hfit (by intro k hk; simp at hk; omega)]
      simp only [List.map_cons, List.map_nil, Int.toNat_natCast, mkT]
      rw [ih b f ho.2 hs1 (by omega)]
  | l2 x p q ih1 ih2 =>
    intro b f ho hs hf
    have hp := p.size_pos
    have hq := q.size_pos
    have hfit : fitsB x.op 2 = true := okB_fits _ ho
    simp only [T.okB, Bool.and_eq_true] at ho
    simp only [T.size] at hf ⊢
    cases f with
    | zero => omega
    | succ f =>
      have hs1 := hs.left.left
      have hs2 := hs.left.right
      have hs3 := hs.right
      rw [T.flat_len] at hs2
      rw [List.length_append, T.flat_len, T.flat_len] at hs3
      have hn : e[b + (p.size + q.size + 1) - 1]? = some (mkL x [((b + p.size - 1 : Nat) : Int), ((b + p.size + q.size - 1 : Nat) : Int)]) := hs3 0 _ rfl
      rw [tr, getD_of hn, mkL_lab, kids_mkL x [_, _] hfit (by intro k hk; simp at hk; omega)]
      simp only [List.map_cons, List.map_nil, Int.toNat_natCast, mkT]
      rw [ih1 b f ho.1.2 hs1 (by omega), ih2 (b + p.size) f ho.2 hs2 (by omega)]
  | l3 x p q r ih1 ih2 ih3 =>
    intro b f ho hs hf
    have hp := p.size_pos
    have hq := q.size_pos
    have hr := r.size_pos
    have hfit : fitsB x.op 3 = true := okB_fits _ ho
    simp only [T.okB, Bool.and_eq_true] at ho
    simp only [T.size] at hf ⊢
    cases f with
    | zero => omega
    | succ f =>
      have hs1 := hs.left.left.left
      have hs2 := hs.left.left.right
      have hs3 := hs.left.right
      have hs4 := hs.right
      rw [T.flat_len] at hs2
      rw [List.length_append, T.flat_len, T.flat_len] at hs3
      rw [List.length_append, List.length_append, T.flat_len, T.flat_len, T.flat_len] at hs4
      have hn : e[b + (p.size + q.size + r.size + 1) - 1]? = some (mkL x [((b + p.size - 1 : Nat) : Int), ((b + p.size + q.size - 1 : Nat) : Int), ((b + p.size + q.size + r.size - 1 : Nat) : Int)]) := hs4 0 _ rfl
      rw [tr, getD_of hn, mkL_lab, kids_mkL x [_, _, _] hfit (by intro k hk; simp at hk; omega)]
      simp only [List.map_cons, List.map_nil, Int.toNat_natCast, mkT]
      rw [ih1 b f ho.1.1.2 hs1 (by omega), ih2 (b + p.size) f ho.1.2 hs2 (by omega), ih3 (b + p.size + q.size) f ho.2 (by rw [← Nat.add_assoc] at hs3; exact hs3) (by omega)]
theorem root_flat (t : T) (h : t.okB = true) : root (t.flat 0) = t := by
  unfold root tree
  have := t.size_pos
  rw [T.flat_len]
  have := tr_flat (e := t.flat 0) t 0 (t.size - 1 + 1) h (Seg.self _) (by omega)
  rw [Nat.zero_add] at this; exact this

/-- What a tree's nodes are, wherever they stand. -/
theorem good_mk {e : List Nd} {i : Nat} {x : Lab} {l : List Int} (hp : plainB x = true) (hf : fitsB x.op l.length = true) (hl : ∀ k ∈ l, 0 ≤ k ∧ k < i) (ha : argsL x.op (l.map (opAt e)) = true) : Good e i (mkL x l) := by
  have hk : kidsM (mkL x l) = l := kids_mkL x l hf (fun k hk => by have := hl k hk; omega)
  refine ⟨by rw [mkL_lab]; exact hp, by rw [mkL_lab, hk], by rw [hk]; exact hl, ?_⟩
  rw [hk, mkL_op]; exact ha
theorem flat_last (t : T) : ∀ b, ∃ l, (t.flat b)[t.size - 1]? = some (mkL t.lab l) := by
  intro b
  cases t with
  | l0 x => exact ⟨[], rfl⟩
  | l1 x p => exact ⟨_, by simp only [T.flat, T.size, T.lab]; rw [List.getElem?_append_right (by rw [T.flat_len]; omega), T.flat_len]; simp; rfl⟩
  | l2 x p q => exact ⟨_, by simp only [T.flat, T.size, T.lab]; rw [List.getElem?_append_right (by simp [T.flat_len])]; simp [T.flat_len]; rfl⟩
  | l3 x p q r => exact ⟨_, by simp only [T.flat, T.size, T.lab]; rw [List.getElem?_append_right (by simp [T.flat_len]; omega)]; rw [show p.size + q.size + r.size + 1 - 1 - (p.flat b ++ q.flat (b + p.size) ++ r.flat (b + p.size + q.size)).length = 0 from by simp [T.flat_len]; omega]; rfl⟩
theorem seg_op {e : List Nd} {t : T} {b : Nat} (h : Seg e b (t.flat b)) : opAt e ((b + t.size - 1 : Nat) : Int) = t.lab.op := by
  obtain ⟨l, hl⟩ := flat_last t b
  have := h _ _ hl
  have hp := t.size_pos
  unfold opAt
  rw [Int.toNat_natCast, getD_of (n := mkL t.lab l) (by rw [← this]; congr 1; omega), mkL_op]
theorem good_flat {e : List Nd} (t : T) : ∀ b, t.okB = true → Seg e b (t.flat b) → ∀ j x, (t.flat b)[j]? = some x → Good e (b + j) x := by
  induction t with
  | l0 x =>
    intro b ho hs j y hj
    have hfit : fitsB x.op 0 = true := okB_fits _ ho
    simp only [T.okB, Bool.and_eq_true] at ho
    cases j with
    | zero => simp [T.flat] at hj; subst hj; exact good_mk ho.1 hfit (by simp) (by rfl)
    | succ j => simp [T.flat] at hj
  | l1 x p ih =>
    intro b ho hs j y hj
    have hfit : fitsB x.op 1 = true := okB_fits _ ho
    have hp := p.size_pos
    simp only [T.okB, Bool.and_eq_true] at ho
    have hs1 := hs.left
    simp only [T.flat] at hj
    by_cases hlt : j < p.size
    · rw [List.getElem?_append_left (by rw [T.flat_len]; exact hlt)] at hj
      exact ih b ho.2 hs1 j y hj
    · rw [List.getElem?_append_right (by rw [T.flat_len]; omega), T.flat_len] at hj
      have hj' : j - p.size = 0 := by have := (List.getElem?_eq_some_iff.1 hj).1; simp at this; omega
      rw [hj'] at hj; simp at hj; subst hj
      refine good_mk ho.1.1.1 hfit (by intro k hk; simp at hk; omega) ?_
      simp only [List.map_cons, List.map_nil]
      rw [seg_op hs1]; exact ho.1.2
  | l2 x p q ih1 ih2 =>
    intro b ho hs j y hj
    have hfit : fitsB x.op 2 = true := okB_fits _ ho
    have hp := p.size_pos
    have hq := q.size_pos
    simp only [T.okB, Bool.and_eq_true] at ho
    have hs1 := hs.left.left
    have hs2 := hs.left.right
    rw [T.flat_len] at hs2
    simp only [T.flat] at hj
    by_cases hlt : j < p.size
    · rw [List.append_assoc, List.getElem?_append_left (by rw [T.flat_len]; exact hlt)] at hj
      exact ih1 b ho.1.2 hs1 j y hj
    by_cases hlt2 : j < p.size + q.size
    · rw [List.append_assoc, List.getElem?_append_right (by rw [T.flat_len]; omega), T.flat_len, List.getElem?_append_left (by rw [T.flat_len]; omega)] at hj
      have := ih2 (b + p.size) ho.2 hs2 _ y hj
      rwa [show b + p.size + (j - p.size) = b + j by omega] at this
    · rw [List.getElem?_append_right (by simp [T.flat_len]; omega)] at hj
      have hj' : j - (p.flat b ++ q.flat (b + p.size)).length = 0 := by have := (List.getElem?_eq_some_iff.1 hj).1; simp at this ⊢; omega
      rw [hj'] at hj; simp at hj; subst hj
      have hjl : j = p.size + q.size := by simp [T.flat_len] at hj'; omega
      refine good_mk ho.1.1.1.1 hfit (by intro k hk; simp at hk; omega) ?_
      simp only [List.map_cons, List.map_nil]
      rw [seg_op hs1, seg_op hs2]; exact ho.1.1.2
  | l3 x p q r ih1 ih2 ih3 =>
    intro b ho hs j y hj
    have hfit : fitsB x.op 3 = true := okB_fits _ ho
    have hp := p.size_pos
    have hq := q.size_pos
    have hr := r.size_pos
    simp only [T.okB, Bool.and_eq_true] at ho
    have hs1 := hs.left.left.left
    have hs2 := hs.left.left.right
    have hs3 := hs.left.right
    rw [T.flat_len] at hs2
    rw [List.length_append, T.flat_len, T.flat_len, ← Nat.add_assoc] at hs3
    simp only [T.flat] at hj
    by_cases hlt : j < p.size
    · rw [List.append_assoc, List.append_assoc, List.getElem?_append_left (by rw [T.flat_len]; exact hlt)] at hj
      exact ih1 b ho.1.1.2 hs1 j y hj
    by_cases hlt2 : j < p.size + q.size
    · rw [List.append_assoc, List.append_assoc, List.getElem?_append_right (by rw [T.flat_len]; omega), T.flat_len, List.getElem?_append_left (by rw [T.flat_len]; omega)] at hj
      have := ih2 (b + p.size) ho.1.2 hs2 _ y hj
      rwa [show b + p.size + (j - p.size) = b + j by omega] at this
    by_cases hlt3 : j < p.size + q.size + r.size
    · rw [List.append_assoc, List.getElem?_append_right (by simp [T.flat_len]; omega), List.getElem?_append_left (by simp [T.flat_len]; omega)] at hj
      have := ih3 (b + p.size + q.size) ho.2 hs3 _ y hj
      rwa [show b + p.size + q.size + (j - (p.flat b ++ q.flat (b + p.size)).length) = b + j by simp [T.flat_len]; omega] at this
    · rw [List.getElem?_append_right (by simp [T.flat_len]; omega)] at hj
      have hj' : j - (p.flat b ++ q.flat (b + p.size) ++ r.flat (b + p.size + q.size)).length = 0 := by have := (List.getElem?_eq_some_iff.1 hj).1; simp at this ⊢; omega
      rw [hj'] at hj; simp at hj; subst hj
      have hjl : j = p.size + q.size + r.size := by simp [T.flat_len] at hj'; omega
      refine good_mk ho.1.1.1.1.1 hfit (by intro k hk; simp at hk; omega) ?_
      simp only [List.map_cons, List.map_nil]
      rw [seg_op hs1, seg_op hs2, seg_op hs3]; exact ho.1.1.1.2

/-- How often a node is an operand, in a tree's nodes in order. -/
theorem uses_flat (t : T) : ∀ b j : Nat, t.okB = true → ((t.flat b).flatMap kidsM).count (j : Int) = if b ≤ j ∧ j + 1 < b + t.size then 1 else 0 := by
  induction t with
  | l0 x =>
    intro b j ho
    have hfit : fitsB x.op 0 = true := okB_fits _ ho
    simp only [T.flat, List.flatMap_cons, List.flatMap_nil]
    rw [kids_mkL x [] hfit (by simp), if_neg (by simp only [T.size]; omega)]; rfl
  | l1 x p ih =>
    intro b j ho
    have hfit : fitsB x.op 1 = true := okB_fits _ ho
    have hp := p.size_pos
    simp only [T.okB, Bool.and_eq_true] at ho
    simp only [T.flat, List.flatMap_append, List.flatMap_cons, List.flatMap_nil, List.append_nil, List.count_append, T.size]
    rw [kids_mkL x [_] hfit (by intro k hk; simp at hk; omega), ih b j ho.2]
    simp only [List.count_cons, List.count_nil, beq_iff_eq]
    by_cases h1 : b ≤ j ∧ j + 1 < b + p.size <;> by_cases h2 : ((b + p.size - 1 : Nat) : Int) = (j : Int) <;> by_cases h3 : b ≤ j ∧ j + 1 < b + (p.size + 1) <;> simp [h1, h2, h3] <;> omega
  | l2 x p q ih1 ih2 =>
    intro b j ho
    have hfit : fitsB x.op 2 = true := okB_fits _ ho
    have hp := p.size_pos
    have hq := q.size_pos
    simp only [T.okB, Bool.and_eq_true] at ho
    simp only [T.flat, List.flatMap_append, List.flatMap_cons, List.flatMap_nil, List.append_nil, List.count_append, T.size]
    rw [kids_mkL x [_, _] hfit (by intro k hk; simp at hk; omega), ih1 b j ho.1.2, ih2 (b + p.size) j ho.2]
    simp only [List.count_cons, List.count_nil, beq_iff_eq]
    by_cases h1 : b ≤ j ∧ j + 1 < b + p.size <;> by_cases h2 : b + p.size ≤ j ∧ j + 1 < b + p.size + q.size <;> by_cases h3 : ((b + p.size - 1 : Nat) : Int) = (j : Int) <;> by_cases h4 : ((b + p.size + q.size - 1 : Nat) : Int) = (j : Int) <;>
      by_cases h5 : b ≤ j ∧ j + 1 < b + (p.size + q.size + 1) <;> simp [h1, h2, h3, h4, h5] <;> omega
  | l3 x p q r ih1 ih2 ih3 =>
    intro b j ho
    have hfit : fitsB x.op 3 = true := okB_fits _ ho
    have hp := p.size_pos
    have hq := q.size_pos
    have hr := r.size_pos
    simp only [T.okB, Bool.and_eq_true] at ho
    rw [show (T.l3 x p q r).size = p.size + q.size + r.size + 1 from rfl]
    simp only [T.flat, List.flatMap_append, List.flatMap_cons, List.flatMap_nil, List.append_nil, List.count_append]
    rw [kids_mkL x [_, _, _] hfit (by intro k hk; simp at hk; omega), ih1 b j ho.1.1.2, ih2 (b + p.size) j ho.1.2, ih3 (b + p.size + q.size) j ho.2]
    simp only [List.count_cons, List.count_nil, beq_iff_eq]
    split <;> split <;> split <;> split <;> split <;> split <;> split <;> omega

/-- A tree that may be, in order, is an expression that may be. -/
theorem may_flat (t : T) (h : t.okB = true) (hr : t.lab.op ≠ 28) (hs : t.size ≤ 5000) (hd : t.depth ≤ 40) : May (t.flat 0) := by
  have hp := t.size_pos
  have hg : ∀ i x, (t.flat 0)[i]? = some x → Good (t.flat 0) i x := fun i x hx => by
    have := good_flat (e := t.flat 0) t 0 h (Seg.self _) i x hx
    rwa [Nat.zero_add] at this
  have ha : Ahead (t.flat 0) := fun i n hn => (hg i n hn).ahead
  refine ⟨by rw [T.flat_len]; exact hp, by rw [T.flat_len]; exact hs, hg, ?_, ?_, ?_⟩
  · intro j hj
    rw [T.flat_len] at hj
    unfold usesM
    rw [uses_flat t 0 j h, if_pos (by omega)]
  · have := seg_op (e := t.flat 0) (t := t) (b := 0) (Seg.self _)
    unfold opAt at this
    rw [Int.toNat_natCast, Nat.zero_add] at this
    rw [T.flat_len, this]; exact hr
  · rw [depth_tree ha (by rw [T.flat_len]; exact hp)]
    have := root_flat t h
    unfold root at this
    rw [this]; exact hd
/-- What is put in order. -/
def normM (e : List Nd) : List Nd := (root e).flat 0
theorem May.norm {e : List Nd} (h : May e) : May (normM e) :=
  may_flat _ h.root_ok h.root_lab (by unfold root; rw [h.size]; exact h.le) (by rw [h.root_depth]; exact h.deep)
theorem May.norm_len {e : List Nd} (h : May e) : (normM e).length = e.length := by unfold normM; rw [T.flat_len]; exact h.size
theorem May.root_norm {e : List Nd} (h : May e) : root (normM e) = root e := root_flat _ h.root_ok
theorem May.norm_norm {e : List Nd} (h : May e) : normM (normM e) = normM e := by unfold normM; rw [root_flat _ h.root_ok]
end Go.Proofs.Ytmggedjolocgdaa.Tr
