/- Nets, as plain functions: whether one may be, its order, it in order, where each operator is needed last. Conditions: none. -/
import Derived.Test.YtcphjehjdhgheaaNtO
namespace Go.Proofs.Ytcphjehjdhgheaa.Nt
set_option linter.unusedVariables false
set_option linter.unusedSimpArgs false

/-- An operator. -/
structure Op5 where
  op : Int
  a : Int
  b : Int
  c : Int
  n : Int
deriving DecidableEq, Inhabited
structure Net where
  ops : List Op5
  roots : List Int
  ins : List Int
deriving DecidableEq, Inhabited
def fitsI (n : Int) : Bool := decide (-2147483648 ≤ n) && decide (n ≤ 2147483647)
/-- How many operands an operator of numbers takes. -/
def opnd (op : Int) : Int := if op = 4 ∨ op = 5 then 1 else if op = 26 then 3 else if 6 ≤ op ∧ op ≤ 18 then 2 else -1
/-- .. an operator of a net. -/
def kids (op : Int) : Int := if op = 1 ∨ op = 2 ∨ op = 3 then 0 else if op = 21 then 1 else if op = 19 then 2 else opnd op
def plainB (nin : Nat) (x : Op5) : Bool :=
  if x.op = 3 then decide (0 ≤ x.n) && decide (x.n < (nin : Int)) else if x.op = 1 then fitsI x.n else if x.op = 2 then x.n == 0 || x.n == 1 else x.n == 0
def isOp (n : Nat) (k : Int) : Bool := decide (0 ≤ k) && decide (k < (n : Int))
def fldB (n : Nat) (k many : Int) (at_ : Int) : Bool := if many ≤ at_ then k == -1 else isOp n k
def mayOp (n nin : Nat) (x : Op5) : Bool := decide (0 ≤ kids x.op) && plainB nin x && fldB n x.a (kids x.op) 0 && fldB n x.b (kids x.op) 1 && fldB n x.c (kids x.op) 2
def mayN (N : Net) : Bool := decide (N.ops.length ≤ 100000) && N.ops.all (mayOp N.ops.length N.ins.length) && N.roots.all (isOp N.ops.length)
/-- What an operator needs. -/
def needI (x : Op5) : List Int := if x.op = 21 then [] else [x.a, x.b, x.c].take (kids x.op).toNat
def opAt (N : Net) (i : Nat) : Op5 := N.ops.getD i ⟨0, 0, 0, 0, 0⟩
def ndN (N : Net) (i : Nat) : List Nat := (needI (opAt N i)).map Int.toNat
def grN (N : Net) : Gr := ⟨N.ops.length, ndN N⟩
def orderN (N : Net) : List Nat := takenG (grN N)
def checkN (N : Net) : Int := if mayN N = false then 1 else if okG (grN N) = false then 12 else 0
/-- New numbers for old ones. -/
def newOf (o : List Nat) (k : Nat) : Nat := o.idxOf k
def toI (o : List Nat) (k : Int) : Int := if k < 0 then k else (newOf o k.toNat : Int)
def turnOp (o : List Nat) (x : Op5) : Op5 := ⟨x.op, toI o x.a, toI o x.b, toI o x.c, x.n⟩
def sortedN (N : Net) : Net := ⟨(orderN N).map fun i => turnOp (orderN N) (opAt N i), N.roots.map (toI (orderN N)), N.ins⟩
def emptyN : Net := ⟨[], [], []⟩
def sortN (N : Net) : Net := if checkN N = 0 then sortedN N else emptyN
def inOrdB (N : Net) : Bool := (List.range N.ops.length).all fun i => (ndN N i).all fun k => decide (k < i)
def isN (N : Net) : Bool := checkN N == 0 && inOrdB N
/-- The last one so far that needs an operator. -/
def lastTo (N : Net) (m : Nat) (k : Nat) : Int := (List.range m).foldl (fun a i => if k ∈ ndN N i then (i : Int) else a) (-1)
def endsOf (N : Net) : List Int := (List.range N.ops.length).map (lastTo N N.ops.length)
def endsN (N : Net) : List Int := if isN N then endsOf N else []

theorem kids_cases (op : Int) : kids op = -1 ∨ kids op = 0 ∨ kids op = 1 ∨ kids op = 2 ∨ kids op = 3 := by
  unfold kids opnd
  repeat' split
  all_goals omega
theorem isOp_iff {n : Nat} {k : Int} : isOp n k = true ↔ 0 ≤ k ∧ k < (n : Int) := by unfold isOp; simp
/-- The fields of an operator that may be. -/
theorem may_flds {n nin : Nat} {x : Op5} (h : mayOp n nin x = true) : 0 ≤ kids x.op ∧ (∀ k ∈ [x.a, x.b, x.c].take (kids x.op).toNat, 0 ≤ k ∧ k < (n : Int)) ∧ (∀ k ∈ [x.a, x.b, x.c].drop (kids x.op).toNat, k = -1) := by
  unfold mayOp fldB at h
  simp only [Bool.and_eq_true] at h
  obtain ⟨⟨⟨⟨h0, -⟩, ha⟩, hb⟩, hc⟩ := h
  rcases kids_cases x.op with e | e | e | e | e <;> rw [e] at h0 ha hb hc ⊢ <;> simp [isOp] at h0 ha hb hc ⊢ <;> omega
theorem need_flds {n nin : Nat} {x : Op5} (h : mayOp n nin x = true) : ∀ k ∈ needI x, 0 ≤ k ∧ k < (n : Int) := by
  intro k hk
  unfold needI at hk
  split at hk
  · simp at hk
  · exact (may_flds h).2.1 k hk
/-- Of an operator that may be, what it needs are its fields that are not below 0. -/
theorem need_filter {n nin : Nat} {x : Op5} (h : mayOp n nin x = true) (hp : x.op ≠ 21) : needI x = [x.a, x.b, x.c].filter fun k => decide (0 ≤ k) := by
  obtain ⟨h0, h1, h2⟩ := may_flds h
  unfold needI
  rw [if_neg hp]
  have e := List.take_append_drop (kids x.op).toNat [x.a, x.b, x.c]
  have : [x.a, x.b, x.c].filter (fun k => decide (0 ≤ k)) = ([x.a, x.b, x.c].take (kids x.op).toNat ++ [x.a, x.b, x.c].drop (kids x.op).toNat).filter fun k => decide (0 ≤ k) := by rw [e]
  rw [this, List.filter_append, List.filter_eq_self.2 (fun k hk => by simpa using (h1 k hk).1), List.filter_eq_nil_iff.2 (fun k hk => by rw [h2 k hk]; simp), List.append_nil]
theorem may_at {N : Net} (h : mayN N = true) {i : Nat} (hi : i < N.ops.length) : mayOp N.ops.length N.ins.length (opAt N i) = true := by
  unfold mayN at h
  simp only [Bool.and_eq_true, List.all_eq_true] at h
  have e : opAt N i = N.ops[i] := by unfold opAt; simp [List.getD, hi]
  rw [e]; exact h.1.2 _ (List.getElem_mem hi)
theorem op_get {N : Net} {i : Nat} (hi : i < N.ops.length) : N.ops[i]? = some (opAt N i) := by unfold opAt; simp [List.getD, hi]
theorem nd_lt {N : Net} (h : mayN N = true) : (grN N).wf := by
  intro i hi j hj
  obtain ⟨k, hk, rfl⟩ := List.mem_map.1 hj
  have := need_flds (may_at h hi) k hk
  show k.toNat < N.ops.length
  omega
theorem nd_cast {N : Net} (h : mayN N = true) {i : Nat} (hi : i < N.ops.length) : (ndN N i).map (fun (k : Nat) => (k : Int)) = needI (opAt N i) := by
  unfold ndN
  rw [List.map_map]
  conv => rhs; rw [← List.map_id (needI (opAt N i))]
  refine List.map_congr_left (fun k hk => ?_)
  have := need_flds (may_at h hi) k hk
  simp; omega
theorem check_cases (N : Net) : checkN N = 1 ∨ checkN N = 12 ∨ checkN N = 0 := by unfold checkN; repeat' split <;> simp
theorem check_ok {N : Net} : checkN N = 0 ↔ mayN N = true ∧ okG (grN N) = true := by
  unfold checkN
  cases mayN N <;> cases okG (grN N) <;> simp
theorem order_len {N : Net} (h : checkN N = 0) : (orderN N).length = N.ops.length := ok_len (check_ok.1 h).2
theorem order_lt {N : Net} {i : Nat} (h : i ∈ orderN N) : i < N.ops.length := (taken_valid (grN N)).lt i h
theorem order_mem {N : Net} (h : checkN N = 0) {i : Nat} (hi : i < N.ops.length) : i ∈ orderN N := (taken_valid (grN N)).all (Nat.le_of_eq (order_len h).symm) i hi
theorem new_lt {N : Net} (h : checkN N = 0) {i : Nat} (hi : i < N.ops.length) : newOf (orderN N) i < N.ops.length := by
  have := List.idxOf_lt_length_of_mem (order_mem h hi)
  rw [order_len h] at this; exact this
theorem new_get {N : Net} (h : checkN N = 0) {i : Nat} (hi : i < N.ops.length) : (orderN N)[newOf (orderN N) i]? = some i := by
  have := List.idxOf_lt_length_of_mem (order_mem h hi)
  unfold newOf
  rw [List.getElem?_eq_getElem this, List.getElem_idxOf]
theorem get_new {N : Net} {i k : Nat} (hk : (orderN N)[k]? = some i) : newOf (orderN N) i = k := by
  have hm : i ∈ orderN N := List.mem_of_getElem? hk
  have h1 := List.idxOf_lt_length_of_mem hm
  have e : (orderN N)[(orderN N).idxOf i]? = some i := by rw [List.getElem?_eq_getElem h1, List.getElem_idxOf]
  exact nodup_get (taken_valid (grN N)).nodup (x := i) e hk

/-! ### A net in order -/
theorem sorted_at {N : Net} {k i : Nat} (hk : (orderN N)[k]? = some i) : opAt (sortedN N) k = turnOp (orderN N) (opAt N i) := by
  unfold opAt sortedN
  simp [List.getD, hk, opAt]
theorem toI_neg (o : List Nat) : toI o (-1) = -1 := by unfold toI; simp
theorem toI_nat (o : List Nat) (k : Nat) : toI o (k : Int) = (newOf o k : Int) := by unfold toI; rw [if_neg (by omega)]; simp
theorem turn_may {N : Net} (h : checkN N = 0) {x : Op5} (hx : mayOp N.ops.length N.ins.length x = true) : mayOp N.ops.length N.ins.length (turnOp (orderN N) x) = true := by
  have key : ∀ (k many at_ : Int), fldB N.ops.length k many at_ = true → fldB N.ops.length (toI (orderN N) k) many at_ = true := by
    intro k many at_ hk
    unfold fldB at hk ⊢
    split at hk
    · have : k = -1 := by simpa using hk
      subst this
      rename_i hm
      rw [if_pos hm, toI_neg]; rfl
    · rename_i hm
      rw [if_neg hm]
      obtain ⟨h1, h2⟩ := isOp_iff.1 hk
      have hlt := new_lt h (i := k.toNat) (by omega)
      unfold toI
      rw [if_neg (by omega), isOp_iff]; omega
  unfold mayOp at hx ⊢
  simp only [Bool.and_eq_true] at hx ⊢
  exact ⟨⟨⟨⟨hx.1.1.1.1, hx.1.1.1.2⟩, key _ _ _ hx.1.1.2⟩, key _ _ _ hx.1.2⟩, key _ _ _ hx.2⟩
theorem sorted_len {N : Net} (h : checkN N = 0) : (sortedN N).ops.length = N.ops.length := by show ((orderN N).map _).length = _; rw [List.length_map, order_len h]
theorem sorted_may {N : Net} (h : checkN N = 0) : mayN (sortedN N) = true := by
  have hm := (check_ok.1 h).1
  have hl := sorted_len h
  unfold mayN
  rw [hl]
  unfold mayN at hm
  simp only [Bool.and_eq_true, List.all_eq_true] at hm ⊢
  refine ⟨⟨hm.1.1, fun x hx => ?_⟩, fun k hk => ?_⟩
  · obtain ⟨i, hi, rfl⟩ := List.mem_map.1 hx
    exact turn_may h (may_at (check_ok.1 h).1 (order_lt hi))
  · obtain ⟨r, hr, rfl⟩ := List.mem_map.1 hk
    have := isOp_iff.1 (hm.2 r hr)
    have hlt := new_lt h (i := r.toNat) (by omega)
    unfold toI
    rw [if_neg (by omega), isOp_iff]; omega
theorem need_turn {N : Net} {i : Nat} : needI (turnOp (orderN N) (opAt N i)) = (needI (opAt N i)).map (toI (orderN N)) := by
  unfold needI turnOp
  by_cases hp : (opAt N i).op = 21
  · rw [if_pos hp, if_pos hp]; rfl
  · rw [if_neg hp, if_neg hp, List.map_take]; rfl
theorem sorted_nd {N : Net} (h : checkN N = 0) {k i : Nat} (hk : (orderN N)[k]? = some i) : ndN (sortedN N) k = (ndN N i).map (newOf (orderN N)) := by
  have hi := order_lt (List.mem_of_getElem? hk)
  unfold ndN
  rw [sorted_at hk, need_turn, List.map_map, List.map_map]
  refine List.map_congr_left (fun x hx => ?_)
  have := need_flds (may_at (check_ok.1 h).1 hi) x hx
  show (toI (orderN N) x).toNat = newOf (orderN N) x.toNat
  unfold toI
  rw [if_neg (by omega)]; simp
theorem sorted_behind {N : Net} (h : checkN N = 0) {k : Nat} (hk : k < N.ops.length) : ∀ j ∈ ndN (sortedN N) k, j < k := by
  obtain ⟨i, hi⟩ : ∃ i, (orderN N)[k]? = some i := ⟨_, List.getElem?_eq_getElem (by rw [order_len h]; exact hk)⟩
  intro j hj
  rw [sorted_nd h hi] at hj
  obtain ⟨m, hm, rfl⟩ := List.mem_map.1 hj
  have hb := (taken_valid (grN N)).behind k i hi m hm
  obtain ⟨p, hp, e⟩ := List.mem_iff_getElem.1 hb
  rw [List.length_take] at hp
  rw [List.getElem_take] at e
  have hp2 : p < (orderN N).length := by show p < (takenG (grN N)).length; omega
  have : (orderN N)[p]? = some m := by rw [List.getElem?_eq_getElem hp2]; congr 1
  rw [get_new this]; omega
theorem in_ord {N : Net} : inOrdB N = true ↔ ∀ i, i < N.ops.length → ∀ k ∈ ndN N i, k < i := by unfold inOrdB; simp
theorem order_range {N : Net} (h : inOrdB N = true) : orderN N = List.range N.ops.length := taken_range (G := grN N) (in_ord.1 h)
theorem sorted_ord {N : Net} (h : checkN N = 0) : inOrdB (sortedN N) = true := in_ord.2 (fun i hi => sorted_behind h (by rw [sorted_len h] at hi; exact hi))
theorem sorted_check {N : Net} (h : checkN N = 0) : checkN (sortedN N) = 0 := check_ok.2 ⟨sorted_may h, by
  have e := order_range (sorted_ord h)
  unfold okG
  exact decide_eq_true (by show (sortedN N).ops.length ≤ (orderN (sortedN N)).length; rw [e]; simp)⟩
theorem sorted_is {N : Net} (h : checkN N = 0) : isN (sortedN N) = true := by unfold isN; rw [sorted_check h, sorted_ord h]; rfl
theorem idx_range {n k : Nat} (h : k < n) : newOf (List.range n) k = k := by
  unfold newOf
  have h1 := List.idxOf_lt_length_of_mem (List.mem_range.2 h)
  have h2 : (List.range n)[(List.range n).idxOf k]? = some k := by rw [List.getElem?_eq_getElem h1, List.getElem_idxOf]
  exact nodup_get List.nodup_range h2 (by rw [List.getElem?_range h])
/-- What is in order stays as it is. -/
theorem sorted_same {N : Net} (hc : checkN N = 0) (h : inOrdB N = true) : sortedN N = N := by
  have hm := (check_ok.1 hc).1
  have e := order_range h
  have hid : ∀ k : Int, (k = -1 ∨ (0 ≤ k ∧ k < (N.ops.length : Int))) → toI (List.range N.ops.length) k = k := fun k hk => by
    unfold toI
    split
    · rfl
    · rw [idx_range (by omega)]; omega
  have hop : ∀ i, i < N.ops.length → turnOp (List.range N.ops.length) (opAt N i) = opAt N i := fun i hi => by
    obtain ⟨-, h1, h2⟩ := may_flds (may_at hm hi)
    have hf : ∀ k ∈ [(opAt N i).a, (opAt N i).b, (opAt N i).c], toI (List.range N.ops.length) k = k := fun k hk => by
      rw [← List.take_append_drop (kids (opAt N i).op).toNat [(opAt N i).a, (opAt N i).b, (opAt N i).c], List.mem_append] at hk
      rcases hk with hk | hk
      · exact hid k (.inr (h1 k hk))
      · exact hid k (.inl (h2 k hk))
    unfold turnOp
    rw [hf _ (by simp), hf _ (by simp), hf _ (by simp)]
  unfold sortedN
  rw [e]
  have e1 : (List.range N.ops.length).map (fun i => turnOp (List.range N.ops.length) (opAt N i)) = N.ops := by
    refine List.ext_getElem? (fun i => ?_)
    rw [List.getElem?_map]
    by_cases hi : i < N.ops.length
    · rw [List.getElem?_range hi, op_get hi]; simp [hop i hi]
    · rw [List.getElem?_eq_none (by simpa using hi), List.getElem?_eq_none (by omega)]; rfl
  have e2 : N.roots.map (toI (List.range N.ops.length)) = N.roots := by
    unfold mayN at hm
    simp only [Bool.and_eq_true, List.all_eq_true] at hm
    conv => rhs; rw [← List.map_id N.roots]
    exact List.map_congr_left (fun k hk => hid k (.inr (isOp_iff.1 (hm.2 k hk))))
  rw [e1, e2]

/-! ### Where each is needed last -/
theorem last_succ (N : Net) (m k : Nat) : lastTo N (m + 1) k = if k ∈ ndN N m then (m : Int) else lastTo N m k := by
  unfold lastTo
  rw [List.range_succ, List.foldl_append]; rfl
theorem last_zero (N : Net) (k : Nat) : lastTo N 0 k = -1 := rfl
theorem last_spec (N : Net) (k : Nat) : ∀ m, (∀ i, i < m → k ∈ ndN N i → (i : Int) ≤ lastTo N m k) ∧ (∀ i : Nat, (i : Int) = lastTo N m k → i < m ∧ k ∈ ndN N i) := by
  intro m
  induction m with
  | zero => exact ⟨fun i h => by omega, fun i h => by rw [last_zero] at h; omega⟩
  | succ m ih =>
    rw [last_succ]
    by_cases hk : k ∈ ndN N m
    · rw [if_pos hk]
      exact ⟨fun i hi _ => by omega, fun i hi => by have : i = m := by omega
                                                    subst this; exact ⟨by omega, hk⟩⟩
    · rw [if_neg hk]
      refine ⟨fun i hi hn => ?_, fun i hi => ?_⟩
      · by_cases e : i = m
        · subst e; exact absurd hn hk
        · exact ih.1 i (by omega) hn
      · obtain ⟨h1, h2⟩ := ih.2 i hi
        exact ⟨by omega, h2⟩
/-- The first one that needs nothing is first. -/
theorem order_zero {N : Net} (h0 : 0 < N.ops.length) (hn : ndN N 0 = []) : ∃ r, orderN N = 0 :: r := by
  have h1 : nextG (grN N) [] = some 0 := next_of h0 (free_iff.2 ⟨by simp, fun j hj => by
    have hj : j ∈ ndN N 0 := hj
    rw [hn] at hj; simp at hj⟩) (fun j _ _ => by omega)
  obtain ⟨f, hf⟩ : ∃ f, N.ops.length = f + 1 := ⟨N.ops.length - 1, by omega⟩
  have pre : ∀ f t, ∃ r, goG (grN N) f t = t ++ r := by
    intro f
    induction f with
    | zero => intro t; exact ⟨[], by unfold goG; simp⟩
    | succ f ih =>
      intro t
      unfold goG
      cases nextG (grN N) t with
      | none => exact ⟨[], by simp⟩
      | some i =>
        obtain ⟨r, hr⟩ := ih (t ++ [i])
        exact ⟨i :: r, by show goG (grN N) f (t ++ [i]) = _; rw [hr]; simp⟩
  obtain ⟨r, hr⟩ := pre f [0]
  refine ⟨r, ?_⟩
  unfold orderN takenG
  show goG (grN N) N.ops.length [] = _
  rw [hf]
  unfold goG
  rw [h1]
  show goG (grN N) f ([] ++ [0]) = _
  rw [List.nil_append, hr]; rfl
end Go.Proofs.Ytcphjehjdhgheaa.Nt
