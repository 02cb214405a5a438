/- A net that is put in order tells what it told, as plain functions. Conditions: none. Instructions of a net in order: which registers hold what, as plain functions. Conditions: none. Instructions of a net tell what the net tells, as plain functions. Conditions: none. Instructions that are made of a net may be, take no more than is said, and tell what the net tells; as plain functions. Conditions: none. -/
import Derived.Test.YtcphjehjdhgheaaNkM
namespace Go.Proofs.Ytcphjehjdhgheaa.Nt
open Go.Proofs.Ytcphjehjdhgheaa.Num (doN)
set_option linter.unusedVariables false
set_option linter.unusedSimpArgs false

theorem step_len (N : Net) (row was : List Int) : ∀ (l : List Nat) (s : List Int × Int), (l.foldl (stepN N row was) s).1.length = s.1.length := by
  intro l
  induction l with
  | nil => intro s; rfl
  | cons i r ih => intro s; rw [List.foldl_cons, ih]; simp [stepN]
theorem inst_len (N : Net) (row was : List Int) : (instN N row was).1.length = N.ops.length := by unfold instN; rw [step_len]; simp
theorem arg_congr {l l' v v' : List Int} (hl : l.length = l'.length) (h : ∀ (j : Nat) k k', l[j]? = some k → l'[j]? = some k' → at0 v k = at0 v' k') (j : Nat) : arg l v j = arg l' v' j := by
  unfold arg
  by_cases hj : j < l.length
  · obtain ⟨k, hk⟩ : ∃ k, l[j]? = some k := ⟨_, List.getElem?_eq_getElem hj⟩
    obtain ⟨k', hk'⟩ : ∃ k, l'[j]? = some k := ⟨_, List.getElem?_eq_getElem (by omega)⟩
    rw [hk, hk']; exact h j k k' hk hk'
  · rw [List.getElem?_eq_none (by omega), List.getElem?_eq_none (by omega)]
theorem at0_set_ne {v : List Int} {i : Nat} {k x : Int} (h : k.toNat ≠ i) : at0 (v.set i x) k = at0 v k := by
  unfold at0; simp [List.getD, List.getElem?_set, Ne.symm h]
theorem at0_set_eq {v : List Int} {i : Nat} {k x : Int} (h : k.toNat = i) (hi : i < v.length) : at0 (v.set i x) k = x := by
  unfold at0; simp [List.getD, List.getElem?_set, h, hi]
theorem kids_arrow : kids 19 = 2 := rfl
theorem kids_pre : kids 21 = 1 := rfl
/-- Of two operators that are alike, over values that are alike where they look, the values are alike. -/
theorem val_congr {x y : Op5} {row v v' was was' : List Int} (ho : y.op = x.op) (hn : y.n = x.n) (hl : (needI x).length = (needI y).length)
    (hv : ∀ (j : Nat) k k', (needI x)[j]? = some k → (needI y)[j]? = some k' → at0 v k = at0 v' k') (hw : was.length = 0 ↔ was'.length = 0) (hp : x.op = 21 → was.length ≠ 0 → at0 was x.a = at0 was' y.a) :
    valN x row v was = valN y row v' was' := by
  unfold valN
  rw [ho, hn]
  by_cases h3 : x.op = 3
  · rw [if_pos h3, if_pos h3]
  rw [if_neg h3, if_neg h3]
  by_cases h12 : x.op = 1 ∨ x.op = 2
  · rw [if_pos h12, if_pos h12]
  rw [if_neg h12, if_neg h12]
  by_cases h19 : x.op = 19
  · rw [if_pos h19, if_pos h19]
    have e1 : needI x = [x.a, x.b] := by unfold needI; rw [if_neg (by omega), h19, kids_arrow]; rfl
    have e2 : needI y = [y.a, y.b] := by unfold needI; rw [if_neg (by omega), ho, h19, kids_arrow]; rfl
    rw [e1, e2] at hv
    have ha := hv 0 x.a y.a rfl rfl
    have hb := hv 1 x.b y.b rfl rfl
    rw [ha, hb]
    by_cases hz : was.length = 0
    · rw [if_pos hz, if_pos (hw.1 hz)]
    · rw [if_neg hz, if_neg (fun h => hz (hw.2 h))]
  rw [if_neg h19, if_neg h19]
  by_cases h21 : x.op = 21
  · rw [if_pos h21, if_pos h21]
    by_cases hz : was.length = 0
    · rw [if_pos hz, if_pos (hw.1 hz)]
    · rw [if_neg hz, if_neg (fun h => hz (hw.2 h)), hp h21 hz]
  rw [if_neg h21, if_neg h21, arg_congr hl hv, arg_congr hl hv, arg_congr hl hv]

/-! ### The same in order -/
/-- Values of the net in order, and those of the net, operator by operator. -/
def Alike (N : Net) (v v' : List Int) (m : Nat) : Prop := ∀ k i, k < m → (orderN N)[k]? = some i → at0 v (i : Int) = at0 v' (k : Int)
theorem nat_at0 (v : List Int) (k : Nat) : at0 v (k : Int) = v.getD k 0 := by unfold at0; simp
theorem sim_order {N : Net} (h : checkN N = 0) (row was was' : List Int) (hw : was.length = 0 ↔ was'.length = 0) (hp : was.length ≠ 0 → Alike N was was' N.ops.length) :
    ∀ m, m ≤ N.ops.length → Alike N (((orderN N).take m).foldl (stepN N row was) (List.replicate N.ops.length 0, 0)).1 ((List.range m).foldl (stepN (sortedN N) row was') (List.replicate N.ops.length 0, 0)).1 m
      ∧ (((orderN N).take m).foldl (stepN N row was) (List.replicate N.ops.length 0, 0)).2 = ((List.range m).foldl (stepN (sortedN N) row was') (List.replicate N.ops.length 0, 0)).2 := by
  have hm := (check_ok.1 h).1
  intro m
  induction m with
  | zero => intro _; exact ⟨fun k i hk _ => by omega, rfl⟩
  | succ m ih =>
    intro hle
    obtain ⟨ih1, ih2⟩ := ih (by omega)
    obtain ⟨i, hi⟩ : ∃ i, (orderN N)[m]? = some i := ⟨_, List.getElem?_eq_getElem (by rw [order_len h]; omega)⟩
    have hin := order_lt (List.mem_of_getElem? hi)
    have e1 : (orderN N).take (m + 1) = (orderN N).take m ++ [i] := by rw [List.take_add_one, hi]; rfl
    rw [e1, List.foldl_append, List.range_succ, List.foldl_append]
    generalize hA : ((orderN N).take m).foldl (stepN N row was) (List.replicate N.ops.length 0, 0) = A at ih1 ih2
    generalize hB : (List.range m).foldl (stepN (sortedN N) row was') (List.replicate N.ops.length 0, 0) = B at ih1 ih2
    have lA : A.1.length = N.ops.length := by rw [← hA, step_len]; simp
    have lB : B.1.length = N.ops.length := by rw [← hB, step_len]; simp
    have hmay := may_at hm hin
    have hval : valN (opAt N i) row A.1 was = valN (opAt (sortedN N) m) row B.1 was' := by
      rw [sorted_at hi]
      refine val_congr rfl rfl (by rw [need_turn, List.length_map]) (fun j k k' hk hk' => ?_) hw (fun hop hz => ?_)
      · rw [need_turn, List.getElem?_map, hk] at hk'
        injection hk' with hk'
        have hkm := List.mem_of_getElem? hk
        have hkr := need_flds hmay k hkm
        have hb := (taken_valid (grN N)).behind m i hi k.toNat (List.mem_map.2 ⟨k, hkm, rfl⟩)
        obtain ⟨p, hp', e⟩ := List.mem_iff_getElem.1 hb
        rw [List.length_take] at hp'
        rw [List.getElem_take] at e
        have hpl : p < (orderN N).length := by show p < (takenG (grN N)).length; omega
        have hpo : (orderN N)[p]? = some k.toNat := by rw [List.getElem?_eq_getElem hpl]; exact congrArg some e
        have hn := get_new hpo
        have := ih1 p k.toNat (by omega) hpo
        rw [← hk']
        unfold toI
        rw [if_neg (by omega), hn, ← this, Int.toNat_of_nonneg hkr.1]
      · have hp2 := hp hz
        obtain ⟨h0, h1, -⟩ := may_flds hmay
        rw [hop, kids_pre] at h1
        have ha := h1 (opAt N i).a (by simp)
        show at0 was (opAt N i).a = at0 was' (toI (orderN N) (opAt N i).a)
        unfold toI
        rw [if_neg (by omega)]
        have hq := new_get h (i := (opAt N i).a.toNat) (by omega)
        have hlt := new_lt h (i := (opAt N i).a.toNat) (by omega)
        have := hp2 _ _ hlt hq
        rw [← this, Int.toNat_of_nonneg ha.1]
    refine ⟨fun k j hk hj => ?_, ?_⟩
    · show at0 (A.1.set i _) _ = at0 (B.1.set m _) _
      rw [hval]
      by_cases e : k = m
      · subst e
        rw [hi] at hj
        injection hj with hj
        subst hj
        rw [at0_set_eq (by simp) (by omega), at0_set_eq (by simp) (by omega)]
      · have hji : j ≠ i := fun c => e (nodup_get (taken_valid (grN N)).nodup (x := i) (by rw [← c]; exact hj) hi)
        rw [at0_set_ne (by simpa using hji), at0_set_ne (by simpa using e)]
        exact ih1 k j (by omega) hj
    · show leastE A.2 _ = leastE B.2 _
      rw [hval, ih2]
theorem sim_inst {N : Net} (h : checkN N = 0) (row was was' : List Int) (hw : was.length = 0 ↔ was'.length = 0) (hp : was.length ≠ 0 → Alike N was was' N.ops.length) :
    Alike N (instN N row was).1 (instN (sortedN N) row was').1 N.ops.length ∧ (instN N row was).2 = (instN (sortedN N) row was').2 := by
  have := sim_order h row was was' hw hp N.ops.length (Nat.le_refl _)
  unfold instN
  rw [order_range (sorted_ord h), sorted_len h]
  rw [← order_len h, List.take_length, order_len h] at this
  exact this
theorem sim_row {N : Net} (h : checkN N = 0) {v v' : List Int} (ha : Alike N v v' N.ops.length) : rowN N v = rowN (sortedN N) v' := by
  unfold rowN
  show _ = (N.roots.map (toI (orderN N))).map (at0 v')
  rw [List.map_map]
  refine List.map_congr_left (fun k hk => ?_)
  have hm := (check_ok.1 h).1
  unfold mayN at hm
  simp only [Bool.and_eq_true, List.all_eq_true] at hm
  have hr := isOp_iff.1 (hm.2 k hk)
  show at0 v k = at0 v' (toI (orderN N) k)
  unfold toI
  rw [if_neg (by omega), ← ha _ _ (new_lt h (i := k.toNat) (by omega)) (new_get h (i := k.toNat) (by omega)), Int.toNat_of_nonneg hr.1]
theorem sim_go {N : Net} (h : checkN N = 0) : ∀ (l : List (List Int)) (was was' : List Int) (out : List (List Int)), (was.length = 0 ↔ was'.length = 0) → (was.length ≠ 0 → Alike N was was' N.ops.length) → goN N l was out = goN (sortedN N) l was' out := by
  intro l
  induction l with
  | nil => intro _ _ _ _ _; rfl
  | cons row r ih =>
    intro was was' out hw hp
    obtain ⟨h1, h2⟩ := sim_inst h row was was' hw hp
    unfold goN
    show (if frameB N.ins row = false then _ else _) = if frameB N.ins row = false then _ else _
    by_cases hf : frameB N.ins row = false
    · rw [if_pos hf, if_pos hf]
    rw [if_neg hf, if_neg hf, h2]
    by_cases he : (instN (sortedN N) row was').2 ≠ 0
    · rw [if_pos he, if_pos he]
    rw [if_neg he, if_neg he, sim_row h h1]
    exact ih _ _ _ (by rw [inst_len, inst_len, sorted_len h]) (fun _ => h1)
/-- A net that is sorted tells the same. -/
theorem run_sorted {N : Net} (h : checkN N = 0) (l : List (List Int)) : runN (sortedN N) l = runN N l := by
  unfold runN
  rw [sorted_check h, h]
  exact (sim_go h l [] [] [] Iff.rfl (fun hz => absurd rfl hz)).symm
end Go.Proofs.Ytcphjehjdhgheaa.Nt

namespace Go.Proofs.Ytcphjehjdhgheaa.Nt
open Go.Proofs.Ytcphjehjdhgheaa.Num (doN)
set_option linter.unusedVariables false
set_option linter.unusedSimpArgs false

/-! ### Until when each is needed -/
theorem last_ge (N : Net) (k : Nat) : ∀ m, lastTo N m k = -1 ∨ 0 ≤ lastTo N m k := by
  intro m
  induction m with
  | zero => exact .inl (last_zero N k)
  | succ m ih =>
    rw [last_succ]
    split
    · exact .inr (by omega)
    · exact ih
/-- Some are set to -2. -/
def Cut (N : Net) (e : List Int) : Prop := e.length = N.ops.length ∧ ∀ k : Nat, k < N.ops.length → at0 e (k : Int) = -2 ∨ at0 e (k : Int) = lastTo N N.ops.length k
theorem Cut.set {N : Net} {e : List Int} (h : Cut N e) (j : Nat) : Cut N (e.set j (-2)) ∧ ∀ k : Int, at0 e k = -2 → at0 (e.set j (-2)) k = -2 := by
  have key : ∀ k : Int, at0 (e.set j (-2)) k = -2 ∨ at0 (e.set j (-2)) k = at0 e k := fun k => by
    by_cases hk : k.toNat = j
    · by_cases hj : j < e.length
      · exact .inl (at0_set_eq hk hj)
      · rw [List.set_eq_of_length_le (by omega)]; exact .inr rfl
    · exact .inr (at0_set_ne hk)
  refine ⟨⟨by rw [List.length_set]; exact h.1, fun k hk => ?_⟩, fun k hk => ?_⟩
  · rcases key k with e1 | e1
    · exact .inl e1
    · rw [e1]; exact h.2 k hk
  · rcases key k with e1 | e1
    · exact e1
    · rw [e1]; exact hk
theorem cut_fold {N : Net} {α : Type} (p : α → Bool) (f : α → Nat) : ∀ (l : List α) (e : List Int), Cut N e → Cut N (l.foldl (fun e x => if p x = true then e.set (f x) (-2) else e) e)
    ∧ (∀ k : Int, at0 e k = -2 → at0 (l.foldl (fun e x => if p x = true then e.set (f x) (-2) else e) e) k = -2)
    ∧ ∀ x ∈ l, p x = true → f x < N.ops.length → at0 (l.foldl (fun e x => if p x = true then e.set (f x) (-2) else e) e) (f x : Int) = -2 := by
  intro l
  induction l with
  | nil => intro e h; exact ⟨h, fun _ h => h, fun x hx => by simp at hx⟩
  | cons a r ih =>
    intro e h
    have h1 : Cut N (if p a = true then e.set (f a) (-2) else e) ∧ ∀ k : Int, at0 e k = -2 → at0 (if p a = true then e.set (f a) (-2) else e) k = -2 := by
      split
      · exact h.set _
      · exact ⟨h, fun _ h => h⟩
    obtain ⟨i1, i2, i3⟩ := ih _ h1.1
    rw [List.foldl_cons]
    refine ⟨i1, fun k hk => i2 k (h1.2 k hk), fun x hx hp hf => ?_⟩
    rcases List.mem_cons.1 hx with rfl | hx
    · refine i2 _ ?_
      rw [if_pos hp, at0_set_eq (by simp) (by rw [h.1]; exact hf)]
    · exact i3 x hx hp hf
/-- Until when each is needed: -2, where it never ends. -/
structure Till (N : Net) (told : List Int) (E : List Int) : Prop where
  cut : Cut N E
  told' : ∀ i ∈ told, at0 E (at0 N.roots i) = -2
  pre : ∀ i, i < N.ops.length → (opAt N i).op = 21 → at0 E (opAt N i).a = -2
theorem root_in {N : Net} (h : mayN N = true) {i : Int} (hi : isOp N.roots.length i = true) : 0 ≤ at0 N.roots i ∧ at0 N.roots i < (N.ops.length : Int) := by
  obtain ⟨h1, h2⟩ := isOp_iff.1 hi
  unfold mayN at h
  simp only [Bool.and_eq_true, List.all_eq_true] at h
  have hl : i.toNat < N.roots.length := by omega
  have : at0 N.roots i = N.roots[i.toNat] := by unfold at0; simp [List.getD, hl]
  rw [this]
  exact isOp_iff.1 (h.2 _ (List.getElem_mem hl))
theorem pre_in {N : Net} (h : mayN N = true) {i : Nat} (hi : i < N.ops.length) (hp : (opAt N i).op = 21) : 0 ≤ (opAt N i).a ∧ (opAt N i).a < (N.ops.length : Int) := by
  obtain ⟨-, h1, -⟩ := may_flds (may_at h hi)
  rw [hp, kids_pre] at h1
  exact h1 _ (by simp)
theorem fold_if {α β : Type} (p : β → Bool) (g : α → β → α) : ∀ (l : List β) (a : α), l.foldl (fun a x => if p x = true then g a x else a) a = l.foldl (fun a x => if p x = true then g a x else a) a := fun _ _ => rfl
theorem till_ends {N : Net} (hc : checkN N = 0) (ho : inOrdB N = true) {told : List Int} (ht : toldB N told = true) : Till N told (endsP N told) := by
  have hm := (check_ok.1 hc).1
  have h0 : Cut N (endsN N) := by
    have hi : isN N = true := by unfold isN; rw [hc, ho]; rfl
    unfold endsN endsOf
    rw [if_pos hi]
    refine ⟨by simp, fun k hk => .inr ?_⟩
    unfold at0
    simp [List.getD, hk]
  unfold toldB at ht
  rw [List.all_eq_true] at ht
  have e1 : endsT N told = told.foldl (fun e i => if (fun _ => true) i = true then e.set ((fun i => (at0 N.roots i).toNat) i) (-2) else e) (endsN N) := by unfold endsT; simp
  obtain ⟨c1, c2, c3⟩ := cut_fold (N := N) (fun _ : Int => true) (fun i => (at0 N.roots i).toNat) told _ h0
  rw [← e1] at c1 c2 c3
  have e2 : endsP N told = N.ops.foldl (fun e o => if (fun o : Op5 => decide (o.op = 21)) o = true then e.set ((fun o : Op5 => o.a.toNat) o) (-2) else e) (endsT N told) := by unfold endsP; simp
  obtain ⟨d1, d2, d3⟩ := cut_fold (N := N) (fun o : Op5 => decide (o.op = 21)) (fun o => o.a.toNat) N.ops _ c1
  rw [← e2] at d1 d2 d3
  refine ⟨d1, fun i hi => d2 _ ?_, fun i hi hp => ?_⟩
  · have hr := root_in hm (ht i hi)
    have := c3 i hi rfl (by show (at0 N.roots i).toNat < _; omega)
    rw [Int.toNat_of_nonneg hr.1] at this; exact this
  · have ha := pre_in hm hi hp
    have := d3 (opAt N i) (List.mem_of_getElem? (op_get hi)) (by simpa using hp) (by show (opAt N i).a.toNat < _; omega)
    rw [Int.toNat_of_nonneg ha.1] at this; exact this
theorem Till.needed {N : Net} {told E : List Int} (h : Till N told E) {i k : Nat} (hi : i < N.ops.length) (hk : k < N.ops.length) (hn : k ∈ ndN N i) : at0 E (k : Int) = -2 ∨ (i : Int) ≤ at0 E (k : Int) := by
  rcases h.cut.2 k hk with e | e
  · exact .inl e
  · rw [e]; exact .inr ((last_spec N k N.ops.length).1 i hi hn)
theorem Till.last {N : Net} {told E : List Int} (h : Till N told E) {i k : Nat} (hk : k < N.ops.length) (he : at0 E (k : Int) = (i : Int)) : k ∈ ndN N i := by
  rcases h.cut.2 k hk with e | e
  · rw [e] at he; omega
  · exact ((last_spec N k N.ops.length).2 i (by rw [← e]; exact he.symm)).2
theorem Till.cases {N : Net} {told E : List Int} (h : Till N told E) {k : Nat} (hk : k < N.ops.length) : at0 E (k : Int) = -2 ∨ at0 E (k : Int) = -1 ∨ 0 ≤ at0 E (k : Int) := by
  rcases h.cut.2 k hk with e | e
  · exact .inl e
  · rw [e]; exact .inr (last_ge N k _)

/-! ### Which registers hold what -/
def Live (E : List Int) (i k : Nat) : Prop := at0 E (k : Int) = -2 ∨ (i : Int) ≤ at0 E (k : Int)
structure Inv (N : Net) (E : List Int) (i : Nat) (m : Mk) : Prop where
  lins : m.ins.length = i
  lloc : m.loc.length = i
  lends : m.ends.length = N.ops.length
  ends : ∀ k, k < N.ops.length → at0 m.ends (k : Int) = if 0 ≤ at0 E (k : Int) ∧ at0 E (k : Int) < (i : Int) then -2 else at0 E (k : Int)
  loc : ∀ k, k < i → 0 ≤ at0 m.loc (k : Int) ∧ at0 m.loc (k : Int) < (m.regs : Int)
  free : ∀ f ∈ m.free, 0 ≤ f ∧ f < (m.regs : Int)
  fnd : m.free.Nodup
  live : ∀ k, k < i → Live E i k → at0 m.loc (k : Int) ∉ m.free
  apart : ∀ k k', k < i → k' < i → Live E i k → Live E i k' → at0 m.loc (k : Int) = at0 m.loc (k' : Int) → k = k'
  regs : m.regs ≤ i
  flen : m.free.length ≤ i
/-- Behind some of an operator's operands. -/
structure Lv (N : Net) (E : List Int) (i regs : Nat) (loc : List Int) (done : List Nat) (s : List Int × List Int) : Prop where
  lends : s.2.length = N.ops.length
  ends : ∀ k, k < N.ops.length → at0 s.2 (k : Int) = if (0 ≤ at0 E (k : Int) ∧ at0 E (k : Int) < (i : Int)) ∨ (at0 E (k : Int) = (i : Int) ∧ k ∈ done) then -2 else at0 E (k : Int)
  free : ∀ f ∈ s.1, 0 ≤ f ∧ f < (regs : Int)
  fnd : s.1.Nodup
  live : ∀ k, k < i → Live E i k → ¬ (at0 E (k : Int) = (i : Int) ∧ k ∈ done) → at0 loc (k : Int) ∉ s.1
  flen : s.1.length ≤ i
theorem free_len {l : List Int} {n : Nat} (h : l.Nodup) (hb : ∀ f ∈ l, 0 ≤ f ∧ f < (n : Int)) : l.length ≤ n := by
  have := nodup_le n (l.map Int.toNat) (by
    unfold List.Nodup
    rw [List.pairwise_map]
    refine List.Pairwise.imp_of_mem (fun {x y} hx hy hne e => ?_) h
    have := hb x hx
    have := hb y hy
    exact hne (by omega)) (fun x hx => by
    obtain ⟨y, hy, rfl⟩ := List.mem_map.1 hx
    have := hb y hy; omega)
  simpa using this
theorem lv_step {N : Net} {E : List Int} {i regs : Nat} {loc : List Int} (hri : regs ≤ i) (hloc : ∀ k, k < i → 0 ≤ at0 loc (k : Int) ∧ at0 loc (k : Int) < (regs : Int))
    (hap : ∀ k k', k < i → k' < i → Live E i k → Live E i k' → at0 loc (k : Int) = at0 loc (k' : Int) → k = k') {done : List Nat} {s : List Int × List Int} (h : Lv N E i regs loc done s)
    (hin : i ≤ N.ops.length) (k : Int) (hk : k < 0 ∨ (0 ≤ k ∧ k < (i : Int))) : Lv N E i regs loc (done ++ if k < 0 then [] else [k.toNat]) (leave1 i loc s k) := by
  rcases hk with hk | ⟨hk0, hki⟩
  · rw [if_pos hk, List.append_nil]
    unfold leave1
    rw [if_neg (by omega)]; exact h
  · obtain ⟨m, rfl⟩ : ∃ m : Nat, k = (m : Int) := ⟨k.toNat, by omega⟩
    rw [if_neg (by omega), Int.toNat_natCast]
    have hmn : m < N.ops.length := by omega
    have hE := h.ends m hmn
    unfold leave1
    by_cases he : at0 s.2 (m : Int) = (i : Int)
    · rw [if_pos ⟨by omega, he⟩]
      have hEm : at0 E (m : Int) = (i : Int) ∧ m ∉ done := by
        rw [he] at hE
        split at hE
        · omega
        · rename_i hn
          refine ⟨hE.symm, fun hd => hn (.inr ⟨hE.symm, hd⟩)⟩
      have hlm : Live E i m := .inr (by rw [hEm.1]; omega)
      have hnf := h.live m (by omega) hlm (fun hh => hEm.2 hh.2)
      have hnd : (s.1 ++ [at0 loc (m : Int)]).Nodup := List.nodup_append.2 ⟨h.fnd, by simp, fun a ha b hb => by simp at hb; subst hb; exact fun e => hnf (e ▸ ha)⟩
      have hfr : ∀ f ∈ s.1 ++ [at0 loc (m : Int)], 0 ≤ f ∧ f < (regs : Int) := fun f hf => by
        rcases List.mem_append.1 hf with hf | hf
        · exact h.free f hf
        · simp at hf; subst hf; exact hloc m (by omega)
      refine ⟨by rw [List.length_set]; exact h.lends, fun j hj => ?_, hfr, hnd, fun j hj hl hn => ?_, ?_⟩
      · show at0 (s.2.set m (-2)) _ = _
        by_cases hjm : j = m
        · subst hjm
          rw [at0_set_eq (by simp) (by rw [h.lends]; exact hj), if_pos (.inr ⟨hEm.1, by simp⟩)]
        · rw [at0_set_ne (by simpa using hjm), h.ends j hj]
          have : (j ∈ done ++ [m]) ↔ (j ∈ done) := by simp [hjm]
          simp only [this]
      · intro hf
        rcases List.mem_append.1 hf with hf | hf
        · exact h.live j hj hl (fun hh => hn ⟨hh.1, by simp [hh.2]⟩) hf
        · simp at hf
          have := hap j m hj (by omega) hl hlm hf
          subst this
          exact hn ⟨hEm.1, by simp⟩
      · have := free_len hnd hfr
        show (s.1 ++ _).length ≤ i
        omega
    · rw [if_neg (fun hh => he hh.2)]
      refine ⟨h.lends, fun j hj => ?_, h.free, h.fnd, fun j hj hl hn => h.live j hj hl (fun hh => hn ⟨hh.1, by simp [hh.2]⟩), h.flen⟩
      rw [h.ends j hj]
      by_cases hjm : j = m
      · subst hjm
        by_cases hd : j ∈ done
        · simp [hd]
        · have : at0 E (j : Int) ≠ (i : Int) := fun e => by
            rw [if_neg (by intro hh; rcases hh with hh | hh; · omega
                           · exact hd hh.2), e] at hE
            exact he hE
          simp [this]
      · simp [hjm]
theorem take_spec {regs : Nat} {free : List Int} (h : ∀ f ∈ free, 0 ≤ f ∧ f < (regs : Int)) (hn : free.Nodup) :
    let t := takeM regs free
    (t.1 ∈ free ∨ t.1 = (regs : Int)) ∧ 0 ≤ t.1 ∧ t.1 < (t.2.1 : Int) ∧ regs ≤ t.2.1 ∧ t.2.1 ≤ regs + 1 ∧ t.1 ∉ t.2.2 ∧ t.2.2.Nodup ∧ (∀ f ∈ t.2.2, f ∈ free) ∧ (t.2.1 = regs ∨ free = []) := by
  intro t
  show _
  by_cases h0 : free.length = 0
  · have hf : free = [] := List.length_eq_zero_iff.1 h0
    have et : t = ((regs : Int), regs + 1, free) := by show takeM _ _ = _; unfold takeM; rw [if_pos h0]
    rw [et, hf]
    simp
    omega
  · have et : t = (free.getD (free.length - 1) 0, regs, free.take (free.length - 1)) := by show takeM _ _ = _; unfold takeM; rw [if_neg h0]
    have hl : free.length - 1 < free.length := by omega
    have eg : free.getD (free.length - 1) 0 = free[free.length - 1] := by simp [List.getD, hl]
    rw [et]
    have hmem : free[free.length - 1] ∈ free := List.getElem_mem hl
    have hb := h _ hmem
    refine ⟨.inl (by rw [eg]; exact hmem), by rw [eg]; exact hb.1, by rw [eg]; exact hb.2, Nat.le_refl _, by show regs ≤ regs + 1; omega, ?_, ?_, fun f hf => List.mem_of_mem_take hf, .inl rfl⟩
    · show free.getD (free.length - 1) 0 ∉ free.take (free.length - 1)
      rw [eg]
      intro hm
      obtain ⟨j, hj, e⟩ := List.mem_iff_getElem.1 hm
      rw [List.length_take] at hj
      rw [List.getElem_take] at e
      exact List.pairwise_iff_getElem.1 hn j (free.length - 1) (by omega) hl (by omega) e
    · exact hn.sublist (List.take_sublist _ _)
theorem fields_lt {N : Net} (hm : mayN N = true) (ho : inOrdB N = true) {i : Nat} (hi : i < N.ops.length) (hp : (opAt N i).op ≠ 21) :
    (∀ k ∈ [(opAt N i).a, (opAt N i).b, (opAt N i).c], k < 0 ∨ (0 ≤ k ∧ k < (i : Int))) ∧ ∀ j ∈ ndN N i, (j : Int) ∈ [(opAt N i).a, (opAt N i).b, (opAt N i).c] := by
  have hmay := may_at hm hi
  obtain ⟨h0, h1, h2⟩ := may_flds hmay
  have hn : needI (opAt N i) = [(opAt N i).a, (opAt N i).b, (opAt N i).c].take (kids (opAt N i).op).toNat := by unfold needI; rw [if_neg hp]
  refine ⟨fun k hk => ?_, fun j hj => ?_⟩
  · rw [← List.take_append_drop (kids (opAt N i).op).toNat [(opAt N i).a, (opAt N i).b, (opAt N i).c], List.mem_append] at hk
    rcases hk with hk | hk
    · have hkk := h1 k hk
      have := in_ord.1 ho i hi k.toNat (List.mem_map.2 ⟨k, by rw [hn]; exact hk, rfl⟩)
      exact .inr ⟨hkk.1, by omega⟩
    · exact .inl (by rw [h2 k hk]; omega)
  · obtain ⟨k, hk, rfl⟩ := List.mem_map.1 hj
    have hkk := need_flds hmay k hk
    rw [hn] at hk
    rw [Int.toNat_of_nonneg hkk.1]
    exact List.mem_of_mem_take hk
theorem nd_pre {N : Net} {i : Nat} (hp : (opAt N i).op = 21) : ndN N i = [] := by unfold ndN needI; rw [if_pos hp]; rfl
theorem Inv.begin (N : Net) (told : List Int) (hc : Cut N (endsP N told)) : Inv N (endsP N told) 0 (mk0 N told) :=
  ⟨rfl, rfl, hc.1, fun k hk => by
    show at0 (endsP N told) _ = _
    rw [if_neg (by omega)], fun k hk => by omega, fun f hf => by simp [mk0] at hf, List.nodup_nil, fun k hk => by omega, fun k k' hk => by omega, Nat.le_refl _, Nat.le_refl _⟩
/-- Behind the operands. -/
theorem lv_all {N : Net} {told E : List Int} (hm : mayN N = true) (ho : inOrdB N = true) (ht : Till N told E) {i : Nat} (hi : i < N.ops.length) {m : Mk} (h : Inv N E i m) :
    let s := if (opAt N i).op = 21 then (m.free, m.ends) else leave3 i m.loc (m.free, m.ends) [(opAt N i).a, (opAt N i).b, (opAt N i).c]
    ∃ done : List Nat, Lv N E i m.regs m.loc done s ∧ ∀ k, k < N.ops.length → at0 E (k : Int) = (i : Int) → k ∈ done := by
  intro s
  have h0 : Lv N E i m.regs m.loc [] (m.free, m.ends) := ⟨h.lends, fun k hk => by simpa using h.ends k hk, h.free, h.fnd, fun k hk hl _ => h.live k hk hl, h.flen⟩
  by_cases hp : (opAt N i).op = 21
  · refine ⟨[], by show Lv _ _ _ _ _ _ (if _ then _ else _); rw [if_pos hp]; exact h0, fun k hk he => ?_⟩
    have := ht.last hk he
    rw [nd_pre hp] at this; exact this
  · obtain ⟨hf, hn⟩ := fields_lt hm ho hi hp
    have l1 := lv_step h.regs h.loc h.apart h0 (by omega) (opAt N i).a (hf _ (by simp))
    have l2 := lv_step h.regs h.loc h.apart l1 (by omega) (opAt N i).b (hf _ (by simp))
    have l3 := lv_step h.regs h.loc h.apart l2 (by omega) (opAt N i).c (hf _ (by simp))
    refine ⟨_, by show Lv _ _ _ _ _ _ (if _ then _ else _); rw [if_neg hp]; exact l3, fun k hk he => ?_⟩
    have := hn k (ht.last hk he)
    simp only [List.mem_cons, List.not_mem_nil, or_false] at this
    rcases this with e | e | e <;> rw [← e] <;> simp
theorem at0_app_lt {l : List Int} {k : Nat} {x : Int} (h : k < l.length) : at0 (l ++ [x]) (k : Int) = at0 l (k : Int) := by unfold at0; simp [List.getD, List.getElem?_append_left h]
theorem at0_app_eq {l : List Int} {k : Nat} {x : Int} (h : k = l.length) : at0 (l ++ [x]) (k : Int) = x := by subst h; unfold at0; simp [List.getD]
theorem inv_step {N : Net} {told E : List Int} (hm : mayN N = true) (ho : inOrdB N = true) (ht : Till N told E) {i : Nat} (hi : i < N.ops.length) {m : Mk} (h : Inv N E i m) :
    Inv N E (i + 1) (layM i (opAt N i) m) ∧ (∀ k, k < i → Live E (i + 1) k → at0 (layM i (opAt N i) m).loc (k : Int) ≠ at0 (layM i (opAt N i) m).loc (i : Int)) ∧ m.regs ≤ (layM i (opAt N i) m).regs := by
  obtain ⟨done, hl, hd⟩ := lv_all hm ho ht hi h
  have hni : i ∉ ndN N i := fun e => by have := in_ord.1 ho i hi i e; omega
  generalize hs : (if (opAt N i).op = 21 then (m.free, m.ends) else leave3 i m.loc (m.free, m.ends) [(opAt N i).a, (opAt N i).b, (opAt N i).c]) = s at hl
  obtain ⟨t1, t2, t3, t4, t5, t6, t7, t8, t9⟩ := take_spec hl.free hl.fnd
  generalize htk : takeM m.regs s.1 = t at t1 t2 t3 t4 t5 t6 t7 t8 t9
  have eE : ∀ k, k < N.ops.length → at0 s.2 (k : Int) = if 0 ≤ at0 E (k : Int) ∧ at0 E (k : Int) < ((i + 1 : Nat) : Int) then -2 else at0 E (k : Int) := fun k hk => by
    rw [hl.ends k hk]
    have := hd k hk
    by_cases e : at0 E (k : Int) = (i : Int)
    · rw [if_pos (.inr ⟨e, this e⟩), if_pos (by omega)]
    · by_cases h1 : 0 ≤ at0 E (k : Int) ∧ at0 E (k : Int) < (i : Int)
      · rw [if_pos (.inl h1), if_pos (by omega)]
      · rw [if_neg (by intro hh; rcases hh with hh | hh; · exact h1 hh
                       · exact e hh.1), if_neg (by omega)]
  have eEi : at0 s.2 (i : Int) = at0 E (i : Int) := by
    rw [eE i hi]
    split
    · rename_i hh
      have : at0 E (i : Int) ≠ (i : Int) := fun e => hni (ht.last hi e)
      have hlt : at0 E (i : Int) < (i : Int) := by omega
      have hmem := ht.last (i := (at0 E (i : Int)).toNat) hi (by omega)
      have hnn : (at0 E (i : Int)).toNat < N.ops.length := by omega
      have := in_ord.1 ho _ hnn i hmem
      omega
    · rfl
  have hEi : at0 E (i : Int) = -2 ∨ at0 E (i : Int) = -1 ∨ (i : Int) + 1 ≤ at0 E (i : Int) := by
    rcases ht.cases hi with e | e | e
    · exact .inl e
    · exact .inr (.inl e)
    · refine .inr (.inr ?_)
      have hmem := ht.last (i := (at0 E (i : Int)).toNat) hi (by omega)
      rcases Nat.lt_or_ge (at0 E (i : Int)).toNat N.ops.length with hnn | hnn
      · have := in_ord.1 ho _ hnn i hmem
        omega
      · omega
  have eloc : (layM i (opAt N i) m).loc = m.loc ++ [t.1] := by unfold layM; simp only [hs, htk]
  have eregs : (layM i (opAt N i) m).regs = t.2.1 := by unfold layM; simp only [hs, htk]
  have eends : (layM i (opAt N i) m).ends = s.2 := by unfold layM; simp only [hs]
  have efree : (layM i (opAt N i) m).free = if at0 E (i : Int) = -1 then t.2.2 ++ [t.1] else t.2.2 := by unfold layM; simp only [hs, htk, eEi]
  have eins : (layM i (opAt N i) m).ins.length = i + 1 := by unfold layM; simp [h.lins]
  have lk : ∀ k, k < i → at0 (m.loc ++ [t.1]) (k : Int) = at0 m.loc (k : Int) := fun k hk => at0_app_lt (by rw [h.lloc]; exact hk)
  have li : at0 (m.loc ++ [t.1]) (i : Int) = t.1 := at0_app_eq h.lloc.symm
  have old : ∀ k, k < i → Live E (i + 1) k → Live E i k ∧ at0 m.loc (k : Int) ∉ s.1 ∧ at0 m.loc (k : Int) ≠ t.1 := fun k hk hlv => by
    have h1 : Live E i k := hlv.elim .inl (fun e => .inr (by omega))
    have h2 : ¬ (at0 E (k : Int) = (i : Int) ∧ k ∈ done) := fun hh => by rcases hlv with e | e <;> omega
    have h3 := hl.live k hk h1 h2
    refine ⟨h1, h3, fun e => ?_⟩
    rcases t1 with c | c
    · rw [← e] at c; exact h3 c
    · have := (h.loc k hk).2; omega
  have frb : ∀ f ∈ t.2.2, 0 ≤ f ∧ f < (t.2.1 : Int) := fun f hf => by have := hl.free f (t8 f hf); omega
  refine ⟨⟨eins, by rw [eloc]; simp [h.lloc], by rw [eends]; exact hl.lends, fun k hk => by rw [eends]; exact eE k hk, fun k hk => ?_, fun f hf => ?_, ?_, fun k hk hlv => ?_, fun k k' hk hk' hv hv' e => ?_, ?_, ?_⟩, fun k hk hlv => ?_, by rw [eregs]; exact t4⟩
  · rw [eloc, eregs]
    by_cases e : k = i
    · subst e; rw [li]; exact ⟨t2, t3⟩
    · rw [lk k (by omega)]; have := h.loc k (by omega); omega
  · rw [eregs]
    rw [efree] at hf
    split at hf
    · rcases List.mem_append.1 hf with hf | hf
      · exact frb f hf
      · simp at hf; subst hf; exact ⟨t2, t3⟩
    · exact frb f hf
  · rw [efree]
    split
    · exact List.nodup_append.2 ⟨t7, by simp, fun a ha b hb => by simp at hb; subst hb; exact fun e => t6 (e ▸ ha)⟩
    · exact t7
  · rw [eloc, efree]
    by_cases e : k = i
    · subst e
      rw [li, if_neg (by rcases hlv with e | e <;> omega)]; exact t6
    · obtain ⟨o1, o2, o3⟩ := old k (by omega) hlv
      rw [lk k (by omega)]
      split
      · intro hf
        rcases List.mem_append.1 hf with hf | hf
        · exact o2 (t8 _ hf)
        · simp at hf; exact o3 hf
      · exact fun hf => o2 (t8 _ hf)
  · rw [eloc] at e
    by_cases e1 : k = i
    · by_cases e2 : k' = i
      · omega
      · rw [e1, li, lk k' (by omega)] at e
        exact absurd e.symm (old k' (by omega) hv').2.2
    · by_cases e2 : k' = i
      · rw [e2, li, lk k (by omega)] at e
        exact absurd e (old k (by omega) hv).2.2
      · rw [lk k (by omega), lk k' (by omega)] at e
        exact h.apart k k' (by omega) (by omega) (old k (by omega) hv).1 (old k' (by omega) hv').1 e
  · rw [eregs]; have := h.regs; omega
  · rw [efree]
    have hlt : t.2.2.length ≤ i := by
      have := free_len t7 (fun f hf => hl.free f (t8 f hf))
      have := h.regs
      omega
    split
    · simp; exact hlt
    · omega
  · rw [eloc, li, lk k hk]; exact (old k hk hlv).2.2
theorem lay_succ (N : Net) (told : List Int) (i : Nat) : layN N told (i + 1) = layM i (opAt N i) (layN N told i) := by unfold layN; rw [List.range_succ, List.foldl_append]; rfl
theorem inv_all {N : Net} (hc : checkN N = 0) (ho : inOrdB N = true) {told : List Int} (ht : toldB N told = true) : ∀ i, i ≤ N.ops.length → Inv N (endsP N told) i (layN N told i) := by
  have hT := till_ends hc ho ht
  intro i
  induction i with
  | zero => intro _; exact Inv.begin N told hT.cut
  | succ i ih =>
    intro hi
    rw [lay_succ]
    exact (inv_step (check_ok.1 hc).1 ho hT (by omega) (ih (by omega))).1
theorem regs_mono {N : Net} (hc : checkN N = 0) (ho : inOrdB N = true) {told : List Int} (ht : toldB N told = true) {i : Nat} : ∀ d, i + d ≤ N.ops.length → (layN N told i).regs ≤ (layN N told (i + d)).regs := by
  have hT := till_ends hc ho ht
  intro d
  induction d with
  | zero => intro _; exact Nat.le_refl _
  | succ d ih =>
    intro h
    have h1 := ih (by omega)
    have := (inv_step (check_ok.1 hc).1 ho hT (by omega) (inv_all hc ho ht (i + d) (by omega))).2.2
    rw [← lay_succ] at this
    rw [← Nat.add_assoc]; omega
theorem loc_take {N : Net} (hc : checkN N = 0) (ho : inOrdB N = true) {told : List Int} (ht : toldB N told = true) {i k : Nat} (hk : k < i) : ∀ d, i + d ≤ N.ops.length → at0 (layN N told (i + d)).loc (k : Int) = at0 (layN N told i).loc (k : Int) := by
  intro d
  induction d with
  | zero => intro _; rfl
  | succ d ih =>
    intro h
    rw [← ih (by omega), ← Nat.add_assoc, lay_succ]
    have hl := (inv_all hc ho ht (i + d) (by omega)).lloc
    unfold layM
    exact at0_app_lt (by rw [hl]; omega)
end Go.Proofs.Ytcphjehjdhgheaa.Nt

namespace Go.Proofs.Ytcphjehjdhgheaa.Nt
open Go.Proofs.Ytcphjehjdhgheaa.Num (doN)
set_option linter.unusedVariables false
set_option linter.unusedSimpArgs false

/-- What the slots are of. -/
def preA (l : List Op5) : List Int := (l.filter fun o => decide (o.op = 21)).map (·.a)
theorem pre_cons (o : Op5) (r : List Op5) : preA (o :: r) = if o.op = 21 then o.a :: preA r else preA r := by
  unfold preA
  by_cases h : o.op = 21
  · rw [if_pos h, List.filter_cons_of_pos (by simpa using h)]; rfl
  · rw [if_neg h, List.filter_cons_of_neg (by simpa using h)]
theorem pre_app (l r : List Op5) : preA (l ++ r) = preA l ++ preA r := by unfold preA; rw [List.filter_append, List.map_append]
theorem take_op {N : Net} {i : Nat} (hi : i < N.ops.length) : N.ops.take (i + 1) = N.ops.take i ++ [opAt N i] := by rw [List.take_add_one, op_get hi]; rfl
theorem slots_pre {N : Net} {told : List Int} : ∀ i, i ≤ N.ops.length → (layN N told i).slots = (preA (N.ops.take i)).length := by
  intro i
  induction i with
  | zero => intro _; rfl
  | succ i ih =>
    intro h
    rw [lay_succ, take_op (by omega), pre_app, pre_cons]
    unfold layM
    simp only [ih (by omega)]
    split <;> simp [preA]
/-- The slot of an operator is of its operand. -/
theorem slot_at {N : Net} {i : Nat} (hi : i < N.ops.length) (hp : (opAt N i).op = 21) : (preA N.ops)[(preA (N.ops.take i)).length]? = some (opAt N i).a := by
  have e : N.ops = N.ops.take i ++ (opAt N i :: N.ops.drop (i + 1)) := by
    conv => lhs; rw [← List.take_append_drop (i + 1) N.ops, take_op hi]
    simp
  have e2 : preA N.ops = preA (N.ops.take i) ++ ((opAt N i).a :: preA (N.ops.drop (i + 1))) := by
    conv => lhs; rw [e]
    rw [pre_app, pre_cons, if_pos hp]
  rw [e2, List.getElem?_append_right (Nat.le_refl _), Nat.sub_self]; rfl
/-- The instruction of an operator. -/
def insOf (N : Net) (told : List Int) (i : Nat) : Ins6 :=
  let o := opAt N i
  let m := layN N told i
  let d := at0 (layN N told (i + 1)).loc (i : Int)
  if o.op = 21 then ⟨o.op, d, 0, 0, 0, (m.slots : Int)⟩ else ⟨o.op, d, regI m.loc o.a, regI m.loc o.b, regI m.loc o.c, o.n⟩
theorem ins_succ {N : Net} (hc : checkN N = 0) (ho : inOrdB N = true) {told : List Int} (ht : toldB N told = true) {i : Nat} (hi : i < N.ops.length) : (layN N told (i + 1)).ins = (layN N told i).ins ++ [insOf N told i] := by
  have hl := (inv_all hc ho ht i (by omega)).lloc
  unfold insOf
  rw [lay_succ]
  unfold layM
  simp only [at0_app_eq (x := _) hl.symm]
/-- What an instruction reads are the registers of what its operator needs. -/
theorem reads_need {N : Net} (hc : checkN N = 0) {told : List Int} {i : Nat} (hi : i < N.ops.length) : readsI (insOf N told i) = (needI (opAt N i)).map (at0 (layN N told i).loc) := by
  have hmay := may_at (check_ok.1 hc).1 hi
  have h1 := need_flds hmay
  unfold insOf readsI
  by_cases hp : (opAt N i).op = 21
  · rw [if_pos hp]
    have e1 : needI (opAt N i) = [] := by unfold needI; rw [if_pos hp]
    rw [e1]
    show List.take (nrd (opAt N i).op).toNat _ = []
    rw [hp]; rfl
  · rw [if_neg hp]
    have e1 : needI (opAt N i) = [(opAt N i).a, (opAt N i).b, (opAt N i).c].take (kids (opAt N i).op).toNat := by unfold needI; rw [if_neg hp]
    have e2 : nrd (opAt N i).op = kids (opAt N i).op := by
      have h0 := (may_flds hmay).1
      unfold nrd kids at *
      unfold opnd at *
      repeat' split
      all_goals first | rfl | omega | (repeat' split at h0; all_goals omega)
    show List.take (nrd (opAt N i).op).toNat [regI _ (opAt N i).a, regI _ (opAt N i).b, regI _ (opAt N i).c] = _
    rw [e2, e1]
    rw [e1] at h1
    rw [List.map_take]
    refine List.ext_getElem? (fun j => ?_)
    rw [List.getElem?_take, List.getElem?_take]
    split
    · rename_i hj
      have hb : ∀ k, [(opAt N i).a, (opAt N i).b, (opAt N i).c][j]? = some k → 0 ≤ k := fun k hk => (h1 k (List.mem_of_getElem? (i := j) (by rw [List.getElem?_take, if_pos hj]; exact hk))).1
      match j with
      | 0 => have := hb _ rfl; simp [regI]; omega
      | 1 => have := hb _ rfl; simp [regI]; omega
      | 2 => have := hb _ rfl; simp [regI]; omega
      | j + 3 => simp
    · rfl
theorem nrd_ne {op : Int} (h : 0 ≤ kids op) : op ≠ 30 := by
  rintro rfl
  have : kids 30 = -1 := rfl
  omega
theorem ins_op {N : Net} {told : List Int} {i : Nat} : (insOf N told i).op = (opAt N i).op := by unfold insOf; simp only; split <;> rfl
/-- The slots behind an instant, and the values that they are of. -/
def Kept (N : Net) (was slots : List Int) (first : Bool) : Prop := (first = true ∧ was.length = 0 ∧ slots = List.replicate (preA N.ops).length 0) ∨ (first = false ∧ was.length = N.ops.length ∧ slots = (preA N.ops).map (at0 was))
theorem made_val {N : Net} (hc : checkN N = 0) (ho : inOrdB N = true) {told : List Int} (ht : toldB N told = true) {i : Nat} (hi : i < N.ops.length) {row v was r slots : List Int} {first : Bool}
    (hk : Kept N was slots first) (hr : ∀ k, k < i → Live (endsP N told) i k → at0 r (at0 (layN N told i).loc (k : Int)) = at0 v (k : Int)) : madeK (insOf N told i) row r slots first = valN (opAt N i) row v was := by
  have hmay := may_at (check_ok.1 hc).1 hi
  have hrd := reads_need hc (told := told) hi
  have hop : (insOf N told i).op = (opAt N i).op := ins_op
  have key : ∀ k ∈ needI (opAt N i), at0 r (at0 (layN N told i).loc k) = at0 v k := fun k hk => by
    have h1 := need_flds hmay k hk
    have hm : k.toNat ∈ ndN N i := List.mem_map.2 ⟨k, hk, rfl⟩
    have hlt := in_ord.1 ho i hi _ hm
    have := hr k.toNat hlt (by
      have := (till_ends hc ho ht).needed hi (k := k.toNat) (by omega) hm
      exact this)
    rwa [Int.toNat_of_nonneg h1.1] at this
  have hnn : (insOf N told i).n = if (opAt N i).op = 21 then ((layN N told i).slots : Int) else (opAt N i).n := by unfold insOf; simp only; split <;> rfl
  unfold madeK valN
  rw [hop]
  by_cases h3 : (opAt N i).op = 3
  · rw [if_pos h3, if_pos h3, hnn, if_neg (by omega)]
  rw [if_neg h3, if_neg h3]
  by_cases h12 : (opAt N i).op = 1 ∨ (opAt N i).op = 2
  · rw [if_pos h12, if_pos h12, hnn, if_neg (by omega)]
  rw [if_neg h12, if_neg h12]
  by_cases h21 : (opAt N i).op = 21
  · rw [if_pos h21, if_neg (by omega), if_pos h21, hnn, if_pos h21]
    have hs := slot_at hi h21
    rw [slots_pre i (by omega)]
    rcases hk with ⟨rfl, hw, rfl⟩ | ⟨rfl, hw, rfl⟩
    · rw [if_pos hw]
      have hlt := (List.getElem?_eq_some_iff.1 hs).1
      unfold at0
      simp [List.getD, hlt]
    · rw [if_neg (by omega)]
      have e : at0 ((preA N.ops).map (at0 was)) ((preA (N.ops.take i)).length : Int) = at0 was (opAt N i).a := by
        rw [nat_at0, List.getD, List.getElem?_map, hs]; rfl
      rw [e]
  rw [if_neg h21]
  by_cases h19 : (opAt N i).op = 19
  · rw [if_pos h19, if_pos h19]
    have e1 : needI (opAt N i) = [(opAt N i).a, (opAt N i).b] := by unfold needI; rw [if_neg h21, h19, kids_arrow]; rfl
    have e2 : readsI (insOf N told i) = [(insOf N told i).a, (insOf N told i).b] := by
      unfold readsI
      rw [hop, h19]; rfl
    rw [e1] at hrd key
    rw [e2] at hrd
    simp only [List.map_cons, List.map_nil, List.cons.injEq, and_true] at hrd
    rw [hrd.1, hrd.2, key _ (by simp), key _ (by simp)]
    have hn0 : N.ops.length ≠ 0 := by omega
    rcases hk with ⟨rfl, hw, -⟩ | ⟨rfl, hw, -⟩
    · rw [if_pos rfl, if_pos hw]
    · rw [if_neg (by simp), if_neg (by omega)]
  rw [if_neg h19, if_neg h19, if_neg h21]
  have harg : ∀ j, arg (readsI (insOf N told i)) r j = arg (needI (opAt N i)) v j := fun j => by
    rw [hrd]
    refine arg_congr (by simp) (fun j k k' hj hj' => ?_) j
    rw [List.getElem?_map, hj'] at hj
    injection hj with hj
    rw [← hj]; exact key k' (List.mem_of_getElem? hj')
  rw [harg, harg, harg]
theorem dyn_ins {N : Net} (hc : checkN N = 0) (ho : inOrdB N = true) {told : List Int} (ht : toldB N told = true) {row was slots : List Int} {first : Bool} (hk : Kept N was slots first) :
    ∀ i, i ≤ N.ops.length → ∃ R : Reg, (layN N told i).ins.foldl (stepK row slots first) ⟨List.replicate (layN N told N.ops.length).regs 0, slots, 0⟩ = R ∧ R.r.length = (layN N told N.ops.length).regs ∧ R.next = slots
      ∧ R.least = ((List.range i).foldl (stepN N row was) (List.replicate N.ops.length 0, 0)).2
      ∧ ∀ k, k < i → Live (endsP N told) i k → at0 R.r (at0 (layN N told i).loc (k : Int)) = at0 ((List.range i).foldl (stepN N row was) (List.replicate N.ops.length 0, 0)).1 (k : Int) := by
  intro i
  induction i with
  | zero => intro _; exact ⟨_, rfl, by simp [layN, mk0], rfl, rfl, fun k hk => by omega⟩
  | succ i ih =>
    intro hi
    obtain ⟨R, h1, h2, h3, h4, h5⟩ := ih (by omega)
    have hI := inv_all hc ho ht i (by omega)
    have hI' := inv_all hc ho ht (i + 1) hi
    obtain ⟨-, hne, -⟩ := inv_step (check_ok.1 hc).1 ho (till_ends hc ho ht) (show i < N.ops.length by omega) hI
    rw [← lay_succ] at hne
    have hmade := made_val hc ho ht (show i < N.ops.length by omega) (row := row) hk h5
    rw [ins_succ hc ho ht (show i < N.ops.length by omega), List.foldl_append, h1, List.range_succ, List.foldl_append]
    generalize hV : (List.range i).foldl (stepN N row was) (List.replicate N.ops.length 0, 0) = V at h4 h5 hmade
    have lV : V.1.length = N.ops.length := by rw [← hV, step_len]; simp
    have hn30 : (insOf N told i).op ≠ 30 := by rw [ins_op]; exact nrd_ne (may_flds (may_at (check_ok.1 hc).1 (show i < N.ops.length by omega))).1
    have hd : (insOf N told i).d = at0 (layN N told (i + 1)).loc (i : Int) := by unfold insOf; simp only; split <;> rfl
    have hdb := hI'.loc i (by omega)
    have hrm := regs_mono hc ho ht (i := i + 1) (N.ops.length - (i + 1)) (by omega)
    rw [show i + 1 + (N.ops.length - (i + 1)) = N.ops.length by omega] at hrm
    refine ⟨_, rfl, ?_, ?_, ?_, fun k hk' hlv => ?_⟩
    · show (stepK row slots first R (insOf N told i)).r.length = _
      unfold stepK; rw [if_neg hn30]; simp [h2]
    · show (stepK row slots first R (insOf N told i)).next = _
      unfold stepK; rw [if_neg hn30]; exact h3
    · show (stepK row slots first R (insOf N told i)).least = (stepN N row was V i).2
      have e : (stepK row slots first R (insOf N told i)).least = leastE R.least (madeK (insOf N told i) row R.r slots first).2 := by unfold stepK; rw [if_neg hn30]
      rw [e, hmade, h4]; rfl
    · show at0 (stepK row slots first R (insOf N told i)).r _ = at0 (stepN N row was V i).1 _
      have e : (stepK row slots first R (insOf N told i)).r = R.r.set (insOf N told i).d.toNat (madeK (insOf N told i) row R.r slots first).1 := by unfold stepK; rw [if_neg hn30]
      rw [e, hmade, hd]
      show _ = at0 (V.1.set i _) _
      by_cases hki : k = i
      · subst hki
        rw [at0_set_eq rfl (by rw [h2]; omega), at0_set_eq (by simp) (by omega)]
      · have hki2 : k < i := by omega
        have hlk := loc_take hc ho ht hki2 1 (by omega)
        have hkb := hI'.loc k (by omega)
        have hne2 := hne k hki2 hlv
        rw [at0_set_ne (by omega), at0_set_ne (by simpa using hki), hlk]
        refine h5 k hki2 ?_
        rcases hlv with c | c
        · exact .inl c
        · exact .inr (by omega)
theorem dyn_stores (row slots : List Int) (first : Bool) (loc : List Int) : ∀ (l : List Op5) (s : Nat) (R : Reg), R.next.length = s + (preA l).length →
    (stores loc l s).foldl (stepK row slots first) R = ⟨R.r, R.next.take s ++ (preA l).map (fun a => at0 R.r (at0 loc a)), R.least⟩ := by
  intro l
  induction l with
  | nil =>
    intro s R h
    have : R.next.take s = R.next := List.take_of_length_le (by rw [h]; simp [preA])
    simp [stores, preA, this]
  | cons o r ih =>
    intro s R h
    rw [pre_cons] at h ⊢
    unfold stores
    by_cases hp : o.op = 21
    · rw [if_pos hp] at h ⊢
      rw [if_pos hp, List.foldl_cons]
      have e : stepK row slots first R ⟨30, 0, at0 loc o.a, 0, 0, (s : Int)⟩ = ⟨R.r, R.next.set s (at0 R.r (at0 loc o.a)), R.least⟩ := by unfold stepK; simp
      rw [e, ih (s + 1) _ (by simp at h ⊢; omega)]
      simp only [List.length_cons] at h
      have hs : s < R.next.length := by omega
      show Reg.mk R.r ((R.next.set s _).take (s + 1) ++ _) R.least = _
      congr 1
      rw [List.take_add_one, List.getElem?_set_self hs, List.take_set_of_le (Nat.le_refl s)]
      simp
    · rw [if_neg hp] at h ⊢
      rw [if_neg hp]
      exact ih s R h
theorem never_told {N : Net} (hc : checkN N = 0) (ho : inOrdB N = true) {told : List Int} (ht : toldB N told = true) {k : Nat} (h : at0 (endsP N told) (k : Int) = -2) (i : Nat) : Live (endsP N told) i k := .inl h
/-- An instant. -/
theorem inst_code {N : Net} (hc : checkN N = 0) (ho : inOrdB N = true) {told : List Int} (ht : toldB N told = true) {row was slots : List Int} {first : Bool} (hk : Kept N was slots first) :
    (instK (codeN N told) row slots first).least = (instN N row was).2 ∧ (instK (codeN N told) row slots first).next = (preA N.ops).map (at0 (instN N row was).1)
      ∧ rowK (codeN N told) (instK (codeN N told) row slots first).r = told.map (at0 (rowN N (instN N row was).1)) := by
  have hT := till_ends hc ho ht
  have hm := (check_ok.1 hc).1
  obtain ⟨R, h1, h2, h3, h4, h5⟩ := dyn_ins hc ho ht (row := row) hk N.ops.length (Nat.le_refl _)
  have hsl : slots.length = (preA N.ops).length := by
    rcases hk with ⟨-, -, rfl⟩ | ⟨-, -, rfl⟩ <;> simp
  have hinst : instN N row was = (List.range N.ops.length).foldl (stepN N row was) (List.replicate N.ops.length 0, 0) := by unfold instN; rw [order_range ho]
  rw [← hinst] at h4 h5
  have e : instK (codeN N told) row slots first = ⟨R.r, R.next.take 0 ++ (preA N.ops).map (fun a => at0 R.r (at0 (layN N told N.ops.length).loc a)), R.least⟩ := by
    unfold instK codeN
    simp only [Int.toNat_natCast]
    rw [List.foldl_append, h1]
    exact dyn_stores row slots first _ N.ops 0 R (by rw [h3, hsl]; simp)
  rw [e]
  refine ⟨h4, ?_, ?_⟩
  · show R.next.take 0 ++ _ = _
    rw [List.take_zero, List.nil_append]
    refine List.map_congr_left (fun a ha => ?_)
    unfold preA at ha
    obtain ⟨o, ho', rfl⟩ := List.mem_map.1 ha
    rw [List.mem_filter] at ho'
    obtain ⟨hmem, hop⟩ := ho'
    obtain ⟨i, hi, e1⟩ := List.mem_iff_getElem.1 hmem
    have e2 : opAt N i = o := by unfold opAt; simp [List.getD, hi, e1]
    have hop2 : (opAt N i).op = 21 := by rw [e2]; simpa using hop
    have hab := pre_in hm hi hop2
    have hE := hT.pre i hi hop2
    rw [e2] at hab hE
    have := h5 o.a.toNat (by omega) (.inl (by rw [Int.toNat_of_nonneg hab.1]; exact hE))
    rwa [Int.toNat_of_nonneg hab.1] at this
  · unfold rowK codeN
    simp only [List.map_map]
    refine List.map_congr_left (fun i hi => ?_)
    unfold toldB at ht
    rw [List.all_eq_true] at ht
    have hti := ht i hi
    have hr := root_in hm hti
    have hE := hT.told' i hi
    have := h5 (at0 N.roots i).toNat (by omega) (.inl (by rw [Int.toNat_of_nonneg hr.1]; exact hE))
    rw [Int.toNat_of_nonneg hr.1] at this
    show at0 R.r (at0 (layN N told N.ops.length).loc (at0 N.roots i)) = at0 (N.roots.map (at0 (instN N row was).1)) i
    rw [this]
    obtain ⟨hi1, hi2⟩ := isOp_iff.1 hti
    have hl : i.toNat < N.roots.length := by omega
    unfold at0
    simp [List.getD, hl]
theorem go_code {N : Net} (hc : checkN N = 0) (ho : inOrdB N = true) {told : List Int} (ht : toldB N told = true) : ∀ (l : List (List Int)) (was slots : List Int) (first : Bool) (out : List (List Int)), Kept N was slots first →
    goR (codeN N told) l slots first (out.map fun r => told.map (at0 r)) = ((goN N l was out).1.map (fun r => told.map (at0 r)), (goN N l was out).2) := by
  intro l
  induction l with
  | nil => intro _ _ _ _ _; rfl
  | cons row r ih =>
    intro was slots first out hk
    obtain ⟨h1, h2, h3⟩ := inst_code hc ho ht (row := row) hk
    have hT : tellK (codeN N told) row slots first = if frameB N.ins row = false then ([], slots, 17) else if (instN N row was).2 ≠ 0 then ([], slots, (instN N row was).2) else (told.map (at0 (rowN N (instN N row was).1)), (preA N.ops).map (at0 (instN N row was).1), 0) := by
      unfold tellK
      rw [h1, h2, h3]; rfl
    unfold goR goN
    by_cases hf : frameB N.ins row = false
    · rw [if_pos hf] at hT ⊢
      rw [hT]; rfl
    · rw [if_neg hf] at hT ⊢
      by_cases he : (instN N row was).2 ≠ 0
      · rw [if_pos he] at hT ⊢
        rw [hT]
        show (if (instN N row was).2 ≠ 0 then _ else _) = _
        rw [if_pos he]
      · rw [if_neg he] at hT ⊢
        rw [hT]
        show (if (0 : Int) ≠ 0 then _ else goR _ _ _ _ _) = _
        rw [if_neg (by omega)]
        have := ih (instN N row was).1 ((preA N.ops).map (at0 (instN N row was).1)) false (out ++ [rowN N (instN N row was).1]) (.inr ⟨rfl, inst_len _ _ _, rfl⟩)
        rw [List.map_append] at this
        exact this
end Go.Proofs.Ytcphjehjdhgheaa.Nt

namespace Go.Proofs.Ytcphjehjdhgheaa.Nt
open Go.Proofs.Ytcphjehjdhgheaa.Num (doN)
set_option linter.unusedVariables false
set_option linter.unusedSimpArgs false

theorem goK_app (nin : Nat) (regs slots : Int) : ∀ (l m : List Ins6) (s : List Int × List Int), goK nin regs slots (l ++ m) s = (goK nin regs slots l s).bind (goK nin regs slots m) := by
  intro l
  induction l with
  | nil => intro m s; rfl
  | cons x r ih =>
    intro m s
    show (if okI nin regs slots s x = true then goK nin regs slots (r ++ m) (goneI s x) else none) = (if okI nin regs slots s x = true then goK nin regs slots r (goneI s x) else none).bind (goK nin regs slots m)
    by_cases h : okI nin regs slots s x = true
    · rw [if_pos h, if_pos h]; exact ih m _
    · rw [if_neg h, if_neg h]; rfl
theorem at0_mem {l : List Int} {k : Nat} (h : k < l.length) : at0 l (k : Int) ∈ l := by
  have : at0 l (k : Int) = l[k] := by rw [nat_at0]; simp [List.getD, h]
  rw [this]; exact List.getElem_mem h
theorem ins_d {N : Net} {told : List Int} {i : Nat} : (insOf N told i).d = at0 (layN N told (i + 1)).loc (i : Int) := by unfold insOf; simp only; split <;> rfl
theorem loc_succ {N : Net} (hc : checkN N = 0) (ho : inOrdB N = true) {told : List Int} (ht : toldB N told = true) {i : Nat} (hi : i < N.ops.length) : (layN N told (i + 1)).loc = (layN N told i).loc ++ [(insOf N told i).d] := by
  have hl := (inv_all hc ho ht i (by omega)).lloc
  have hl' := (inv_all hc ho ht (i + 1) (by omega)).lloc
  rw [ins_d, lay_succ]
  unfold layM
  simp only
  rw [at0_app_eq hl.symm]
theorem nrd_kids {op : Int} (h : 0 ≤ kids op) (hp : op ≠ 21) : nrd op = kids op := by
  unfold nrd kids at *
  unfold opnd at *
  repeat' split
  all_goals first | rfl | omega | (repeat' split at h; all_goals omega)
theorem slots_mono {N : Net} {told : List Int} {i : Nat} (hi : i < N.ops.length) (hp : (opAt N i).op = 21) : (layN N told i).slots < (layN N told N.ops.length).slots := by
  rw [slots_pre i (by omega), slots_pre N.ops.length (Nat.le_refl _), List.take_length]
  exact (List.getElem?_eq_some_iff.1 (slot_at hi hp)).1
theorem ins_ok {N : Net} (hc : checkN N = 0) (ho : inOrdB N = true) {told : List Int} (ht : toldB N told = true) {i : Nat} (hi : i < N.ops.length) :
    okI N.ins.length ((layN N told N.ops.length).regs : Int) ((layN N told N.ops.length).slots : Int) ((layN N told i).loc, []) (insOf N told i) = true := by
  have hmay := may_at (check_ok.1 hc).1 hi
  obtain ⟨h0, h1, h2⟩ := may_flds hmay
  have hI := inv_all hc ho ht i (by omega)
  have hI' := inv_all hc ho ht (i + 1) (by omega)
  have hrm := regs_mono hc ho ht (i := i + 1) (N.ops.length - (i + 1)) (by omega)
  rw [show i + 1 + (N.ops.length - (i + 1)) = N.ops.length by omega] at hrm
  have hn30 : (insOf N told i).op ≠ 30 := by rw [ins_op]; exact nrd_ne h0
  have hd := hI'.loc i (by omega)
  have hrd := reads_need hc (told := told) hi
  unfold okI
  rw [if_neg hn30, ins_d, ins_op]
  simp only [Bool.and_eq_true]
  refine ⟨⟨⟨⟨?_, ?_⟩, ?_⟩, ?_⟩, ⟨by simp, by simp; exact hd.1⟩, by simp; omega⟩
  · by_cases hp : (opAt N i).op = 21
    · rw [hp]; rfl
    · rw [nrd_kids h0 hp]; simpa using h0
  · unfold restB
    rw [ins_op]
    by_cases hp : (opAt N i).op = 21
    · unfold insOf
      simp only [if_pos hp]
      rw [hp]; rfl
    · rw [nrd_kids h0 hp]
      have e : [(insOf N told i).a, (insOf N told i).b, (insOf N told i).c] = [(opAt N i).a, (opAt N i).b, (opAt N i).c].map (regI (layN N told i).loc) := by unfold insOf; simp only [if_neg hp]; rfl
      rw [e, ← List.map_drop, List.all_eq_true]
      intro x hx
      obtain ⟨k, hk, rfl⟩ := List.mem_map.1 hx
      rw [h2 k hk]; rfl
  · have hpl : plainB N.ins.length (opAt N i) = true := by unfold mayOp at hmay; simp only [Bool.and_eq_true] at hmay; exact hmay.1.1.1.2
    unfold numB
    rw [ins_op]
    by_cases hp : (opAt N i).op = 21
    · rw [if_neg (by omega), if_neg (by omega), if_neg (by omega), if_pos (.inl hp)]
      have e : (insOf N told i).n = ((layN N told i).slots : Int) := by unfold insOf; simp only [if_pos hp]
      have := slots_mono (told := told) hi hp
      rw [e]; simp; omega
    · have e : (insOf N told i).n = (opAt N i).n := by unfold insOf; simp only [if_neg hp]
      rw [e]
      unfold plainB at hpl
      have h30 : ¬ ((opAt N i).op = 21 ∨ (opAt N i).op = 30) := by
        have := nrd_ne h0
        omega
      rw [if_neg h30]
      split
      · rename_i h; rw [if_pos h] at hpl; exact hpl
      · rename_i h; rw [if_neg h] at hpl
        split
        · rename_i h; rw [if_pos h] at hpl; exact hpl
        · rename_i h; rw [if_neg h] at hpl
          split
          · rename_i h; rw [if_pos h] at hpl; simp at hpl ⊢; omega
          · rename_i h; rw [if_neg h] at hpl; exact hpl
  · rw [hrd, List.all_eq_true]
    intro x hx
    obtain ⟨k, hk, rfl⟩ := List.mem_map.1 hx
    have hkk := need_flds hmay k hk
    have hlt := in_ord.1 ho i hi k.toNat (List.mem_map.2 ⟨k, hk, rfl⟩)
    have := at0_mem (l := (layN N told i).loc) (k := k.toNat) (by rw [hI.lloc]; exact hlt)
    rw [Int.toNat_of_nonneg hkk.1] at this
    simpa using this
theorem go_ins {N : Net} (hc : checkN N = 0) (ho : inOrdB N = true) {told : List Int} (ht : toldB N told = true) : ∀ i, i ≤ N.ops.length →
    goK N.ins.length ((layN N told N.ops.length).regs : Int) ((layN N told N.ops.length).slots : Int) (layN N told i).ins ([], []) = some ((layN N told i).loc, []) := by
  intro i
  induction i with
  | zero => intro _; rfl
  | succ i ih =>
    intro hi
    have hn30 : (insOf N told i).op ≠ 30 := by rw [ins_op]; exact nrd_ne (may_flds (may_at (check_ok.1 hc).1 (show i < N.ops.length by omega))).1
    rw [ins_succ hc ho ht (by omega), goK_app, ih (by omega), loc_succ hc ho ht (by omega)]
    show goK _ _ _ [insOf N told i] _ = _
    unfold goK
    rw [if_pos (ins_ok hc ho ht (by omega))]
    unfold goneI
    rw [if_neg hn30]; rfl
theorem go_stores (nin : Nat) (regs slots : Int) (loc wr : List Int) : ∀ (l : List Op5) (s : Nat), ((s + (preA l).length : Nat) : Int) ≤ slots → (∀ o ∈ l, o.op = 21 → at0 loc o.a ∈ wr) →
    goK nin regs slots (stores loc l s) (wr, (List.range s).map (fun (k : Nat) => (k : Int))) = some (wr, (List.range (s + (preA l).length)).map (fun (k : Nat) => (k : Int))) := by
  intro l
  induction l with
  | nil => intro s _ _; rfl
  | cons o r ih =>
    intro s hs hm
    rw [pre_cons] at hs ⊢
    unfold stores
    by_cases hp : o.op = 21
    · rw [if_pos hp] at hs ⊢
      rw [if_pos hp]
      simp only [List.length_cons] at hs ⊢
      have hok : okI nin regs slots (wr, (List.range s).map (fun (k : Nat) => (k : Int))) ⟨30, 0, at0 loc o.a, 0, 0, (s : Int)⟩ = true := by
        have hmem := hm o (by simp) hp
        have e1 : nrd 30 = 1 := rfl
        unfold okI restB numB readsI
        simp only [e1]
        have hs2 : (s : Int) < slots := by omega
        simp [hmem, hs2]
        intro x hx; omega
      unfold goK
      rw [if_pos hok]
      have e : goneI (wr, (List.range s).map (fun (k : Nat) => (k : Int))) ⟨30, 0, at0 loc o.a, 0, 0, (s : Int)⟩ = (wr, (List.range (s + 1)).map (fun (k : Nat) => (k : Int))) := by
        unfold goneI; rw [if_pos rfl, List.range_succ, List.map_append]; rfl
      rw [e, ih (s + 1) (by omega) (fun o' h' => hm o' (List.mem_cons_of_mem _ h'))]
      rw [show s + 1 + (preA r).length = s + ((preA r).length + 1) by omega]
    · rw [if_neg hp] at hs ⊢
      rw [if_neg hp]
      exact ih s hs (fun o' h' => hm o' (List.mem_cons_of_mem _ h'))
theorem stores_len (loc : List Int) : ∀ (l : List Op5) (s : Nat), (stores loc l s).length = (preA l).length := by
  intro l
  induction l with
  | nil => intro s; rfl
  | cons o r ih =>
    intro s
    rw [pre_cons]
    unfold stores
    split <;> simp [ih]
theorem pre_le (l : List Op5) : (preA l).length ≤ l.length := by unfold preA; rw [List.length_map]; exact List.length_filter_le _ _
theorem code_check {N : Net} (hc : checkN N = 0) (ho : inOrdB N = true) {told : List Int} (ht : toldB N told = true) : checkK (codeN N told) = 0 := by
  have hm := (check_ok.1 hc).1
  have hI := inv_all hc ho ht N.ops.length (Nat.le_refl _)
  have hs := slots_pre (N := N) (told := told) N.ops.length (Nat.le_refl _)
  rw [List.take_length] at hs
  have hpl := pre_le N.ops
  have hle : N.ops.length ≤ 100000 := by unfold mayN at hm; simp only [Bool.and_eq_true] at hm; exact of_decide_eq_true hm.1.1
  have hr := hI.regs
  have hsz : sizedB (codeN N told) = true := by
    unfold sizedB codeN
    simp only [List.length_append, hI.lins, stores_len]
    simp
    omega
  have hgo : goK N.ins.length ((layN N told N.ops.length).regs : Int) ((layN N told N.ops.length).slots : Int) (codeN N told).ins ([], []) = some ((layN N told N.ops.length).loc, (List.range (0 + (preA N.ops).length)).map (fun (k : Nat) => (k : Int))) := by
    show goK _ _ _ ((layN N told N.ops.length).ins ++ stores (layN N told N.ops.length).loc N.ops 0) _ = _
    rw [goK_app, go_ins hc ho ht _ (Nat.le_refl _)]
    refine go_stores _ _ _ _ _ N.ops 0 (by rw [hs]; omega) (fun o h hp => ?_)
    obtain ⟨i, hi, e1⟩ := List.mem_iff_getElem.1 h
    have e2 : opAt N i = o := by unfold opAt; simp [List.getD, hi, e1]
    have hab := pre_in hm hi (by rw [e2]; exact hp)
    rw [e2] at hab
    have := at0_mem (l := (layN N told N.ops.length).loc) (k := o.a.toNat) (by rw [hI.lloc]; omega)
    rwa [Int.toNat_of_nonneg hab.1] at this
  unfold checkK
  rw [hsz, if_neg (by simp)]
  have e : goK (codeN N told).inp.length (codeN N told).regs (codeN N told).slots (codeN N told).ins ([], []) = _ := hgo
  rw [e]
  show (if _ then (0 : Int) else 1) = 0
  rw [if_pos]
  rw [List.all_eq_true]
  intro x hx
  obtain ⟨i, hi, rfl⟩ := List.mem_map.1 hx
  unfold toldB at ht
  rw [List.all_eq_true] at ht
  have hr := root_in hm (ht i hi)
  have := at0_mem (l := (layN N told N.ops.length).loc) (k := (at0 N.roots i).toNat) (by rw [hI.lloc]; omega)
  rw [Int.toNat_of_nonneg hr.1] at this
  simpa using this

/-! ### Of any net -/
theorem fault_cases {N : Net} {told : List Int} (h : faultC N told = 0) : checkN N = 0 ∧ toldB N told = true := by
  unfold faultC at h
  by_cases h1 : checkN N ≠ 0
  · rw [if_pos h1] at h; exact absurd h h1
  · rw [if_neg h1] at h
    refine ⟨by omega, ?_⟩
    cases ht : toldB N told with
    | true => rfl
    | false => rw [ht, if_pos rfl] at h; omega
theorem told_sorted {N : Net} (told : List Int) : toldB (sortedN N) told = toldB N told := by unfold toldB sortedN; simp only [List.length_map]
theorem make_check {N : Net} {told : List Int} (h : faultC N told = 0) : checkK (makeC N told) = 0 := by
  obtain ⟨h1, h2⟩ := fault_cases h
  unfold makeC
  rw [if_pos h]
  exact code_check (sorted_check h1) (sorted_ord h1) (by rw [told_sorted]; exact h2)
theorem make_run {N : Net} {told : List Int} (h : faultC N told = 0) (l : List (List Int)) : runK (makeC N told) l = ((runN N l).1.map (fun r => told.map (at0 r)), (runN N l).2) := by
  obtain ⟨h1, h2⟩ := fault_cases h
  have hk := make_check h
  unfold runK
  rw [hk, if_neg (by omega), ← run_sorted h1]
  unfold runN
  rw [sorted_check h1, if_neg (by omega)]
  unfold makeC
  rw [if_pos h]
  have hs := slots_pre (N := sortedN N) (told := told) _ (Nat.le_refl _)
  rw [List.take_length] at hs
  have e : (codeN (sortedN N) told).slots.toNat = (preA (sortedN N).ops).length := by unfold codeN; simp only [Int.toNat_natCast]; exact hs
  rw [e]
  exact go_code (sorted_check h1) (sorted_ord h1) (by rw [told_sorted]; exact h2) l [] _ true [] (.inl ⟨rfl, rfl, rfl⟩)
theorem order_perm {N : Net} (h : checkN N = 0) : (orderN N).Perm (List.range N.ops.length) := by
  rw [List.perm_iff_count]
  intro a
  have hn : (orderN N).Nodup := (taken_valid (grN N)).nodup
  by_cases ha : a < N.ops.length
  · rw [hn.count, List.nodup_range.count, if_pos (order_mem h ha), if_pos (by simpa using ha)]
  · rw [hn.count, List.nodup_range.count, if_neg (fun e => ha (order_lt e)), if_neg (by simpa using ha)]
theorem ops_range (N : Net) : (List.range N.ops.length).map (opAt N) = N.ops := by
  refine List.ext_getElem? (fun i => ?_)
  rw [List.getElem?_map]
  by_cases hi : i < N.ops.length
  · rw [List.getElem?_range hi, op_get hi]; rfl
  · rw [List.getElem?_eq_none (by simpa using hi), List.getElem?_eq_none (by omega)]; rfl
def presN (l : List Op5) : Nat := (l.filter fun o => decide (o.op = 21)).length
theorem pres_sorted {N : Net} (h : checkN N = 0) : presN (sortedN N).ops = presN N.ops := by
  unfold presN
  show ((List.map (fun i => turnOp (orderN N) (opAt N i)) (orderN N)).filter _).length = _
  rw [List.filter_map, List.length_map]
  have e : (fun o : Op5 => decide (o.op = 21)) ∘ (fun i => turnOp (orderN N) (opAt N i)) = (fun o : Op5 => decide (o.op = 21)) ∘ opAt N := rfl
  rw [e]
  conv => rhs; rw [← ops_range N]
  rw [List.filter_map, List.length_map]
  exact ((order_perm h).filter _).length_eq
theorem make_sizes {N : Net} {told : List Int} (h : faultC N told = 0) :
    (makeC N told).ins.length = N.ops.length + presN N.ops ∧ 0 ≤ (makeC N told).regs ∧ (makeC N told).regs ≤ (N.ops.length : Int) ∧ (makeC N told).slots = (presN N.ops : Int) ∧ (makeC N told).outs.length = told.length ∧ (makeC N told).inp = N.ins := by
  obtain ⟨h1, h2⟩ := fault_cases h
  have hI := inv_all (sorted_check h1) (sorted_ord h1) (told := told) (by rw [told_sorted]; exact h2) _ (Nat.le_refl _)
  have hs := slots_pre (N := sortedN N) (told := told) _ (Nat.le_refl _)
  rw [List.take_length] at hs
  have hp : (preA (sortedN N).ops).length = presN N.ops := by rw [← pres_sorted h1]; unfold preA presN; rw [List.length_map]
  unfold makeC
  rw [if_pos h]
  unfold codeN
  simp only [List.length_append, stores_len, List.length_map]
  have hr := hI.regs
  have hl := hI.lins
  rw [sorted_len h1] at hr hl hs ⊢
  refine ⟨by rw [hl, hp], by omega, by omega, by rw [hs, hp], trivial, rfl⟩
end Go.Proofs.Ytcphjehjdhgheaa.Nt
