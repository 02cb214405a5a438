/- A net that is put in order tells what it told, as plain functions. Conditions: none. -/
import Derived.Test.YtcphjehjdhgheaaNkM
namespace Go.Proofs.Ytcphjehjdhgheaa.Nt
open Go.Proofs.Ytcphjehjdhgheaa.Num (doN)
set_option linter.unusedVariables false
set_option linter.unusedSimpArgs false

theorem step_len (N : Net) (row was : List Int) : ∀ (l : List Nat) (s : List Int × Int), (l.foldl (stepN N row was) s).1.length = s.1.length := by
  intro l
  induction l with
  | nil => intro s; rfl
  | cons i r ih => intro s; rw [List.foldl_cons, ih]; simp [stepN]
theorem inst_len (N : Net) (row was : List Int) : (instN N row was).1.length = N.ops.length := by unfold instN; rw [step_len]; simp
theorem arg_congr {l l' v v' : List Int} (hl : l.length = l'.length) (h : ∀ (j : Nat) k k', l[j]? = some k → l'[j]? = some k' → at0 v k = at0 v' k') (j : Nat) : arg l v j = arg l' v' j := by
  unfold arg
  by_cases hj : j < l.length
  · obtain ⟨k, hk⟩ : ∃ k, l[j]? = some k := ⟨_, List.getElem?_eq_getElem hj⟩
    obtain ⟨k', hk'⟩ : ∃ k, l'[j]? = some k := ⟨_, List.getElem?_eq_getElem (by omega)⟩
    rw [hk, hk']; exact h j k k' hk hk'
  · rw [List.getElem?_eq_none (by omega), List.getElem?_eq_none (by omega)]
theorem at0_set_ne {v : List Int} {i : Nat} {k x : Int} (h : k.toNat ≠ i) : at0 (v.set i x) k = at0 v k := by
  unfold at0; simp [List.getD, List.getElem?_set, Ne.symm h]
theorem at0_set_eq {v : List Int} {i : Nat} {k x : Int} (h : k.toNat = i) (hi : i < v.length) : at0 (v.set i x) k = x := by
  unfold at0; simp [List.getD, List.getElem?_set, h, hi]
theorem kids_arrow : kids 19 = 2 := rfl
theorem kids_pre : kids 21 = 1 := rfl
/-- Of two operators that are alike, over values that are alike where they look, the values are alike. -/
theorem val_congr {x y : Op5} {row v v' was was' : List Int} (ho : y.op = x.op) (hn : y.n = x.n) (hl : (needI x).length = (needI y).length)
    (hv : ∀ (j : Nat) k k', (needI x)[j]? = some k → (needI y)[j]? = some k' → at0 v k = at0 v' k') (hw : was.length = 0 ↔ was'.length = 0) (hp : x.op = 21 → was.length ≠ 0 → at0 was x.a = at0 was' y.a) :
    valN x row v was = valN y row v' was' := by
  unfold valN
  rw [ho, hn]
  by_cases h3 : x.op = 3
  · rw [if_pos h3, if_pos h3]
  rw [if_neg h3, if_neg h3]
  by_cases h12 : x.op = 1 ∨ x.op = 2
  · rw [if_pos h12, if_pos h12]
  rw [if_neg h12, if_neg h12]
  by_cases h19 : x.op = 19
  · rw [if_pos h19, if_pos h19]
    have e1 : needI x = [x.a, x.b] := by unfold needI; rw [if_neg (by omega), h19, kids_arrow]; rfl
    have e2 : needI y = [y.a, y.b] := by unfold needI; rw [if_neg (by omega), ho, h19, kids_arrow]; rfl
    rw [e1, e2] at hv
    have ha := hv 0 x.a y.a rfl rfl
    have hb := hv 1 x.b y.b rfl rfl
    rw [ha, hb]
    by_cases hz : was.length = 0
    · rw [if_pos hz, if_pos (hw.1 hz)]
    · rw [if_neg hz, if_neg (fun h => hz (hw.2 h))]
  rw [if_neg h19, if_neg h19]
  by_cases h21 : x.op = 21
  · rw [if_pos h21, if_pos h21]
    by_cases hz : was.length = 0
    · rw [if_pos hz, if_pos (hw.1 hz)]
    · rw [if_neg hz, if_neg (fun h => hz (hw.2 h)), hp h21 hz]
  rw [if_neg h21, if_neg h21, arg_congr hl hv, arg_congr hl hv, arg_congr hl hv]

/-! ### The same in order -/
/-- Values of the net in order, and those of the net, operator by operator. -/
def Alike (N : Net) (v v' : List Int) (m : Nat) : Prop := ∀ k i, k < m → (orderN N)[k]? = some i → at0 v (i : Int) = at0 v' (k : Int)
theorem nat_at0 (v : List Int) (k : Nat) : at0 v (k : Int) = v.getD k 0 := by unfold at0; simp
theorem sim_order {N : Net} (h : checkN N = 0) (row was was' : List Int) (hw : was.length = 0 ↔ was'.length = 0) (hp : was.length ≠ 0 → Alike N was was' N.ops.length) :
    ∀ m, m ≤ N.ops.length → Alike N (((orderN N).take m).foldl (stepN N row was) (List.replicate N.ops.length 0, 0)).1 ((List.range m).foldl (stepN (sortedN N) row was') (List.replicate N.ops.length 0, 0)).1 m
      ∧ (((orderN N).take m).foldl (stepN N row was) (List.replicate N.ops.length 0, 0)).2 = ((List.range m).foldl (stepN (sortedN N) row was') (List.replicate N.ops.length 0, 0)).2 := by
  have hm := (check_ok.1 h).1
  intro m
  induction m with
  | zero => intro _; exact ⟨fun k i hk _ => by omega, rfl⟩
  | succ m ih =>
    intro hle
    obtain ⟨ih1, ih2⟩ := ih (by omega)
    obtain ⟨i, hi⟩ : ∃ i, (orderN N)[m]? = some i := ⟨_, List.getElem?_eq_getElem (by rw [order_len h]; omega)⟩
    have hin := order_lt (List.mem_of_getElem? hi)
    have e1 : (orderN N).take (m + 1) = (orderN N).take m ++ [i] := by rw [List.take_add_one, hi]; rfl
    rw [e1, List.foldl_append, List.range_succ, List.foldl_append]
    generalize hA : ((orderN N).take m).foldl (stepN N row was) (List.replicate N.ops.length 0, 0) = A at ih1 ih2
    generalize hB : (List.range m).foldl (stepN (sortedN N) row was') (List.replicate N.ops.length 0, 0) = B at ih1 ih2
    have lA : A.1.length = N.ops.length := by rw [← hA, step_len]; simp
    have lB : B.1.length = N.ops.length := by rw [← hB, step_len]; simp
    have hmay := may_at hm hin
    have hval : valN (opAt N i) row A.1 was = valN (opAt (sortedN N) m) row B.1 was' := by
      rw [sorted_at hi]
      refine val_congr rfl rfl (by rw [need_turn, List.length_map]) (fun j k k' hk hk' => ?_) hw (fun hop hz => ?_)
      · rw [need_turn, List.getElem?_map, hk] at hk'
        injection hk' with hk'
        have hkm := List.mem_of_getElem? hk
        have hkr := need_flds hmay k hkm
        have hb := (taken_valid (grN N)).behind m i hi k.toNat (List.mem_map.2 ⟨k, hkm, rfl⟩)
        obtain ⟨p, hp', e⟩ := List.mem_iff_getElem.1 hb
        rw [List.length_take] at hp'
        rw [List.getElem_take] at e
        have hpl : p < (orderN N).length := by show p < (takenG (grN N)).length; omega
        have hpo : (orderN N)[p]? = some k.toNat := by rw [List.getElem?_eq_getElem hpl]; exact congrArg some e
        have hn := get_new hpo
        have := ih1 p k.toNat (by omega) hpo
        rw [← hk']
        unfold toI
        rw [if_neg (by omega), hn, ← this, Int.toNat_of_nonneg hkr.1]
      · have hp2 := hp hz
        obtain ⟨h0, h1, -⟩ := may_flds hmay
        rw [hop, kids_pre] at h1
        have ha := h1 (opAt N i).a (by simp)
        show at0 was (opAt N i).a = at0 was' (toI (orderN N) (opAt N i).a)
        unfold toI
        rw [if_neg (by omega)]
        have hq := new_get h (i := (opAt N i).a.toNat) (by omega)
        have hlt := new_lt h (i := (opAt N i).a.toNat) (by omega)
        have := hp2 _ _ hlt hq
        rw [← this, Int.toNat_of_nonneg ha.1]
    refine ⟨fun k j hk hj => ?_, ?_⟩
    · show at0 (A.1.set i _) _ = at0 (B.1.set m _) _
      rw [hval]
      by_cases e : k = m
      · subst e
        rw [hi] at hj
        injection hj with hj
        subst hj
        rw [at0_set_eq (by simp) (by omega), at0_set_eq (by simp) (by omega)]
      · have hji : j ≠ i := fun c => e (nodup_get (taken_valid (grN N)).nodup (x := i) (by rw [← c]; exact hj) hi)
        rw [at0_set_ne (by simpa using hji), at0_set_ne (by simpa using e)]
        exact ih1 k j (by omega) hj
    · show leastE A.2 _ = leastE B.2 _
      rw [hval, ih2]
theorem sim_inst {N : Net} (h : checkN N = 0) (row was was' : List Int) (hw : was.length = 0 ↔ was'.length = 0) (hp : was.length ≠ 0 → Alike N was was' N.ops.length) :
    Alike N (instN N row was).1 (instN (sortedN N) row was').1 N.ops.length ∧ (instN N row was).2 = (instN (sortedN N) row was').2 := by
  have := sim_order h row was was' hw hp N.ops.length (Nat.le_refl _)
  unfold instN
  rw [order_range (sorted_ord h), sorted_len h]
  rw [← order_len h, List.take_length, order_len h] at this
  exact this
theorem sim_row {N : Net} (h : checkN N = 0) {v v' : List Int} (ha : Alike N v v' N.ops.length) : rowN N v = rowN (sortedN N) v' := by
  unfold rowN
  show _ = (N.roots.map (toI (orderN N))).map (at0 v')
  rw [List.map_map]
  refine List.map_congr_left (fun k hk => ?_)
  have hm := (check_ok.1 h).1
  unfold mayN at hm
  simp only [Bool.and_eq_true, List.all_eq_true] at hm
  have hr := isOp_iff.1 (hm.2 k hk)
  show at0 v k = at0 v' (toI (orderN N) k)
  unfold toI
  rw [if_neg (by omega), ← ha _ _ (new_lt h (i := k.toNat) (by omega)) (new_get h (i := k.toNat) (by omega)), Int.toNat_of_nonneg hr.1]
theorem sim_go {N : Net} (h : checkN N = 0) : ∀ (l : List (List Int)) (was was' : List Int) (out : List (List Int)), (was.length = 0 ↔ was'.length = 0) → (was.length ≠ 0 → Alike N was was' N.ops.length) → goN N l was out = goN (sortedN N) l was' out := by
  intro l
  induction l with
  | nil => intro _ _ _ _ _; rfl
  | cons row r ih =>
    intro was was' out hw hp
    obtain ⟨h1, h2⟩ := sim_inst h row was was' hw hp
    unfold goN
    show (if frameB N.ins row = false then _ else _) = if frameB N.ins row = false then _ else _
    by_cases hf : frameB N.ins row = false
    · rw [if_pos hf, if_pos hf]
    rw [if_neg hf, if_neg hf, h2]
    by_cases he : (instN (sortedN N) row was').2 ≠ 0
    · rw [if_pos he, if_pos he]
    rw [if_neg he, if_neg he, sim_row h h1]
    exact ih _ _ _ (by rw [inst_len, inst_len, sorted_len h]) (fun _ => h1)
/-- A net that is sorted tells the same. -/
theorem run_sorted {N : Net} (h : checkN N = 0) (l : List (List Int)) : runN (sortedN N) l = runN N l := by
  unfold runN
  rw [sorted_check h, h]
  exact (sim_go h l [] [] [] Iff.rfl (fun hz => absurd rfl hz)).symm
end Go.Proofs.Ytcphjehjdhgheaa.Nt
