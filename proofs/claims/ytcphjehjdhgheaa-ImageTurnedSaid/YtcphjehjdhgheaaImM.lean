/- Code as bytes, as plain functions: two codes that may be and have the same bytes are the same. Conditions: none. -/
import Derived.Test.YtcphjehjdhgheaaKnW
namespace Go.Proofs.Ytcphjehjdhgheaa.Nt
set_option linter.unusedVariables false
set_option linter.unusedSimpArgs false

/-- A number's bytes. -/
def numM (n : Nat) : List UInt8 := if n < 128 then [UInt8.ofNat n] else UInt8.ofNat (n % 128 + 128) :: numM (n / 128)
termination_by n
decreasing_by omega
theorem numM_lt {n : Nat} (h : n < 128) : numM n = [UInt8.ofNat n] := by rw [numM, if_pos h]
theorem numM_ge {n : Nat} (h : 128 ≤ n) : numM n = UInt8.ofNat (n % 128 + 128) :: numM (n / 128) := by rw [numM, if_neg (by omega)]
theorem ofNat_inj {a b : Nat} (ha : a < 256) (hb : b < 256) (h : UInt8.ofNat a = UInt8.ofNat b) : a = b := by
  have := congrArg UInt8.toNat h
  simp [UInt8.toNat_ofNat'] at this
  omega
theorem num_pre : ∀ (n a b : Nat) (s t : List UInt8), a ≤ n → numM a ++ s = numM b ++ t → a = b ∧ s = t := by
  intro n
  induction n with
  | zero =>
    intro a b s t ha h
    have : a = 0 := by omega
    subst this
    rw [numM_lt (by omega)] at h
    by_cases hb : b < 128
    · rw [numM_lt hb] at h
      simp only [List.cons_append, List.nil_append, List.cons.injEq] at h
      exact ⟨ofNat_inj (by omega) (by omega) h.1, h.2⟩
    · rw [numM_ge (by omega)] at h
      simp only [List.cons_append, List.nil_append, List.cons.injEq] at h
      have := ofNat_inj (by omega) (by omega) h.1
      omega
  | succ n ih =>
    intro a b s t ha h
    by_cases h1 : a < 128
    · rw [numM_lt h1] at h
      by_cases hb : b < 128
      · rw [numM_lt hb] at h
        simp only [List.cons_append, List.nil_append, List.cons.injEq] at h
        exact ⟨ofNat_inj (by omega) (by omega) h.1, h.2⟩
      · rw [numM_ge (by omega)] at h
        simp only [List.cons_append, List.nil_append, List.cons.injEq] at h
        have := ofNat_inj (by omega) (by omega) h.1
        omega
    · rw [numM_ge (by omega)] at h
      by_cases hb : b < 128
      · rw [numM_lt hb] at h
        simp only [List.cons_append, List.nil_append, List.cons.injEq] at h
        have := ofNat_inj (by omega) (by omega) h.1
        omega
      · rw [numM_ge (show 128 ≤ b by omega)] at h
        simp only [List.cons_append, List.cons.injEq] at h
        have e1 := ofNat_inj (by omega) (by omega) h.1
        obtain ⟨e2, e3⟩ := ih (a / 128) (b / 128) s t (by omega) h.2
        exact ⟨by omega, e3⟩
theorem num_inj {a b : Nat} {s t : List UInt8} (h : numM a ++ s = numM b ++ t) : a = b ∧ s = t := num_pre a a b s t (Nat.le_refl _) h
/-- Numbers, one behind the other. -/
def putM (l : List Int) : List UInt8 := l.flatMap fun k => numM k.toNat
theorem put_cons (k : Int) (l : List Int) : putM (k :: l) = numM k.toNat ++ putM l := rfl
theorem put_app (l m : List Int) : putM (l ++ m) = putM l ++ putM m := by unfold putM; rw [List.flatMap_append]
theorem put_one (k : Int) : putM [k] = numM k.toNat := by simp [putM]
theorem put_inj : ∀ (l m : List Int) (s t : List UInt8), l.length = m.length → (∀ k ∈ l, 0 ≤ k) → (∀ k ∈ m, 0 ≤ k) → putM l ++ s = putM m ++ t → l = m ∧ s = t := by
  intro l
  induction l with
  | nil =>
    intro m s t hl h1 h2 h
    cases m with
    | nil => exact ⟨rfl, h⟩
    | cons y r => simp at hl
  | cons x l ih =>
    intro m s t hl h1 h2 h
    cases m with
    | nil => simp at hl
    | cons y r =>
      rw [put_cons, put_cons, List.append_assoc, List.append_assoc] at h
      obtain ⟨e1, e2⟩ := num_inj h
      obtain ⟨e3, e4⟩ := ih r s t (by simpa using hl) (fun k hk => h1 k (List.mem_cons_of_mem _ hk)) (fun k hk => h2 k (List.mem_cons_of_mem _ hk)) e2
      have a1 := h1 x (List.mem_cons_self ..)
      have a2 := h2 y (List.mem_cons_self ..)
      exact ⟨by rw [e3, show x = y by omega], e4⟩
/-- How many, and these. -/
def listM (l : List Int) : List UInt8 := numM l.length ++ putM l
theorem list_inj {l m : List Int} {s t : List UInt8} (h1 : ∀ k ∈ l, 0 ≤ k) (h2 : ∀ k ∈ m, 0 ≤ k) (h : listM l ++ s = listM m ++ t) : l = m ∧ s = t := by
  unfold listM at h
  rw [List.append_assoc, List.append_assoc] at h
  obtain ⟨e1, e2⟩ := num_inj h
  exact put_inj l m s t e1 h1 h2 e2
def hasNB (op : Int) : Bool := op == 3 || op == 1 || op == 2 || op == 21 || op == 30
def signM (n : Int) : Int := if n < 0 then -2 * n - 1 else 2 * n
theorem sign_inj {a b : Int} (h : (signM a).toNat = (signM b).toNat) : a = b := by
  unfold signM at h
  split at h <;> split at h <;> omega
/-- The registers that an instruction names. -/
def fldsI (x : Ins6) : List Int := (if x.op = 30 then [] else [x.d]) ++ readsI x
def insM (x : Ins6) : List UInt8 := numM x.op.toNat ++ putM (fldsI x) ++ (if hasNB x.op = true then numM (signM x.n).toNat else [])
def bail : List UInt8 := [66, 65, 73, 76]
def inpB (l : List Int) : Bool := l.all fun k => decide (0 ≤ k) && decide (k ≤ 4294967295)
def bytesM (C : Cod) : List UInt8 := bail ++ numM C.regs.toNat ++ numM C.slots.toNat ++ listM C.inp ++ numM C.ins.length ++ C.ins.flatMap insM ++ listM C.outs
def encF (C : Cod) : Int := if checkK C ≠ 0 then 1 else if inpB C.inp = false then 1 else 0
def encM (C : Cod) : List UInt8 := if encF C = 0 then bytesM C else []
theorem enc_ok {C : Cod} (h : encF C = 0) : checkK C = 0 ∧ inpB C.inp = true := by
  unfold encF at h
  by_cases h1 : checkK C ≠ 0
  · rw [if_pos h1] at h; omega
  · rw [if_neg h1] at h
    refine ⟨by omega, ?_⟩
    cases hi : inpB C.inp with
    | true => rfl
    | false => rw [hi] at h; simp at h
theorem nrd_pos {op : Int} (h : 0 ≤ nrd op) : 0 ≤ op ∧ op ≤ 30 := by
  unfold nrd at h
  split at h
  · omega
  · split at h
    · omega
    · split at h
      · omega
      · unfold opnd at h
        split at h
        · omega
        · split at h
          · omega
          · split at h
            · omega
            · omega
/-- Of an instruction that may be. -/
structure OkIns (x : Ins6) : Prop where
  nr : 0 ≤ nrd x.op
  fld : ∀ k ∈ fldsI x, 0 ≤ k
  rest : ∀ k ∈ [x.a, x.b, x.c].drop (nrd x.op).toNat, k = 0
  num : hasNB x.op = false → x.n = 0
  dst : x.op = 30 → x.d = 0
theorem ok_ins {c : Cod} (h : checkK c = 0) : ∀ x ∈ c.ins, OkIns x := by
  intro x hx
  have hF := check_fits h
  obtain ⟨h1, s, h2, h3⟩ := check_parts.1 h
  have hr := hF.ins x hx
  obtain ⟨s0, ho⟩ := go_oks _ _ _ _ _ _ h2 x hx
  unfold okI at ho
  simp only [Bool.and_eq_true] at ho
  obtain ⟨⟨⟨⟨o1, o2⟩, o3⟩, o4⟩, o5⟩ := ho
  refine ⟨by simpa using o1, fun k hk => ?_, fun k hk => ?_, fun hb => ?_, fun e => ?_⟩
  · unfold fldsI at hk
    rcases List.mem_append.1 hk with hk | hk
    · split at hk
      · simp at hk
      · rename_i e
        rw [List.mem_singleton.1 hk]
        exact (hr.dst e).1
    · exact (hr.fit.fld k hk).1
  · unfold restB at o2
    rw [List.all_eq_true] at o2
    simpa using o2 k hk
  · unfold hasNB at hb
    simp at hb
    obtain ⟨⟨⟨⟨b3, b1⟩, b2⟩, b21⟩, b30⟩ := hb
    unfold numB at o3
    rw [if_neg b3, if_neg b1, if_neg b2, if_neg (by omega)] at o3
    simpa using o3
  · rw [if_pos e] at o5
    simp only [Bool.and_eq_true] at o5
    simpa using o5.1
theorem ins_inj {x y : Ins6} (hx : OkIns x) (hy : OkIns y) {s t : List UInt8} (h : insM x ++ s = insM y ++ t) : x = y ∧ s = t := by
  unfold insM at h
  simp only [List.append_assoc] at h
  obtain ⟨e1, e2⟩ := num_inj h
  have p1 := nrd_pos hx.nr
  have p2 := nrd_pos hy.nr
  have eop : x.op = y.op := by omega
  have hl : (fldsI x).length = (fldsI y).length := by
    unfold fldsI readsI
    rw [eop]
    split <;> simp [List.length_append, List.length_take]
  obtain ⟨e3, e4⟩ := put_inj _ _ _ _ hl hx.fld hy.fld e2
  have hd : x.d = y.d ∧ readsI x = readsI y := by
    unfold fldsI at e3
    by_cases h30 : x.op = 30
    · rw [if_pos h30, if_pos (by omega)] at e3
      exact ⟨by rw [hx.dst h30, hy.dst (by omega)], by simpa using e3⟩
    · rw [if_neg h30, if_neg (by omega)] at e3
      simp only [List.cons_append, List.nil_append, List.cons.injEq] at e3
      exact e3
  have habc : [x.a, x.b, x.c] = [y.a, y.b, y.c] := by
    have t1 : [x.a, x.b, x.c] = readsI x ++ [x.a, x.b, x.c].drop (nrd x.op).toNat := by unfold readsI; exact (List.take_append_drop _ _).symm
    have t2 : [y.a, y.b, y.c] = readsI y ++ [y.a, y.b, y.c].drop (nrd y.op).toNat := by unfold readsI; exact (List.take_append_drop _ _).symm
    rw [t1, t2, hd.2]
    congr 1
    have z : ∀ (l m : List Int), l.length = m.length → (∀ k ∈ l, k = 0) → (∀ k ∈ m, k = 0) → l = m := by
      intro l
      induction l with
      | nil => intro m hm _ _; cases m with | nil => rfl | cons _ _ => simp at hm
      | cons u l ih =>
        intro m hm h1 h2
        cases m with
        | nil => simp at hm
        | cons v m =>
          rw [h1 u (List.mem_cons_self ..), h2 v (List.mem_cons_self ..), ih m (by simpa using hm) (fun k hk => h1 k (List.mem_cons_of_mem _ hk)) (fun k hk => h2 k (List.mem_cons_of_mem _ hk))]
    exact z _ _ (by rw [eop]; simp) hx.rest hy.rest
  simp only [List.cons.injEq, and_true] at habc
  have hn : x.n = y.n ∧ s = t := by
    cases hb : hasNB x.op with
    | true =>
      rw [hb, show hasNB y.op = true by rw [← eop, hb]] at e4
      simp only [if_true] at e4
      obtain ⟨e5, e6⟩ := num_inj e4
      exact ⟨sign_inj e5, e6⟩
    | false =>
      have hby : hasNB y.op = false := by rw [← eop, hb]
      rw [hb, hby] at e4
      simp only [Bool.false_eq_true, if_false, List.nil_append] at e4
      exact ⟨by rw [hx.num hb, hy.num hby], e4⟩
  obtain ⟨xo, xd, xa, xb, xc, xn⟩ := x
  obtain ⟨yo, yd, ya, yb, yc, yn⟩ := y
  simp only at eop hd habc hn
  obtain ⟨rfl, -⟩ := hd
  obtain ⟨rfl, rfl, rfl⟩ := habc
  obtain ⟨rfl, rfl⟩ := hn
  subst eop
  exact ⟨rfl, rfl⟩
theorem inss_inj : ∀ (l m : List Ins6) (s t : List UInt8), l.length = m.length → (∀ x ∈ l, OkIns x) → (∀ x ∈ m, OkIns x) → l.flatMap insM ++ s = m.flatMap insM ++ t → l = m ∧ s = t := by
  intro l
  induction l with
  | nil =>
    intro m s t hl h1 h2 h
    cases m with
    | nil => exact ⟨rfl, h⟩
    | cons y r => simp at hl
  | cons x l ih =>
    intro m s t hl h1 h2 h
    cases m with
    | nil => simp at hl
    | cons y r =>
      rw [List.flatMap_cons, List.flatMap_cons, List.append_assoc, List.append_assoc] at h
      obtain ⟨e1, e2⟩ := ins_inj (h1 x (List.mem_cons_self ..)) (h2 y (List.mem_cons_self ..)) h
      obtain ⟨e3, e4⟩ := ih r s t (by simpa using hl) (fun k hk => h1 k (List.mem_cons_of_mem _ hk)) (fun k hk => h2 k (List.mem_cons_of_mem _ hk)) e2
      exact ⟨by rw [e1, e3], e4⟩
theorem bytes_inj {a b : Cod} (ha : encF a = 0) (hb : encF b = 0) (h : bytesM a = bytesM b) : a = b := by
  obtain ⟨a1, a2⟩ := enc_ok ha
  obtain ⟨b1, b2⟩ := enc_ok hb
  have fa := check_fits a1
  have fb := check_fits b1
  unfold bytesM at h
  simp only [List.append_assoc] at h
  have h := List.append_cancel_left h
  obtain ⟨e1, h⟩ := num_inj h
  obtain ⟨e2, h⟩ := num_inj h
  have nn : ∀ {l : List Int}, inpB l = true → ∀ k ∈ l, 0 ≤ k := fun hl k hk => by
    unfold inpB at hl
    rw [List.all_eq_true] at hl
    have := hl k hk
    simp at this; exact this.1
  obtain ⟨e3, h⟩ := list_inj (nn a2) (nn b2) h
  obtain ⟨e4, h⟩ := num_inj h
  obtain ⟨e5, h⟩ := inss_inj _ _ _ _ e4 (ok_ins a1) (ok_ins b1) h
  have h : listM a.outs ++ [] = listM b.outs ++ [] := by simpa using h
  obtain ⟨e6, -⟩ := list_inj (fun k hk => (fa.outs k hk).1) (fun k hk => (fb.outs k hk).1) h
  obtain ⟨i1, i2, i3, i4, i5⟩ := a
  obtain ⟨j1, j2, j3, j4, j5⟩ := b
  have q1 := fa.regs
  have q2 := fb.regs
  have q3 := fa.slots
  have q4 := fb.slots
  simp only at e1 e2 e3 e5 e6 q1 q2 q3 q4
  rw [e5, e6, e3, show i2 = j2 by omega, show i3 = j3 by omega]
end Go.Proofs.Ytcphjehjdhgheaa.Nt
