/- What Encode stands on: a writer and memory that is made, a row of numbers that is spelled out, bounds. Conditions: as each says. -/
import Derived.Test.YtcphjehjdhgheaaImC
import Derived.Test.YtcphjehjdhgheaaKnZ
namespace Go.Proofs.Ytcphjehjdhgheaa.Nt
open Go.ChangeShapes Go.WideShapes Go.ChangeAt Go.RowKit Go.Proofs.Ytcphjehjdhgheaa.Tr
set_option linter.unusedVariables false
set_option linter.unusedSimpArgs false

theorem regs_le (op : Int) : ∀ k ∈ regsK op, k ≤ 4 := by
  intro k hk
  unfold regsK at hk
  split at hk
  · simp at hk; omega
  · split at hk
    · simp at hk; omega
    · split at hk
      · simp at hk; omega
      · have := List.mem_of_mem_take hk
        simp at this; omega
theorem cell_block {w : World} {g i : Nat} {cs : Array Value} {T : TypeId} {v : Value} (h : w.heap[g]? = some (.cells cs T (0, 0))) (hc : cs[i]? = some v) : w.cell? ⟨g, i, none⟩ = some v := by simp [World.cell?, h, hc]
theorem WrB.up {B b : Nat} {l : List UInt8} {w w' : World} (h : WrB B b l w) (hb : Below w.heap.size w w') : WrB B b l w' := by
  have hlt : b < w.heap.size := Lib.BuilderAt.lt h
  obtain ⟨hB, v, hbk, hown, hne⟩ := h
  exact ⟨hB, v, (hb.block b hlt).trans hbk, own_below hown hb, hne⟩
theorem WTo.up {B b : Nat} {l : List UInt8} {w v u : World} (h : WTo B b l w v) (hb : Below v.heap.size v u) (hB : B ≤ v.heap.size) : WTo B b l w u :=
  ⟨h.1.up hb, h.2.1.trans (KpW.of_below hb), h.2.2.trans (hb.mono hB)⟩
theorem wri_new (w : World) : WrN w.heap.size w.heap.size [] (w.alloc (.cells #[.pointer none, .slice none 0 0] 132)) :=
  .inl ⟨Nat.le_refl _, _, heap_alloc_new _ _, World.ownsRow_nil _ _ _ _, by simp [Value.ownBlock]⟩
theorem put_lit (B b : Nat) (l : List UInt8) (w : World) (ks : List Int) (n : Nat) (cs : Array Value) (hcs : cs = (intsOf ks).toArray) (h : WrB B b l w) (hB : B ≤ w.heap.size) (hn : ks.length = n) (hm : n ≤ 1000) (hks : ∀ k ∈ ks, 0 ≤ k ∧ k < 34359738368) (hlen : l.length + 5 * n ≤ 900000000) :
    Calls Try.prog 77 #[.pointer (some ⟨b, 0, none⟩), .slice (some ⟨w.heap.size, 0, none⟩) n n] (w.alloc (.cells cs 3)) fun e w' => e = .returned (.tuple #[]) ∧ WTo B b (l ++ putM ks) w w' := by
  subst hcs
  have hb : Below w.heap.size w (w.alloc (.cells (intsOf ks).toArray 3)) := below_new _ _
  refine (iput_any B b l _ _ n n ks (h.up hb) (by simp; omega) hn (by unfold maxLen; omega) hks (fun V hk _ => ?_) hlen).mono ?_
  · have := hk.block w.heap.size _ 3 (0, 0) (by decide) (by decide) (heap_alloc_new w (.cells (intsOf ks).toArray 3))
    have h2 := ints_litb (w := w) (l := ks) this (by omega)
    rw [hn] at h2
    exact h2
  · rintro e w' ⟨rfl, h1, h2, h3⟩
    exact ⟨rfl, h1, (KpW.of_below hb).trans h2, (hb.mono hB).trans h3⟩
theorem ok_bnd {c : Cod} (h : checkK c = 0) (hi : c.inp.length ≤ 1000000) : ∀ x ∈ c.ins, (∀ k ∈ fldsI x, 0 ≤ k ∧ k < 34359738368) ∧ -2147483648 ≤ x.n ∧ x.n ≤ 2147483647 ∧ 0 ≤ x.op ∧ x.op ≤ 30 ∧ 0 ≤ nrd x.op := by
  intro x hx
  have hF := check_fits h
  have hok := ok_ins h x hx
  obtain ⟨h1, s, h2, h3⟩ := check_parts.1 h
  have hr := hF.ins x hx
  obtain ⟨s0, ho⟩ := go_oks _ _ _ _ _ _ h2 x hx
  unfold okI at ho
  simp only [Bool.and_eq_true] at ho
  obtain ⟨⟨⟨⟨o1, o2⟩, o3⟩, o4⟩, o5⟩ := ho
  obtain ⟨r1, r2⟩ := hF.regs
  obtain ⟨r3, r4⟩ := hF.slots
  have hn : -2147483648 ≤ x.n ∧ x.n ≤ 2147483647 := by
    unfold numB at o3
    split at o3
    · simp only [Bool.and_eq_true, decide_eq_true_eq] at o3
      omega
    · split at o3
      · unfold fitsI at o3
        simp only [Bool.and_eq_true, decide_eq_true_eq] at o3
        exact o3
      · split at o3
        · simp only [Bool.and_eq_true, decide_eq_true_eq] at o3
          omega
        · split at o3
          · simp only [Bool.and_eq_true, decide_eq_true_eq] at o3
            omega
          · have : x.n = 0 := by simpa using o3
            omega
  obtain ⟨p1, p2⟩ := nrd_pos hok.nr
  refine ⟨fun k hk => ?_, hn.1, hn.2, p1, p2, hok.nr⟩
  unfold fldsI at hk
  rcases List.mem_append.1 hk with hk | hk
  · split at hk
    · simp at hk
    · rename_i e
      rw [List.mem_singleton.1 hk]
      have := hr.dst e
      omega
  · have := hr.fit.fld k hk
    omega
theorem sign_bnd {n : Int} (h1 : -2147483648 ≤ n) (h2 : n ≤ 2147483647) : 0 ≤ signM n ∧ signM n < 34359738368 := by
  unfold signM
  split <;> omega
theorem ins_len {x : Ins6} (h : (∀ k ∈ fldsI x, 0 ≤ k ∧ k < 34359738368) ∧ -2147483648 ≤ x.n ∧ x.n ≤ 2147483647 ∧ 0 ≤ x.op ∧ x.op ≤ 30 ∧ 0 ≤ nrd x.op) : (insM x).length ≤ 30 := by
  obtain ⟨h1, h2, h3, h4, h5, h6⟩ := h
  unfold insM
  rw [List.length_append, List.length_append]
  have a1 := num_len x.op.toNat (by omega)
  have a2 := put_len (fldsI x) h1
  have a3 : (fldsI x).length ≤ 4 := by
    unfold fldsI readsI
    rw [List.length_append, List.length_take]
    split <;> simp <;> omega
  have a4 : (if hasNB x.op = true then numM (signM x.n).toNat else []).length ≤ 5 := by
    split
    · have := sign_bnd h2 h3
      exact num_len _ (by omega)
    · simp
  omega
theorem inss_len : ∀ (l : List Ins6), (∀ x ∈ l, (insM x).length ≤ 30) → (l.flatMap insM).length ≤ 30 * l.length := by
  intro l
  induction l with
  | nil => intro _; simp
  | cons x r ih =>
    intro h
    rw [List.flatMap_cons, List.length_append, List.length_cons]
    have h1 := h x (List.mem_cons_self ..)
    have h2 := ih (fun y hy => h y (List.mem_cons_of_mem _ hy))
    omega
theorem enc1_any (k : Int) (w : World) : Calls Try.prog 75 #[.int .i64 k] w fun e w' => e = .returned (.bool (!(decide (0 ≤ k) && decide (k ≤ 4294967295)))) ∧ w' = w := by
  have HE : Hid ((!(decide (0 ≤ k) && decide (k ≤ 4294967295))) = (decide (k < 0) || decide (4294967295 < k))) := Lib.hid (by
    by_cases h1 : k < 0
    · have : ¬ (0 ≤ k) := by omega
      simp [h1, this]
    · have h2 : 0 ≤ k := by omega
      by_cases h3 : 4294967295 < k
      · have : ¬ k ≤ 4294967295 := by omega
        simp [h3, this]
      · have : k ≤ 4294967295 := by omega
        simp [h1, h2, h3, this])
  rw [HE.out]
  by_cases h1 : k < 0
  · have d1 : decide (k < 0) = true := decide_eq_true h1
    go_enter Try.func75, Try.ntmps75
    go_wp2
    go_ret
    exact ⟨ret_bool (by simp [d1]), rfl⟩
  · have d1 : decide (k < 0) = false := decide_eq_false h1
    go_enter Try.func75, Try.ntmps75
    go_wp2
    go_ret
    exact ⟨ret_bool (by simp [d1]), rfl⟩
theorem eEnc1 : ∀ args w, (callFunc 75 args).run Try.prog w = .ok (.enter 75 args) w := by intro a w; kernel_rfl
theorem inp_cont (w : World) (A : Option Addr) (m c : Nat) (l : List Int) (hm : m = l.length) (hmm : m ≤ maxLen) (hI : Ints w (.slice A m c) l) :
    Calls Try.prog 54 #[.slice A m c, .func (.func 75) #[] #[]] w (fun e w' => e = .returned (.bool (!inpB l)) ∧ ∃ q, w' = w.drewN q) := by
  have h := cont_pure 75 #[] eEnc1 A m c l w (fun k => !(decide (0 ≤ k) && decide (k ≤ 4294967295))) hm hmm hI (fun x _ q => (enc1_any x (w.drewN q)).mono (by rintro e w' ⟨rfl, rfl⟩; exact ⟨rfl, q, rfl⟩))
  rw [show (!inpB l) = l.any (fun k => !(decide (0 ≤ k) && decide (k ≤ 4294967295))) by unfold inpB; rw [List.any_eq_not_all_not]; simp]
  exact h
end Go.Proofs.Ytcphjehjdhgheaa.Nt
