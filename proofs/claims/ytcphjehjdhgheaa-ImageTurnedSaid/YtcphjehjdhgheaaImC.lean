/- The registers that an instruction names, as places. Conditions: an instruction lies in a box. -/
import Derived.Test.YtcphjehjdhgheaaImB
namespace Go.Proofs.Ytcphjehjdhgheaa.Nt
open Go.ChangeShapes Go.WideShapes Go.ChangeAt Go.RowKit Go.Proofs.Ytcphjehjdhgheaa.Tr
set_option linter.unusedVariables false
set_option linter.unusedSimpArgs false

/-- Which fields. -/
def regsK (op : Int) : List Nat := if op = 3 ∨ op = 1 ∨ op = 2 ∨ op = 21 then [1] else if op = 19 then [1, 2, 3] else if op = 30 then [2] else [1, 2, 3, 4].take (1 + opnd op).toNat
def fldK (x : Ins6) (k : Nat) : Int := if k = 0 then x.op else if k = 1 then x.d else if k = 2 then x.a else if k = 3 then x.b else if k = 4 then x.c else x.n
theorem regs_flds {x : Ins6} (h : 0 ≤ nrd x.op) : (regsK x.op).map (fldK x) = fldsI x := by
  unfold regsK fldsI readsI
  by_cases h1 : x.op = 3 ∨ x.op = 1 ∨ x.op = 2 ∨ x.op = 21
  · rw [if_pos h1, if_neg (by omega)]
    have : nrd x.op = 0 := by unfold nrd; rw [if_pos (by omega)]
    rw [this]; rfl
  · rw [if_neg h1]
    by_cases h2 : x.op = 19
    · rw [if_pos h2, if_neg (by omega)]
      have : nrd x.op = 2 := by unfold nrd; rw [if_neg (by omega), if_neg (by omega), if_pos h2]
      rw [this]; rfl
    · rw [if_neg h2]
      by_cases h3 : x.op = 30
      · rw [if_pos h3, if_pos h3]
        have : nrd x.op = 1 := by unfold nrd; rw [if_neg (by omega), if_pos h3]
        rw [this]; rfl
      · rw [if_neg h3, if_neg h3]
        have e : nrd x.op = opnd x.op := by unfold nrd; rw [if_neg (by omega), if_neg h3, if_neg h2]
        rw [e] at h ⊢
        rcases opnd_cases x.op with h4 | h4 | h4 | h4 <;> rw [h4] at h ⊢ <;> first | omega | rfl
/-- A row of places in a box. -/
def RegsAt (B : Nat) (w : World) (v : Value) (q : Nat) (l : List Nat) : Prop :=
  ∃ g c cs, v = .slice (some ⟨g, 0, none⟩) l.length c ∧ B ≤ g ∧ l.length ≤ c ∧ c ≤ 4 ∧ w.heap[g]? = some (.cells cs 141 (0, 0)) ∧ ∀ (i k : Nat), l[i]? = some k → cs[i]? = some (.pointer (some ⟨q, k, none⟩))
def RegsPost (w : World) (q : Nat) (l : List Nat) (e : Ending) (w' : World) : Prop := ∃ v, e = .returned v ∧ RegsAt w.heap.size w' v q l ∧ Below w.heap.size w w'
theorem regs_lit {w : World} {q : Nat} {l : List Nat} {c : Nat} (hc : l.length ≤ c) (h4 : c ≤ 4) {cs : Array Value} (hl : ∀ (i k : Nat), l[i]? = some k → cs[i]? = some (.pointer (some ⟨q, k, none⟩))) :
    RegsAt w.heap.size (w.alloc (.cells cs 141)) (.slice (some ⟨w.heap.size, 0, none⟩) l.length c) q l ∧ Below w.heap.size w (w.alloc (.cells cs 141)) :=
  ⟨⟨_, _, cs, rfl, Nat.le_refl _, hc, h4, heap_alloc_new _ _, hl⟩, below_new _ _⟩
theorem regs_litd {w : World} {q : Nat} {l : List Nat} {c : Nat} (n : Nat) (hc : l.length ≤ c) (h4 : c ≤ 4) {cs : Array Value} (hl : ∀ (i k : Nat), l[i]? = some k → cs[i]? = some (.pointer (some ⟨q, k, none⟩))) :
    RegsAt w.heap.size ((w.alloc (.cells cs 141)).drewN n) (.slice (some ⟨w.heap.size, 0, none⟩) l.length c) q l ∧ Below w.heap.size w ((w.alloc (.cells cs 141)).drewN n) :=
  ⟨⟨_, _, cs, rfl, Nat.le_refl _, hc, h4, heap_alloc_new w (.cells cs 141), hl⟩, below_drewN (below_new w (.cells cs 141)) n⟩
/-- An instruction in a box. -/
def IxBox (w : World) (q : Nat) (x : Ins6) : Prop := w.heap[q]? = some (.cells (insCells x).toArray 109 (0, 0))
theorem IxBox.ats {w : World} {q : Nat} {x : Ins6} (h : IxBox w q x) : w.cell? ⟨q, 0, none⟩ = some (.int .i64 x.op) ∧ w.cell? ⟨q, 1, none⟩ = some (.int .i64 x.d) ∧ w.cell? ⟨q, 2, none⟩ = some (.int .i64 x.a) ∧ w.cell? ⟨q, 3, none⟩ = some (.int .i64 x.b) ∧ w.cell? ⟨q, 4, none⟩ = some (.int .i64 x.c) ∧ w.cell? ⟨q, 5, none⟩ = some (.int .i64 x.n) := by
  unfold IxBox at h
  refine ⟨?_, ?_, ?_, ?_, ?_, ?_⟩ <;> simp [World.cell?, h, insCells]
theorem IxBox.fld {w : World} {q : Nat} {x : Ins6} (h : IxBox w q x) {k : Nat} (hk : k ≤ 5) : w.cell? ⟨q, k, none⟩ = some (.int .i64 (fldK x k)) := by
  obtain ⟨a0, a1, a2, a3, a4, a5⟩ := h.ats
  match k, hk with
  | 0, _ => exact a0
  | 1, _ => exact a1
  | 2, _ => exact a2
  | 3, _ => exact a3
  | 4, _ => exact a4
  | 5, _ => exact a5
set_option maxRecDepth 100000 in
set_option maxHeartbeats 4000000 in
theorem iregs_any (w : World) (q : Nat) (x : Ins6) (h : IxBox w q x) : Calls Try.prog 78 #[.pointer (some ⟨q, 0, none⟩)] w (RegsPost w q (regsK x.op)) := by
  obtain ⟨a0, a1, a2, a3, a4, a5⟩ := h.ats
  have hlt := lt_of_block h
  obtain ⟨op, hop⟩ : ∃ op, x.op = op := ⟨_, rfl⟩
  rw [hop] at a0 ⊢
  have c0 : w.drew.cell? ⟨q, 0, none⟩ = some (.int .i64 op) := a0
  clear h hop
  by_cases h3 : op = 3 ∨ op = 1 ∨ op = 2 ∨ op = 21
  · have HR : Hid (regsK op = [1]) := Lib.hid (by unfold regsK; rw [if_pos h3])
    rcases h3 with rfl | rfl | rfl | rfl
    all_goals
      rw [HR.out]
      go_enter Try.func78, Try.ntmps78
      go_wp2
      go_ret
      exact ⟨_, rfl, regs_lit (l := [1]) (by simp) (by simp) (fun i k h => by match i, h with | 0, h => simp at h; subst h; rfl)⟩
  by_cases h19 : op = 19
  · have HR : Hid (regsK op = [1, 2, 3]) := Lib.hid (by unfold regsK; rw [if_neg h3, if_pos h19])
    subst h19
    rw [HR.out]
    clear h3
    go_enter Try.func78, Try.ntmps78
    go_wp2
    go_region
    all_goals
      go_wp2
      go_ret
      refine ⟨_, rfl, ?_⟩
      first
        | exact regs_lit (l := [1, 2, 3]) (by simp) (by simp) (fun i k h => by match i, h with | 0, h => simp at h; subst h; rfl | 1, h => simp at h; subst h; rfl | 2, h => simp at h; subst h; rfl)
        | exact regs_litd (l := [1, 2, 3]) 1 (by simp) (by simp) (fun i k h => by match i, h with | 0, h => simp at h; subst h; rfl | 1, h => simp at h; subst h; rfl | 2, h => simp at h; subst h; rfl)
  by_cases h30 : op = 30
  · have HR : Hid (regsK op = [2]) := Lib.hid (by unfold regsK; rw [if_neg h3, if_neg h19, if_pos h30])
    subst h30
    rw [HR.out]
    clear h3 h19
    go_enter Try.func78, Try.ntmps78
    go_wp2
    go_ret
    exact ⟨_, rfl, regs_lit (l := [2]) (by simp) (by simp) (fun i k h => by match i, h with | 0, h => simp at h; subst h; rfl)⟩
  have HC : Hid (∀ (o i k : Nat), ([1, 2, 3, 4].take o : List Nat)[i]? = some k → (#[Value.pointer (some ⟨q, 1, none⟩), Value.pointer (some ⟨q, 2, none⟩), Value.pointer (some ⟨q, 3, none⟩), Value.pointer (some ⟨q, 4, none⟩)] : Array Value)[i]? = some (.pointer (some ⟨q, k, none⟩))) := Lib.hid (fun o i k h => by
    rw [List.getElem?_take] at h
    split at h
    · match i, h with
      | 0, h => simp at h; subst h; rfl
      | 1, h => simp at h; subst h; rfl
      | 2, h => simp at h; subst h; rfl
      | 3, h => simp at h; subst h; rfl
      | n + 4, h => simp at h
    · simp at h)
  have b3 : (op == 3) = false := by simp; omega
  have b1 : (op == 1) = false := by simp; omega
  have b2 : (op == 2) = false := by simp; omega
  have b21 : (op == 21) = false := by simp; omega
  have b19 : (op == 19) = false := by simpa using h19
  have b30 : (op == 30) = false := by simpa using h30
  rcases opnd_cases op with ho | ho | ho | ho
  · skip
    have HR : Hid (regsK op = ([1, 2, 3, 4].take 0 : List Nat)) := Lib.hid (by
      unfold regsK; rw [if_neg h3, if_neg h19, if_neg h30, ho]; rfl)
    have HO : Hid (∀ W, Calls Try.prog 116 #[.int .i64 op] W fun e w' => e = .returned (.int .i64 (-1)) ∧ w' = W) := Lib.hid (fun W => by rw [← ho]; exact operands_any op W)
    rw [HR.out]
    clear h3 h19 h30 ho
    go_enter Try.func78, Try.ntmps78
    go_wp2
    go_region_with (go_at_call 116; with_reducible refine (HO.out _).mono ?_; rintro e z ⟨rfl, rfl⟩)
    all_goals
      go_wp2
      go_ret
      refine ⟨_, rfl, ?_⟩
      first
        | exact regs_lit (l := ([1, 2, 3, 4].take 0 : List Nat)) (by simp) (by simp) (HC.out 0)
        | exact regs_litd (l := ([1, 2, 3, 4].take 0 : List Nat)) 1 (by simp) (by simp) (HC.out 0)
  · skip
    have HR : Hid (regsK op = ([1, 2, 3, 4].take 2 : List Nat)) := Lib.hid (by
      unfold regsK; rw [if_neg h3, if_neg h19, if_neg h30, ho]; rfl)
    have HO : Hid (∀ W, Calls Try.prog 116 #[.int .i64 op] W fun e w' => e = .returned (.int .i64 (1)) ∧ w' = W) := Lib.hid (fun W => by rw [← ho]; exact operands_any op W)
    rw [HR.out]
    clear h3 h19 h30 ho
    go_enter Try.func78, Try.ntmps78
    go_wp2
    go_region_with (go_at_call 116; with_reducible refine (HO.out _).mono ?_; rintro e z ⟨rfl, rfl⟩)
    all_goals
      go_wp2
      go_ret
      refine ⟨_, rfl, ?_⟩
      first
        | exact regs_lit (l := ([1, 2, 3, 4].take 2 : List Nat)) (by simp) (by simp) (HC.out 2)
        | exact regs_litd (l := ([1, 2, 3, 4].take 2 : List Nat)) 1 (by simp) (by simp) (HC.out 2)
  · skip
    have HR : Hid (regsK op = ([1, 2, 3, 4].take 3 : List Nat)) := Lib.hid (by
      unfold regsK; rw [if_neg h3, if_neg h19, if_neg h30, ho]; rfl)
    have HO : Hid (∀ W, Calls Try.prog 116 #[.int .i64 op] W fun e w' => e = .returned (.int .i64 (2)) ∧ w' = W) := Lib.hid (fun W => by rw [← ho]; exact operands_any op W)
    rw [HR.out]
    clear h3 h19 h30 ho
    go_enter Try.func78, Try.ntmps78
    go_wp2
    go_region_with (go_at_call 116; with_reducible refine (HO.out _).mono ?_; rintro e z ⟨rfl, rfl⟩)
    all_goals
      go_wp2
      go_ret
      refine ⟨_, rfl, ?_⟩
      first
        | exact regs_lit (l := ([1, 2, 3, 4].take 3 : List Nat)) (by simp) (by simp) (HC.out 3)
        | exact regs_litd (l := ([1, 2, 3, 4].take 3 : List Nat)) 1 (by simp) (by simp) (HC.out 3)
  · skip
    have HR : Hid (regsK op = ([1, 2, 3, 4].take 4 : List Nat)) := Lib.hid (by
      unfold regsK; rw [if_neg h3, if_neg h19, if_neg h30, ho]; rfl)
    have HO : Hid (∀ W, Calls Try.prog 116 #[.int .i64 op] W fun e w' => e = .returned (.int .i64 (3)) ∧ w' = W) := Lib.hid (fun W => by rw [← ho]; exact operands_any op W)
    rw [HR.out]
    clear h3 h19 h30 ho
    go_enter Try.func78, Try.ntmps78
    go_wp2
    go_region_with (go_at_call 116; with_reducible refine (HO.out _).mono ?_; rintro e z ⟨rfl, rfl⟩)
    all_goals
      go_wp2
      go_ret
      refine ⟨_, rfl, ?_⟩
      first
        | exact regs_lit (l := ([1, 2, 3, 4].take 4 : List Nat)) (by simp) (by simp) (HC.out 4)
        | exact regs_litd (l := ([1, 2, 3, 4].take 4 : List Nat)) 1 (by simp) (by simp) (HC.out 4)
end Go.Proofs.Ytcphjehjdhgheaa.Nt
