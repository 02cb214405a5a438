/- Search by a function value: the first element of which it tells true; whatever it does to memory is told by a relation. Conditions: the slice is read as a list at each step. Small functions of layer norm and of the document's answer: whether an operator's number may be, whether a number is one of an operator, what an operator needs. Conditions: a net has at most 100000 inputs. -/
import Derived.Test.YtcphjehjdhgheaaNtB
import Derived.Deep.RegionHeld3
import Derived.Deep.AppendLies
import Derived.Deep.RegionLaw
namespace Go.Proofs.Ytcphjehjdhgheaa.Nt
open Go.ChangeShapes Go.WideShapes Go.ChangeAt Go.RowKit Go.Proofs.Ytcphjehjdhgheaa.Tr
set_option linter.unusedVariables false
set_option linter.unusedSimpArgs false

def IdxPost (n : Nat) (I : Nat → World → Prop) (T : Nat → World → Prop) (e : Ending) (w' : World) : Prop :=
  (∃ j : Nat, j < n ∧ e = .returned (.int .i64 (j : Int)) ∧ T j w') ∨ (e = .returned (.int .i64 (-1)) ∧ I n w')
set_option maxHeartbeats 1600000 in
theorem indexF_any (g : Nat) (lb : Array Value) (eg : ∀ args w, (callFunc g args).run Try.prog w = .ok (.enter g args) w) (A : Option Addr) (n c : Nat) (l : List Int) (w : World) (I T : Nat → World → Prop) (hn : n = l.length) (hm : n ≤ maxLen)
    (hI : ∀ j W, I j W → Ints W (.slice A n c) l)
    (hc : ∀ j x W, l[j]? = some x → I j W → Calls Try.prog g (#[.int .i64 x] ++ lb) W fun e w' => (e = .returned (.bool true) ∧ T j w') ∨ (e = .returned (.bool false) ∧ I (j + 1) w'))
    (h0 : I 0 w) : Calls Try.prog 93 #[.slice A n c, .func (.func g) #[] lb] w (IdxPost n I T) := by
  have HN := Lib.hid hn
  unfold maxLen at hm
  have HI := Lib.hid hI
  have HC := Lib.hid hc
  have H0 := Lib.hid h0
  clear hn hI hc h0
  go_enter Try.func93, Try.ntmps93
  go_wp2
  go_loopw [5, 8] (fun s5 vi wr => ∃ k : Nat, k ≤ n ∧ vi = .int .i64 (k : Int) ∧ I k wr) (fun s5 vi _ => n - (intOf vi).toNat)
  case atStart => exact ⟨0, Nat.zero_le _, rfl, H0.out⟩
  case round =>
    obtain ⟨k, hk, rfl, hi⟩ := hrel
    have HK := Lib.hid hi
    clear hi
    by_cases hlt : k < n
    · obtain ⟨x, hx⟩ : ∃ x, l[k]? = some x := ⟨_, List.getElem?_eq_getElem (by rw [← HN.out]; exact hlt)⟩
      obtain ⟨gb, o, rfl, hg, c0⟩ := ints_at (HI.out k wr HK.out) hx
      have HX := Lib.hid hx
      clear hx
      go_wp2_with fail
      refine (HC.out k x wr HX.out HK.out).mono ?_
      rintro e w1 (⟨rfl, ht⟩ | ⟨rfl, hi⟩)
      · have HT := Lib.hid ht
        clear ht
        go_wp2
        go_ret
        exact .inl ⟨k, hlt, rfl, HT.out⟩
      · have HI2 := Lib.hid hi
        clear hi
        go_wp2
        exact ⟨⟨k + 1, by omega, by go_num, HI2.out⟩, by simp [intOf]; omega⟩
    · have hkn : k = n := by omega
      subst hkn
      go_wp2
      go_ret
      exact .inr ⟨rfl, HK.out⟩
def ContPost (n : Nat) (I : Nat → World → Prop) (T : Nat → World → Prop) (e : Ending) (w' : World) : Prop :=
  (e = .returned (.bool true) ∧ ∃ j, j < n ∧ T j w') ∨ (e = .returned (.bool false) ∧ I n w')
theorem cont_any (g : Nat) (lb : Array Value) (eg : ∀ args w, (callFunc g args).run Try.prog w = .ok (.enter g args) w) (A : Option Addr) (n c : Nat) (l : List Int) (w : World) (I T : Nat → World → Prop) (hn : n = l.length) (hm : n ≤ maxLen)
    (hI : ∀ j W, I j W → Ints W (.slice A n c) l)
    (hc : ∀ j x W, l[j]? = some x → I j W → Calls Try.prog g (#[.int .i64 x] ++ lb) W fun e w' => (e = .returned (.bool true) ∧ T j w') ∨ (e = .returned (.bool false) ∧ I (j + 1) w'))
    (h0 : I 0 w) : Calls Try.prog 54 #[.slice A n c, .func (.func g) #[] lb] w (ContPost n I T) := by
  have HF := Lib.hid (indexF_any g lb eg A n c l w I T hn hm hI hc h0)
  clear hn hI hc h0 eg
  go_enter Try.func54, Try.ntmps54
  go_wp2_with fail
  refine HF.out.mono ?_
  rintro e w1 (⟨j, hj, rfl, ht⟩ | ⟨rfl, hi⟩)
  · have HT := Lib.hid ht
    have hd : decide ((0 : Int) ≤ (j : Int)) = true := decide_eq_true (by omega)
    clear ht
    go_wp2
    go_ret
    exact .inl ⟨rfl, j, hj, HT.out⟩
  · have HT := Lib.hid hi
    clear hi
    go_wp2
    go_ret
    exact .inr ⟨rfl, HT.out⟩
/-- Of a test that does nothing to memory. -/
theorem cont_pure (g : Nat) (lb : Array Value) (eg : ∀ args w, (callFunc g args).run Try.prog w = .ok (.enter g args) w) (A : Option Addr) (n c : Nat) (l : List Int) (w : World) (p : Int → Bool) (hn : n = l.length) (hm : n ≤ maxLen)
    (hI : Ints w (.slice A n c) l) (hc : ∀ x ∈ l, ∀ q, Calls Try.prog g (#[.int .i64 x] ++ lb) (w.drewN q) fun e w' => e = .returned (.bool (p x)) ∧ ∃ m, w' = w.drewN m) :
    Calls Try.prog 54 #[.slice A n c, .func (.func g) #[] lb] w (fun e w' => e = .returned (.bool (l.any p)) ∧ ∃ m, w' = w.drewN m) := by
  refine (cont_any g lb eg A n c l w (fun j W => (∃ m, W = w.drewN m) ∧ (l.take j).any p = false) (fun j W => (∃ m, W = w.drewN m) ∧ ∃ x, l[j]? = some x ∧ p x = true) hn hm ?_ ?_ ⟨⟨0, rfl⟩, by simp⟩).mono ?_
  · rintro j W ⟨⟨m, rfl⟩, -⟩; exact hI.drewN m
  · rintro j x W hx ⟨⟨m, rfl⟩, ha⟩
    refine (hc x (List.mem_of_getElem? hx) m).mono ?_
    rintro e w' ⟨rfl, hw⟩
    cases hp : p x with
    | true => exact .inl ⟨rfl, hw, x, hx, hp⟩
    | false =>
      refine .inr ⟨rfl, hw, ?_⟩
      rw [List.take_add_one, hx, List.any_append, ha]; simp [hp]
  · rintro e w' (⟨rfl, j, hj, hw, x, hx, hp⟩ | ⟨rfl, hw, ha⟩)
    · refine ⟨ret_bool ?_, hw⟩
      exact (List.any_eq_true.2 ⟨x, List.mem_of_getElem? hx, hp⟩).symm
    · refine ⟨ret_bool ?_, hw⟩
      rw [hn, List.take_length] at ha; exact ha.symm
end Go.Proofs.Ytcphjehjdhgheaa.Nt

namespace Go.Proofs.Ytcphjehjdhgheaa.Nt
open Go.ChangeShapes Go.WideShapes Go.ChangeAt Go.RowKit Go.Proofs.Ytcphjehjdhgheaa.Tr
set_option linter.unusedVariables false
set_option linter.unusedSimpArgs false

theorem below2 (w : World) (a b : Obj) : Below w.heap.size w ((w.alloc a).alloc b) := (below_new w a).alloc (by simp) _
/-- A closure: is a number none of an operator? -/
theorem none_any (k : Int) (b n c : Nat) (A : Option Addr) (w : World) (h : w.cell? ⟨b, 0, none⟩ = some (.slice A n c)) :
    Calls Try.prog 122 #[.int .i64 k, .pointer (some ⟨b, 0, none⟩)] w fun e w' => e = .returned (.bool (!isOp n k)) ∧ w' = w := by
  by_cases h0 : k < 0
  · have e : isOp n k = false := by unfold isOp; simp; omega
    rw [e]
    go_enter Try.func122, Try.ntmps122
    go_wp2
    go_ret
    exact ⟨rfl, rfl⟩
  · by_cases h1 : k < (n : Int)
    · have e : isOp n k = true := by unfold isOp; simp; omega
      have hd : ¬ ((n : Int) ≤ k) := by omega
      rw [e]
      go_enter Try.func122, Try.ntmps122
      go_wp2
      go_ret
      exact ⟨rfl, rfl⟩
    · have e : isOp n k = false := by unfold isOp; simp; omega
      have hd : ((n : Int) ≤ k) := by omega
      rw [e]
      go_enter Try.func122, Try.ntmps122
      go_wp2
      go_ret
      exact ⟨rfl, rfl⟩
theorem op_cs (op : Int) : op = 3 ∨ op = 1 ∨ op = 2 ∨ (op ≠ 3 ∧ op ≠ 1 ∧ op ≠ 2) := by omega
theorem plain3 (nin : Nat) (a b c n : Int) : plainB nin ⟨3, a, b, c, n⟩ = (decide (0 ≤ n) && decide (n < (nin : Int))) := rfl
theorem plain1 (nin : Nat) (a b c n : Int) : plainB nin ⟨1, a, b, c, n⟩ = fitsI n := rfl
theorem plain2 (nin : Nat) (a b c n : Int) : plainB nin ⟨2, a, b, c, n⟩ = (n == 0 || n == 1) := rfl
theorem plain0 (nin : Nat) (o a b c n : Int) (h3 : o ≠ 3) (h1 : o ≠ 1) (h2 : o ≠ 2) : plainB nin ⟨o, a, b, c, n⟩ = (n == 0) := by
  show (if o = 3 then _ else if o = 1 then _ else if o = 2 then _ else _) = _
  rw [if_neg h3, if_neg h1, if_neg h2]
set_option maxHeartbeats 3200000 in
theorem bears_any (w : World) (ov rv : Value) (A : Option Addr) (ci nin : Nat) (x : Op5) (hn : nin ≤ 100000) :
    Calls Try.prog 124 #[.agg #[ov, rv, .slice A nin ci], opV x] w fun e w' => e = .returned (.bool (plainB nin x)) ∧ Below w.heap.size w w' := by
  obtain ⟨o, a, b, c, n⟩ := x
  unfold opV
  rcases op_cs o with rfl | rfl | rfl | ⟨h3, h1, h2⟩
  · rw [plain3]
    by_cases q1 : 0 ≤ n
    · by_cases q2 : n < (nin : Int)
      · have hf : fitsI n = true := by unfold fitsI; simp; omega
        have e1 : (decide (0 ≤ n) && decide (n < (nin : Int))) = true := by simp; omega
        rw [e1]
        go_enter Try.func124, Try.ntmps124
        go_wp2_with (go_at_call 134; refine (Fits_any _ _).mono ?_; rw [hf]; rintro e w' ⟨rfl, rfl⟩)
        go_ret
        exact ⟨rfl, below2 _ _ _⟩
      · have e1 : (decide (0 ≤ n) && decide (n < (nin : Int))) = false := by simp; omega
        rw [e1]
        go_enter Try.func124, Try.ntmps124
        go_wp2
        go_ret
        exact ⟨rfl, below2 _ _ _⟩
    · have e1 : (decide (0 ≤ n) && decide (n < (nin : Int))) = false := by simp; omega
      rw [e1]
      go_enter Try.func124, Try.ntmps124
      go_wp2
      go_ret
      exact ⟨rfl, below2 _ _ _⟩
  · rw [plain1]
    go_enter Try.func124, Try.ntmps124
    go_wp2_with (go_at_call 134; refine (Fits_any _ _).mono ?_; rintro e w' ⟨rfl, rfl⟩)
    go_ret
    exact ⟨rfl, below2 _ _ _⟩
  · rw [plain2]
    by_cases q1 : n = 0
    · subst q1
      go_enter Try.func124, Try.ntmps124
      go_wp2
      go_ret
      exact ⟨rfl, below2 _ _ _⟩
    · have e0 : (n == 0) = false := by simp [q1]
      rw [e0, Bool.false_or]
      go_enter Try.func124, Try.ntmps124
      go_wp2
      go_ret
      exact ⟨rfl, below2 _ _ _⟩
  · rw [plain0 _ _ _ _ _ _ h3 h1 h2]
    go_enter Try.func124, Try.ntmps124
    go_wp2
    go_ret
    exact ⟨rfl, below2 _ _ _⟩
set_option maxHeartbeats 3200000 in
theorem dplain_any (w : World) (ov rv : Value) (A : Option Addr) (ci nin : Nat) (x : Op5) :
    Calls Try.prog 110 #[.agg #[ov, rv, .slice A nin ci], opV x] w fun e w' => e = .returned (.bool (plainB nin x)) ∧ Below w.heap.size w w' := by
  obtain ⟨o, a, b, c, n⟩ := x
  unfold opV
  rcases op_cs o with rfl | rfl | rfl | ⟨h3, h1, h2⟩
  · rw [plain3]
    by_cases q1 : 0 ≤ n
    · have e1 : decide (0 ≤ n) = true := by simp; omega
      rw [e1, Bool.true_and]
      go_enter Try.func110, Try.ntmps110
      go_wp2
      go_ret
      exact ⟨rfl, below2 _ _ _⟩
    · have e1 : decide (0 ≤ n) = false := by simp; omega
      rw [e1, Bool.false_and]
      go_enter Try.func110, Try.ntmps110
      go_wp2
      go_ret
      exact ⟨rfl, below2 _ _ _⟩
  · rw [plain1]
    go_enter Try.func110, Try.ntmps110
    go_wp2_with (go_at_call 98; refine (dfits_any _ _).mono ?_; rintro e w' ⟨rfl, rfl⟩)
    go_ret
    exact ⟨rfl, below2 _ _ _⟩
  · rw [plain2]
    by_cases q1 : n = 0
    · subst q1
      go_enter Try.func110, Try.ntmps110
      go_wp2
      go_ret
      exact ⟨rfl, below2 _ _ _⟩
    · have e0 : (n == 0) = false := by simp [q1]
      rw [e0, Bool.false_or]
      go_enter Try.func110, Try.ntmps110
      go_wp2
      go_ret
      exact ⟨rfl, below2 _ _ _⟩
  · rw [plain0 _ _ _ _ _ _ h3 h1 h2]
    go_enter Try.func110, Try.ntmps110
    go_wp2
    go_ret
    exact ⟨rfl, below2 _ _ _⟩
theorem dopd_any (w : World) (rv iv : Value) (A : Option Addr) (co n : Nat) (k many at_ : Int) :
    Calls Try.prog 111 #[.agg #[.slice A n co, rv, iv], .int .i64 k, .int .i64 many, .int .i64 at_] w fun e w' => e = .returned (.bool (fldB n k many at_)) ∧ Below w.heap.size w w' := by
  unfold fldB
  by_cases h : many ≤ at_
  · rw [if_pos h]
    go_enter Try.func111, Try.ntmps111
    go_wp2
    go_ret
    exact ⟨rfl, below_new _ _⟩
  · rw [if_neg h]
    by_cases q1 : 0 ≤ k
    · have e1 : isOp n k = decide (k < (n : Int)) := by unfold isOp; rw [decide_eq_true q1, Bool.true_and]
      rw [e1]
      go_enter Try.func111, Try.ntmps111
      go_wp2
      go_ret
      exact ⟨rfl, below_new _ _⟩
    · have e1 : isOp n k = false := by unfold isOp; simp; omega
      rw [e1]
      go_enter Try.func111, Try.ntmps111
      go_wp2
      go_ret
      exact ⟨rfl, below_new _ _⟩
end Go.Proofs.Ytcphjehjdhgheaa.Nt
