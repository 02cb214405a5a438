/- Search by a function value: the first element of which it tells true; whatever it does to memory is told by a relation. Conditions: the slice is read as a list at each step. -/
import Derived.Test.YtcphjehjdhgheaaNtB
namespace Go.Proofs.Ytcphjehjdhgheaa.Nt
open Go.ChangeShapes Go.WideShapes Go.ChangeAt Go.RowKit Go.Proofs.Ytcphjehjdhgheaa.Tr
set_option linter.unusedVariables false
set_option linter.unusedSimpArgs false

def IdxPost (n : Nat) (I : Nat → World → Prop) (T : Nat → World → Prop) (e : Ending) (w' : World) : Prop :=
  (∃ j : Nat, j < n ∧ e = .returned (.int .i64 (j : Int)) ∧ T j w') ∨ (e = .returned (.int .i64 (-1)) ∧ I n w')
set_option maxHeartbeats 1600000 in
theorem indexF_any (g : Nat) (lb : Array Value) (eg : ∀ args w, (callFunc g args).run Try.prog w = .ok (.enter g args) w) (A : Option Addr) (n c : Nat) (l : List Int) (w : World) (I T : Nat → World → Prop) (hn : n = l.length) (hm : n ≤ maxLen)
    (hI : ∀ j W, I j W → Ints W (.slice A n c) l)
    (hc : ∀ j x W, l[j]? = some x → I j W → Calls Try.prog g (#[.int .i64 x] ++ lb) W fun e w' => (e = .returned (.bool true) ∧ T j w') ∨ (e = .returned (.bool false) ∧ I (j + 1) w'))
    (h0 : I 0 w) : Calls Try.prog 93 #[.slice A n c, .func (.func g) #[] lb] w (IdxPost n I T) := by
  have HN := Lib.hid hn
  unfold maxLen at hm
  have HI := Lib.hid hI
  have HC := Lib.hid hc
  have H0 := Lib.hid h0
  clear hn hI hc h0
  go_enter Try.func93, Try.ntmps93
  go_wp2
  go_loopw [5, 8] (fun s5 vi wr => ∃ k : Nat, k ≤ n ∧ vi = .int .i64 (k : Int) ∧ I k wr) (fun s5 vi _ => n - (intOf vi).toNat)
  case atStart => exact ⟨0, Nat.zero_le _, rfl, H0.out⟩
  case round =>
    obtain ⟨k, hk, rfl, hi⟩ := hrel
    have HK := Lib.hid hi
    clear hi
    by_cases hlt : k < n
    · obtain ⟨x, hx⟩ : ∃ x, l[k]? = some x := ⟨_, List.getElem?_eq_getElem (by rw [← HN.out]; exact hlt)⟩
      obtain ⟨gb, o, rfl, hg, c0⟩ := ints_at (HI.out k wr HK.out) hx
      have HX := Lib.hid hx
      clear hx
      go_wp2_with fail
      refine (HC.out k x wr HX.out HK.out).mono ?_
      rintro e w1 (⟨rfl, ht⟩ | ⟨rfl, hi⟩)
      · have HT := Lib.hid ht
        clear ht
        go_wp2
        go_ret
        exact .inl ⟨k, hlt, rfl, HT.out⟩
      · have HI2 := Lib.hid hi
        clear hi
        go_wp2
        exact ⟨⟨k + 1, by omega, by go_num, HI2.out⟩, by simp [intOf]; omega⟩
    · have hkn : k = n := by omega
      subst hkn
      go_wp2
      go_ret
      exact .inr ⟨rfl, HK.out⟩
def ContPost (n : Nat) (I : Nat → World → Prop) (T : Nat → World → Prop) (e : Ending) (w' : World) : Prop :=
  (e = .returned (.bool true) ∧ ∃ j, j < n ∧ T j w') ∨ (e = .returned (.bool false) ∧ I n w')
theorem cont_any (g : Nat) (lb : Array Value) (eg : ∀ args w, (callFunc g args).run Try.prog w = .ok (.enter g args) w) (A : Option Addr) (n c : Nat) (l : List Int) (w : World) (I T : Nat → World → Prop) (hn : n = l.length) (hm : n ≤ maxLen)
    (hI : ∀ j W, I j W → Ints W (.slice A n c) l)
    (hc : ∀ j x W, l[j]? = some x → I j W → Calls Try.prog g (#[.int .i64 x] ++ lb) W fun e w' => (e = .returned (.bool true) ∧ T j w') ∨ (e = .returned (.bool false) ∧ I (j + 1) w'))
    (h0 : I 0 w) : Calls Try.prog 54 #[.slice A n c, .func (.func g) #[] lb] w (ContPost n I T) := by
  have HF := Lib.hid (indexF_any g lb eg A n c l w I T hn hm hI hc h0)
  clear hn hI hc h0 eg
  go_enter Try.func54, Try.ntmps54
  go_wp2_with fail
  refine HF.out.mono ?_
  rintro e w1 (⟨j, hj, rfl, ht⟩ | ⟨rfl, hi⟩)
  · have HT := Lib.hid ht
    have hd : decide ((0 : Int) ≤ (j : Int)) = true := decide_eq_true (by omega)
    clear ht
    go_wp2
    go_ret
    exact .inl ⟨rfl, j, hj, HT.out⟩
  · have HT := Lib.hid hi
    clear hi
    go_wp2
    go_ret
    exact .inr ⟨rfl, HT.out⟩
/-- Of a test that does nothing to memory. -/
theorem cont_pure (g : Nat) (lb : Array Value) (eg : ∀ args w, (callFunc g args).run Try.prog w = .ok (.enter g args) w) (A : Option Addr) (n c : Nat) (l : List Int) (w : World) (p : Int → Bool) (hn : n = l.length) (hm : n ≤ maxLen)
    (hI : Ints w (.slice A n c) l) (hc : ∀ x ∈ l, ∀ q, Calls Try.prog g (#[.int .i64 x] ++ lb) (w.drewN q) fun e w' => e = .returned (.bool (p x)) ∧ ∃ m, w' = w.drewN m) :
    Calls Try.prog 54 #[.slice A n c, .func (.func g) #[] lb] w (fun e w' => e = .returned (.bool (l.any p)) ∧ ∃ m, w' = w.drewN m) := by
  refine (cont_any g lb eg A n c l w (fun j W => (∃ m, W = w.drewN m) ∧ (l.take j).any p = false) (fun j W => (∃ m, W = w.drewN m) ∧ ∃ x, l[j]? = some x ∧ p x = true) hn hm ?_ ?_ ⟨⟨0, rfl⟩, by simp⟩).mono ?_
  · rintro j W ⟨⟨m, rfl⟩, -⟩; exact hI.drewN m
  · rintro j x W hx ⟨⟨m, rfl⟩, ha⟩
    refine (hc x (List.mem_of_getElem? hx) m).mono ?_
    rintro e w' ⟨rfl, hw⟩
    cases hp : p x with
    | true => exact .inl ⟨rfl, hw, x, hx, hp⟩
    | false =>
      refine .inr ⟨rfl, hw, ?_⟩
      rw [List.take_add_one, hx, List.any_append, ha]; simp [hp]
  · rintro e w' (⟨rfl, j, hj, hw, x, hx, hp⟩ | ⟨rfl, hw, ha⟩)
    · refine ⟨ret_bool ?_, hw⟩
      exact (List.any_eq_true.2 ⟨x, List.mem_of_getElem? hx, hp⟩).symm
    · refine ⟨ret_bool ?_, hw⟩
      rw [hn, List.take_length] at ha; exact ha.symm
end Go.Proofs.Ytcphjehjdhgheaa.Nt
