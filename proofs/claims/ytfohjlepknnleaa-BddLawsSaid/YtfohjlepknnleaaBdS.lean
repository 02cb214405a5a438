/- The closures that choose: what a call of them tells; the one that is called from without. Conditions: none. -/
import Derived.Test.YtfohjlepknnleaaBdR
namespace Go.Proofs.Ytfohjlepknnleaa.Bd
open Go.ChangeShapes Go.WideShapes Go.ChangeAt Go.RowKit
set_option linter.unusedVariables false
set_option linter.unusedSimpArgs false

/-- What a choice tells: none, where the draft is full; or the function; at most so many nodes more. -/
def ChPost (P : Dp) (E : Nat) (w : World) (fv : Value) (F : List Nd) (f g h N : Nat) (e : Ending) (w' : World) : Prop :=
  ∃ fv' F', Dr P w' fv' F' ∧ Fr P.dd P.kb (E + 4) w w' fv fv' ∧ F'.length ≤ F.length + N ∧ (∃ m, F' = F ++ m) ∧
    ((e = .returned (.int .i64 (-1)) ∧ P.limit ≤ P.S.length + F'.length ∧ Ch P E (P.S ++ F') False w') ∨
     ∃ x : Nat, e = .returned (.int .i64 (x : Int)) ∧ IteTo P.vars (P.S ++ F) f g h (mn (P.S ++ F) f g h) (P.S ++ F') x ∧ Ch P E (P.S ++ F') True w')

theorem ch_same {P : Dp} {E : Nat} {w w' : World} {fv : Value} {F : List Nd} {f g h N x : Nat} (hD : Dr P w fv F) (hC : Ch P E (P.S ++ F) True w) (hb : Below w.heap.size w w') (hx : IteTo P.vars (P.S ++ F) f g h (mn (P.S ++ F) f g h) (P.S ++ F) x) :
    ChPost P E w fv F f g h N (.returned (.int .i64 (x : Int))) w' :=
  ⟨fv, F, hD.kept hb, Fr.of hb, by omega, ⟨[], (List.append_nil _).symm⟩, .inr ⟨x, rfl, hx, hC.kept hb⟩⟩
theorem ChPost.less {P : Dp} {E : Nat} {w w' : World} {fv : Value} {F : List Nd} {f g h N M : Nat} {e : Ending} (hp : ChPost P E w fv F f g h N e w') (h2 : N ≤ M) : ChPost P E w fv F f g h M e w' := by
  obtain ⟨fv', F', a, b, c, d, r⟩ := hp
  exact ⟨fv', F', a, b, by omega, d, r⟩
theorem ChPost.back {P : Dp} {E : Nat} {w w1 w' : World} {fv : Value} {F : List Nd} {f g h N : Nat} {e : Ending} (hb : Below w.heap.size w w1) (hp : ChPost P E w1 fv F f g h N e w') : ChPost P E w fv F f g h N e w' := by
  obtain ⟨fv', F', a, b, c, d, r⟩ := hp
  exact ⟨fv', F', a, (Fr.of hb).trans b, c, d, r⟩
theorem ChPost.int {P : Dp} {E : Nat} {w w' : World} {fv : Value} {F : List Nd} {f g h N : Nat} {e : Ending} (hp : ChPost P E w fv F f g h N e w') : ∃ v : Int, e = .returned (.int .i64 v) := by
  obtain ⟨fv', F', a, b, c, d, ⟨rfl, _⟩ | ⟨x, rfl, _⟩⟩ := hp
  · exact ⟨_, rfl⟩
  · exact ⟨_, rfl⟩
theorem mn_le {ns : List Nd} {a b c : Nat} : mn ns a b c ≤ tst ns a ∧ mn ns a b c ≤ tst ns b ∧ mn ns a b c ≤ tst ns c := by unfold mn; omega

set_option maxRecDepth 100000 in
set_option maxHeartbeats 1600000 in
/-- The choice: what is plain at once, else by the function that remembers. -/
theorem choose_of (P : Dp) (E : Nat) (w : World) (fv : Value) (F : List Nd) (hD : Dr P w fv F) (hC : Ch P E (P.S ++ F) True w) (f g h N : Nat) (lf : f < (P.S ++ F).length) (lg : g < (P.S ++ F).length) (lh : h < (P.S ++ F).length)
    (hdown : 2 ≤ f → Calls Try.prog 58 #[.agg #[.int .i64 (f : Int), .int .i64 (g : Int), .int .i64 (h : Int)], .pointer (some ⟨E + 5, 0, none⟩), .pointer (some ⟨E + 3, 0, none⟩)] w (ChPost P E w fv F f g h N)) :
    Calls Try.prog 47 #[.int .i64 (f : Int), .int .i64 (g : Int), .int .i64 (h : Int), .pointer (some ⟨E + 1, 0, none⟩)] w (ChPost P E w fv F f g h N) := by
  have HD := Lib.hid hD
  have HC := Lib.hid hC
  obtain ⟨c0, c1, c2, c3, c5⟩ := hC.ats
  have hm := mn_le (ns := P.S ++ F) (a := f) (b := g) (c := h)
  have HM := Lib.hid hm
  have HLF := Lib.hid lf
  have HLG := Lib.hid lg
  have HLH := Lib.hid lh
  have HDN := Lib.hid hdown
  clear hD hC hm lf lg lh hdown
  by_cases k1 : f = 1 ∨ g = h
  · have HR := Lib.hid (ch_same (N := N) (w' := w) HD.out HC.out (Below.refl _ _) (ite_first HD.out.good HLG.out HM.out.2.1 k1))
    by_cases k2 : f = 1
    · subst k2
      go_enter Try.func47, Try.ntmps47
      go_wp2_with fail
      refine bodyPost_ret (v := .int .i64 (g : Int)) (by simp [results, Try.results47, go_sem]) rfl HR.out
    · have k3 : g = h := by omega
      subst k3
      have hd : ((f : Int) == 1) = false := beq_false_of_ne (by omega)
      go_enter Try.func47, Try.ntmps47
      go_wp2_with fail
      refine bodyPost_ret (v := .int .i64 (g : Int)) (by simp [results, Try.results47, go_sem]) rfl HR.out
  · have hd1 : ((f : Int) == 1) = false := beq_false_of_ne (by omega)
    have hd2 : ((g : Int) == (h : Int)) = false := beq_false_of_ne (by omega)
    by_cases k2 : f = 0
    · subst k2
      have HR := Lib.hid (ch_same (N := N) (w' := w) HD.out HC.out (Below.refl _ _) (ite_second (g := g) HD.out.good HLH.out HM.out.2.2))
      go_enter Try.func47, Try.ntmps47
      go_wp2_with fail
      refine bodyPost_ret (v := .int .i64 (h : Int)) (by simp [results, Try.results47, go_sem]) rfl HR.out
    · have hd3 : ((f : Int) == 0) = false := beq_false_of_ne (by omega)
      by_cases k3 : g = 1 ∧ h = 0
      · obtain ⟨rfl, rfl⟩ := k3
        have HR := Lib.hid (ch_same (N := N) (w' := w) HD.out HC.out (Below.refl _ _) (ite_itself HD.out.good HLF.out HM.out.1))
        go_enter Try.func47, Try.ntmps47
        go_wp2_with fail
        refine bodyPost_ret (v := .int .i64 (f : Int)) (by simp [results, Try.results47, go_sem]) rfl HR.out
      · have HX := Lib.hid (HDN.out (by omega))
        by_cases k4 : g = 1
        · have k5 : h ≠ 0 := fun e => k3 ⟨k4, e⟩
          subst k4
          have hd4 : ((h : Int) == 0) = false := beq_false_of_ne (by omega)
          go_enter Try.func47, Try.ntmps47
          go_wp2_with fail
          refine HX.out.mono ?_
          rintro e w1 hp
          obtain ⟨v, rfl⟩ := hp.int
          have HP := Lib.hid hp
          clear hp
          go_wp2
          refine bodyPost_ret (v := .int .i64 v) (by simp [results, Try.results47, go_sem]) rfl HP.out
        · have hd4 : ((g : Int) == 1) = false := beq_false_of_ne (by omega)
          go_enter Try.func47, Try.ntmps47
          go_wp2_with fail
          refine HX.out.mono ?_
          rintro e w1 hp
          obtain ⟨v, rfl⟩ := hp.int
          have HP := Lib.hid hp
          clear hp
          go_wp2
          refine bodyPost_ret (v := .int .i64 v) (by simp [results, Try.results47, go_sem]) rfl HP.out
end Go.Proofs.Ytfohjlepknnleaa.Bd
