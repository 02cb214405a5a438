/- The document's answer 'Join' of layer lex returns the tokens' texts, a blank between any two. Conditions: the slice reads as a list of tokens; no row of first texts is too long. -/
import Derived.Test.YtgligmdkikbdoaaLexI
import Derived.Test.YtgligmdkikbdoaaLexU
namespace Go.Proofs.Ytgligmdkikbdoaa.Lx
open Go.ChangeShapes Go.WideShapes Go.ChangeAt Go.RowKit
set_option linter.unusedVariables false

theorem joinM_snoc (L : List Tok) (t : Tok) (h : L ≠ []) : joinM (L ++ [t]) = joinM L ++ 32 :: t.text := by
  induction L with
  | nil => exact absurd rfl h
  | cons a r ih =>
    cases r with
    | nil => show joinM [a, t] = _; rw [joinM_more, joinM_one, joinM_one]
    | cons b r =>
      rw [List.cons_append, List.cons_append, joinM_more, ← List.cons_append, ih (by simp), joinM_more, List.append_assoc]; rfl
theorem str_app (a b : Bytes) : str a ++ str b = str (a ++ b) := ext_toList (by rw [app_toList, str_toList, str_toList, str_toList])
theorem chain_take {l : Bytes} {p : Nat} {r : List Tok} (h : Chain l p r) (k : Nat) : Chain l p (r.take k) := by
  induction r generalizing p k with
  | nil => rw [List.take_nil]; trivial
  | cons t r ih =>
    cases k with
    | zero => trivial
    | succ k => exact ⟨h.1, h.2.1, h.2.2.1, h.2.2.2.1, ih h.2.2.2.2 k⟩

set_option maxHeartbeats 1600000 in
theorem refJoin_any (v : Value) (l : List Tok) (w : World) (hv : Toks w v l) (hn : l.length ≤ 1000000) (hj : ∀ k, (joinM (l.take k)).length ≤ 1000000) :
    Calls Try.prog 32 #[v] w fun e w' => e = .returned (.string (str (joinM l))) ∧ w = w' := by
  obtain ⟨A, c, rfl, h1, h2, hA⟩ := hv
  unfold maxLen at h2
  have HA := Lib.hid hA
  have HJ := Lib.hid hj
  clear hA hj
  go_enter Try.func32, Try.ntmps32
  go_wp2
  go_loop [3, 4] (fun s i => ∃ k : Nat, k ≤ l.length ∧ i = .int .i64 k ∧ s = .string (str (joinM (l.take k)))) (fun _ i => l.length - (intOf i).toNat)
  case atStart => exact ⟨0, Nat.zero_le _, rfl, rfl⟩
  case round =>
    obtain ⟨k, hk, rfl, rfl⟩ := hrel
    by_cases hlt : k < l.length
    · obtain ⟨t, ht⟩ : ∃ t, l[k]? = some t := ⟨_, List.getElem?_eq_getElem hlt⟩
      have hsn : l.take (k + 1) = l.take k ++ [t] := by rw [List.take_add_one, ht]; rfl
      obtain ⟨g, rfl, hg, a0, a1, a2⟩ := HA.out k t ht
      have b1 := HJ.out k
      have b2 := HJ.out (k + 1)
      rw [hsn] at b2
      rcases Nat.eq_zero_or_pos k with rfl | hk0
      · have HS := Lib.hid (show joinM (l.take (0 + 1)) = t.text from by rw [hsn]; exact joinM_one t)
        have e0 : joinM (l.take 0) = [] := rfl
        rw [List.take_zero, List.nil_append, joinM_one] at b2
        rw [e0]
        have e1 := str_size t.text
        have e2 := str_size []
        have HX := Lib.hid (str_app [] t.text)
        rw [Nat.zero_mul] at a0 a1 a2
        clear ht hsn b1 e0
        go_wp2
        go_round
        case rel => exact ⟨1, by omega, by go_num, by rw [HX.out, HS.out]; rfl⟩
        case measure => simp [intOf]; omega
      · have hne : l.take k ≠ [] := by intro e; have := congrArg List.length e; rw [List.length_take, List.length_nil] at this; omega
        have HS := Lib.hid (show joinM (l.take (k + 1)) = joinM (l.take k) ++ 32 :: t.text from by rw [hsn]; exact joinM_snoc _ _ hne)
        rw [joinM_snoc _ _ hne, List.length_append, List.length_cons] at b2
        obtain ⟨X, hX⟩ : ∃ X, joinM (l.take k) = X := ⟨_, rfl⟩
        rw [hX] at b1 b2
        rw [hX]
        rw [hX] at HS
        have HXX := Lib.hid hX
        have e1 := str_size t.text
        have e2 := str_size X
        have e3 : (ByteArray.mk #[32]).size = 1 := rfl
        have HX := Lib.hid (show str X ++ ⟨#[32]⟩ ++ str t.text = str (X ++ 32 :: t.text) from by
          rw [show (ByteArray.mk #[32]) = str [32] from rfl, str_app, str_app]; simp)
        have hk0' : decide ((0 : Int) < k) = true := by simp; omega
        clear ht hsn hX hne
        go_wp2
        refine ⟨⟨k + 1, by omega, by go_num, ?_⟩, by simp [intOf]; omega⟩
        rw [HX.out, HS.out]
    · have e : l.take k = l := List.take_of_length_le (by omega)
      rw [e]
      clear e
      go_wp2
      go_ret
      exact ⟨rfl, rfl⟩
end Go.Proofs.Ytgligmdkikbdoaa.Lx
