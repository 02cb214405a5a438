/- The closure row within Lex returns the longest row of bytes of one kind from a place on, and leaves memory alone. Conditions: the cells of the captured variables are known; the place lies within the text. -/
import Derived.Test.YtobkcdkffcenbaaGreatDoorCa11
set_option linter.unusedVariables false
set_option linter.unusedSimpArgs false
namespace Go.Proofs.YtobkcdkffcenbaaGreatDoor.Lx
open Go.ChangeShapes Go.WideShapes Go.ChangeAt Go.RowKit
theorem drop_cons (s : ByteArray) (k : Nat) (h : k < s.size) : s.toList.drop k = s[k] :: s.toList.drop (k + 1) := by
  have hg := toList_get s k h
  rw [List.getElem?_eq_some_iff] at hg
  obtain ⟨hg1, hg2⟩ := hg
  rw [List.drop_eq_getElem_cons hg1, hg2]
theorem row_end (s : ByteArray) (f : UInt8 → Bool) (p k : Nat) (hpk : p ≤ k) (hk : k ≤ s.size) (ha : ((s.toList.drop p).take (k - p)).all f = true) (hstop : ∀ h : k < s.size, f s[k] = false) :
    (s.extract p k).toList = (s.toList.drop p).takeWhile f := by
  rw [extract_toList]
  have e : s.toList.drop p = (s.toList.drop p).take (k - p) ++ s.toList.drop k := by
    conv => lhs; rw [← List.take_append_drop (k - p) (s.toList.drop p)]
    rw [List.drop_drop, show p + (k - p) = k from by omega]
  have ht : (s.toList.drop k).takeWhile f = [] := by
    by_cases h : k < s.size
    · rw [drop_cons s k h, List.takeWhile_cons, hstop h]; rfl
    · rw [List.drop_eq_nil_of_le (by rw [toList_len]; omega)]; rfl
  conv => rhs; rw [e]
  rw [List.takeWhile_append_of_pos (by intro a h; exact List.all_eq_true.1 ha a h), ht, List.append_nil]
theorem row_more (s : ByteArray) (f : UInt8 → Bool) (p k : Nat) (hpk : p ≤ k) (hk : k < s.size) (ha : ((s.toList.drop p).take (k - p)).all f = true) (hf : f s[k] = true) :
    ((s.toList.drop p).take (k + 1 - p)).all f = true := by
  have e : k + 1 - p = (k - p) + 1 := by omega
  rw [e, List.take_add_one, List.getElem?_drop, show p + (k - p) = k from by omega, toList_get s k hk, List.all_append, ha]
  simp [hf]
end Go.Proofs.YtobkcdkffcenbaaGreatDoor.Lx

