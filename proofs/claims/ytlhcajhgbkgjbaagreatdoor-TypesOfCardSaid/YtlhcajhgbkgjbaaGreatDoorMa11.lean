/- The small functions of layer lex return what the plain functions of LexM say, and leave memory alone. Conditions: lengths within a machine's; a row of digits is not empty. -/
import Derived.Test.YtlhcajhgbkgjbaaGreatDoorRows
import Derived.Test.YtlhcajhgbkgjbaaGreatDoorMa01
import Derived.WalkKit
import Derived.ProofKit
import Derived.OpenShut
import Derived.Outline
import Derived.Lib.Hide
import Derived.WalkLawsBesides
import Derived.WalkSpells
import Derived.Deep.Light
import Derived.Test.YtlhcajhgbkgjbaaGreatDoorProg
set_option linter.unusedVariables false
set_option linter.unusedSimpArgs false
namespace Go.Proofs.YtlhcajhgbkgjbaaGreatDoor.Lx
open Go.ChangeShapes Go.WideShapes Go.ChangeAt Go.RowKit
theorem ka1 {a b : Bool} (h : a = b) : Ending.returned (.bool a) = .returned (.bool b) := by rw [h]
theorem kfg (a b : UInt8) : (a <= b) ↔ ((a.toNat : Int) <= (b.toNat : Int)) := by rw [UInt8.le_iff_toNat_le]; omega
theorem kdh (a b : UInt8) : (a = b) ↔ ((a.toNat : Int) = (b.toNat : Int)) := by rw [<- UInt8.toNat_inj]; omega
end Go.Proofs.YtlhcajhgbkgjbaaGreatDoor.Lx
namespace Go.Proofs.YtlhcajhgbkgjbaaGreatDoor.Lx
open Go.ChangeShapes Go.WideShapes Go.ChangeAt Go.RowKit
def str (l : Bytes) : ByteArray := ⟨l.toArray⟩
theorem str_toList (l : Bytes) : (str l).toList = l := by unfold str; rw [ByteArray.toList_eq]
theorem str_size (l : Bytes) : (str l).size = l.length := by show l.toArray.size = _; simp
theorem toList_len (s : ByteArray) : s.toList.length = s.size := by rw [ByteArray.toList_eq]; exact Array.length_toList
theorem kdu {a b : ByteArray} (h : a.toList = b.toList) : a = b := by
 rw [ByteArray.toList_eq, ByteArray.toList_eq] at h
 obtain ⟨⟨a⟩⟩ := a; obtain ⟨⟨b⟩⟩ := b
 simp at h; rw [h]
theorem kcE (s : ByteArray) : str s.toList = s := kdu (str_toList _)
theorem klg {a b : ByteArray} (h : a.toList = b.toList) : Ending.returned (.string a) = .returned (.string b) := by rw [kdu h]
theorem toList_get (s : ByteArray) (i : Nat) (h : i < s.size) : s.toList[i]? = some s[i] := by
 rw [ByteArray.toList_eq]; obtain ⟨⟨l⟩⟩ := s
 simp [ByteArray.size] at h
 simp [h]; rfl
theorem kec (s : ByteArray) (h : 0 < s.size) : s.toList.headD 0 = s[0] := by
 have := toList_get s 0 h
 cases hl : s.toList with
 | nil => rw [hl] at this; simp at this
 | cons a l => rw [hl] at this; simpa using this
theorem extract_toList (s : ByteArray) (a b : Nat) : (s.extract a b).toList = (s.toList.drop a).take (b - a) := by
 rw [ByteArray.toList_eq, ByteArray.toList_eq]
 obtain ⟨⟨l⟩⟩ := s
 rw [ByteArray.extract_mk]
theorem kiB (s : ByteArray) (a : Nat) : (s.extract a s.size).toList = s.toList.drop a := by
 rw [extract_toList, List.take_of_length_le]; rw [List.length_drop, toList_len]; omega
end Go.Proofs.YtlhcajhgbkgjbaaGreatDoor.Lx
namespace Go.Proofs.YtlhcajhgbkgjbaaGreatDoor.Lx
open Go.ChangeShapes Go.WideShapes Go.ChangeAt Go.RowKit
end Go.Proofs.YtlhcajhgbkgjbaaGreatDoor.Lx
namespace Go.Proofs.YtlhcajhgbkgjbaaGreatDoor.Lx
open Go.ChangeShapes Go.WideShapes Go.ChangeAt Go.RowKit
end Go.Proofs.YtlhcajhgbkgjbaaGreatDoor.Lx

