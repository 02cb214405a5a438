/- Contracts of library functions at this program, by application of the compiled library. Conditions: as each says. -/
import Derived.Shelf.Strings.Builder1
import Derived.Shelf.Strings.Builder2
import Derived.Shelf.Strings.OnBuilder
import Derived.Shelf.Small.Strs
import Derived.Shelf.Strings.Search1
import Derived.Shelf.Strings.Prefix
import Derived.Test.YtgohhnbdicdenaaGreatDoorProg
import Derived.Test.YtgohhnbdicdenaaGreatDoorPz04
namespace Go.Proofs
open Go.Shelf
open Go.RowKit in
open Go.RowKit in
open Go.RowKit in
open Go.RowKit in
open Go.RowKit in
def Tryz.lays156_ren : Go.Shelf.Ren := ⟨fun | 156 => 42 | 165 => 83 | 166 => 84 | 169 => 85 | 240 => 104 | 241 => 105 | 276 => 118 | 277 => 119 | n => n, fun | 31 => 66 | 9 => 9 | 3 => 3 | 4 => 4 | 0 => 0 | 20 => 20 | 72 => 115 | 76 => 118 | 70 => 112 | 37 => 113 | 75 => 117 | 127 => 128 | 164 => 137 | 5 => 5 | 80 => 104 | n => n, fun | n => n⟩
theorem Tryz.lays156 : Go.Proofs.Lays.n156 Tryz.prog Tryz.lays156_ren := {
  mixed := by kernel_rfl
  f156 := Tryz.func42.trans (congrArg some (by kernel_rfl))
  f165 := Tryz.func83.trans (congrArg some (by kernel_rfl))
  f166 := Tryz.func84.trans (congrArg some (by kernel_rfl))
  f169 := Tryz.func85.trans (congrArg some (by kernel_rfl))
  f240 := Tryz.func104.trans (congrArg some (by kernel_rfl))
  f241 := Tryz.func105.trans (congrArg some (by kernel_rfl))
  f276 := Tryz.func118.trans (congrArg some (by kernel_rfl))
  f277 := Tryz.func119.trans (congrArg some (by kernel_rfl))
  t0 := Tryz.underlying0
  a0 := Tryz.isAgg0
  z0 := Tryz.sizeOf0
  v0 := Tryz.zeroValue0
  t3 := Tryz.underlying3
  a3 := Tryz.isAgg3
  z3 := Tryz.sizeOf3
  v3 := Tryz.zeroValue3
  t4 := Tryz.underlying4
  a4 := Tryz.isAgg4
  z4 := Tryz.sizeOf4
  v4 := Tryz.zeroValue4
  t9 := Tryz.underlying9
  a9 := Tryz.isAgg9
  z9 := Tryz.sizeOf9
  v9 := Tryz.zeroValue9
  t20 := Tryz.underlying20
  a20 := Tryz.isAgg20
  z20 := Tryz.sizeOf20
  v20 := Tryz.zeroValue20
  t31 := Tryz.underlying66
  a31 := Tryz.isAgg66
  z31 := Tryz.sizeOf66
  v31 := Tryz.zeroValue66
  t37 := Tryz.underlying113
  a37 := Tryz.isAgg113
  z37 := Tryz.sizeOf113
  v37 := Tryz.zeroValue113
  t70 := Tryz.underlying112
  a70 := Tryz.isAgg112
  z70 := Tryz.sizeOf112
  v70 := Tryz.zeroValue112
  t72 := Tryz.underlying115
  a72 := Tryz.isAgg115
  z72 := Tryz.sizeOf115
  v72 := Tryz.zeroValue115
  t75 := Tryz.underlying117
  a75 := Tryz.isAgg117
  z75 := Tryz.sizeOf117
  v75 := Tryz.zeroValue117
  t76 := Tryz.underlying118
  a76 := Tryz.isAgg118
  z76 := Tryz.sizeOf118
  v76 := Tryz.zeroValue118
  t127 := Tryz.underlying128
  a127 := Tryz.isAgg128
  z127 := Tryz.sizeOf128
  v127 := Tryz.zeroValue128
  t164 := Tryz.underlying137
  a164 := Tryz.isAgg137
  z164 := Tryz.sizeOf137
  v164 := Tryz.zeroValue137 }
theorem Tryz.Builder_Extra_156 : Builder.Extra Tryz.prog Tryz.lays156_ren := {
  sizeBuilder := by kernel_rfl
  liesBuilder := by kernel_rfl
  t5 := Tryz.underlying5
  a5 := Tryz.isAgg5
  z5 := Tryz.sizeOf5
  v5 := Tryz.zeroValue5
  infoByte := by kernel_rfl
  cellsByte := by kernel_rfl
  sizeByte := by kernel_rfl
  neB5 := by decide }
open Go.RowKit in
open Go.RowKit in
theorem Tryz.strings_Join (bk o c : Nat) (xs : List ByteArray) (sep : ByteArray) (w : World) (hcells : ∀ (j : Nat) x, xs[j]? = some x → w.cell? ⟨bk, o + j, none⟩ = some (.string x)) (hbk : bk < w.heap.size) (hN : xs.length ≤ 140737488355328) (hcap : xs.length ≤ c) (hlen : (Lib.join (xs.map (·.data.toList)) sep.data.toList).length ≤ 140737488355328) :
    Calls Tryz.prog 42 #[.slice (some ⟨bk, o, none⟩) xs.length c, .string sep] w fun e w' => e = .returned (.string ⟨(Lib.join (xs.map (·.data.toList)) sep.data.toList).toArray⟩) ∧ Below w.heap.size w w' := Any.strings_Join Tryz.lays156 Tryz.Builder_Extra_156 bk o c xs sep w hcells hbk hN hcap hlen
def Tryz.lays137_ren : Go.Shelf.Ren := ⟨fun | 137 => 92 | 217 => 107 | 266 => 120 | n => n, fun | 9 => 9 | 5 => 5 | 3 => 3 | n => n, fun | n => n⟩
theorem Tryz.lays137 : Go.Proofs.Lays.n137 Tryz.prog Tryz.lays137_ren := {
  mixed := by kernel_rfl
  f137 := Tryz.func92.trans (congrArg some (by kernel_rfl))
  f217 := Tryz.func107.trans (congrArg some (by kernel_rfl))
  f266 := Tryz.func120.trans (congrArg some (by kernel_rfl))
  t3 := Tryz.underlying3
  a3 := Tryz.isAgg3
  z3 := Tryz.sizeOf3
  v3 := Tryz.zeroValue3
  t5 := Tryz.underlying5
  a5 := Tryz.isAgg5
  z5 := Tryz.sizeOf5
  v5 := Tryz.zeroValue5
  t9 := Tryz.underlying9
  a9 := Tryz.isAgg9
  z9 := Tryz.sizeOf9
  v9 := Tryz.zeroValue9 }
open Go.RowKit in
theorem Tryz.strings_IndexByte (s : ByteArray) (c : Int) (w : World) :
    Calls Tryz.prog 92 #[.string s, .int .u8 c] w fun e w' => e = .returned (.int .i64 (Lib.indexByte s.data.toList c.toNat.toUInt8)) ∧ w' = w := Any.strings_IndexByte Tryz.lays137 s c w
open Go.RowKit Go.Lib in
def Tryz.lays206_ren : Go.Shelf.Ren := ⟨fun | 206 => 106 | n => n, fun | 9 => 9 | 4 => 4 | 3 => 3 | n => n, fun | n => n⟩
open Go.RowKit Go.Lib in
def Tryz.lays99_ren : Go.Shelf.Ren := ⟨fun | 99 => 91 | 206 => 106 | n => n, fun | 9 => 9 | 4 => 4 | 3 => 3 | n => n, fun | n => n⟩
theorem Tryz.lays99 : Go.Proofs.Lays.n99 Tryz.prog Tryz.lays99_ren := {
  mixed := by kernel_rfl
  f99 := Tryz.func91.trans (congrArg some (by kernel_rfl))
  f206 := Tryz.func106.trans (congrArg some (by kernel_rfl))
  t3 := Tryz.underlying3
  a3 := Tryz.isAgg3
  z3 := Tryz.sizeOf3
  v3 := Tryz.zeroValue3
  t4 := Tryz.underlying4
  a4 := Tryz.isAgg4
  z4 := Tryz.sizeOf4
  v4 := Tryz.zeroValue4
  t9 := Tryz.underlying9
  a9 := Tryz.isAgg9
  z9 := Tryz.sizeOf9
  v9 := Tryz.zeroValue9 }
open Go.RowKit Go.Lib in
theorem Tryz.strings_HasPrefix (s p : ByteArray) (w : World) :
    Calls Tryz.prog 91 #[.string s, .string p] w fun e w' => e = .returned (.bool (Lib.hasPrefix s.data.toList p.data.toList)) ∧ w' = w := Any.strings_HasPrefix Tryz.lays99 s p w
end Go.Proofs

/- The functions longestSign, letters and passed of layer lex return what the plain functions of LexM say, and leave memory alone. Conditions: lengths within a machine's; a text that has a sign is not empty. -/
namespace Go.Proofs.YtgohhnbdicdenaaGreatDoor.Lx
open Go.ChangeShapes Go.WideShapes Go.ChangeAt Go.RowKit
set_option linter.unusedVariables false

theorem letters_any (s : ByteArray) (w : World) (h : s.size ≤ maxLen) :
    Calls Tryz.prog 67 #[.string s] w fun e w' => e = .returned (.tuple #[.int .i64 (letM s.toList).1, .int .i64 (letM s.toList).2]) ∧ w = w' := by
  rcases Bool.eq_false_or_eq_true (wordB s.toList) with hw | hw
  · have e : letM s.toList = (3, 0) := by unfold letM; rw [hw]; rfl
    rw [e]
    go_enter Tryz.func67, Tryz.ntmps67
    go_wp2_with (first | (go_at_call 47; refine (isWord_any _ _).mono ?_; rintro e w' ⟨rfl, rfl⟩) | (go_at_call 28; refine (IsName_any _ _ h).mono ?_; rintro e w' ⟨rfl, rfl⟩))
    go_ret2
    exact ⟨rfl, rfl⟩
  · rcases Bool.eq_false_or_eq_true (nameB s.toList) with hn | hn
    · have e : letM s.toList = (1, 0) := by unfold letM; rw [hw, hn]; rfl
      rw [e]
      go_enter Tryz.func67, Tryz.ntmps67
      go_wp2_with (first | (go_at_call 47; refine (isWord_any _ _).mono ?_; rintro e w' ⟨rfl, rfl⟩) | (go_at_call 28; refine (IsName_any _ _ h).mono ?_; rintro e w' ⟨rfl, rfl⟩))
      go_ret2
      exact ⟨rfl, rfl⟩
    · have e : letM s.toList = (0, 5) := by unfold letM; rw [hw, hn]; rfl
      rw [e]
      go_enter Tryz.func67, Tryz.ntmps67
      go_wp2_with (first | (go_at_call 47; refine (isWord_any _ _).mono ?_; rintro e w' ⟨rfl, rfl⟩) | (go_at_call 28; refine (IsName_any _ _ h).mono ?_; rintro e w' ⟨rfl, rfl⟩))
      go_ret2
      exact ⟨rfl, rfl⟩

theorem sign_two {s : ByteArray} {x : Bytes} (h : ((s.extract 0 2).toList == x) = true) (hx : signs2.contains x = true) : (s.extract 0 2).toList = signOf s.toList := by
  have e : (s.extract 0 2).toList = s.toList.take 2 := by rw [extract_toList]; rfl
  rw [beq_iff_eq] at h
  unfold signOf
  rw [← e, h, hx]; rfl
theorem sign_no2 {s : ByteArray} (h : ∀ x ∈ signs2, ((s.extract 0 2).toList == x) = false) : signs2.contains (s.toList.take 2) = false := by
  have e : (s.extract 0 2).toList = s.toList.take 2 := by rw [extract_toList]; rfl
  rw [← e]
  cases hc : signs2.contains (s.extract 0 2).toList with
  | false => rfl
  | true =>
    have hm : (s.extract 0 2).toList ∈ signs2 := by simpa using hc
    have := h _ hm
    simp at this
theorem sign_short {s : ByteArray} (h : ¬ 2 ≤ s.size) : signs2.contains (s.toList.take 2) = false := by
  have hl := toList_len s
  cases hc : signs2.contains (s.toList.take 2) with
  | false => rfl
  | true =>
    have hm : s.toList.take 2 ∈ signs2 := by simpa using hc
    have : (s.toList.take 2).length < 2 := by rw [List.length_take, hl]; omega
    have k : ∀ x ∈ signs2, x.length = 2 := by decide
    have := k _ hm
    omega
theorem sign_one {s : ByteArray} (hp : 0 < s.size) (h2 : signs2.contains (s.toList.take 2) = false) (c : UInt8) (hc : signs1.contains c = true) (h : ((s[0].toNat : Int) == (c.toNat : Int)) = true) : (s.extract 0 1).toList = signOf s.toList := by
  have e : (s.extract 0 1).toList = s.toList.take 1 := by rw [extract_toList]; rfl
  have hc' : s[0] = c := (eq_cast _ _).2 (by simpa using h)
  unfold signOf
  rw [h2, head_get s hp, hc', hc, e]; rfl
theorem sign_none {s : ByteArray} (hp : 0 < s.size) (h2 : signs2.contains (s.toList.take 2) = false) (h : ∀ c ∈ signs1, ((s[0].toNat : Int) == (c.toNat : Int)) = false) : ([] : Bytes) = signOf s.toList := by
  have hn : signs1.contains s[0] = false := by
    cases hc : signs1.contains s[0] with
    | false => rfl
    | true =>
      have hm : s[0] ∈ signs1 := by simpa using hc
      have := h _ hm
      simp at this
  unfold signOf
  rw [h2, head_get s hp, hn]; rfl

set_option maxRecDepth 100000 in
set_option maxHeartbeats 1600000 in
theorem longestSign_any (s : ByteArray) (w : World) (h : s.size ≤ maxLen) (hp : 0 < s.size) :
    Calls Tryz.prog 68 #[.string s] w fun e w' => e = .returned (.string (str (signOf s.toList))) ∧ w = w' := by
  unfold maxLen at h
  by_cases h2 : 2 ≤ s.size
  · rcases Bool.eq_false_or_eq_true ((s.extract 0 2).toList == [45, 62]) with t0 | t0
    · have hc := Lib.hid ((sign_two t0 rfl).trans (str_toList _).symm)
      go_enter Tryz.func68, Tryz.ntmps68
      go_wp2
      go_ret
      exact ⟨ret_str (hc.out), rfl⟩
    rcases Bool.eq_false_or_eq_true ((s.extract 0 2).toList == [61, 62]) with t1 | t1
    · have hc := Lib.hid ((sign_two t1 rfl).trans (str_toList _).symm)
      go_enter Tryz.func68, Tryz.ntmps68
      go_wp2
      go_ret
      exact ⟨ret_str (hc.out), rfl⟩
    rcases Bool.eq_false_or_eq_true ((s.extract 0 2).toList == [60, 61]) with t2 | t2
    · have hc := Lib.hid ((sign_two t2 rfl).trans (str_toList _).symm)
      go_enter Tryz.func68, Tryz.ntmps68
      go_wp2
      go_ret
      exact ⟨ret_str (hc.out), rfl⟩
    rcases Bool.eq_false_or_eq_true ((s.extract 0 2).toList == [62, 61]) with t3 | t3
    · have hc := Lib.hid ((sign_two t3 rfl).trans (str_toList _).symm)
      go_enter Tryz.func68, Tryz.ntmps68
      go_wp2
      go_ret
      exact ⟨ret_str (hc.out), rfl⟩
    rcases Bool.eq_false_or_eq_true ((s.extract 0 2).toList == [60, 62]) with t4 | t4
    · have hc := Lib.hid ((sign_two t4 rfl).trans (str_toList _).symm)
      go_enter Tryz.func68, Tryz.ntmps68
      go_wp2
      go_ret
      exact ⟨ret_str (hc.out), rfl⟩
    have K := Lib.hid (sign_no2 (s := s) (by intro x hx; simp only [signs2, List.mem_cons, List.not_mem_nil, or_false] at hx; rcases hx with rfl | rfl | rfl | rfl | rfl <;> assumption))
    rcases Bool.eq_false_or_eq_true ((s[0].toNat : Int) == 61) with o0 | o0
    · have hc := Lib.hid ((sign_one hp K.out 61 rfl o0).trans (str_toList _).symm)
      go_enter Tryz.func68, Tryz.ntmps68
      go_wp2
      go_ret
      exact ⟨ret_str (hc.out), rfl⟩
    rcases Bool.eq_false_or_eq_true ((s[0].toNat : Int) == 60) with o1 | o1
    · have hc := Lib.hid ((sign_one hp K.out 60 rfl o1).trans (str_toList _).symm)
      go_enter Tryz.func68, Tryz.ntmps68
      go_wp2
      go_ret
      exact ⟨ret_str (hc.out), rfl⟩
    rcases Bool.eq_false_or_eq_true ((s[0].toNat : Int) == 62) with o2 | o2
    · have hc := Lib.hid ((sign_one hp K.out 62 rfl o2).trans (str_toList _).symm)
      go_enter Tryz.func68, Tryz.ntmps68
      go_wp2
      go_ret
      exact ⟨ret_str (hc.out), rfl⟩
    rcases Bool.eq_false_or_eq_true ((s[0].toNat : Int) == 43) with o3 | o3
    · have hc := Lib.hid ((sign_one hp K.out 43 rfl o3).trans (str_toList _).symm)
      go_enter Tryz.func68, Tryz.ntmps68
      go_wp2
      go_ret
      exact ⟨ret_str (hc.out), rfl⟩
    rcases Bool.eq_false_or_eq_true ((s[0].toNat : Int) == 45) with o4 | o4
    · have hc := Lib.hid ((sign_one hp K.out 45 rfl o4).trans (str_toList _).symm)
      go_enter Tryz.func68, Tryz.ntmps68
      go_wp2
      go_ret
      exact ⟨ret_str (hc.out), rfl⟩
    rcases Bool.eq_false_or_eq_true ((s[0].toNat : Int) == 42) with o5 | o5
    · have hc := Lib.hid ((sign_one hp K.out 42 rfl o5).trans (str_toList _).symm)
      go_enter Tryz.func68, Tryz.ntmps68
      go_wp2
      go_ret
      exact ⟨ret_str (hc.out), rfl⟩
    rcases Bool.eq_false_or_eq_true ((s[0].toNat : Int) == 40) with o6 | o6
    · have hc := Lib.hid ((sign_one hp K.out 40 rfl o6).trans (str_toList _).symm)
      go_enter Tryz.func68, Tryz.ntmps68
      go_wp2
      go_ret
      exact ⟨ret_str (hc.out), rfl⟩
    rcases Bool.eq_false_or_eq_true ((s[0].toNat : Int) == 41) with o7 | o7
    · have hc := Lib.hid ((sign_one hp K.out 41 rfl o7).trans (str_toList _).symm)
      go_enter Tryz.func68, Tryz.ntmps68
      go_wp2
      go_ret
      exact ⟨ret_str (hc.out), rfl⟩
    rcases Bool.eq_false_or_eq_true ((s[0].toNat : Int) == 44) with o8 | o8
    · have hc := Lib.hid ((sign_one hp K.out 44 rfl o8).trans (str_toList _).symm)
      go_enter Tryz.func68, Tryz.ntmps68
      go_wp2
      go_ret
      exact ⟨ret_str (hc.out), rfl⟩
    rcases Bool.eq_false_or_eq_true ((s[0].toNat : Int) == 59) with o9 | o9
    · have hc := Lib.hid ((sign_one hp K.out 59 rfl o9).trans (str_toList _).symm)
      go_enter Tryz.func68, Tryz.ntmps68
      go_wp2
      go_ret
      exact ⟨ret_str (hc.out), rfl⟩
    rcases Bool.eq_false_or_eq_true ((s[0].toNat : Int) == 58) with o10 | o10
    · have hc := Lib.hid ((sign_one hp K.out 58 rfl o10).trans (str_toList _).symm)
      go_enter Tryz.func68, Tryz.ntmps68
      go_wp2
      go_ret
      exact ⟨ret_str (hc.out), rfl⟩
    have hc := Lib.hid ((sign_none hp K.out (by intro c hc; simp only [signs1, List.mem_cons, List.not_mem_nil, or_false] at hc; rcases hc with rfl | rfl | rfl | rfl | rfl | rfl | rfl | rfl | rfl | rfl | rfl <;> assumption)).trans (str_toList _).symm)
    go_enter Tryz.func68, Tryz.ntmps68
    go_wp2
    go_ret
    exact ⟨ret_str (by rw [← hc.out]; exact str_toList []), rfl⟩
  · have K := Lib.hid (sign_short h2)
    rcases Bool.eq_false_or_eq_true ((s[0].toNat : Int) == 61) with o0 | o0
    · have hc := Lib.hid ((sign_one hp K.out 61 rfl o0).trans (str_toList _).symm)
      go_enter Tryz.func68, Tryz.ntmps68
      go_wp2
      go_ret
      exact ⟨ret_str (hc.out), rfl⟩
    rcases Bool.eq_false_or_eq_true ((s[0].toNat : Int) == 60) with o1 | o1
    · have hc := Lib.hid ((sign_one hp K.out 60 rfl o1).trans (str_toList _).symm)
      go_enter Tryz.func68, Tryz.ntmps68
      go_wp2
      go_ret
      exact ⟨ret_str (hc.out), rfl⟩
    rcases Bool.eq_false_or_eq_true ((s[0].toNat : Int) == 62) with o2 | o2
    · have hc := Lib.hid ((sign_one hp K.out 62 rfl o2).trans (str_toList _).symm)
      go_enter Tryz.func68, Tryz.ntmps68
      go_wp2
      go_ret
      exact ⟨ret_str (hc.out), rfl⟩
    rcases Bool.eq_false_or_eq_true ((s[0].toNat : Int) == 43) with o3 | o3
    · have hc := Lib.hid ((sign_one hp K.out 43 rfl o3).trans (str_toList _).symm)
      go_enter Tryz.func68, Tryz.ntmps68
      go_wp2
      go_ret
      exact ⟨ret_str (hc.out), rfl⟩
    rcases Bool.eq_false_or_eq_true ((s[0].toNat : Int) == 45) with o4 | o4
    · have hc := Lib.hid ((sign_one hp K.out 45 rfl o4).trans (str_toList _).symm)
      go_enter Tryz.func68, Tryz.ntmps68
      go_wp2
      go_ret
      exact ⟨ret_str (hc.out), rfl⟩
    rcases Bool.eq_false_or_eq_true ((s[0].toNat : Int) == 42) with o5 | o5
    · have hc := Lib.hid ((sign_one hp K.out 42 rfl o5).trans (str_toList _).symm)
      go_enter Tryz.func68, Tryz.ntmps68
      go_wp2
      go_ret
      exact ⟨ret_str (hc.out), rfl⟩
    rcases Bool.eq_false_or_eq_true ((s[0].toNat : Int) == 40) with o6 | o6
    · have hc := Lib.hid ((sign_one hp K.out 40 rfl o6).trans (str_toList _).symm)
      go_enter Tryz.func68, Tryz.ntmps68
      go_wp2
      go_ret
      exact ⟨ret_str (hc.out), rfl⟩
    rcases Bool.eq_false_or_eq_true ((s[0].toNat : Int) == 41) with o7 | o7
    · have hc := Lib.hid ((sign_one hp K.out 41 rfl o7).trans (str_toList _).symm)
      go_enter Tryz.func68, Tryz.ntmps68
      go_wp2
      go_ret
      exact ⟨ret_str (hc.out), rfl⟩
    rcases Bool.eq_false_or_eq_true ((s[0].toNat : Int) == 44) with o8 | o8
    · have hc := Lib.hid ((sign_one hp K.out 44 rfl o8).trans (str_toList _).symm)
      go_enter Tryz.func68, Tryz.ntmps68
      go_wp2
      go_ret
      exact ⟨ret_str (hc.out), rfl⟩
    rcases Bool.eq_false_or_eq_true ((s[0].toNat : Int) == 59) with o9 | o9
    · have hc := Lib.hid ((sign_one hp K.out 59 rfl o9).trans (str_toList _).symm)
      go_enter Tryz.func68, Tryz.ntmps68
      go_wp2
      go_ret
      exact ⟨ret_str (hc.out), rfl⟩
    rcases Bool.eq_false_or_eq_true ((s[0].toNat : Int) == 58) with o10 | o10
    · have hc := Lib.hid ((sign_one hp K.out 58 rfl o10).trans (str_toList _).symm)
      go_enter Tryz.func68, Tryz.ntmps68
      go_wp2
      go_ret
      exact ⟨ret_str (hc.out), rfl⟩
    have hc := Lib.hid ((sign_none hp K.out (by intro c hc; simp only [signs1, List.mem_cons, List.not_mem_nil, or_false] at hc; rcases hc with rfl | rfl | rfl | rfl | rfl | rfl | rfl | rfl | rfl | rfl | rfl <;> assumption)).trans (str_toList _).symm)
    go_enter Tryz.func68, Tryz.ntmps68
    go_wp2
    go_ret
    exact ⟨ret_str (by rw [← hc.out]; exact str_toList []), rfl⟩

end Go.Proofs.YtgohhnbdicdenaaGreatDoor.Lx

/- The function passed of layer lex returns what the plain function skip of LexM says, and leaves memory alone. Conditions: lengths within a machine's; the place lies within the text. -/
namespace Go.Proofs.YtgohhnbdicdenaaGreatDoor.Lx
open Go.ChangeShapes Go.WideShapes Go.ChangeAt Go.RowKit
set_option linter.unusedVariables false

theorem skip_blank (c : UInt8) (r : Bytes) (h : blankB c = true) : skip false (c :: r) = 1 + skip false r := by
  simp [skip, h]
theorem skip_stop (c : UInt8) (r : Bytes) (h : blankB c = false) (h2 : Lib.hasPrefix (c :: r) [45, 45] = false) : skip false (c :: r) = 0 := by
  have h3 : ¬ (c = 45 ∧ r.head? = some 45) := by
    rintro ⟨rfl, h3⟩
    cases r with
    | nil => simp at h3
    | cons d r => simp at h3; subst h3; simp [Lib.hasPrefix, List.isPrefixOf] at h2
  simp [skip, h, h3]
theorem skip_remark (l : Bytes) (h2 : Lib.hasPrefix l [45, 45] = true) : skip false l = skip true l := by
  match l, h2 with
  | [], h2 => simp [Lib.hasPrefix, List.isPrefixOf] at h2
  | [c], h2 => simp [Lib.hasPrefix, List.isPrefixOf] at h2
  | c :: d :: r, h2 =>
    simp [Lib.hasPrefix, List.isPrefixOf] at h2
    obtain ⟨rfl, rfl⟩ := h2
    simp [skip, blankB]
theorem index_bd (l : Bytes) (c : UInt8) : -1 ≤ Lib.indexByte l c ∧ Lib.indexByte l c ≤ l.length := by
  induction l with
  | nil => simp [Lib.indexByte]
  | cons d r ih =>
    simp only [Lib.indexByte, List.length_cons]
    split
    · omega
    · split <;> omega
theorem skip_true_none (l : Bytes) (h : Lib.indexByte l 10 < 0) : skip true l = l.length := by
  induction l with
  | nil => simp [skip]
  | cons d r ih =>
    simp only [Lib.indexByte] at h
    by_cases hd : d = 10
    · subst hd; simp at h
    · have hb := index_bd r 10
      simp [hd] at h
      simp only [skip, if_neg hd, List.length_cons]
      rw [ih (by split at h <;> omega)]; omega
theorem skip_true_some (l : Bytes) (n : Nat) (h : Lib.indexByte l 10 = n) : n < l.length ∧ skip true l = n + skip false (l.drop n) := by
  induction l generalizing n with
  | nil => simp [Lib.indexByte] at h
  | cons d r ih =>
    simp only [Lib.indexByte] at h
    by_cases hd : d = 10
    · subst hd
      simp at h
      obtain rfl : n = 0 := by omega
      simp [skip, blankB]
    · simp [hd] at h
      split at h
      · omega
      · cases n with
        | zero => omega
        | succ n =>
          obtain ⟨h1, h2⟩ := ih n (by omega)
          refine ⟨by simp; omega, ?_⟩
          simp only [skip, if_neg hd, List.drop_succ_cons, h2]; omega

theorem ret_i64 {a b : Int} (h : a = b) : Ending.returned (.int .i64 a) = .returned (.int .i64 b) := by rw [h]
theorem hasPrefix_any (s p : ByteArray) (w : World) :
    Calls Tryz.prog 91 #[.string s, .string p] w fun e w' => e = .returned (.bool (Lib.hasPrefix s.toList p.toList)) ∧ w = w' :=
  (Tryz.strings_HasPrefix s p w).mono fun e w' ⟨he, hw⟩ => ⟨by rw [he, ByteArray.toList_eq, ByteArray.toList_eq], hw.symm⟩
theorem indexByte_any (s : ByteArray) (w : World) :
    Calls Tryz.prog 92 #[.string s, .int .u8 10] w fun e w' => e = .returned (.int .i64 (Lib.indexByte s.toList 10)) ∧ w = w' :=
  (Tryz.strings_IndexByte s 10 w).mono fun e w' ⟨he, hw⟩ => ⟨by rw [he, ByteArray.toList_eq]; rfl, hw.symm⟩

set_option maxHeartbeats 800000 in
theorem passed_any (s : ByteArray) (p : Nat) (w : World) (h : s.size ≤ maxLen) (hp : p ≤ s.size) :
    Calls Tryz.prog 64 #[.string s, .int .i64 p] w fun e w' => e = .returned (.int .i64 ((p + skip false (s.toList.drop p) : Nat))) ∧ w = w' := by
  unfold maxLen at h
  go_enter Tryz.func64, Tryz.ntmps64
  go_wp2
  go_loop [1] (fun i => ∃ k : Nat, k ≤ s.size ∧ i = .int .i64 k ∧ k + skip false (s.toList.drop k) = p + skip false (s.toList.drop p)) (fun i => s.size - (intOf i).toNat)
  case atStart => exact ⟨p, hp, rfl, rfl⟩
  case round =>
    obtain ⟨k, hk, rfl, hs⟩ := hrel
    have HS := Lib.hid hs
    clear hs
    have hd := extract_end s k
    by_cases hlt : k < s.size
    · have hl := toList_len s
      have hc : s.toList.drop k = s[k] :: s.toList.drop (k + 1) := by
        have hg := toList_get s k hlt
        rw [List.getElem?_eq_some_iff] at hg
        obtain ⟨hg1, hg2⟩ := hg
        rw [List.drop_eq_getElem_cons hg1, hg2]
      rcases Bool.eq_false_or_eq_true (blankB s[k]) with hb | hb
      · have HN := Lib.hid (show k + 1 + skip false (s.toList.drop (k + 1)) = p + skip false (s.toList.drop p) by
          rw [← HS.out, hc, skip_blank _ _ hb]; omega)
        clear hc hl hd
        go_wp2_with (go_at_call 90; refine (isBlank_any _ _).mono ?_; rintro e w' ⟨rfl, rfl⟩)
        go_round
        case rel => exact ⟨k + 1, by omega, by go_num, HN.out⟩
        case measure => simp [intOf]; omega
      · have HC := Lib.hid hc
        have HD := Lib.hid hd
        have HL := Lib.hid hl
        clear hc hd hl
        go_wp2_with (first | (go_at_call 90; refine (isBlank_any _ _).mono ?_; rintro e w' ⟨rfl, rfl⟩) | (go_at_call 91; refine (hasPrefix_any _ _ _).mono ?_; rintro e w' ⟨rfl, rfl⟩) | (go_at_call 92; refine (indexByte_any _ _).mono ?_; rintro e w' ⟨rfl, rfl⟩))
        · have h1 : Lib.hasPrefix (s.extract k s.size).toList [45, 45] = true := by assumption
          have h2 : Lib.indexByte (s.extract k s.size).toList 10 < 0 := by assumption
          go_ret
          refine ⟨ret_i64 ?_, rfl⟩
          rw [HD.out] at h1 h2
          rw [← HS.out, skip_remark _ h1, skip_true_none _ h2, List.length_drop, HL.out]
          omega
        · have h1 : Lib.hasPrefix (s.extract k s.size).toList [45, 45] = true := by assumption
          have h2 : 0 ≤ Lib.indexByte (s.extract k s.size).toList 10 := by assumption
          rw [HD.out] at h1 h2
          obtain ⟨n, hn⟩ := Int.eq_ofNat_of_zero_le h2
          obtain ⟨a1, a2⟩ := skip_true_some _ n hn
          have a3 : 0 < n := by
            rw [HC.out] at hn h1
            rcases Nat.eq_zero_or_pos n with rfl | h0
            · simp only [Lib.indexByte] at hn
              by_cases h10 : s[k] = 10
              · rw [h10] at h1; simp [Lib.hasPrefix, List.isPrefixOf] at h1
              · have := index_bd (s.toList.drop (k + 1)) 10
                simp [h10] at hn
                split at hn <;> omega
            · exact h0
          rw [List.length_drop, HL.out] at a1
          have hw : wrap64 ((k : Int) + Lib.indexByte (s.extract k s.size).toList 10) = ((k + n : Nat) : Int) := by
            rw [HD.out, hn]; unfold wrap64; omega
          rw [hw]
          refine ⟨⟨k + n, by omega, rfl, ?_⟩, by simp [intOf]; omega⟩
          rw [← HS.out, skip_remark _ h1, a2, List.drop_drop]; omega
        · have h1 : Lib.hasPrefix (s.extract k s.size).toList [45, 45] = false := by assumption
          go_ret
          refine ⟨ret_i64 ?_, rfl⟩
          rw [HD.out, HC.out] at h1
          rw [← HS.out, HC.out, skip_stop _ _ hb h1]; rfl
    · go_wp2
      go_ret
      refine ⟨ret_i64 ?_, rfl⟩
      have h1 := HS.out
      rw [List.drop_eq_nil_of_le (by rw [toList_len]; omega)] at h1
      simp only [skip] at h1
      omega
end Go.Proofs.YtgohhnbdicdenaaGreatDoor.Lx

/- The closure row within Lex returns the longest row of bytes of one kind from a place on, and leaves memory alone. Conditions: the cells of the captured variables are known; the place lies within the text. -/
namespace Go.Proofs.YtgohhnbdicdenaaGreatDoor.Lx
open Go.ChangeShapes Go.WideShapes Go.ChangeAt Go.RowKit
set_option linter.unusedVariables false

theorem drop_cons (s : ByteArray) (k : Nat) (h : k < s.size) : s.toList.drop k = s[k] :: s.toList.drop (k + 1) := by
  have hg := toList_get s k h
  rw [List.getElem?_eq_some_iff] at hg
  obtain ⟨hg1, hg2⟩ := hg
  rw [List.drop_eq_getElem_cons hg1, hg2]

theorem row_end (s : ByteArray) (f : UInt8 → Bool) (p k : Nat) (hpk : p ≤ k) (hk : k ≤ s.size) (ha : ((s.toList.drop p).take (k - p)).all f = true) (hstop : ∀ h : k < s.size, f s[k] = false) :
    (s.extract p k).toList = (s.toList.drop p).takeWhile f := by
  rw [extract_toList]
  have e : s.toList.drop p = (s.toList.drop p).take (k - p) ++ s.toList.drop k := by
    conv => lhs; rw [← List.take_append_drop (k - p) (s.toList.drop p)]
    rw [List.drop_drop, show p + (k - p) = k from by omega]
  have ht : (s.toList.drop k).takeWhile f = [] := by
    by_cases h : k < s.size
    · rw [drop_cons s k h, List.takeWhile_cons, hstop h]; rfl
    · rw [List.drop_eq_nil_of_le (by rw [toList_len]; omega)]; rfl
  conv => rhs; rw [e]
  rw [List.takeWhile_append_of_pos (by intro a h; exact List.all_eq_true.1 ha a h), ht, List.append_nil]
theorem row_more (s : ByteArray) (f : UInt8 → Bool) (p k : Nat) (hpk : p ≤ k) (hk : k < s.size) (ha : ((s.toList.drop p).take (k - p)).all f = true) (hf : f s[k] = true) :
    ((s.toList.drop p).take (k + 1 - p)).all f = true := by
  have e : k + 1 - p = (k - p) + 1 := by omega
  rw [e, List.take_add_one, List.getElem?_drop, show p + (k - p) = k from by omega, toList_get s k hk, List.all_append, ha]
  simp [hf]

set_option maxHeartbeats 800000 in
theorem rowDigit_any (s : ByteArray) (p : Nat) (a b : Addr) (w : World) (h : s.size ≤ maxLen) (hp : p ≤ s.size) (ca : w.cell? a = some (.int .i64 p)) (cb : w.cell? b = some (.string s)) :
    Calls Tryz.prog 65 #[.func (.func 46) #[] #[], .pointer (some a), .pointer (some b)] w fun e w' => e = .returned (.string (str ((s.toList.drop p).takeWhile digitB))) ∧ w = w' := by
  unfold maxLen at h
  go_enter Tryz.func65, Tryz.ntmps65
  go_wp2
  go_loop [5] (fun i => ∃ k : Nat, p ≤ k ∧ k ≤ s.size ∧ i = .int .i64 k ∧ ((s.toList.drop p).take (k - p)).all digitB = true) (fun i => s.size - (intOf i).toNat)
  case atStart => exact ⟨p, Nat.le_refl _, hp, rfl, by simp⟩
  case round =>
    obtain ⟨k, hpk, hk, rfl, hs⟩ := hrel
    by_cases hlt : k < s.size
    · rcases Bool.eq_false_or_eq_true (digitB s[k]) with hb | hb
      · have HN := Lib.hid (row_more s digitB p k hpk hlt hs hb)
        clear hs
        go_wp2_with (go_at_call 46; refine (isDigit_any _ _).mono ?_; rintro e w' ⟨rfl, rfl⟩)
        go_round
        case rel => exact ⟨k + 1, by omega, by omega, by go_num, HN.out⟩
        case measure => simp [intOf]; omega
      · have HN := Lib.hid (row_end s digitB p k hpk hk hs (fun _ => hb))
        clear hs
        go_wp2_with (go_at_call 46; refine (isDigit_any _ _).mono ?_; rintro e w' ⟨rfl, rfl⟩)
        go_ret
        exact ⟨ret_str (HN.out.trans (str_toList _).symm), rfl⟩
    · have HN := Lib.hid (row_end s digitB p k hpk hk hs (fun h => absurd h hlt))
      clear hs
      go_wp2
      go_ret
      exact ⟨ret_str (HN.out.trans (str_toList _).symm), rfl⟩

set_option maxHeartbeats 800000 in
theorem rowOfName_any (s : ByteArray) (p : Nat) (a b : Addr) (w : World) (h : s.size ≤ maxLen) (hp : p ≤ s.size) (ca : w.cell? a = some (.int .i64 p)) (cb : w.cell? b = some (.string s)) :
    Calls Tryz.prog 65 #[.func (.func 48) #[] #[], .pointer (some a), .pointer (some b)] w fun e w' => e = .returned (.string (str ((s.toList.drop p).takeWhile ofNameB))) ∧ w = w' := by
  unfold maxLen at h
  go_enter Tryz.func65, Tryz.ntmps65
  go_wp2
  go_loop [5] (fun i => ∃ k : Nat, p ≤ k ∧ k ≤ s.size ∧ i = .int .i64 k ∧ ((s.toList.drop p).take (k - p)).all ofNameB = true) (fun i => s.size - (intOf i).toNat)
  case atStart => exact ⟨p, Nat.le_refl _, hp, rfl, by simp⟩
  case round =>
    obtain ⟨k, hpk, hk, rfl, hs⟩ := hrel
    by_cases hlt : k < s.size
    · rcases Bool.eq_false_or_eq_true (ofNameB s[k]) with hb | hb
      · have HN := Lib.hid (row_more s ofNameB p k hpk hlt hs hb)
        clear hs
        go_wp2_with (go_at_call 48; refine (isOfName_any _ _).mono ?_; rintro e w' ⟨rfl, rfl⟩)
        go_round
        case rel => exact ⟨k + 1, by omega, by omega, by go_num, HN.out⟩
        case measure => simp [intOf]; omega
      · have HN := Lib.hid (row_end s ofNameB p k hpk hk hs (fun _ => hb))
        clear hs
        go_wp2_with (go_at_call 48; refine (isOfName_any _ _).mono ?_; rintro e w' ⟨rfl, rfl⟩)
        go_ret
        exact ⟨ret_str (HN.out.trans (str_toList _).symm), rfl⟩
    · have HN := Lib.hid (row_end s ofNameB p k hpk hk hs (fun h => absurd h hlt))
      clear hs
      go_wp2
      go_ret
      exact ⟨ret_str (HN.out.trans (str_toList _).symm), rfl⟩
end Go.Proofs.YtgohhnbdicdenaaGreatDoor.Lx

