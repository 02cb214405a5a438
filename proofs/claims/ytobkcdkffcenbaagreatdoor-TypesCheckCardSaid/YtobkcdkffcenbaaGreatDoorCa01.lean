/- What layer lex makes of a source, as plain functions on lists of bytes. Conditions: none. -/
import GoSem.Op.String
import Derived.Lib.Join
import Derived.Test.YtobkcdkffcenbaaGreatDoorRows
import Derived.WalkKit
import Derived.ProofKit
import Derived.OpenShut
import Derived.Outline
import Derived.Lib.Hide
import Derived.WalkLawsBesides
import Derived.WalkSpells
import Derived.Deep.Light
import Derived.OneCell
import Derived.OwnWalk
import Derived.Below
import Derived.RegionTactic
import Derived.Deep.QuietTactic
import Derived.BigQuiet
import Derived.Deep.DeepCutAuto
set_option linter.unusedVariables false
set_option linter.unusedSimpArgs false
namespace Go.Proofs.YtobkcdkffcenbaaGreatDoor.Lx
abbrev Bytes := List UInt8
def blankB (c : UInt8) : Bool := c == 32 || c == 9 || c == 10 || c == 13
def digitB (c : UInt8) : Bool := 48 ≤ c && c ≤ 57
def ofNameB (c : UInt8) : Bool := 97 ≤ c && c ≤ 122 || c == 95 || digitB c
def words : List Bytes := [[97, 110, 100], [97, 115, 115, 117, 109, 101], [98, 111, 111, 108], [99, 111, 110, 116, 114, 97, 99, 116], [100, 105, 118], [101, 108, 115, 101], [101, 110, 100], [101, 110, 115, 117, 114, 101], [102, 97, 108, 108, 98, 97, 99, 107], [102, 97, 108, 115, 101], [103, 104, 111, 115, 116], [103, 117, 97, 114, 97, 110, 116, 101, 101], [104, 105, 115, 116], [105, 102], [105, 109, 112, 111, 114, 116], [105, 110, 116], [108, 101, 116], [109, 97, 105, 110], [109, 111, 100], [109, 111, 100, 101], [110, 111, 100, 101], [110, 111, 116], [111, 110, 99, 101], [111, 114], [112, 114, 101], [112, 114, 101, 118], [114, 101, 113, 117, 105, 114, 101], [114, 101, 116, 117, 114, 110, 115], [115, 105, 110, 99, 101], [116, 101, 108], [116, 104, 101, 110], [116, 114, 117, 101], [118, 97, 114], [119, 105, 116, 104, 105, 110], [120, 111, 114]]
def wordB (l : Bytes) : Bool := words.contains l
def nameB (l : Bytes) : Bool := !l.isEmpty && l.length ≤ 40 && !digitB (l.headD 0) && !wordB l && l.all ofNameB
def skip : Bool → Bytes → Nat
  | _, [] => 0
  | true, c :: r => if c = 10 then 1 + skip false r else 1 + skip true r
  | false, c :: r => if blankB c then 1 + skip false r else if c = 45 ∧ r.head? = some 45 then 1 + skip true r else 0
def signs2 : List Bytes := [[45, 62], [61, 62], [60, 61], [62, 61], [60, 62]]
def signs1 : Bytes := [61, 60, 62, 43, 45, 42, 40, 41, 44, 59, 58]
def signOf (l : Bytes) : Bytes := if signs2.contains (l.take 2) then l.take 2 else if signs1.contains (l.headD 0) then l.take 1 else []
def greatest : Bytes := [50, 49, 52, 55, 52, 56, 51, 54, 52, 55]
def gtB (l : Bytes) : Bool := !(Op.bytesLess l greatest || l == greatest)
def digM (l : Bytes) : Int × Int :=
  if 1 < l.length ∧ l.headD 0 = 48 ∨ 10 < l.length then (0, 2) else if l.length = 10 ∧ gtB l = true then (0, 2) else (2, 0)
def letM (l : Bytes) : Int × Int := if wordB l then (3, 0) else if nameB l then (1, 0) else (0, 5)
def sigM (l : Bytes) : Int × Int := if l = [] then (0, 5) else (4, 0)
structure Tok where
  kind : Int
  text : Bytes
  at_ : Nat
deriving DecidableEq
def one (l : Bytes) : Bytes × Int × Int :=
  if digitB (l.headD 0) then (l.takeWhile digitB, digM (l.takeWhile digitB))
  else if ofNameB (l.headD 0) then (l.takeWhile ofNameB, letM (l.takeWhile ofNameB))
  else (signOf l, sigM (signOf l))
inductive Res where
  | ok (l : List Tok)
  | bad (code at_ : Int)
deriving DecidableEq
def Res.cons (t : Tok) : Res → Res
  | .ok l => .ok (t :: l)
  | .bad c a => .bad c a
def Res.glue (acc : List Tok) : Res → Res
  | .ok l => .ok (acc ++ l)
  | .bad c a => .bad c a
def Res.toks : Res → List Tok
  | .ok l => l
  | .bad _ _ => []
def Res.code : Res → Int
  | .ok _ => 0
  | .bad c _ => c
def Res.at_ : Res → Int
  | .ok _ => 0
  | .bad _ a => a
theorem Res.glue_cons (acc : List Tok) (t : Tok) (r : Res) : Res.glue acc (Res.cons t r) = Res.glue (acc ++ [t]) r := by
  cases r <;> simp [Res.glue, Res.cons]
def lexF : Nat → Bytes → Nat → Res
  | 0, _, _ => .ok []
  | _ + 1, [], _ => .ok []
  | f + 1, c :: r, p =>
    if (one (c :: r)).2.2 ≠ 0 then .bad (one (c :: r)).2.2 p
    else Res.cons ⟨(one (c :: r)).2.1, (one (c :: r)).1, p⟩
      (lexF f (((c :: r).drop (one (c :: r)).1.length).drop (skip false ((c :: r).drop (one (c :: r)).1.length))) (p + (one (c :: r)).1.length + skip false ((c :: r).drop (one (c :: r)).1.length)))
def lexM (l : Bytes) : Res := if 100000 < l.length then .bad 7 (-1) else lexF (l.length + 1) (l.drop (skip false l)) (skip false l)
end Go.Proofs.YtobkcdkffcenbaaGreatDoor.Lx
namespace Go.Proofs.YtobkcdkffcenbaaGreatDoor.Lx
theorem takeWhile_le (f : UInt8 → Bool) (l : Bytes) : (l.takeWhile f).length ≤ l.length := (List.takeWhile_sublist f).length_le
theorem sign_le (l : Bytes) : (signOf l).length ≤ l.length := by
  unfold signOf; split
  · exact List.length_take_le' _ _
  · split
    · exact List.length_take_le' _ _
    · simp
theorem one_le (l : Bytes) : (one l).1.length ≤ l.length := by
  unfold one; split
  · exact takeWhile_le _ _
  · split
    · exact takeWhile_le _ _
    · exact sign_le _
theorem one_pos (c : UInt8) (r : Bytes) (h : (one (c :: r)).2.2 = 0) : 0 < (one (c :: r)).1.length := by
  by_cases h1 : digitB c = true
  · have e : (one (c :: r)).1 = (c :: r).takeWhile digitB := by unfold one; rw [List.headD_cons, if_pos h1]
    rw [e, List.takeWhile_cons, h1]; simp
  · by_cases h2 : ofNameB c = true
    · have e : (one (c :: r)).1 = (c :: r).takeWhile ofNameB := by unfold one; rw [List.headD_cons, if_neg h1, if_pos h2]
      rw [e, List.takeWhile_cons, h2]; simp
    · have e : one (c :: r) = (signOf (c :: r), sigM (signOf (c :: r))) := by unfold one; rw [List.headD_cons, if_neg h1, if_neg h2]
      rw [e] at h ⊢
      rcases Nat.eq_zero_or_pos (signOf (c :: r)).length with h0 | h0
      · simp only [sigM, List.length_eq_zero_iff.1 h0] at h; simp at h
      · exact h0
theorem skipF_le (b : Bool) (l : Bytes) : skip b l ≤ l.length := by
  induction l generalizing b with
  | nil => cases b <;> simp [skip]
  | cons c r ih =>
    cases b
    · simp only [skip, List.length_cons]
      split
      · have := ih false; omega
      · split
        · have := ih true; omega
        · omega
    · simp only [skip, List.length_cons]
      split
      · have := ih false; omega
      · have := ih true; omega
theorem lexF_fuel (f g : Nat) (l : Bytes) (p : Nat) (hf : l.length < f) (hg : l.length < g) : lexF f l p = lexF g l p := by
  induction f generalizing g l p with
  | zero => omega
  | succ f ih =>
    cases g with
    | zero => omega
    | succ g =>
      cases l with
      | nil => rfl
      | cons c r =>
        simp only [lexF]
        split
        · rfl
        · rename_i h
          have h0 : (one (c :: r)).2.2 = 0 := by simpa using h
          have hp := one_pos c r h0
          congr 1
          apply ih
          · simp only [List.length_drop, List.length_cons] at *; omega
          · simp only [List.length_drop, List.length_cons] at *; omega
def lexL (l : Bytes) (p : Nat) : Res := lexF (l.length + 1) l p
theorem lexL_nil (p : Nat) : lexL [] p = .ok [] := rfl
theorem lexL_bad (c : UInt8) (r : Bytes) (p : Nat) (h : (one (c :: r)).2.2 ≠ 0) : lexL (c :: r) p = .bad (one (c :: r)).2.2 p := by
  unfold lexL; simp only [lexF]; rw [if_pos h]
theorem lexL_cons (c : UInt8) (r : Bytes) (p : Nat) (h : (one (c :: r)).2.2 = 0) :
    lexL (c :: r) p = Res.cons ⟨(one (c :: r)).2.1, (one (c :: r)).1, p⟩
      (lexL (((c :: r).drop (one (c :: r)).1.length).drop (skip false ((c :: r).drop (one (c :: r)).1.length))) (p + (one (c :: r)).1.length + skip false ((c :: r).drop (one (c :: r)).1.length))) := by
  have hp := one_pos c r h
  have e := fun (x : Res) => (show (if (one (c :: r)).2.2 ≠ 0 then Res.bad (one (c :: r)).2.2 p else x) = x from if_neg (by rw [h]; simp))
  unfold lexL; simp only [lexF]; rw [e]
  congr 1
  apply lexF_fuel
  · simp only [List.length_drop, List.length_cons] at *; omega
  · omega
theorem lexM_eq (l : Bytes) (h : ¬ 100000 < l.length) : lexM l = lexL (l.drop (skip false l)) (skip false l) := by
  unfold lexM lexL; rw [if_neg h]
  apply lexF_fuel
  · simp only [List.length_drop]; omega
  · omega
theorem skip_blank' (r : Bytes) : skip false (32 :: r) = 1 + skip false r := by simp [skip, blankB]
theorem skip_letter (c : UInt8) (r : Bytes) (h : ofNameB c = true) : skip false (c :: r) = 0 := by
  have hb : blankB c = false := by
    cases hb : blankB c with
    | false => rfl
    | true =>
      simp [blankB] at hb
      rcases hb with ((rfl | rfl) | rfl) | rfl <;> simp [ofNameB, digitB] at h
  have h2 : c ≠ 45 := by rintro rfl; simp [ofNameB, digitB] at h
  simp [skip, hb, h2]
theorem digM_kind (l : Bytes) (h : (digM l).2 = 0) : (digM l).1 = 2 := by
  unfold digM at *; split at h
  · simp at h
  · rename_i h1
    rw [if_neg h1]; split at h
    · simp at h
    · rename_i h2; rw [if_neg h2]
theorem sigM_kind (l : Bytes) (h : (sigM l).2 = 0) : (sigM l).1 = 4 := by
  unfold sigM at *; split at h
  · simp at h
  · rename_i h1; rw [if_neg h1]
theorem letM_kind (l : Bytes) (h : (letM l).2 = 0) : (letM l).1 = 3 ∧ wordB l = true ∨ (letM l).1 = 1 ∧ wordB l = false ∧ nameB l = true := by
  unfold letM at *
  cases hw : wordB l with
  | true => left; simp
  | false =>
    cases hn : nameB l with
    | true => right; simp
    | false => simp [hw, hn] at h
theorem one_kind (l : Bytes) (h : (one l).2.2 = 0) :
    (one l).2.1 = 2 ∨ (one l).2.1 = 4 ∨ (one l).2.1 = 3 ∧ wordB (one l).1 = true ∨ (one l).2.1 = 1 ∧ nameB (one l).1 = true := by
  by_cases h1 : digitB (l.headD 0) = true
  · have e : one l = (l.takeWhile digitB, digM (l.takeWhile digitB)) := by unfold one; rw [if_pos h1]
    rw [e] at h ⊢; exact .inl (digM_kind _ h)
  · by_cases h2 : ofNameB (l.headD 0) = true
    · have e : one l = (l.takeWhile ofNameB, letM (l.takeWhile ofNameB)) := by unfold one; rw [if_neg h1, if_pos h2]
      rw [e] at h ⊢
      rcases letM_kind _ h with h3 | h3
      · exact .inr (.inr (.inl h3))
      · exact .inr (.inr (.inr ⟨h3.1, h3.2.2⟩))
    · have e : one l = (signOf l, sigM (signOf l)) := by unfold one; rw [if_neg h1, if_neg h2]
      rw [e] at h ⊢; exact .inr (.inl (sigM_kind _ h))
theorem first_tok (l : Bytes) (p : Nat) (t : Tok) (r : List Tok) (h : (lexL l p).toks = t :: r) :
    ∃ c d, l = c :: d ∧ (one l).2.2 = 0 ∧ t = ⟨(one l).2.1, (one l).1, p⟩ := by
  cases l with
  | nil => simp [lexL_nil, Res.toks] at h
  | cons c d =>
    by_cases h0 : (one (c :: d)).2.2 = 0
    · refine ⟨c, d, rfl, h0, ?_⟩
      rw [lexL_cons c d p h0] at h
      revert h
      generalize lexL _ _ = x
      cases x with
      | ok l => intro h; simp [Res.cons, Res.toks] at h; exact h.1.symm
      | bad a b => intro h; simp [Res.cons, Res.toks] at h
    · rw [lexL_bad c d p h0] at h; simp [Res.toks] at h
theorem one_tok (l : Bytes) (hl : l.length ≤ 100000) (t : Tok) (h : (lexM l).toks = [t]) (ht : t.text = l) : t.kind = 2 ∨ t.kind = 4 ∨ wordB l = true ∨ nameB l = true := by
  rw [lexM_eq l (by omega)] at h
  obtain ⟨c, d, _, h0, rfl⟩ := first_tok _ _ _ _ h
  simp only at ht ⊢
  have := one_kind _ h0
  rw [ht] at this
  rcases this with h1 | h1 | h1 | h1
  · exact .inl h1
  · exact .inr (.inl h1)
  · exact .inr (.inr (.inl h1.2))
  · exact .inr (.inr (.inr h1.2))
theorem takeWhile_prefix (f : UInt8 → Bool) (l : Bytes) : l.take (l.takeWhile f).length = l.takeWhile f :=
  (List.prefix_iff_eq_take.1 (List.takeWhile_prefix f)).symm
theorem take_take_len (l : Bytes) (n : Nat) : l.take (l.take n).length = l.take n := by
  rw [List.length_take, Nat.min_def]; split
  · rfl
  · rw [List.take_of_length_le (Nat.le_refl _), List.take_of_length_le (by omega)]
theorem sign_prefix (l : Bytes) : l.take (signOf l).length = signOf l := by
  unfold signOf; split
  · exact take_take_len _ _
  · split
    · exact take_take_len _ _
    · rfl
theorem one_prefix (l : Bytes) : l.take (one l).1.length = (one l).1 := by
  by_cases h1 : digitB (l.headD 0) = true
  · have e : one l = (l.takeWhile digitB, digM (l.takeWhile digitB)) := by unfold one; rw [if_pos h1]
    rw [e]; exact takeWhile_prefix _ _
  · by_cases h2 : ofNameB (l.headD 0) = true
    · have e : one l = (l.takeWhile ofNameB, letM (l.takeWhile ofNameB)) := by unfold one; rw [if_neg h1, if_pos h2]
      rw [e]; exact takeWhile_prefix _ _
    · have e : one l = (signOf l, sigM (signOf l)) := by unfold one; rw [if_neg h1, if_neg h2]
      rw [e]; exact sign_prefix _
def Chain (l : Bytes) : Nat → List Tok → Prop
  | _, [] => True
  | p, t :: r => p ≤ t.at_ ∧ 0 < t.text.length ∧ t.at_ + t.text.length ≤ l.length ∧ (l.drop t.at_).take t.text.length = t.text ∧ Chain l (t.at_ + t.text.length) r
theorem Chain.less {l : Bytes} {p q : Nat} {r : List Tok} (h : Chain l p r) (hq : q ≤ p) : Chain l q r := by
  cases r with
  | nil => trivial
  | cons t r => exact ⟨Nat.le_trans hq h.1, h.2⟩
theorem lexL_chain (l : Bytes) (n p : Nat) (hp : p ≤ l.length) (hn : l.length - p ≤ n) :
    Chain l p (lexL (l.drop p) p).toks ∧ ((lexL (l.drop p) p).code ≠ 0 → (p : Int) ≤ (lexL (l.drop p) p).at_ ∧ (lexL (l.drop p) p).at_ < l.length) := by
  induction n generalizing p with
  | zero =>
    rw [List.drop_eq_nil_of_le (by omega), lexL_nil]; simp [Res.toks, Res.code, Chain]
  | succ n ih =>
    cases hd : l.drop p with
    | nil => rw [lexL_nil]; simp [Res.toks, Res.code, Chain]
    | cons c d =>
      have hlt : p < l.length := by
        have := congrArg List.length hd
        rw [List.length_drop, List.length_cons] at this; omega
      by_cases h0 : (one (c :: d)).2.2 = 0
      · have hpos := one_pos c d h0
        have hle := one_le (c :: d)
        have hpre := one_prefix (c :: d)
        have hl : (c :: d).length = l.length - p := by rw [← hd, List.length_drop]
        have hsk := skipF_le false ((c :: d).drop (one (c :: d)).1.length)
        rw [List.length_drop, hl] at hsk
        rw [hl] at hle
        rw [lexL_cons c d p h0]
        have hdd : ((c :: d).drop (one (c :: d)).1.length).drop (skip false ((c :: d).drop (one (c :: d)).1.length)) = l.drop (p + (one (c :: d)).1.length + skip false ((c :: d).drop (one (c :: d)).1.length)) := by
          rw [List.drop_drop, ← hd, List.drop_drop, Nat.add_assoc]
        rw [hdd]
        obtain ⟨i1, i2⟩ := ih (p + (one (c :: d)).1.length + skip false ((c :: d).drop (one (c :: d)).1.length)) (by omega) (by omega)
        revert i1 i2
        generalize lexL _ _ = x
        intro i1 i2
        have hc : Chain l p (⟨(one (c :: d)).2.1, (one (c :: d)).1, p⟩ :: x.toks) := ⟨Nat.le_refl _, hpos, by show p + (one (c :: d)).1.length ≤ _; omega, by rw [hd]; exact hpre, i1.less (by show p + (one (c :: d)).1.length ≤ _; omega)⟩
        cases x with
        | ok r => exact ⟨hc, fun h => absurd rfl h⟩
        | bad a b => exact ⟨trivial, fun h => ⟨by have := (i2 h).1; simp only [Res.at_, Res.cons] at this ⊢; omega, (i2 h).2⟩⟩
      · rw [lexL_bad c d p h0]
        exact ⟨trivial, fun _ => ⟨Int.le_refl _, by show (p : Int) < _; omega⟩⟩
theorem lexM_chain (l : Bytes) (h : l.length ≤ 100000) : Chain l 0 (lexM l).toks ∧ ((lexM l).code ≠ 0 → 0 ≤ (lexM l).at_ ∧ (lexM l).at_ < l.length) := by
  rw [lexM_eq l (by omega)]
  have hk := skipF_le false l
  obtain ⟨h1, h2⟩ := lexL_chain l l.length (skip false l) hk (by omega)
  exact ⟨h1.less (Nat.zero_le _), fun h => ⟨by have := (h2 h).1; omega, (h2 h).2⟩⟩
end Go.Proofs.YtobkcdkffcenbaaGreatDoor.Lx
namespace Go.Proofs.YtobkcdkffcenbaaGreatDoor.Lx
def joinM (l : List Tok) : Bytes := Lib.join (l.map (·.text)) [32]
theorem joinM_nil : joinM [] = [] := rfl
theorem joinM_one (t : Tok) : joinM [t] = t.text := by simp [joinM, Lib.join, List.intercalate]
theorem joinM_more (t u : Tok) (r : List Tok) : joinM (t :: u :: r) = t.text ++ 32 :: joinM (u :: r) := by
  simp [joinM, Lib.join, List.intercalate]
theorem joinM_len (l : Bytes) (p : Nat) (r : List Tok) (h : Chain l p r) (hp : p ≤ l.length) : (joinM r).length ≤ 2 * (l.length - p) ∧ r.length ≤ l.length - p := by
  induction r generalizing p with
  | nil => simp [joinM_nil]
  | cons t r ih =>
    obtain ⟨h1, h2, h3, h4, h5⟩ := h
    obtain ⟨i1, i2⟩ := ih _ h5 h3
    cases r with
    | nil => rw [joinM_one]; constructor; omega; simp; omega
    | cons u r => rw [joinM_more, List.length_append, List.length_cons]; constructor; omega; rw [List.length_cons]; omega
def signTexts : List Bytes := signs2 ++ signs1.map (fun c => [c])
def Good (K : Int) (T : Bytes) : Prop :=
  (T.all digitB = true ∧ T ≠ [] ∧ digM T = (K, 0)) ∨ (T.all ofNameB = true ∧ T ≠ [] ∧ digitB (T.headD 0) = false ∧ letM T = (K, 0)) ∨ (T ∈ signTexts ∧ K = 4)
theorem takeWhile_ok (f : UInt8 → Bool) (l : Bytes) : (l.takeWhile f).all f = true := by
  induction l with
  | nil => rfl
  | cons c r ih =>
    rw [List.takeWhile_cons]
    cases h : f c with
    | true => simp [h, ih]
    | false => rfl
theorem sign_text (l : Bytes) (h : signOf l ≠ []) : signOf l ∈ signTexts := by
  unfold signOf at *
  split
  · rename_i h2; unfold signTexts; exact List.mem_append_left _ (by simpa using h2)
  · rename_i h2; rw [if_neg h2] at h
    split
    · rename_i h3
      cases l with
      | nil => simp at h
      | cons c r =>
        unfold signTexts
        refine List.mem_append_right _ (List.mem_map.2 ⟨c, by simpa using h3, rfl⟩)
    · rename_i h3; rw [if_neg h3] at h; exact absurd rfl h
theorem one_good (c : UInt8) (r : Bytes) (h : (one (c :: r)).2.2 = 0) : Good (one (c :: r)).2.1 (one (c :: r)).1 := by
  have hp := one_pos c r h
  have hne : (one (c :: r)).1 ≠ [] := by intro e; rw [e] at hp; simp at hp
  by_cases h1 : digitB c = true
  · have e : one (c :: r) = ((c :: r).takeWhile digitB, digM ((c :: r).takeWhile digitB)) := by unfold one; rw [List.headD_cons, if_pos h1]
    rw [e] at h hne ⊢
    exact .inl ⟨takeWhile_ok _ _, hne, by simp only at h ⊢; rw [← h]⟩
  · by_cases h2 : ofNameB c = true
    · have e : one (c :: r) = ((c :: r).takeWhile ofNameB, letM ((c :: r).takeWhile ofNameB)) := by unfold one; rw [List.headD_cons, if_neg h1, if_pos h2]
      rw [e] at h hne ⊢
      refine .inr (.inl ⟨takeWhile_ok _ _, hne, ?_, by simp only at h ⊢; rw [← h]⟩)
      rw [List.takeWhile_cons, h2]; simpa using h1
    · have e : one (c :: r) = (signOf (c :: r), sigM (signOf (c :: r))) := by unfold one; rw [List.headD_cons, if_neg h1, if_neg h2]
      rw [e] at h hne ⊢
      exact .inr (.inr ⟨sign_text _ hne, sigM_kind _ h⟩)
theorem lexL_good (n : Nat) (l : Bytes) (p : Nat) (hn : l.length ≤ n) : ∀ t ∈ (lexL l p).toks, Good t.kind t.text := by
  induction n generalizing l p with
  | zero => rw [List.length_eq_zero_iff.1 (Nat.le_zero.1 hn), lexL_nil]; simp [Res.toks]
  | succ n ih =>
    cases l with
    | nil => rw [lexL_nil]; simp [Res.toks]
    | cons c d =>
      by_cases h0 : (one (c :: d)).2.2 = 0
      · have hpos := one_pos c d h0
        have hg := one_good c d h0
        rw [lexL_cons c d p h0]
        have hi := ih (((c :: d).drop (one (c :: d)).1.length).drop (skip false ((c :: d).drop (one (c :: d)).1.length))) (p + (one (c :: d)).1.length + skip false ((c :: d).drop (one (c :: d)).1.length)) (by simp only [List.length_drop, List.length_cons] at *; omega)
        revert hi
        generalize lexL _ _ = x
        intro hi
        cases x with
        | ok r =>
          intro t ht
          simp only [Res.cons, Res.toks, List.mem_cons] at ht
          rcases ht with rfl | ht
          · exact hg
          · exact hi t ht
        | bad a b => intro t ht; simp [Res.cons, Res.toks] at ht
      · rw [lexL_bad c d p h0]; simp [Res.toks]
theorem lexM_good (l : Bytes) (h : l.length ≤ 100000) : ∀ t ∈ (lexM l).toks, Good t.kind t.text := by
  rw [lexM_eq l (by omega)]; exact lexL_good _ _ _ (Nat.le_refl _)
def Tail (r : Bytes) : Prop := r = [] ∨ ∃ d, r = 32 :: d
theorem takeWhile_tail (f : UInt8 → Bool) (T r : Bytes) (h : T.all f = true) (h32 : f 32 = false) (hr : Tail r) : (T ++ r).takeWhile f = T := by
  rw [List.takeWhile_append_of_pos (by intro a ha; exact List.all_eq_true.1 h a ha)]
  rcases hr with rfl | ⟨d, rfl⟩
  · simp
  · rw [List.takeWhile_cons, h32]; simp
theorem sign_tail : ∀ T ∈ signTexts, ∀ r, Tail r → one (T ++ r) = (T, 4, 0) ∧ skip false (T ++ r) = 0 := by
  intro T hT r hr
  simp only [signTexts, signs2, signs1, List.map_cons, List.map_nil, List.cons_append, List.nil_append, List.mem_cons, List.not_mem_nil, or_false] at hT
  rcases hr with rfl | ⟨d, rfl⟩
  · rcases hT with rfl | rfl | rfl | rfl | rfl | rfl | rfl | rfl | rfl | rfl | rfl | rfl | rfl | rfl | rfl | rfl <;> exact ⟨rfl, rfl⟩
  · rcases hT with rfl | rfl | rfl | rfl | rfl | rfl | rfl | rfl | rfl | rfl | rfl | rfl | rfl | rfl | rfl | rfl <;> exact ⟨rfl, rfl⟩
theorem good_tail (K : Int) (T r : Bytes) (h : Good K T) (hr : Tail r) : one (T ++ r) = (T, K, 0) ∧ skip false (T ++ r) = 0 ∧ T ≠ [] := by
  rcases h with ⟨h1, h2, h3⟩ | ⟨h1, h2, h3, h4⟩ | ⟨h1, rfl⟩
  · cases T with
    | nil => exact absurd rfl h2
    | cons c d =>
      have hc : digitB c = true := by simp only [List.all_cons, Bool.and_eq_true] at h1; exact h1.1
      refine ⟨?_, skip_letter _ _ (by simp [ofNameB, hc]), h2⟩
      have e := takeWhile_tail digitB (c :: d) r h1 (by decide) hr
      unfold one
      rw [List.cons_append, List.headD_cons, if_pos hc, ← List.cons_append, e, h3]
  · cases T with
    | nil => exact absurd rfl h2
    | cons c d =>
      have hc : ofNameB c = true := by simp only [List.all_cons, Bool.and_eq_true] at h1; exact h1.1
      refine ⟨?_, skip_letter _ _ hc, h2⟩
      have e := takeWhile_tail ofNameB (c :: d) r h1 (by decide) hr
      rw [List.headD_cons] at h3
      unfold one
      rw [List.cons_append, List.headD_cons, if_neg (by rw [h3]; simp), if_pos hc, ← List.cons_append, e, h4]
  · have := sign_tail T h1 r hr
    refine ⟨this.1, this.2, ?_⟩
    rintro rfl
    simp [signTexts, signs2, signs1] at h1
def Alike (a b : List Tok) : Prop := a.length = b.length ∧ ∀ (i : Nat) (t u : Tok), a[i]? = some t → b[i]? = some u → t.kind = u.kind ∧ t.text = u.text
theorem Alike.cons {a b : List Tok} {t u : Tok} (h : Alike a b) (hk : t.kind = u.kind) (ht : t.text = u.text) : Alike (t :: a) (u :: b) := by
  refine ⟨by simp [h.1], fun i x y hx hy => ?_⟩
  cases i with
  | zero => simp at hx hy; subst hx; subst hy; exact ⟨hk, ht⟩
  | succ i => simp at hx hy; exact h.2 i x y hx hy
theorem join_skip (L : List Tok) (h : ∀ t ∈ L, Good t.kind t.text) : skip false (joinM L) = 0 := by
  cases L with
  | nil => rfl
  | cons t r =>
    cases r with
    | nil => rw [joinM_one]; have := (good_tail t.kind t.text [] (h t (by simp)) (.inl rfl)).2.1; rwa [List.append_nil] at this
    | cons u r => rw [joinM_more]; exact (good_tail t.kind t.text _ (h t (by simp)) (.inr ⟨_, rfl⟩)).2.1
theorem join_back (L : List Tok) (p : Nat) (h : ∀ t ∈ L, Good t.kind t.text) : ∃ M, lexL (joinM L) p = .ok M ∧ Alike L M := by
  induction L generalizing p with
  | nil => exact ⟨[], rfl, rfl, fun i t u h => by simp at h⟩
  | cons t r ih =>
    have hg := h t (by simp)
    cases r with
    | nil =>
      rw [joinM_one]
      obtain ⟨h1, h2, h3⟩ := good_tail t.kind t.text [] hg (.inl rfl)
      rw [List.append_nil] at h1
      cases ht : t.text with
      | nil => exact absurd ht h3
      | cons c d =>
        rw [ht] at h1
        refine ⟨[⟨t.kind, c :: d, p⟩], ?_, Alike.cons ⟨rfl, fun i t u h => by simp at h⟩ rfl ht⟩
        rw [lexL_cons c d p (by rw [h1]), h1]
        simp only [List.drop_length]
        rw [show skip false [] = 0 from rfl, List.drop_zero, lexL_nil]; rfl
    | cons u r =>
      rw [joinM_more]
      obtain ⟨h1, h2, h3⟩ := good_tail t.kind t.text (32 :: joinM (u :: r)) hg (.inr ⟨_, rfl⟩)
      have hs := join_skip (u :: r) (fun x hx => h x (by simp at hx ⊢; exact .inr hx))
      cases ht : t.text with
      | nil => exact absurd ht h3
      | cons c d =>
        rw [ht] at h1
        rw [List.cons_append] at h1 ⊢
        rw [lexL_cons c _ p (by rw [h1]), h1]
        simp only
        rw [← List.cons_append, List.drop_left, skip_blank' _, hs, Nat.add_zero, List.drop_succ_cons, List.drop_zero]
        obtain ⟨M, hM, hA⟩ := ih (p + (c :: d).length + 1) (fun x hx => h x (by simp at hx ⊢; exact .inr hx))
        rw [hM]
        exact ⟨⟨t.kind, c :: d, p⟩ :: M, rfl, hA.cons rfl ht⟩
theorem back (l : Bytes) (h : l.length ≤ 1000) : (joinM (lexM l).toks).length ≤ 2000 ∧ (lexM l).toks.length ≤ 1000 ∧ ∃ M, lexM (joinM (lexM l).toks) = .ok M ∧ Alike (lexM l).toks M := by
  obtain ⟨h1, h2⟩ := joinM_len l 0 _ (lexM_chain l (by omega)).1 (Nat.zero_le _)
  have hg := lexM_good l (by omega)
  refine ⟨by omega, by omega, ?_⟩
  obtain ⟨M, hM, hA⟩ := join_back _ 0 hg
  exact ⟨M, by rw [lexM_eq _ (by omega), join_skip _ hg, List.drop_zero]; exact hM, hA⟩
end Go.Proofs.YtobkcdkffcenbaaGreatDoor.Lx
namespace Go.Proofs.YtobkcdkffcenbaaGreatDoor.Lx
def lexS (l : Bytes) (p : Nat) : Res := lexL (l.drop (skip false l)) (p + skip false l)
theorem lexM_S (l : Bytes) (h : l.length ≤ 100000) : lexM l = lexS l 0 := by rw [lexM_eq l (by omega)]; unfold lexS; rw [Nat.zero_add]
theorem skip_fb (c : UInt8) (r : Bytes) (h : blankB c = true) : skip false (c :: r) = 1 + skip false r := by simp [skip, h]
theorem skip_fr (c : UInt8) (r : Bytes) (h : ¬ blankB c = true) (h2 : c = 45 ∧ r.head? = some 45) : skip false (c :: r) = 1 + skip true r := by simp only [skip]; rw [if_neg h, if_pos h2]
theorem skip_fs (c : UInt8) (r : Bytes) (h : ¬ blankB c = true) (h2 : ¬ (c = 45 ∧ r.head? = some 45)) : skip false (c :: r) = 0 := by simp only [skip]; rw [if_neg h, if_neg h2]
theorem skip_to (c : UInt8) (r : Bytes) (h : ¬ c = 10) : skip true (c :: r) = 1 + skip true r := by simp only [skip]; rw [if_neg h]
end Go.Proofs.YtobkcdkffcenbaaGreatDoor.Lx
namespace Go.Proofs.YtobkcdkffcenbaaGreatDoor.Lx
def fits_ (l x : Bytes) : Bool := decide (x.length ≤ l.length) && l.take x.length == x
theorem find_eq (L : List Bytes) (y : Bytes) : L.find? (fun x => y == x) = if L.contains y then some y else none := by
  induction L with
  | nil => rfl
  | cons a r ih =>
    rw [List.find?_cons, List.contains_cons]
    by_cases h : (y == a) = true
    · have : y = a := by simpa using h
      subst this; simp
    · have h' : (y == a) = false := by simpa using h
      rw [h', ih]; simp
theorem find_congr' {p q : Bytes → Bool} : ∀ {l : List Bytes}, (∀ x ∈ l, p x = q x) → l.find? p = l.find? q
  | [], _ => rfl
  | a :: l, h => by
    rw [List.find?_cons, List.find?_cons, h a (List.mem_cons_self ..), find_congr' fun x hx => h x (List.mem_cons_of_mem _ hx)]
theorem find_two (l : Bytes) : signs2.find? (fits_ l) = if signs2.contains (l.take 2) then some (l.take 2) else none := by
  rw [← find_eq]
  apply find_congr'
  intro x hx
  have h2 : x.length = 2 := (by decide : ∀ x ∈ signs2, x.length = 2) x hx
  unfold fits_
  rw [h2]
  by_cases h : l.take 2 = x
  · have : 2 ≤ l.length := by
      have := congrArg List.length h
      rw [List.length_take, h2] at this; omega
    simp [h, this]
  · have : (l.take 2 == x) = false := by simpa using h
    rw [this]; simp
theorem find_one (c : UInt8) (r : Bytes) (L : Bytes) : (L.map (fun x => [x])).find? (fits_ (c :: r)) = if L.contains c then some [c] else none := by
  induction L with
  | nil => rfl
  | cons a t ih =>
    rw [List.map_cons, List.find?_cons, ih, List.contains_cons]
    by_cases h : c = a
    · subst h; simp [fits_]
    · have h1 : fits_ (c :: r) [a] = false := by simp [fits_, h]
      have h2 : (c == a) = false := by simpa using h
      rw [h1, h2]; simp
theorem find_sign (l : Bytes) (h : l ≠ []) : signTexts.find? (fits_ l) = if signOf l = [] then none else some (signOf l) := by
  unfold signTexts
  rw [List.find?_append, find_two]
  unfold signOf
  by_cases h2 : signs2.contains (l.take 2) = true
  · rw [if_pos h2, if_pos h2]
    have : l.take 2 ≠ [] := by intro e; rw [e] at h2; simp [signs2] at h2
    rw [if_neg this]; rfl
  · rw [if_neg h2, if_neg h2]
    cases l with
    | nil => exact absurd rfl h
    | cons c r =>
      rw [find_one, List.headD_cons]
      by_cases h3 : signs1.contains c = true
      · rw [if_pos h3, if_pos h3]; simp
      · rw [if_neg h3, if_neg h3]; simp
theorem find_hit {L : List Bytes} {p : Bytes → Bool} {k : Nat} {x : Bytes} (h : (L.take k).find? p = none) (hx : L[k]? = some x) (hp : p x = true) : L.find? p = some x := by
  rw [← List.take_append_drop k L, List.find?_append, h]
  have : L.drop k = x :: L.drop (k + 1) := by
    obtain ⟨h1, h2⟩ := List.getElem?_eq_some_iff.1 hx
    rw [List.drop_eq_getElem_cons h1, h2]
  rw [this, List.find?_cons, hp]; rfl
theorem find_next {L : List Bytes} {p : Bytes → Bool} {k : Nat} {x : Bytes} (h : (L.take k).find? p = none) (hx : L[k]? = some x) (hp : p x = false) : (L.take (k + 1)).find? p = none := by
  rw [List.take_add_one, hx, List.find?_append, h]
  simp [hp]
def val (l : Bytes) : Nat := l.foldl (fun n c => 10 * n + (c.toNat - 48)) 0
theorem val_snoc (l : Bytes) (c : UInt8) : val (l ++ [c]) = 10 * val l + (c.toNat - 48) := by simp [val, List.foldl_append]
theorem foldl_val (l : Bytes) (n : Nat) : l.foldl (fun n c => 10 * n + (c.toNat - 48)) n = n * 10 ^ l.length + val l := by
  induction l generalizing n with
  | nil => simp [val]
  | cons c r ih =>
    have h1 := ih (10 * n + (c.toNat - 48))
    have h2 := ih (10 * 0 + (c.toNat - 48))
    unfold val
    rw [List.foldl_cons, List.foldl_cons, h1, h2, List.length_cons, Nat.pow_succ]
    rw [Nat.add_mul, Nat.mul_zero, Nat.zero_add, Nat.mul_comm 10 n, Nat.mul_assoc, Nat.mul_comm 10 (10 ^ r.length), Nat.add_assoc]
theorem val_cons (c : UInt8) (r : Bytes) : val (c :: r) = (c.toNat - 48) * 10 ^ r.length + val r := by
  show (r.foldl _ _) = _
  rw [foldl_val]; simp
theorem digit_bd (c : UInt8) (h : digitB c = true) : 48 ≤ c.toNat ∧ c.toNat ≤ 57 := by
  simp only [digitB, Bool.and_eq_true, decide_eq_true_eq, UInt8.le_iff_toNat_le] at h
  exact h
theorem val_lt (l : Bytes) (h : l.all digitB = true) : val l < 10 ^ l.length := by
  induction l with
  | nil => simp [val]
  | cons c r ih =>
    simp only [List.all_cons, Bool.and_eq_true] at h
    obtain ⟨h1, h2⟩ := digit_bd c h.1
    have := ih h.2
    rw [val_cons, List.length_cons, Nat.pow_succ]
    have h3 : (c.toNat - 48) * 10 ^ r.length ≤ 9 * 10 ^ r.length := Nat.mul_le_mul_right _ (by omega)
    omega
theorem val_ge (c : UInt8) (r : Bytes) (h : digitB c = true) (h0 : c ≠ 48) : 10 ^ r.length ≤ val (c :: r) := by
  obtain ⟨h1, h2⟩ := digit_bd c h
  have : c.toNat ≠ 48 := by intro e; apply h0; rw [← UInt8.toNat_inj]; exact e
  rw [val_cons]
  have h3 : 1 * 10 ^ r.length ≤ (c.toNat - 48) * 10 ^ r.length := Nat.mul_le_mul_right _ (by omega)
  omega
theorem less_val (a b : Bytes) (h : a.length = b.length) (ha : a.all digitB = true) (hb : b.all digitB = true) : Op.bytesLess a b = decide (val a < val b) := by
  induction a generalizing b with
  | nil => cases b with
    | nil => simp [Op.bytesLess, val]
    | cons => simp at h
  | cons c x ih =>
    cases b with
    | nil => simp at h
    | cons d y =>
      simp only [List.length_cons, Nat.add_right_cancel_iff] at h
      simp only [List.all_cons, Bool.and_eq_true] at ha hb
      have i := ih y h ha.2 hb.2
      have hx := val_lt x ha.2
      have hy := val_lt y hb.2
      obtain ⟨c1, c2⟩ := digit_bd c ha.1
      obtain ⟨d1, d2⟩ := digit_bd d hb.1
      rw [val_cons, val_cons, h]
      rw [h] at hx
      simp only [Op.bytesLess, i]
      generalize 10 ^ y.length = P at hx hy
      have hcd : (c < d) ↔ c.toNat < d.toNat := UInt8.lt_iff_toNat_lt
      have hce : (c == d) = decide (c.toNat = d.toNat) := by rw [Bool.eq_iff_iff]; simp [UInt8.toNat_inj]
      rw [hce, Bool.eq_iff_iff]
      simp only [Bool.or_eq_true, Bool.and_eq_true, decide_eq_true_eq, hcd]
      rcases Nat.lt_trichotomy c.toNat d.toNat with hlt | heq | hgt
      · have : (c.toNat - 48 + 1) * P ≤ (d.toNat - 48) * P := Nat.mul_le_mul_right _ (by omega)
        rw [Nat.add_mul] at this
        constructor
        · intro _; omega
        · intro _; exact .inl hlt
      · rw [heq]; constructor
        · rintro (h1 | h1)
          · omega
          · have := h1.2; omega
        · intro h1; exact .inr ⟨rfl, by omega⟩
      · have : (d.toNat - 48 + 1) * P ≤ (c.toNat - 48) * P := Nat.mul_le_mul_right _ (by omega)
        rw [Nat.add_mul] at this
        constructor
        · rintro (h1 | h1) <;> omega
        · intro h1; omega
theorem val_inj (a b : Bytes) (h : a.length = b.length) (ha : a.all digitB = true) (hb : b.all digitB = true) (hv : val a = val b) : a = b := by
  induction a generalizing b with
  | nil => cases b with
    | nil => rfl
    | cons => simp at h
  | cons c x ih =>
    cases b with
    | nil => simp at h
    | cons d y =>
      simp only [List.length_cons, Nat.add_right_cancel_iff] at h
      simp only [List.all_cons, Bool.and_eq_true] at ha hb
      have hx := val_lt x ha.2
      have hy := val_lt y hb.2
      obtain ⟨c1, c2⟩ := digit_bd c ha.1
      obtain ⟨d1, d2⟩ := digit_bd d hb.1
      rw [val_cons, val_cons, h] at hv
      rw [h] at hx
      have hcd : c.toNat = d.toNat := by
        generalize 10 ^ y.length = P at *
        rcases Nat.lt_trichotomy c.toNat d.toNat with hlt | heq | hgt
        · have : (c.toNat - 48 + 1) * P ≤ (d.toNat - 48) * P := Nat.mul_le_mul_right _ (by omega)
          rw [Nat.add_mul] at this; omega
        · exact heq
        · have : (d.toNat - 48 + 1) * P ≤ (c.toNat - 48) * P := Nat.mul_le_mul_right _ (by omega)
          rw [Nat.add_mul] at this; omega
      rw [hcd] at hv
      rw [UInt8.toNat_inj.1 hcd, ih y h ha.2 hb.2 (by omega)]
theorem val_greatest : val greatest = 2147483647 := by decide +kernel
theorem digM_val (l : Bytes) (h : l.all digitB = true) (hp : l ≠ []) : digM l = if (1 < l.length ∧ l.headD 0 = 48) ∨ 2147483647 < val l then (0, 2) else (2, 0) := by
  cases l with
  | nil => exact absurd rfl hp
  | cons c r =>
    have hh := h
    simp only [List.all_cons, Bool.and_eq_true] at hh
    unfold digM
    rw [List.headD_cons]
    by_cases h0 : 1 < (c :: r).length ∧ c = 48
    · rw [if_pos (.inl h0), if_pos (.inl h0)]
    · have hv : 1 < (c :: r).length → 10 ^ r.length ≤ val (c :: r) := fun h1 => val_ge c r hh.1 (fun e => h0 ⟨h1, e⟩)
      have hlt := val_lt _ h
      by_cases h10 : 10 < (c :: r).length
      · have h1 := hv (by omega)
        have h2 : 10 ^ 10 ≤ 10 ^ r.length := Nat.pow_le_pow_right (by omega) (by simp at h10; omega)
        rw [if_pos (.inr h10), if_pos (.inr (by omega))]
      · rw [if_neg (fun e => e.elim h0 h10)]
        by_cases he : (c :: r).length = 10
        · have hl := less_val (c :: r) greatest he h (by decide)
          have hg : gtB (c :: r) = decide (2147483647 < val (c :: r)) := by
            unfold gtB
            rw [hl, val_greatest]
            by_cases hq : (c :: r) = greatest
            · rw [hq, val_greatest]; decide
            · have hq' : ((c :: r) == greatest) = false := by simpa using hq
              have hne : val (c :: r) ≠ 2147483647 := by
                intro e
                apply hq
                exact val_inj _ _ he h (by decide) (by rw [e, val_greatest])
              rw [hq', Bool.or_false, Bool.eq_iff_iff]
              simp; omega
          rw [hg]
          by_cases hb : 2147483647 < val (c :: r)
          · rw [if_pos ⟨he, by simpa using hb⟩, if_pos (.inr hb)]
          · rw [if_neg (by simp [hb]), if_neg (fun e => e.elim h0 hb)]
        · have h3 : 10 ^ (c :: r).length ≤ 10 ^ 9 := Nat.pow_le_pow_right (by omega) (by omega)
          rw [if_neg (fun e => he e.1), if_neg (fun e => e.elim h0 (by omega))]
def letterB (c : UInt8) : Bool := 97 ≤ c && c ≤ 122 || c == 95
theorem ofName_eq (c : UInt8) : ofNameB c = (letterB c || digitB c) := rfl
theorem letter_no_digit (c : UInt8) (h : letterB c = true) : digitB c = false := by
  cases hd : digitB c with
  | false => rfl
  | true =>
    obtain ⟨h1, h2⟩ := digit_bd c hd
    simp only [letterB, Bool.or_eq_true, Bool.and_eq_true, decide_eq_true_eq, UInt8.le_iff_toNat_le, beq_iff_eq] at h
    rcases h with h | rfl
    · have : (97 : UInt8).toNat = 97 := rfl
      omega
    · simp at h1 h2
theorem lexS_blank (c : UInt8) (r : Bytes) (p : Nat) (h : blankB c = true) : lexS (c :: r) p = lexS r (p + 1) := by
  unfold lexS
  rw [skip_fb c r h, Nat.add_comm 1, List.drop_succ_cons, show p + (skip false r + 1) = p + 1 + skip false r from by omega]
theorem lexS_nil (p : Nat) : lexS [] p = .ok [] := rfl
def upto : Bytes → Nat
  | [] => 0
  | c :: r => if c = 10 then 0 else 1 + upto r
theorem skip_upto (l : Bytes) : skip true l = upto l + skip false (l.drop (upto l)) := by
  induction l with
  | nil => rfl
  | cons c r ih =>
    by_cases h : c = 10
    · subst h; simp [skip, upto, blankB]
    · rw [skip_to c r h, ih]
      simp only [upto, if_neg h]
      rw [Nat.add_comm 1 (upto r), List.drop_succ_cons]; omega
theorem lexS_remark (r : Bytes) (p : Nat) : lexS (45 :: 45 :: r) p = lexS ((45 :: 45 :: r).drop (upto (45 :: 45 :: r))) (p + upto (45 :: 45 :: r)) := by
  have e : skip false (45 :: 45 :: r) = skip true (45 :: 45 :: r) := by
    rw [skip_fr 45 _ (by decide) ⟨rfl, rfl⟩, skip_to 45 (45 :: r) (by decide)]
  unfold lexS
  rw [e, skip_upto, ← List.drop_drop, Nat.add_assoc]
theorem lexS_bad (c : UInt8) (r : Bytes) (p : Nat) (hb : ¬ blankB c = true) (hr : ¬ (c = 45 ∧ r.head? = some 45)) (h : (one (c :: r)).2.2 ≠ 0) : lexS (c :: r) p = .bad (one (c :: r)).2.2 p := by
  unfold lexS; rw [skip_fs c r hb hr, List.drop_zero, Nat.add_zero, lexL_bad c r p h]
theorem lexS_cons (c : UInt8) (r : Bytes) (p : Nat) (hb : ¬ blankB c = true) (hr : ¬ (c = 45 ∧ r.head? = some 45)) (h : (one (c :: r)).2.2 = 0) :
    lexS (c :: r) p = Res.cons ⟨(one (c :: r)).2.1, (one (c :: r)).1, p⟩ (lexS ((c :: r).drop (one (c :: r)).1.length) (p + (one (c :: r)).1.length)) := by
  unfold lexS; rw [skip_fs c r hb hr, List.drop_zero, Nat.add_zero, lexL_cons c r p h]
end Go.Proofs.YtobkcdkffcenbaaGreatDoor.Lx
namespace Go.Proofs.YtobkcdkffcenbaaGreatDoor.Tr
abbrev Bytes := List UInt8
structure Nd where
  op : Int
  a : Int
  b : Int
  c : Int
  n : Int
  name : Bytes
deriving DecidableEq, Inhabited
structure Lab where
  op : Int
  n : Int
  name : Bytes
deriving DecidableEq, Inhabited
def Nd.lab (x : Nd) : Lab := ⟨x.op, x.n, x.name⟩
def heldM (l : List Int) : List Int := l.filter (fun k => k != -1)
def unaryB (op : Int) : Bool := op == 4 || op == 5 || op == 21 || op == 22 || op == 23 || op == 24 || op == 25
def binaryB (op : Int) : Bool := decide (6 ≤ op) && decide (op ≤ 20)
def kidsM (x : Nd) : List Int :=
  if unaryB x.op then [x.a] else if x.op = 26 then [x.a, x.b, x.c] else if x.op = 27 then heldM [x.a]
  else if x.op = 28 then heldM [x.b] ++ [x.a] else if binaryB x.op then [x.a, x.b] else []
def mkL (x : Lab) : List Int → Nd
  | [] => ⟨x.op, -1, -1, -1, x.n, x.name⟩
  | [i] => ⟨x.op, i, -1, -1, x.n, x.name⟩
  | [i, j] => if x.op = 28 then ⟨x.op, j, i, -1, x.n, x.name⟩ else ⟨x.op, i, j, -1, x.n, x.name⟩
  | i :: j :: k :: _ => ⟨x.op, i, j, k, x.n, x.name⟩
def fitsB (op : Int) (m : Nat) : Bool :=
  if unaryB op then m == 1 else if op = 26 then m == 3 else if op = 27 then m == 0 || m == 1
  else if op = 28 then m == 1 || m == 2 else if binaryB op then m == 2 else m == 0
inductive T where
  | l0 (x : Lab)
  | l1 (x : Lab) (p : T)
  | l2 (x : Lab) (p q : T)
  | l3 (x : Lab) (p q r : T)
deriving DecidableEq, Inhabited
def mkT (x : Lab) : List T → T
  | [] => .l0 x
  | [p] => .l1 x p
  | [p, q] => .l2 x p q
  | p :: q :: r :: _ => .l3 x p q r
def T.lab : T → Lab
  | .l0 x => x | .l1 x _ => x | .l2 x _ _ => x | .l3 x _ _ _ => x
def T.kids : T → List T
  | .l0 _ => [] | .l1 _ p => [p] | .l2 _ p q => [p, q] | .l3 _ p q r => [p, q, r]
def T.size : T → Nat
  | .l0 _ => 1 | .l1 _ p => p.size + 1 | .l2 _ p q => p.size + q.size + 1 | .l3 _ p q r => p.size + q.size + r.size + 1
def T.depth : T → Nat
  | .l0 _ => 1 | .l1 _ p => p.depth + 1 | .l2 _ p q => max p.depth q.depth + 1 | .l3 _ p q r => max (max p.depth q.depth) r.depth + 1
def T.flat : T → Nat → List Nd
  | .l0 x, _ => [mkL x []]
  | .l1 x p, b => p.flat b ++ [mkL x [(b + p.size - 1 : Nat)]]
  | .l2 x p q, b => p.flat b ++ q.flat (b + p.size) ++ [mkL x [(b + p.size - 1 : Nat), (b + p.size + q.size - 1 : Nat)]]
  | .l3 x p q r, b => p.flat b ++ q.flat (b + p.size) ++ r.flat (b + p.size + q.size) ++ [mkL x [(b + p.size - 1 : Nat), (b + p.size + q.size - 1 : Nat), (b + p.size + q.size + r.size - 1 : Nat)]]
theorem T.size_pos (t : T) : 0 < t.size := by cases t <;> simp [T.size]
theorem T.flat_len (t : T) : ∀ b, (t.flat b).length = t.size := by
  induction t with
  | l0 x => intro b; rfl
  | l1 x p ih => intro b; simp [T.flat, T.size, ih]
  | l2 x p q ih1 ih2 => intro b; simp [T.flat, T.size, ih1, ih2]; omega
  | l3 x p q r ih1 ih2 ih3 => intro b; simp [T.flat, T.size, ih1, ih2, ih3]; omega
def tr (e : List Nd) : Nat → Nat → T
  | 0, _ => default
  | f + 1, i => mkT (e.getD i default).lab ((kidsM (e.getD i default)).map fun k => tr e f k.toNat)
def tree (e : List Nd) (i : Nat) : T := tr e (i + 1) i
def Ahead (e : List Nd) : Prop := ∀ (i : Nat) n, e[i]? = some n → ∀ k ∈ kidsM n, 0 ≤ k ∧ k < i
theorem tr_fuel {e : List Nd} (h : Ahead e) : ∀ (f g i : Nat), i < f → i < g → i < e.length → tr e f i = tr e g i := by
  intro f
  induction f with
  | zero => intro g i hf; omega
  | succ f ih =>
    intro g i hf hg hi
    cases g with
    | zero => omega
    | succ g =>
      simp only [tr]
      congr 1
      apply List.map_congr_left
      intro k hk
      have hn : e[i]? = some (e.getD i default) := by simp [List.getD, List.getElem?_eq_getElem hi]
      have := h i _ hn k hk
      exact ih g k.toNat (by omega) (by omega) (by omega)
theorem tree_eq {e : List Nd} (h : Ahead e) {i : Nat} {n : Nd} (hn : e[i]? = some n) : tree e i = mkT n.lab ((kidsM n).map fun k => tree e k.toNat) := by
  have hi : i < e.length := (List.getElem?_eq_some_iff.1 hn).1
  have e1 : e.getD i default = n := by simp [List.getD, hn]
  unfold tree
  rw [tr]
  rw [e1]
  congr 1
  apply List.map_congr_left
  intro k hk
  have := h i _ hn k hk
  exact tr_fuel h _ _ _ (by omega) (by omega) (by omega)
theorem kids_small (n : Nd) : (kidsM n).length ≤ 3 := by
  unfold kidsM
  repeat' split
  all_goals simp [heldM, List.filter_cons]
  all_goals (repeat' split)
  all_goals simp
theorem mkT_size (x : Lab) (l : List T) (h : l.length ≤ 3) : (mkT x l).size = (l.map T.size).sum + 1 := by
  match l, h with
  | [], _ => rfl
  | [p], _ => simp [mkT, T.size]
  | [p, q], _ => simp [mkT, T.size]
  | [p, q, r], _ => simp [mkT, T.size]; omega
theorem mkT_lab (x : Lab) (l : List T) : (mkT x l).lab = x := by
  match l with
  | [] => rfl
  | [_] => rfl
  | [_, _] => rfl
  | _ :: _ :: _ :: _ => rfl
theorem tr_append (e x : List Nd) (h : Ahead e) : ∀ f i, i < e.length → tr (e ++ x) f i = tr e f i := by
  intro f
  induction f with
  | zero => intro i _; rfl
  | succ f ih =>
    intro i hi
    have e1 : (e ++ x).getD i default = e.getD i default := by
      simp [List.getD, List.getElem?_append_left hi]
    simp only [tr, e1]
    congr 1
    apply List.map_congr_left
    intro k hk
    have hn : e[i]? = some (e.getD i default) := by simp [List.getD, List.getElem?_eq_getElem hi]
    have := h i _ hn k hk
    exact ih _ (by omega)
theorem tree_append {e x : List Nd} (h : Ahead e) {i : Nat} (hi : i < e.length) : tree (e ++ x) i = tree e i := tr_append e x h _ _ hi
theorem fits_kids (n : Nd) : fitsB n.op (kidsM n).length = true := by
  unfold kidsM fitsB
  split
  · simp
  split
  · simp
  split
  · simp only [heldM, List.filter_cons]; split <;> simp
  split
  · simp only [heldM, List.filter_cons]; split <;> simp
  split <;> simp
theorem mkL_op (x : Lab) (l : List Int) : (mkL x l).op = x.op := by
  match l with
  | [] => rfl
  | [_] => rfl
  | [_, _] => simp only [mkL]; split <;> rfl
  | _ :: _ :: _ :: _ => rfl
theorem mkL_lab (x : Lab) (l : List Int) : (mkL x l).lab = x := by
  match l with
  | [] => rfl
  | [_] => rfl
  | [_, _] => simp only [mkL]; split <;> rfl
  | _ :: _ :: _ :: _ => rfl
theorem kids_mkL (x : Lab) (l : List Int) (h : fitsB x.op l.length = true) (hne : ∀ k ∈ l, k ≠ -1) : kidsM (mkL x l) = l := by
  have ho := mkL_op x l
  unfold kidsM
  rw [ho]
  unfold fitsB at h
  split at h
  · rename_i hu
    rw [if_pos hu]
    match l, h with
    | [i], _ => rfl
  rename_i hu
  rw [if_neg hu]
  split at h
  · rename_i h26
    rw [if_pos h26]
    match l, h with
    | [i, j, k], _ => rfl
  rename_i h26
  rw [if_neg h26]
  split at h
  · rename_i h27
    rw [if_pos h27]
    match l, h with
    | [], _ => rfl
    | [i], _ => have := hne i (by simp); simp [mkL, heldM, this]
  rename_i h27
  rw [if_neg h27]
  split at h
  · rename_i h28
    rw [if_pos h28]
    match l, h with
    | [i], _ => simp [mkL, heldM]
    | [i, j], _ => have := hne i (by simp); simp [mkL, heldM, h28, this]
  rename_i h28
  rw [if_neg h28]
  split at h
  · rename_i hb
    rw [if_pos hb]
    match l, h with
    | [i, j], _ => simp [mkL, h28]
  · rename_i hb
    rw [if_neg hb]
    match l, h with
    | [], _ => rfl
def plainB (x : Lab) : Bool :=
  decide (1 ≤ x.op) && decide (x.op ≤ 28) && ((x.name != []) == (x.op == 3 || x.op == 27)) &&
    decide (0 ≤ x.n) && decide (x.n ≤ if x.op = 1 then 2147483647 else if x.op = 2 then 1 else if x.op = 25 then 1000 else 0)
def argsL (op : Int) : List Int → Bool
  | [] => true
  | [p] => (p == 28) == (op == 27)
  | [p, q] => ((p == 28) == (op == 27 || op == 28)) && ((q == 28) == (op == 27))
  | p :: q :: r :: _ => ((p == 28) == (op == 27)) && ((q == 28) == (op == 27)) && ((r == 28) == (op == 27))
def opAt (e : List Nd) (k : Int) : Int := (e.getD k.toNat default).op
structure Good (e : List Nd) (i : Nat) (n : Nd) : Prop where
  plain : plainB n.lab = true
  bare : n = mkL n.lab (kidsM n)
  ahead : ∀ k ∈ kidsM n, 0 ≤ k ∧ k < i
  args : argsL n.op ((kidsM n).map (opAt e)) = true
def usesM (e : List Nd) (j : Nat) : Nat := (e.flatMap kidsM).count (j : Int)
def deepF (ds : List Nat) (n : Nd) : Nat := (kidsM n).foldl (fun (d : Nat) (k : Int) => if 0 ≤ k ∧ k < (ds.length : Int) then max d (1 + ds.getD k.toNat 0) else d) 1
def deepsM (e : List Nd) : List Nat := e.foldl (fun ds n => ds ++ [deepF ds n]) []
def depthM (e : List Nd) : Nat := (deepsM e).getLastD 0
structure May (e : List Nd) : Prop where
  pos : 0 < e.length
  le : e.length ≤ 5000
  node : ∀ i n, e[i]? = some n → Good e i n
  uses : ∀ j, j + 1 < e.length → usesM e j = 1
  last : (e.getD (e.length - 1) default).op ≠ 28
  deep : depthM e ≤ 40
theorem May.ahead {e : List Nd} (h : May e) : Ahead e := fun i n hn => (h.node i n hn).ahead
theorem deeps_snoc (e : List Nd) (n : Nd) : deepsM (e ++ [n]) = deepsM e ++ [deepF (deepsM e) n] := by simp [deepsM, List.foldl_append]
theorem foldl_len (e : List Nd) : ∀ acc : List Nat, (e.foldl (fun ds n => ds ++ [deepF ds n]) acc).length = acc.length + e.length := by
  induction e with
  | nil => intro acc; rfl
  | cons a r ih => intro acc; simp only [List.foldl_cons]; rw [ih]; simp; omega
theorem deeps_len (e : List Nd) : (deepsM e).length = e.length := by
  have := foldl_len e []; unfold deepsM; rw [this]; simp
theorem tree_lab {e : List Nd} (h : Ahead e) {i : Nat} {n : Nd} (hn : e[i]? = some n) : (tree e i).lab = n.lab := by rw [tree_eq h hn, mkT_lab]
theorem tree_op {e : List Nd} (h : Ahead e) {i : Nat} (hi : i < e.length) : (tree e i).lab.op = (e.getD i default).op := by
  have hn : e[i]? = some (e.getD i default) := by simp [List.getD, List.getElem?_eq_getElem hi]
  rw [tree_lab h hn]; rfl
theorem mkT_depth (x : Lab) (l : List T) (h : l.length ≤ 3) : (mkT x l).depth = l.foldl (fun d t => max d (1 + t.depth)) 1 := by
  match l, h with
  | [], _ => rfl
  | [p], _ => simp [mkT, T.depth]; omega
  | [p, q], _ => simp [mkT, T.depth]; omega
  | [p, q, r], _ => simp [mkT, T.depth]; omega
theorem Ahead.left {e x : List Nd} (h : Ahead (e ++ x)) : Ahead e := fun i n hn => by
  have hi : i < e.length := (List.getElem?_eq_some_iff.1 hn).1
  exact h i n (by rw [List.getElem?_append_left hi]; exact hn)
theorem foldl_congr {α β : Type} (f g : β → α → β) (l : List α) (h : ∀ b, ∀ a ∈ l, f b a = g b a) : ∀ b, l.foldl f b = l.foldl g b := by
  induction l with
  | nil => intro b; rfl
  | cons a r ih => intro b; simp only [List.foldl_cons]; rw [h b a (by simp)]; exact ih (fun b x hx => h b x (by simp [hx])) _
theorem deeps_tree (e : List Nd) : Ahead e → ∀ i, i < e.length → (deepsM e)[i]? = some (tree e i).depth := by
  generalize hr : e.reverse = r
  revert e
  induction r with
  | nil => intro e hr h i hi; simp at hr; subst hr; simp at hi
  | cons n r ih =>
    intro e hr h i hi
    have he : e = r.reverse ++ [n] := by rw [← List.reverse_reverse e, hr, List.reverse_cons]
    generalize hq : r.reverse = q at he
    subst he
    have hqa : Ahead q := h.left
    have hq' : q.reverse = r := by rw [← hq, List.reverse_reverse]
    rw [deeps_snoc]
    by_cases hi' : i < q.length
    · rw [List.getElem?_append_left (by rw [deeps_len]; exact hi'), ih q hq' hqa i hi', tree_append hqa hi']
    · have : i = q.length := by simp at hi; omega
      subst this
      rw [List.getElem?_append_right (by rw [deeps_len]; exact Nat.le_refl _), deeps_len, Nat.sub_self]
      simp only [List.getElem?_cons_zero, Option.some.injEq]
      have hn : (q ++ [n])[q.length]? = some n := by simp
      have ha := h _ _ hn
      rw [tree_eq h hn, mkT_depth _ _ (by rw [List.length_map]; exact kids_small n), List.foldl_map]
      unfold deepF
      apply foldl_congr
      intro b k hk
      have hk2 := ha k hk
      rw [if_pos (by rw [deeps_len]; omega)]
      have e2 := ih q hq' hqa k.toNat (by omega)
      rw [tree_append hqa (by omega)]
      simp [List.getD, e2]
theorem depth_tree {e : List Nd} (h : Ahead e) (hp : 0 < e.length) : depthM e = (tree e (e.length - 1)).depth := by
  have := deeps_tree e h (e.length - 1) (by omega)
  unfold depthM
  rw [List.getLastD_eq_getLast?, List.getLast?_eq_getElem?, deeps_len, this]; rfl
def ds (e : List Nd) : Nat → Nat → List Nat
  | 0, _ => []
  | f + 1, i => ((kidsM (e.getD i default)).flatMap fun k => ds e f k.toNat) ++ [i]
def desc (e : List Nd) (i : Nat) : List Nat := ds e (i + 1) i
theorem getD_of {e : List Nd} {i : Nat} {n : Nd} (hn : e[i]? = some n) : e.getD i default = n := by simp [List.getD, hn]
theorem of_getD {e : List Nd} {i : Nat} (hi : i < e.length) : e[i]? = some (e.getD i default) := by simp [List.getD, List.getElem?_eq_getElem hi]
theorem ds_fuel {e : List Nd} (h : Ahead e) : ∀ (f g i : Nat), i < f → i < g → i < e.length → ds e f i = ds e g i := by
  intro f
  induction f with
  | zero => intro g i hf; omega
  | succ f ih =>
    intro g i hf hg hi
    cases g with
    | zero => omega
    | succ g =>
      simp only [ds]
      congr 1
      rw [List.flatMap_def, List.flatMap_def]
      congr 1
      apply List.map_congr_left
      intro k hk
      have := h i _ (of_getD hi) k hk
      exact ih g k.toNat (by omega) (by omega) (by omega)
theorem desc_eq {e : List Nd} (h : Ahead e) {i : Nat} {n : Nd} (hn : e[i]? = some n) : desc e i = ((kidsM n).flatMap fun k => desc e k.toNat) ++ [i] := by
  have hi : i < e.length := (List.getElem?_eq_some_iff.1 hn).1
  unfold desc
  rw [ds, getD_of hn, List.flatMap_def, List.flatMap_def]
  congr 2
  apply List.map_congr_left
  intro k hk
  have := h i _ hn k hk
  exact ds_fuel h _ _ _ (by omega) (by omega) (by omega)
theorem desc_le {e : List Nd} (h : Ahead e) : ∀ i, i < e.length → ∀ x ∈ desc e i, x ≤ i := by
  intro i
  induction i using Nat.strongRecOn with
  | ind i ih =>
    intro hi x hx
    rw [desc_eq h (of_getD hi)] at hx
    rw [List.mem_append, List.mem_flatMap] at hx
    rcases hx with ⟨k, hk, hx⟩ | hx
    · have := h i _ (of_getD hi) k hk
      have := ih k.toNat (by omega) (by omega) x hx
      omega
    · simp at hx; omega
theorem desc_self {e : List Nd} (h : Ahead e) {i : Nat} (hi : i < e.length) : i ∈ desc e i := by
  rw [desc_eq h (of_getD hi)]; simp
theorem desc_kid {e : List Nd} (h : Ahead e) {i : Nat} {n : Nd} (hn : e[i]? = some n) {k : Int} (hk : k ∈ kidsM n) {x : Nat} (hx : x ∈ desc e k.toNat) : x ∈ desc e i := by
  rw [desc_eq h hn, List.mem_append, List.mem_flatMap]; exact .inl ⟨k, hk, hx⟩
theorem desc_up {e : List Nd} (h : Ahead e) : ∀ i, i < e.length → ∀ x ∈ desc e i, x ≠ i → ∃ y n, y ∈ desc e i ∧ e[y]? = some n ∧ (x : Int) ∈ kidsM n ∧ x < y := by
  intro i
  induction i using Nat.strongRecOn with
  | ind i ih =>
    intro hi x hx hne
    have hn := of_getD hi
    rw [desc_eq h hn, List.mem_append, List.mem_flatMap] at hx
    rcases hx with ⟨k, hk, hx⟩ | hx
    · have hki := h i _ hn k hk
      by_cases hxk : x = k.toNat
      · exact ⟨i, _, desc_self h hi, hn, by rw [hxk, Int.toNat_of_nonneg hki.1]; exact hk, by omega⟩
      · obtain ⟨y, n, hy, h1, h2, h3⟩ := ih k.toNat (by omega) (by omega) x hx hxk
        exact ⟨y, n, desc_kid h hn hk hy, h1, h2, h3⟩
    · simp at hx; omega
def Once (e : List Nd) : Prop := ∀ j, usesM e j ≤ 1
theorem count_flatMap_get {α : Type} (f : α → List Int) (x : Int) : ∀ (l : List α) (i : Nat) (a : α), l[i]? = some a → (f a).count x ≤ (l.flatMap f).count x := by
  intro l
  induction l with
  | nil => intro i a h; simp at h
  | cons b r ih =>
    intro i a h
    rw [List.flatMap_cons, List.count_append]
    cases i with
    | zero => simp at h; subst h; omega
    | succ i => have := ih i a (by simpa using h); omega
theorem count_flatMap_two {α : Type} (f : α → List Int) (x : Int) : ∀ (l : List α) (i j : Nat) (a b : α), i < j → l[i]? = some a → l[j]? = some b → (f a).count x + (f b).count x ≤ (l.flatMap f).count x := by
  intro l
  induction l with
  | nil => intro i j a b _ h; simp at h
  | cons c r ih =>
    intro i j a b hij h h'
    rw [List.flatMap_cons, List.count_append]
    cases j with
    | zero => omega
    | succ j =>
      cases i with
      | zero =>
        simp at h; subst h
        have := count_flatMap_get f x r j b (by simpa using h')
        omega
      | succ i => have := ih i j a b (by omega) (by simpa using h) (by simpa using h'); omega
theorem once_parent {e : List Nd} (ho : Once e) {x y z : Nat} {n m : Nd} (hn : e[y]? = some n) (hm : e[z]? = some m) (h1 : (x : Int) ∈ kidsM n) (h2 : (x : Int) ∈ kidsM m) : y = z := by
  have c1 : 1 ≤ (kidsM n).count (x : Int) := List.one_le_count_iff.2 h1
  have c2 : 1 ≤ (kidsM m).count (x : Int) := List.one_le_count_iff.2 h2
  have := ho x
  unfold usesM at this
  rcases Nat.lt_trichotomy y z with h | h | h
  · have := count_flatMap_two kidsM (x : Int) e y z n m h hn hm; omega
  · exact h
  · have := count_flatMap_two kidsM (x : Int) e z y m n h hm hn; omega
theorem once_nodup {e : List Nd} (ho : Once e) (h : Ahead e) {i : Nat} {n : Nd} (hn : e[i]? = some n) : (kidsM n).Nodup := by
  rw [List.nodup_iff_count]
  intro k
  by_cases hk : k ∈ kidsM n
  · have hk2 := h i n hn k hk
    have := count_flatMap_get kidsM k e i n hn
    have h2 := ho k.toNat
    unfold usesM at h2
    rw [Int.toNat_of_nonneg hk2.1] at h2
    omega
  · rw [List.count_eq_zero_of_not_mem hk]; omega
theorem apart {e : List Nd} (ho : Once e) (h : Ahead e) {i : Nat} {n : Nd} (hn : e[i]? = some n) {k1 k2 : Int} (h1 : k1 ∈ kidsM n) (h2 : k2 ∈ kidsM n) (hne : k1 ≠ k2) :
    ∀ x, x ∈ desc e k1.toNat → x ∈ desc e k2.toNat → False := by
  have hi : i < e.length := (List.getElem?_eq_some_iff.1 hn).1
  have a1 := h i n hn k1 h1
  have a2 := h i n hn k2 h2
  have key : ∀ d x, k1.toNat - x ≤ d → x ∈ desc e k1.toNat → x ∈ desc e k2.toNat → False := by
    intro d
    induction d with
    | zero =>
      intro x hd hx1 hx2
      have l1 := desc_le h _ (by omega) x hx1
      have : x = k1.toNat := by omega
      subst this
      have hx : k1.toNat ≠ k2.toNat := by omega
      obtain ⟨y, m, hy, hm, hk, hl⟩ := desc_up h _ (by omega) _ hx2 hx
      have := once_parent ho hn hm (x := k1.toNat) (by rw [Int.toNat_of_nonneg a1.1]; exact h1) hk
      subst this
      have := desc_le h _ (by omega) _ hy
      omega
    | succ d ih =>
      intro x hd hx1 hx2
      by_cases e1 : x = k1.toNat
      · exact ih x (by omega) hx1 hx2
      by_cases e2 : x = k2.toNat
      · subst e2
        obtain ⟨y, m, hy, hm, hk, hl⟩ := desc_up h _ (by omega) _ hx1 (by omega)
        have := once_parent ho hn hm (x := k2.toNat) (by rw [Int.toNat_of_nonneg a2.1]; exact h2) hk
        subst this
        have := desc_le h _ (by omega) _ hy
        omega
      · obtain ⟨y, m, hy, hm, hk, hl⟩ := desc_up h _ (by omega) _ hx1 e1
        obtain ⟨z, m', hz, hm', hk', hl'⟩ := desc_up h _ (by omega) _ hx2 e2
        have := once_parent ho hm hm' hk hk'
        subst this
        have l1 := desc_le h _ (by omega) y hy
        exact ih y (by omega) hy hz
  exact fun x hx hy => key _ x (Nat.le_refl _) hx hy
theorem desc_size {e : List Nd} (h : Ahead e) : ∀ i, i < e.length → (desc e i).length = (tree e i).size := by
  intro i
  induction i using Nat.strongRecOn with
  | ind i ih =>
    intro hi
    have hn := of_getD hi
    rw [desc_eq h hn, tree_eq h hn, mkT_size _ _ (by rw [List.length_map]; exact kids_small _), List.length_append, List.length_flatMap, List.map_map]
    congr 1
    congr 1
    apply List.map_congr_left
    intro k hk
    have := h i _ hn k hk
    exact ih k.toNat (by omega) (by omega)
theorem desc_nodup {e : List Nd} (ho : Once e) (h : Ahead e) : ∀ i, i < e.length → (desc e i).Nodup := by
  intro i
  induction i using Nat.strongRecOn with
  | ind i ih =>
    intro hi
    have hn := of_getD hi
    rw [desc_eq h hn, List.nodup_append]
    refine ⟨?_, by simp, ?_⟩
    · unfold List.Nodup; rw [List.flatMap_def, List.pairwise_flatten]
      refine ⟨?_, ?_⟩
      · intro l hl
        rw [List.mem_map] at hl
        obtain ⟨k, hk, rfl⟩ := hl
        have := h i _ hn k hk
        exact ih k.toNat (by omega) (by omega)
      · rw [List.pairwise_map]
        refine List.Pairwise.imp_of_mem ?_ (once_nodup ho h hn)
        intro a b ha hb hab x hx y hy hxy
        subst hxy
        exact apart ho h hn ha hb hab x hx hy
    · intro a ha b hb hab
      simp at hb
      subst hab
      subst hb
      rw [List.mem_flatMap] at ha
      obtain ⟨k, hk, hx⟩ := ha
      have := h _ _ hn k hk
      have := desc_le h k.toNat (by omega) _ hx
      omega
theorem May.once {e : List Nd} (h : May e) : Once e := by
  intro j
  by_cases hj : j + 1 < e.length
  · rw [h.uses j hj]; omega
  · unfold usesM
    rw [List.count_eq_zero_of_not_mem]
    · omega
    · intro hm
      rw [List.mem_flatMap] at hm
      obtain ⟨n, hn, hk⟩ := hm
      obtain ⟨i, hi⟩ := List.mem_iff_getElem?.1 hn
      have := h.ahead i n hi _ hk
      have := (List.getElem?_eq_some_iff.1 hi).1
      omega
theorem May.all {e : List Nd} (h : May e) : ∀ d j, e.length - 1 - j ≤ d → j < e.length → j ∈ desc e (e.length - 1) := by
  intro d
  have hp := h.pos
  induction d with
  | zero => intro j hd hj; have : j = e.length - 1 := by omega
            rw [this]; exact desc_self h.ahead (by omega)
  | succ d ih =>
    intro j hd hj
    by_cases he : j + 1 < e.length
    · have hu := h.uses j he
      unfold usesM at hu
      have hm : (j : Int) ∈ e.flatMap kidsM := List.one_le_count_iff.1 (by omega)
      rw [List.mem_flatMap] at hm
      obtain ⟨n, hn, hk⟩ := hm
      obtain ⟨i, hi⟩ := List.mem_iff_getElem?.1 hn
      have ha := h.ahead i n hi _ hk
      have hil := (List.getElem?_eq_some_iff.1 hi).1
      have hy := ih i (by omega) hil
      -- the operands of what stands in a node stand there, too
      have key : ∀ r, r < e.length → ∀ y ∈ desc e r, ∀ m, e[y]? = some m → ∀ k ∈ kidsM m, k.toNat ∈ desc e r := by
        intro r
        induction r using Nat.strongRecOn with
        | ind r ihr =>
          intro hr y hy m hm k hk
          have hrn := of_getD hr
          have hy' := hy
          rw [desc_eq h.ahead hrn, List.mem_append, List.mem_flatMap] at hy'
          rcases hy' with ⟨k', hk', hy'⟩ | hy'
          · have := h.ahead r _ hrn k' hk'
            exact desc_kid h.ahead hrn hk' (ihr k'.toNat (by omega) (by omega) y hy' m hm k hk)
          · simp at hy'; subst hy'
            have hkr := h.ahead y m hm k hk
            exact desc_kid h.ahead hm hk (desc_self h.ahead (by omega))
      have := key _ (by omega) i hy n hi _ hk
      simpa using this
    · have : j = e.length - 1 := by omega
      rw [this]; exact desc_self h.ahead (by omega)
theorem nodup_le : ∀ (n : Nat) (l : List Nat), l.Nodup → (∀ x ∈ l, x < n) → l.length ≤ n := by
  intro n
  induction n with
  | zero => intro l _ h; cases l with
    | nil => simp
    | cons a r => have := h a (by simp); omega
  | succ n ih =>
    intro l hn h
    have e := List.length_eq_countP_add_countP (fun x => x != n) (l := l)
    have e1 : l.countP (fun x => x != n) = (l.filter (fun x => x != n)).length := List.countP_eq_length_filter
    have e2 : l.countP (fun x => decide ¬(x != n) = true) = l.count n := by
      unfold List.count; congr 1; funext x; by_cases hx : x = n <;> simp [hx]
    have := ih (l.filter (fun x => x != n)) (hn.filter _) (fun x hx => by
      rw [List.mem_filter] at hx; have := h x hx.1; have := hx.2; simp at this; omega)
    have := List.nodup_iff_count.1 hn n
    omega
theorem range_le : ∀ (n : Nat) (l : List Nat), (∀ x, x < n → x ∈ l) → n ≤ l.length := by
  intro n
  induction n with
  | zero => intro l _; omega
  | succ n ih =>
    intro l h
    have e := List.length_eq_countP_add_countP (fun x => x != n) (l := l)
    have e1 : l.countP (fun x => x != n) = (l.filter (fun x => x != n)).length := List.countP_eq_length_filter
    have e2 : l.countP (fun x => decide ¬(x != n) = true) = l.count n := by
      unfold List.count; congr 1; funext x; by_cases hx : x = n <;> simp [hx]
    have := ih (l.filter (fun x => x != n)) (fun x hx => by
      rw [List.mem_filter]; exact ⟨h x (by omega), by simp; omega⟩)
    have := List.one_le_count_iff.2 (h n (by omega))
    omega
theorem May.size {e : List Nd} (h : May e) : (tree e (e.length - 1)).size = e.length := by
  have hp := h.pos
  rw [← desc_size h.ahead _ (by omega)]
  have hnd := desc_nodup h.once h.ahead (e.length - 1) (by omega)
  have l1 := nodup_le e.length _ hnd (fun x hx => by have := desc_le h.ahead _ (by omega) x hx; omega)
  have l2 := range_le e.length (desc e (e.length - 1)) (fun x hx => h.all _ x (Nat.le_refl _) hx)
  omega
def argsT (op : Int) (l : List T) : Bool := argsL op (l.map (·.lab.op))
def T.okB : T → Bool
  | .l0 x => plainB x && fitsB x.op 0
  | .l1 x p => plainB x && fitsB x.op 1 && argsT x.op [p] && p.okB
  | .l2 x p q => plainB x && fitsB x.op 2 && argsT x.op [p, q] && p.okB && q.okB
  | .l3 x p q r => plainB x && fitsB x.op 3 && argsT x.op [p, q, r] && p.okB && q.okB && r.okB
theorem mkT_ok (x : Lab) (l : List T) (h : l.length ≤ 3) (h1 : plainB x = true) (h2 : fitsB x.op l.length = true) (h3 : argsT x.op l = true) (h4 : ∀ t ∈ l, t.okB = true) : (mkT x l).okB = true := by
  match l, h with
  | [], _ => simp only [mkT, T.okB, h1, Bool.true_and]; exact h2
  | [p], _ => simp only [mkT, T.okB, h1, Bool.true_and, h3, h4 p (by simp), Bool.and_true]; exact h2
  | [p, q], _ => simp only [mkT, T.okB, h1, Bool.true_and, h3, h4 p (by simp), h4 q (by simp), Bool.and_true]; exact h2
  | [p, q, r], _ => simp only [mkT, T.okB, h1, Bool.true_and, h3, h4 p (by simp), h4 q (by simp), h4 r (by simp), Bool.and_true]; exact h2
theorem May.ok {e : List Nd} (h : May e) : ∀ i, i < e.length → (tree e i).okB = true := by
  intro i
  induction i using Nat.strongRecOn with
  | ind i ih =>
    intro hi
    have hn := of_getD hi
    have g := h.node i _ hn
    rw [tree_eq h.ahead hn]
    apply mkT_ok
    · rw [List.length_map]; exact kids_small _
    · exact g.plain
    · rw [List.length_map]; exact fits_kids _
    · unfold argsT
      rw [List.map_map]
      have e1 : (kidsM (e.getD i default)).map ((fun t : T => t.lab.op) ∘ fun k => tree e k.toNat) = (kidsM (e.getD i default)).map (opAt e) := by
        apply List.map_congr_left
        intro k hk
        have := g.ahead k hk
        exact tree_op h.ahead (by omega)
      rw [e1]; exact g.args
    · intro t ht
      rw [List.mem_map] at ht
      obtain ⟨k, hk, rfl⟩ := ht
      have := g.ahead k hk
      exact ih k.toNat (by omega) (by omega)
def root (e : List Nd) : T := tree e (e.length - 1)
theorem May.root_ok {e : List Nd} (h : May e) : (root e).okB = true := h.ok _ (by have := h.pos; omega)
theorem May.root_depth {e : List Nd} (h : May e) : (root e).depth = depthM e := (depth_tree h.ahead h.pos).symm
theorem May.root_lab {e : List Nd} (h : May e) : (root e).lab.op ≠ 28 := by
  unfold root
  rw [tree_op h.ahead (by have := h.pos; omega)]; exact h.last
def Seg (e : List Nd) (b : Nat) (s : List Nd) : Prop := ∀ j x, s[j]? = some x → e[b + j]? = some x
theorem Seg.left {e : List Nd} {b : Nat} {s t : List Nd} (h : Seg e b (s ++ t)) : Seg e b s := fun j x hj => h j x (by
  rw [List.getElem?_append_left (List.getElem?_eq_some_iff.1 hj).1]; exact hj)
theorem Seg.right {e : List Nd} {b : Nat} {s t : List Nd} (h : Seg e b (s ++ t)) : Seg e (b + s.length) t := fun j x hj => by
  have := h (s.length + j) x (by rw [List.getElem?_append_right (by omega), Nat.add_sub_cancel_left]; exact hj)
  rw [Nat.add_assoc]; exact this
theorem Seg.self (e : List Nd) : Seg e 0 e := fun j x hj => by rw [Nat.zero_add]; exact hj
theorem okB_fits (t : T) (h : t.okB = true) : fitsB t.lab.op t.kids.length = true := by
  cases t <;> simp only [T.okB, Bool.and_eq_true] at h
  · exact h.2
  · exact h.1.1.2
  · exact h.1.1.1.2
  · exact h.1.1.1.1.2
theorem tr_flat {e : List Nd} (t : T) : ∀ (b f : Nat), t.okB = true → Seg e b (t.flat b) → b + t.size - 1 < f → tr e f (b + t.size - 1) = t := by
  induction t with
  | l0 x =>
    intro b f ho hs hf
    cases f with
    | zero => omega
    | succ f =>
      have hn : e[b]? = some (mkL x []) := hs 0 _ rfl
      have hfit : fitsB x.op 0 = true := okB_fits _ ho
      show tr e (f + 1) (b + 1 - 1) = _
      rw [Nat.add_sub_cancel, tr, getD_of hn, mkL_lab, kids_mkL x [] hfit (by simp)]; rfl
  | l1 x p ih =>
    intro b f ho hs hf
    have hp := p.size_pos
    have hfit : fitsB x.op 1 = true := okB_fits _ ho
    simp only [T.okB, Bool.and_eq_true] at ho
    simp only [T.size] at hf ⊢
    cases f with
    | zero => omega
    | succ f =>
      have hs1 := hs.left
      have hs2 := hs.right
      rw [T.flat_len] at hs2
      have hn : e[b + (p.size + 1) - 1]? = some (mkL x [((b + p.size - 1 : Nat) : Int)]) := hs2 0 _ rfl
      rw [tr, getD_of hn, mkL_lab, kids_mkL x [_] hfit (by intro k hk; simp at hk; omega)]
      simp only [List.map_cons, List.map_nil, Int.toNat_natCast, mkT]
      rw [ih b f ho.2 hs1 (by omega)]
  | l2 x p q ih1 ih2 =>
    intro b f ho hs hf
    have hp := p.size_pos
    have hq := q.size_pos
    have hfit : fitsB x.op 2 = true := okB_fits _ ho
    simp only [T.okB, Bool.and_eq_true] at ho
    simp only [T.size] at hf ⊢
    cases f with
    | zero => omega
    | succ f =>
      have hs1 := hs.left.left
      have hs2 := hs.left.right
      have hs3 := hs.right
      rw [T.flat_len] at hs2
      rw [List.length_append, T.flat_len, T.flat_len] at hs3
      have hn : e[b + (p.size + q.size + 1) - 1]? = some (mkL x [((b + p.size - 1 : Nat) : Int), ((b + p.size + q.size - 1 : Nat) : Int)]) := hs3 0 _ rfl
      rw [tr, getD_of hn, mkL_lab, kids_mkL x [_, _] hfit (by intro k hk; simp at hk; omega)]
      simp only [List.map_cons, List.map_nil, Int.toNat_natCast, mkT]
      rw [ih1 b f ho.1.2 hs1 (by omega), ih2 (b + p.size) f ho.2 hs2 (by omega)]
  | l3 x p q r ih1 ih2 ih3 =>
    intro b f ho hs hf
    have hp := p.size_pos
    have hq := q.size_pos
    have hr := r.size_pos
    have hfit : fitsB x.op 3 = true := okB_fits _ ho
    simp only [T.okB, Bool.and_eq_true] at ho
    simp only [T.size] at hf ⊢
    cases f with
    | zero => omega
    | succ f =>
      have hs1 := hs.left.left.left
      have hs2 := hs.left.left.right
      have hs3 := hs.left.right
      have hs4 := hs.right
      rw [T.flat_len] at hs2
      rw [List.length_append, T.flat_len, T.flat_len] at hs3
      rw [List.length_append, List.length_append, T.flat_len, T.flat_len, T.flat_len] at hs4
      have hn : e[b + (p.size + q.size + r.size + 1) - 1]? = some (mkL x [((b + p.size - 1 : Nat) : Int), ((b + p.size + q.size - 1 : Nat) : Int), ((b + p.size + q.size + r.size - 1 : Nat) : Int)]) := hs4 0 _ rfl
      rw [tr, getD_of hn, mkL_lab, kids_mkL x [_, _, _] hfit (by intro k hk; simp at hk; omega)]
      simp only [List.map_cons, List.map_nil, Int.toNat_natCast, mkT]
      rw [ih1 b f ho.1.1.2 hs1 (by omega), ih2 (b + p.size) f ho.1.2 hs2 (by omega), ih3 (b + p.size + q.size) f ho.2 (by rw [← Nat.add_assoc] at hs3; exact hs3) (by omega)]
theorem root_flat (t : T) (h : t.okB = true) : root (t.flat 0) = t := by
  unfold root tree
  have := t.size_pos
  rw [T.flat_len]
  have := tr_flat (e := t.flat 0) t 0 (t.size - 1 + 1) h (Seg.self _) (by omega)
  rw [Nat.zero_add] at this; exact this
theorem good_mk {e : List Nd} {i : Nat} {x : Lab} {l : List Int} (hp : plainB x = true) (hf : fitsB x.op l.length = true) (hl : ∀ k ∈ l, 0 ≤ k ∧ k < i) (ha : argsL x.op (l.map (opAt e)) = true) : Good e i (mkL x l) := by
  have hk : kidsM (mkL x l) = l := kids_mkL x l hf (fun k hk => by have := hl k hk; omega)
  refine ⟨by rw [mkL_lab]; exact hp, by rw [mkL_lab, hk], by rw [hk]; exact hl, ?_⟩
  rw [hk, mkL_op]; exact ha
theorem flat_last (t : T) : ∀ b, ∃ l, (t.flat b)[t.size - 1]? = some (mkL t.lab l) := by
  intro b
  cases t with
  | l0 x => exact ⟨[], rfl⟩
  | l1 x p => exact ⟨_, by simp only [T.flat, T.size, T.lab]; rw [List.getElem?_append_right (by rw [T.flat_len]; omega), T.flat_len]; simp; rfl⟩
  | l2 x p q => exact ⟨_, by simp only [T.flat, T.size, T.lab]; rw [List.getElem?_append_right (by simp [T.flat_len])]; simp [T.flat_len]; rfl⟩
  | l3 x p q r => exact ⟨_, by simp only [T.flat, T.size, T.lab]; rw [List.getElem?_append_right (by simp [T.flat_len]; omega)]; rw [show p.size + q.size + r.size + 1 - 1 - (p.flat b ++ q.flat (b + p.size) ++ r.flat (b + p.size + q.size)).length = 0 from by simp [T.flat_len]; omega]; rfl⟩
theorem seg_op {e : List Nd} {t : T} {b : Nat} (h : Seg e b (t.flat b)) : opAt e ((b + t.size - 1 : Nat) : Int) = t.lab.op := by
  obtain ⟨l, hl⟩ := flat_last t b
  have := h _ _ hl
  have hp := t.size_pos
  unfold opAt
  rw [Int.toNat_natCast, getD_of (n := mkL t.lab l) (by rw [← this]; congr 1; omega), mkL_op]
theorem good_flat {e : List Nd} (t : T) : ∀ b, t.okB = true → Seg e b (t.flat b) → ∀ j x, (t.flat b)[j]? = some x → Good e (b + j) x := by
  induction t with
  | l0 x =>
    intro b ho hs j y hj
    have hfit : fitsB x.op 0 = true := okB_fits _ ho
    simp only [T.okB, Bool.and_eq_true] at ho
    cases j with
    | zero => simp [T.flat] at hj; subst hj; exact good_mk ho.1 hfit (by simp) (by rfl)
    | succ j => simp [T.flat] at hj
  | l1 x p ih =>
    intro b ho hs j y hj
    have hfit : fitsB x.op 1 = true := okB_fits _ ho
    have hp := p.size_pos
    simp only [T.okB, Bool.and_eq_true] at ho
    have hs1 := hs.left
    simp only [T.flat] at hj
    by_cases hlt : j < p.size
    · rw [List.getElem?_append_left (by rw [T.flat_len]; exact hlt)] at hj
      exact ih b ho.2 hs1 j y hj
    · rw [List.getElem?_append_right (by rw [T.flat_len]; omega), T.flat_len] at hj
      have hj' : j - p.size = 0 := by have := (List.getElem?_eq_some_iff.1 hj).1; simp at this; omega
      rw [hj'] at hj; simp at hj; subst hj
      refine good_mk ho.1.1.1 hfit (by intro k hk; simp at hk; omega) ?_
      simp only [List.map_cons, List.map_nil]
      rw [seg_op hs1]; exact ho.1.2
  | l2 x p q ih1 ih2 =>
    intro b ho hs j y hj
    have hfit : fitsB x.op 2 = true := okB_fits _ ho
    have hp := p.size_pos
    have hq := q.size_pos
    simp only [T.okB, Bool.and_eq_true] at ho
    have hs1 := hs.left.left
    have hs2 := hs.left.right
    rw [T.flat_len] at hs2
    simp only [T.flat] at hj
    by_cases hlt : j < p.size
    · rw [List.append_assoc, List.getElem?_append_left (by rw [T.flat_len]; exact hlt)] at hj
      exact ih1 b ho.1.2 hs1 j y hj
    by_cases hlt2 : j < p.size + q.size
    · rw [List.append_assoc, List.getElem?_append_right (by rw [T.flat_len]; omega), T.flat_len, List.getElem?_append_left (by rw [T.flat_len]; omega)] at hj
      have := ih2 (b + p.size) ho.2 hs2 _ y hj
      rwa [show b + p.size + (j - p.size) = b + j by omega] at this
    · rw [List.getElem?_append_right (by simp [T.flat_len]; omega)] at hj
      have hj' : j - (p.flat b ++ q.flat (b + p.size)).length = 0 := by have := (List.getElem?_eq_some_iff.1 hj).1; simp at this ⊢; omega
      rw [hj'] at hj; simp at hj; subst hj
      have hjl : j = p.size + q.size := by simp [T.flat_len] at hj'; omega
      refine good_mk ho.1.1.1.1 hfit (by intro k hk; simp at hk; omega) ?_
      simp only [List.map_cons, List.map_nil]
      rw [seg_op hs1, seg_op hs2]; exact ho.1.1.2
  | l3 x p q r ih1 ih2 ih3 =>
    intro b ho hs j y hj
    have hfit : fitsB x.op 3 = true := okB_fits _ ho
    have hp := p.size_pos
    have hq := q.size_pos
    have hr := r.size_pos
    simp only [T.okB, Bool.and_eq_true] at ho
    have hs1 := hs.left.left.left
    have hs2 := hs.left.left.right
    have hs3 := hs.left.right
    rw [T.flat_len] at hs2
    rw [List.length_append, T.flat_len, T.flat_len, ← Nat.add_assoc] at hs3
    simp only [T.flat] at hj
    by_cases hlt : j < p.size
    · rw [List.append_assoc, List.append_assoc, List.getElem?_append_left (by rw [T.flat_len]; exact hlt)] at hj
      exact ih1 b ho.1.1.2 hs1 j y hj
    by_cases hlt2 : j < p.size + q.size
    · rw [List.append_assoc, List.append_assoc, List.getElem?_append_right (by rw [T.flat_len]; omega), T.flat_len, List.getElem?_append_left (by rw [T.flat_len]; omega)] at hj
      have := ih2 (b + p.size) ho.1.2 hs2 _ y hj
      rwa [show b + p.size + (j - p.size) = b + j by omega] at this
    by_cases hlt3 : j < p.size + q.size + r.size
    · rw [List.append_assoc, List.getElem?_append_right (by simp [T.flat_len]; omega), List.getElem?_append_left (by simp [T.flat_len]; omega)] at hj
      have := ih3 (b + p.size + q.size) ho.2 hs3 _ y hj
      rwa [show b + p.size + q.size + (j - (p.flat b ++ q.flat (b + p.size)).length) = b + j by simp [T.flat_len]; omega] at this
    · rw [List.getElem?_append_right (by simp [T.flat_len]; omega)] at hj
      have hj' : j - (p.flat b ++ q.flat (b + p.size) ++ r.flat (b + p.size + q.size)).length = 0 := by have := (List.getElem?_eq_some_iff.1 hj).1; simp at this ⊢; omega
      rw [hj'] at hj; simp at hj; subst hj
      have hjl : j = p.size + q.size + r.size := by simp [T.flat_len] at hj'; omega
      refine good_mk ho.1.1.1.1.1 hfit (by intro k hk; simp at hk; omega) ?_
      simp only [List.map_cons, List.map_nil]
      rw [seg_op hs1, seg_op hs2, seg_op hs3]; exact ho.1.1.1.2
theorem uses_flat (t : T) : ∀ b j : Nat, t.okB = true → ((t.flat b).flatMap kidsM).count (j : Int) = if b ≤ j ∧ j + 1 < b + t.size then 1 else 0 := by
  induction t with
  | l0 x =>
    intro b j ho
    have hfit : fitsB x.op 0 = true := okB_fits _ ho
    simp only [T.flat, List.flatMap_cons, List.flatMap_nil]
    rw [kids_mkL x [] hfit (by simp), if_neg (by simp only [T.size]; omega)]; rfl
  | l1 x p ih =>
    intro b j ho
    have hfit : fitsB x.op 1 = true := okB_fits _ ho
    have hp := p.size_pos
    simp only [T.okB, Bool.and_eq_true] at ho
    simp only [T.flat, List.flatMap_append, List.flatMap_cons, List.flatMap_nil, List.append_nil, List.count_append, T.size]
    rw [kids_mkL x [_] hfit (by intro k hk; simp at hk; omega), ih b j ho.2]
    simp only [List.count_cons, List.count_nil, beq_iff_eq]
    by_cases h1 : b ≤ j ∧ j + 1 < b + p.size <;> by_cases h2 : ((b + p.size - 1 : Nat) : Int) = (j : Int) <;> by_cases h3 : b ≤ j ∧ j + 1 < b + (p.size + 1) <;> simp [h1, h2, h3] <;> omega
  | l2 x p q ih1 ih2 =>
    intro b j ho
    have hfit : fitsB x.op 2 = true := okB_fits _ ho
    have hp := p.size_pos
    have hq := q.size_pos
    simp only [T.okB, Bool.and_eq_true] at ho
    simp only [T.flat, List.flatMap_append, List.flatMap_cons, List.flatMap_nil, List.append_nil, List.count_append, T.size]
    rw [kids_mkL x [_, _] hfit (by intro k hk; simp at hk; omega), ih1 b j ho.1.2, ih2 (b + p.size) j ho.2]
    simp only [List.count_cons, List.count_nil, beq_iff_eq]
    by_cases h1 : b ≤ j ∧ j + 1 < b + p.size <;> by_cases h2 : b + p.size ≤ j ∧ j + 1 < b + p.size + q.size <;> by_cases h3 : ((b + p.size - 1 : Nat) : Int) = (j : Int) <;> by_cases h4 : ((b + p.size + q.size - 1 : Nat) : Int) = (j : Int) <;>
      by_cases h5 : b ≤ j ∧ j + 1 < b + (p.size + q.size + 1) <;> simp [h1, h2, h3, h4, h5] <;> omega
  | l3 x p q r ih1 ih2 ih3 =>
    intro b j ho
    have hfit : fitsB x.op 3 = true := okB_fits _ ho
    have hp := p.size_pos
    have hq := q.size_pos
    have hr := r.size_pos
    simp only [T.okB, Bool.and_eq_true] at ho
    rw [show (T.l3 x p q r).size = p.size + q.size + r.size + 1 from rfl]
    simp only [T.flat, List.flatMap_append, List.flatMap_cons, List.flatMap_nil, List.append_nil, List.count_append]
    rw [kids_mkL x [_, _, _] hfit (by intro k hk; simp at hk; omega), ih1 b j ho.1.1.2, ih2 (b + p.size) j ho.1.2, ih3 (b + p.size + q.size) j ho.2]
    simp only [List.count_cons, List.count_nil, beq_iff_eq]
    split <;> split <;> split <;> split <;> split <;> split <;> split <;> omega
theorem may_flat (t : T) (h : t.okB = true) (hr : t.lab.op ≠ 28) (hs : t.size ≤ 5000) (hd : t.depth ≤ 40) : May (t.flat 0) := by
  have hp := t.size_pos
  have hg : ∀ i x, (t.flat 0)[i]? = some x → Good (t.flat 0) i x := fun i x hx => by
    have := good_flat (e := t.flat 0) t 0 h (Seg.self _) i x hx
    rwa [Nat.zero_add] at this
  have ha : Ahead (t.flat 0) := fun i n hn => (hg i n hn).ahead
  refine ⟨by rw [T.flat_len]; exact hp, by rw [T.flat_len]; exact hs, hg, ?_, ?_, ?_⟩
  · intro j hj
    rw [T.flat_len] at hj
    unfold usesM
    rw [uses_flat t 0 j h, if_pos (by omega)]
  · have := seg_op (e := t.flat 0) (t := t) (b := 0) (Seg.self _)
    unfold opAt at this
    rw [Int.toNat_natCast, Nat.zero_add] at this
    rw [T.flat_len, this]; exact hr
  · rw [depth_tree ha (by rw [T.flat_len]; exact hp)]
    have := root_flat t h
    unfold root at this
    rw [this]; exact hd
def normM (e : List Nd) : List Nd := (root e).flat 0
theorem May.norm {e : List Nd} (h : May e) : May (normM e) :=
  may_flat _ h.root_ok h.root_lab (by unfold root; rw [h.size]; exact h.le) (by rw [h.root_depth]; exact h.deep)
theorem May.root_norm {e : List Nd} (h : May e) : root (normM e) = root e := root_flat _ h.root_ok
end Go.Proofs.YtobkcdkffcenbaaGreatDoor.Tr
namespace Go.Proofs.YtobkcdkffcenbaaGreatDoor.Tr
open Go.ChangeShapes Go.WideShapes Go.ChangeAt Go.RowKit
theorem ret_bool {a b : Bool} (h : a = b) : Ending.returned (.bool a) = .returned (.bool b) := by rw [h]
theorem ret_int {k : IntKind} {a b : Int} (h : a = b) : Ending.returned (.int k a) = .returned (.int k b) := by rw [h]
def str (l : Bytes) : ByteArray := ⟨l.toArray⟩
theorem str_toList (l : Bytes) : (str l).toList = l := by unfold str; rw [ByteArray.toList_eq]
theorem str_size (l : Bytes) : (str l).size = l.length := by show l.toArray.size = _; simp
theorem ext_toList {a b : ByteArray} (h : a.toList = b.toList) : a = b := by
  rw [ByteArray.toList_eq, ByteArray.toList_eq] at h
  obtain ⟨⟨a⟩⟩ := a; obtain ⟨⟨b⟩⟩ := b
  simp at h; rw [h]
theorem str_of (s : ByteArray) : str s.toList = s := ext_toList (str_toList _)
theorem info3 : (Tryz.prog.info? 3).map (fun i => (i.zero, i.size, i.bytes)) = some (some (.int .i64 0), 1, 8) := by kernel_rfl
theorem info30 : (Tryz.prog.info? 70).map (fun i => (i.zero, i.size, i.bytes)) = some (some (.agg #[.int .i64 0, .int .i64 0, .int .i64 0, .int .i64 0, .int .i64 0, .string ⟨#[]⟩]), 6, 56) := by kernel_rfl
def ndCells (x : Nd) : List Value := [.int .i64 x.op, .int .i64 x.a, .int .i64 x.b, .int .i64 x.c, .int .i64 x.n, .string (str x.name)]
def ndsOf (l : List Nd) : List Value := l.flatMap ndCells
def intsOf (l : List Int) : List Value := l.map (.int .i64 ·)
def Nodes (w : World) (v : Value) (l : List Nd) : Prop :=
  ∃ A c, v = .slice A l.length c ∧ l.length ≤ c ∧ c ≤ maxLen ∧ ∀ i x, l[i]? = some x → ∃ g o, A = some ⟨g, o, none⟩ ∧ g < w.heap.size ∧
    w.cell? ⟨g, o + i * 6, none⟩ = some (.int .i64 x.op) ∧ w.cell? ⟨g, o + i * 6 + 1, none⟩ = some (.int .i64 x.a) ∧ w.cell? ⟨g, o + i * 6 + 2, none⟩ = some (.int .i64 x.b) ∧
    w.cell? ⟨g, o + i * 6 + 3, none⟩ = some (.int .i64 x.c) ∧ w.cell? ⟨g, o + i * 6 + 4, none⟩ = some (.int .i64 x.n) ∧ w.cell? ⟨g, o + i * 6 + 5, none⟩ = some (.string (str x.name))
def Ints (w : World) (v : Value) (l : List Int) : Prop :=
  ∃ A c, v = .slice A l.length c ∧ l.length ≤ c ∧ c ≤ maxLen ∧ ∀ i x, l[i]? = some x → ∃ g o, A = some ⟨g, o, none⟩ ∧ g < w.heap.size ∧ w.cell? ⟨g, o + i, none⟩ = some (.int .i64 x)
theorem nds_snoc (l : List Nd) (x : Nd) : ndsOf (l ++ [x]) = ndsOf l ++ ndCells x := by simp [ndsOf]
theorem ints_snoc (l : List Int) (x : Int) : intsOf (l ++ [x]) = intsOf l ++ [.int .i64 x] := by simp [intsOf]
theorem nds_at (l : List Nd) (i : Nat) (x : Nd) (h : l[i]? = some x) (k : Nat) (hk : k < 6) : (ndsOf l)[i * 6 + k]? = (ndCells x)[k]? := by
  induction l generalizing i with
  | nil => simp at h
  | cons a r ih =>
    cases i with
    | zero =>
      simp at h; subst h
      show (ndCells a ++ ndsOf r)[0 * 6 + k]? = _
      rw [List.getElem?_append_left (by simp [ndCells]; omega)]; congr 1; omega
    | succ i =>
      simp at h
      show (ndCells a ++ ndsOf r)[(i + 1) * 6 + k]? = _
      rw [List.getElem?_append_right (by simp [ndCells]; omega), ← ih i h]
      congr 1; simp [ndCells]; omega
theorem Nodes.of_own {w : World} {b : Nat} {v : Value} {l : List Nd} (h : w.ownsRow b 70 6 v l.length (ndsOf l)) : Nodes w v l := by
  obtain ⟨hl, h0 | ⟨g, cap, cur, rfl, hb, hh, hnc, hcm, hcs, hct⟩⟩ := h
  · obtain ⟨rfl, h0⟩ := h0
    have : l = [] := List.length_eq_zero_iff.1 h0
    subst this
    exact ⟨none, 0, rfl, by simp, by unfold maxLen; omega, fun i t h => by simp at h⟩
  · have h : w.ownsRow b 70 6 (.slice (some ⟨g, 0, none⟩) l.length cap) l.length (ndsOf l) := ⟨hl, .inr ⟨g, cap, cur, rfl, hb, hh, hnc, hcm, hcs, hct⟩⟩
    refine ⟨some ⟨g, 0, none⟩, cap, rfl, hnc, hcm, fun i x hi => ⟨g, 0, rfl, lt_of_block hh, ?_⟩⟩
    have hil : i < l.length := (List.getElem?_eq_some_iff.1 hi).1
    have q : ∀ k, k < 6 → w.cell? ⟨g, 0 + i * 6 + k, none⟩ = (ndCells x)[k]? := fun k hk => by
      rw [Nat.zero_add, h.cellAt _ (by omega), nds_at l i x hi k hk]
    exact ⟨q 0 (by omega), q 1 (by omega), q 2 (by omega), q 3 (by omega), q 4 (by omega), q 5 (by omega)⟩
theorem Ints.of_own {w : World} {b : Nat} {v : Value} {l : List Int} (h : w.ownsRow b 3 1 v l.length (intsOf l)) : Ints w v l := by
  obtain ⟨hl, h0 | ⟨g, cap, cur, rfl, hb, hh, hnc, hcm, hcs, hct⟩⟩ := h
  · obtain ⟨rfl, h0⟩ := h0
    have : l = [] := List.length_eq_zero_iff.1 h0
    subst this
    exact ⟨none, 0, rfl, by simp, by unfold maxLen; omega, fun i t h => by simp at h⟩
  · have h : w.ownsRow b 3 1 (.slice (some ⟨g, 0, none⟩) l.length cap) l.length (intsOf l) := ⟨hl, .inr ⟨g, cap, cur, rfl, hb, hh, hnc, hcm, hcs, hct⟩⟩
    refine ⟨some ⟨g, 0, none⟩, cap, rfl, hnc, hcm, fun i x hi => ⟨g, 0, rfl, lt_of_block hh, ?_⟩⟩
    have hil : i < l.length := (List.getElem?_eq_some_iff.1 hi).1
    rw [Nat.zero_add, h.cellAt _ (by omega)]
    unfold intsOf
    rw [List.getElem?_map, hi]; rfl
theorem Nodes.keep {w w' : World} {v : Value} {l : List Nd} (h : Nodes w v l) (hs : w.heap.size ≤ w'.heap.size) (hk : ∀ p : Addr, p.block < w.heap.size → w'.cell? p = w.cell? p) : Nodes w' v l := by
  obtain ⟨A, c, rfl, h1, h2, h3⟩ := h
  refine ⟨A, c, rfl, h1, h2, fun i t hi => ?_⟩
  obtain ⟨g, o, hg, hlt, c0, c1, c2, c3, c4, c5⟩ := h3 i t hi
  exact ⟨g, o, hg, by omega, (hk _ hlt).trans c0, (hk _ hlt).trans c1, (hk _ hlt).trans c2, (hk _ hlt).trans c3, (hk _ hlt).trans c4, (hk _ hlt).trans c5⟩
theorem Ints.keep {w w' : World} {v : Value} {l : List Int} (h : Ints w v l) (hs : w.heap.size ≤ w'.heap.size) (hk : ∀ p : Addr, p.block < w.heap.size → w'.cell? p = w.cell? p) : Ints w' v l := by
  obtain ⟨A, c, rfl, h1, h2, h3⟩ := h
  refine ⟨A, c, rfl, h1, h2, fun i t hi => ?_⟩
  obtain ⟨g, o, hg, hlt, c0⟩ := h3 i t hi
  exact ⟨g, o, hg, by omega, (hk _ hlt).trans c0⟩
theorem Nodes.below {w w' : World} {B : Nat} {v : Value} {l : List Nd} (h : Nodes w v l) (hb : Below B w w') (hB : w.heap.size ≤ B) : Nodes w' v l :=
  h.keep hb.size fun p hp => hb.cell (by omega)
theorem Ints.below {w w' : World} {B : Nat} {v : Value} {l : List Int} (h : Ints w v l) (hb : Below B w w') (hB : w.heap.size ≤ B) : Ints w' v l :=
  h.keep hb.size fun p hp => hb.cell (by omega)
theorem Nodes.take {w : World} {A : Option Addr} {k n c : Nat} {l : List Nd} (h : Nodes w (.slice A n c) l) (hk : k ≤ n) : Nodes w (.slice A k c) (l.take k) := by
  obtain ⟨A', c', e, h1, h2, h3⟩ := h
  simp only [Value.slice.injEq] at e
  obtain ⟨rfl, rfl, rfl⟩ := e
  refine ⟨A, c, by rw [List.length_take, Nat.min_eq_left hk], by rw [List.length_take]; omega, h2, fun i x hi => ?_⟩
  rw [List.getElem?_take] at hi
  split at hi
  · exact h3 i x hi
  · simp at hi
theorem Ints.take {w : World} {A : Option Addr} {k n c : Nat} {l : List Int} (h : Ints w (.slice A n c) l) (hk : k ≤ n) : Ints w (.slice A k c) (l.take k) := by
  obtain ⟨A', c', e, h1, h2, h3⟩ := h
  simp only [Value.slice.injEq] at e
  obtain ⟨rfl, rfl, rfl⟩ := e
  refine ⟨A, c, by rw [List.length_take, Nat.min_eq_left hk], by rw [List.length_take]; omega, h2, fun i x hi => ?_⟩
  rw [List.getElem?_take] at hi
  split at hi
  · exact h3 i x hi
  · simp at hi
theorem own_base {w : World} {b b' : Nat} {e : TypeId} {size n : Nat} {v : Value} {xs : List Value} (h : w.ownsRow b e size v n xs) (hb : b' ≤ b) : w.ownsRow b' e size v n xs := by
  refine ⟨h.1, ?_⟩
  rcases h.2 with h0 | ⟨g, cap, cur, h1, h2, h3⟩
  · exact .inl h0
  · exact .inr ⟨g, cap, cur, h1, by omega, h3⟩
theorem own_below {w w2 : World} {b : Nat} {v : Value} {n : Nat} {e : TypeId} {sz : Nat} {xs : List Value} (h : w.ownsRow b e sz v n xs) (hb : Below w.heap.size w w2) : w2.ownsRow b e sz v n xs := by
  refine ⟨h.1, ?_⟩
  rcases h.2 with h0 | ⟨g, cap, cur, h1, h2, h3, h4⟩
  · exact .inl h0
  · exact .inr ⟨g, cap, cur, h1, h2, by rw [hb.block g (lt_of_block h3)]; exact h3, h4⟩
theorem below_new (w : World) (o : Obj) : Below w.heap.size w (w.alloc o) := (Below.refl _ _).alloc (Nat.le_refl _) _
theorem below_drewN {B : Nat} {a w : World} (h : Below B a w) (n : Nat) : Below B a (w.drewN n) :=
  h.trans { os := rfl, tape := rfl, output := rfl, size := Nat.le_refl _, block := fun _ _ => rfl }
end Go.Proofs.YtobkcdkffcenbaaGreatDoor.Tr
namespace Go.Proofs.YtobkcdkffcenbaaGreatDoor.Tr
open Go.ChangeShapes Go.WideShapes Go.ChangeAt Go.RowKit
def IntsPost (W : World) (l : List Int) (e : Ending) (w' : World) : Prop :=
  ∃ v, e = .returned v ∧ w'.ownsRow W.heap.size 3 1 v l.length (intsOf l) ∧ Below W.heap.size W w'
theorem held_next {l : List Int} {k : Nat} {x : Int} (h : l[k]? = some x) : heldM (l.take (k + 1)) = if x = -1 then heldM (l.take k) else heldM (l.take k) ++ [x] := by
  unfold heldM
  rw [List.take_add_one, h, List.filter_append]
  by_cases hx : x = -1 <;> simp [hx]
theorem held_le (l : List Int) (k : Nat) : (heldM (l.take k)).length ≤ k := by
  unfold heldM
  exact Nat.le_trans (List.length_filter_le _ _) (List.length_take_le _ _)
set_option maxHeartbeats 1600000 in
theorem held_any (v : Value) (l : List Int) (w : World) (hv : Ints w v l) (hn : l.length ≤ 1000) : Calls Tryz.prog 90 #[v] w (IntsPost w (heldM l)) := by
  obtain ⟨A, c, rfl, h1, h2, hA⟩ := hv
  unfold maxLen at h2
  have HA := Lib.hid hA
  clear hA
  obtain ⟨i0, hi, hz0, hz1, hz2⟩ := info_parts info3
  go_enter Tryz.func90, Tryz.ntmps90
  go_wp2_with (at_make; refine wpList_make_own _ rfl _ _ 72 rfl w.heap.size 3 i0 _ 1 Tryz.underlying72 hi hz0 hz1 _ _ _ l.length rfl rfl rfl (by rw [hz2]; omega) (by unfold maxLen; omega) (Nat.le_refl _) ?_)
  intro w1 hown hgrow
  have hb1 : Below w.heap.size w w1 := (Below.refl _ _).grown hgrow (Nat.le_refl _) (fun k hk => by simp at hk)
  clear hgrow
  go_wp2
  go_loopw [3, 11] (fun v i wr => ∃ k : Nat, k ≤ l.length ∧ i = .int .i64 k ∧ wr.ownsRow w.heap.size 3 1 v (heldM (l.take k)).length (intsOf (heldM (l.take k))) ∧ Below w.heap.size w wr) (fun _ i _ => l.length - (intOf i).toNat)
  case atStart => exact ⟨0, Nat.zero_le _, rfl, hown, hb1⟩
  case round =>
    obtain ⟨k, hk, rfl, hown, hb⟩ := hrel
    clear hb1
    by_cases hlt : k < l.length
    · obtain ⟨x, hx⟩ : ∃ x, l[k]? = some x := ⟨_, List.getElem?_eq_getElem hlt⟩
      obtain ⟨g, o, rfl, hg, a0⟩ := HA.out k x hx
      have b0 := (hb.cell (p := ⟨g, o + k, none⟩) hg).trans a0
      have hle := held_le l k
      have HN := Lib.hid (held_next hx)
      have hz := hb.size
      clear a0 hx
      by_cases hm : x = -1
      · have hm' : (x != -1) = false := by simp [hm]
        have HN' := Lib.hid (show heldM (l.take (k + 1)) = heldM (l.take k) by rw [HN.out, if_pos hm])
        clear hm
        go_wp2
        refine ⟨⟨k + 1, by omega, by go_num, by rw [HN'.out]; exact hown, hb⟩, by simp [intOf]; omega⟩
      · have hm' : (x != -1) = true := by simp [hm]
        have HN' := Lib.hid (show heldM (l.take (k + 1)) = heldM (l.take k) ++ [x] by rw [HN.out, if_neg hm])
        clear hm
        go_wp2_with (at_builtin; refine wpList_append_own _ rfl (.tmp 17) (.tmp 19) 72 rfl w.heap.size 3 i0 _ 1 8 Tryz.underlying72 hi hz0 hz1 hz2 rfl (by decide) _ _ _ rfl (hown.alloc _) ⟨wr.heap.size, 0, none⟩ 1 1 [.int .i64 x] rfl rfl ?a1 ?b1 ?c1 ?d1 ?e1 ?_)
        case a1 => exact cell_one_new _ _ _
        case b1 => intro u hu; simp at hu; subst hu; rfl
        case c1 => unfold maxLen; omega
        case d1 => omega
        case e1 => simp; omega
        intro v' w1 hown' hgrow _
        have hb' := (hb.alloc hz (.cells #[.int .i64 x] 3)).grown hgrow (by simp; omega) (fun j hj => (hown.lt j hj).1)
        clear hown hgrow
        go_wp2
        refine ⟨⟨k + 1, by omega, by go_num, by rw [HN'.out, ints_snoc, List.length_append]; exact hown', hb'⟩, by simp [intOf]; omega⟩
    · have hkl : k = l.length := by omega
      subst hkl
      rw [List.take_length] at hown
      go_wp2
      go_ret
      exact ⟨_, rfl, hown, hb⟩
theorem kids_none {x : Nd} (h : unaryB x.op = false) (h26 : x.op ≠ 26) (h27 : x.op ≠ 27) (h28 : x.op ≠ 28) (hb : binaryB x.op = false) : kidsM x = [] := by
  unfold kidsM; rw [h, hb]; simp [h26, h27, h28]
end Go.Proofs.YtobkcdkffcenbaaGreatDoor.Tr

