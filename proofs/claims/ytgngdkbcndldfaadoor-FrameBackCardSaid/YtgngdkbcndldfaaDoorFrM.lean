import Derived.Lib.ItoaMem
import Derived.Lib.ItoaLen
import Derived.Lib.AtoiAll
import Derived.Lib.IndexMore
import Derived.Lib.FieldsP
import Derived.Lib.DecodeN
import Derived.Lib.Join
set_option linter.unusedVariables false
set_option linter.unusedSimpArgs false
set_option linter.unnecessarySimpa false
namespace Go.Proofs.YtgngdkbcndldfaaDoor.Fr
open Go.Lib
abbrev Bs := List UInt8

/- Lines and words of a text, as plain functions. -/
def linesM : Bs → List Bs
  | [] => []
  | c :: r => if c = 10 then [] :: linesM r else match linesM r with | [] => [[c]] | l :: ls => (c :: l) :: ls

def wordsG : Bs → Bs → List Bs
  | p, [] => if p = [] then [] else [p]
  | p, c :: r => if c = 32 then (if p = [] then wordsG [] r else p :: wordsG [] r) else wordsG (p ++ [c]) r
def wordsM (s : Bs) : List Bs := wordsG [] s

theorem linesM_eq_nil {s : Bs} : linesM s = [] ↔ s = [] := by
  cases s with
  | nil => simp [linesM]
  | cons c r =>
    simp only [linesM]
    split
    · simp
    · split <;> simp

theorem lines_cut (p r : Bs) (hp : (10 : UInt8) ∉ p) : linesM (p ++ 10 :: r) = p :: linesM r := by
  induction p with
  | nil => simp [linesM]
  | cons c p ih =>
    have hc : c ≠ 10 := fun e => hp (by simp [e])
    have hp' : (10 : UInt8) ∉ p := fun e => hp (by simp [e])
    simp only [List.cons_append, linesM, if_neg hc, ih hp']

theorem lines_last (p : Bs) (hp : (10 : UInt8) ∉ p) (h : p ≠ []) : linesM p = [p] := by
  induction p with
  | nil => exact absurd rfl h
  | cons c p ih =>
    have hc : c ≠ 10 := fun e => hp (by simp [e])
    have hp' : (10 : UInt8) ∉ p := fun e => hp (by simp [e])
    by_cases hn : p = []
    · subst hn; simp [linesM, hc]
    · simp only [linesM, if_neg hc, ih hp' hn]

theorem lines_append (s t : Bs) : linesM (s ++ 10 :: t) = linesM (s ++ [10]) ++ linesM t := by
  induction s with
  | nil => simp [linesM]
  | cons c s ih =>
    simp only [List.cons_append, linesM]
    split
    · rw [ih]; rfl
    · rw [ih]
      have : linesM (s ++ [10]) ≠ [] := fun e => by
        have := linesM_eq_nil.1 e
        simp at this
      revert this
      cases linesM (s ++ [10]) with
      | nil => intro h; exact absurd rfl h
      | cons a b => intro _; rfl

theorem cut_nil : cut [] [10] = ([], [], false) := by decide
theorem cut_cons (c : UInt8) (r : Bs) : cut (c :: r) [10] = if c = 10 then ([], r, true) else (c :: (cut r [10]).1, (cut r [10]).2.1, (cut r [10]).2.2) := by
  by_cases hc : c = 10
  · subst hc
    rw [if_pos rfl]
    have hi : index (10 :: r) [10] = 0 := by unfold index; simp
    unfold cut
    rw [hi]
    simp
  · rw [if_neg hc]
    have hi : index (c :: r) [10] = if index r [10] == -1 then -1 else index r [10] + 1 := by
      rw [index]
      have : ([10] : List UInt8).isPrefixOf (c :: r) = false := by simp [List.isPrefixOf, Ne.symm hc]
      rw [this]
      rfl
    unfold cut
    rw [hi]
    rcases index_spec r [10] with ⟨h1, _⟩ | ⟨i, h1, h2, _, _⟩
    · rw [h1]; simp
    · rw [h1]
      have e1 : ((i : Int) == -1) = false := by rw [beq_eq_false_iff_ne]; omega
      have e2 : (0 : Int) ≤ (i : Int) + 1 := by omega
      have e3 : ((i : Int) + 1).toNat = i + 1 := by omega
      have e4 : (0 : Int) ≤ (i : Int) := by omega
      rw [e1]
      simp only [Bool.false_eq_true, if_false, if_pos e2, if_pos e4, e3, Int.toNat_natCast, List.take_succ_cons, List.length_cons, List.length_nil]
      rw [show i + 1 + (0 + 1) = (i + (0 + 1)) + 1 by omega, List.drop_succ_cons]

theorem cut_line : ∀ (s : Bs), s ≠ [] → linesM s = (cut s [10]).1 :: linesM (cut s [10]).2.1
  | [], h => absurd rfl h
  | c :: r, _ => by
    rw [cut_cons]
    by_cases hc : c = 10
    · simp [linesM, hc]
    · simp only [linesM, if_neg hc]
      by_cases hr : r = []
      · subst hr; rw [cut_nil]; simp [linesM]
      · rw [cut_line r hr]

theorem cut_less : ∀ (s : Bs), s ≠ [] → (cut s [10]).2.1.length < s.length
  | [], h => absurd rfl h
  | c :: r, _ => by
    rw [cut_cons]
    by_cases hc : c = 10
    · simp [hc]
    · simp only [if_neg hc]
      by_cases hr : r = []
      · subst hr; rw [cut_nil]; simp
      · have := cut_less r hr; simp; omega

theorem cut_line_le (s : Bs) : (cut s [10]).1.length ≤ s.length := by
  induction s with
  | nil => rw [cut_nil]; simp
  | cons c r ih =>
    rw [cut_cons]
    split
    · simp
    · simp; exact ih

/- Words by their place. -/
theorem wordsG_run (p q r : Bs) (hq : (32 : UInt8) ∉ q) : wordsG p (q ++ r) = wordsG (p ++ q) r := by
  induction q generalizing p with
  | nil => simp
  | cons c q ih =>
    have hc : c ≠ 32 := fun e => hq (by simp [e])
    simp only [List.cons_append, wordsG, if_neg hc]
    rw [ih _ (fun e => hq (by simp [e]))]
    simp

theorem wordsG_blank (p r : Bs) (h : p ≠ []) : wordsG p (32 :: r) = p :: wordsG [] r := by simp [wordsG, h]
theorem wordsG_blank0 (r : Bs) : wordsG [] (32 :: r) = wordsG [] r := by simp [wordsG]
theorem wordsG_end (p : Bs) : wordsG p [] = if p = [] then [] else [p] := rfl

theorem decodeN_32 (n b0 b1 b2 b3 : Nat) (hn : 1 ≤ n) :
    ((decodeN n b0 b1 b2 b3).1 = 32 ∧ (decodeN n b0 b1 b2 b3).2 = 1 ∧ b0 = 32) ∨
    ((decodeN n b0 b1 b2 b3).1 ≠ 32 ∧ b0 ≠ 32 ∧ ((decodeN n b0 b1 b2 b3).2 = 1 ∨ ((decodeN n b0 b1 b2 b3).2 = 2 ∧ b1 ≠ 32 ∧ 2 ≤ n) ∨ ((decodeN n b0 b1 b2 b3).2 = 3 ∧ b1 ≠ 32 ∧ b2 ≠ 32 ∧ 3 ≤ n) ∨
      ((decodeN n b0 b1 b2 b3).2 = 4 ∧ b1 ≠ 32 ∧ b2 ≠ 32 ∧ b3 ≠ 32 ∧ 4 ≤ n))) := by
  unfold decodeN
  repeat' split
  all_goals dsimp only
  all_goals first
    | (by_cases h32 : b0 = 32
       · exact .inl ⟨h32, rfl, h32⟩
       · exact .inr ⟨h32, h32, .inl rfl⟩)
    | exact .inr ⟨by omega, by omega, .inl rfl⟩
    | exact .inr ⟨by omega, by omega, .inr (.inl ⟨rfl, by omega, by omega⟩)⟩
    | exact .inr ⟨by omega, by omega, .inr (.inr (.inl ⟨rfl, by omega, by omega, by omega⟩))⟩
    | exact .inr ⟨by omega, by omega, .inr (.inr (.inr ⟨rfl, by omega, by omega, by omega, by omega⟩))⟩

theorem get_toList (s : ByteArray) (i : Nat) (h : i < s.size) : s.data.toList[i]? = some (s.get! i) := by
  have h' : i < s.data.size := h
  rw [Array.getElem?_toList, Array.getElem?_eq_getElem h']
  congr 1
  show _ = s.data[i]!
  rw [getElem!_pos s.data i h']

theorem not32 {c : UInt8} (h : c.toNat ≠ 32) : (32 : UInt8) ≠ c := fun e => h (by rw [← e]; rfl)

theorem take_drop_one (l : Bs) (i : Nat) (c : UInt8) (h : l[i]? = some c) : l.drop i = c :: l.drop (i + 1) := by
  obtain ⟨hi, e⟩ := List.getElem?_eq_some_iff.1 h
  rw [List.drop_eq_getElem_cons hi, e]

theorem decode_32 (s : ByteArray) (pos : Nat) (h : pos < s.size) :
    ((Utf8.decode s pos).1 = 32 ∧ (Utf8.decode s pos).2 = 1 ∧ s.data.toList.drop pos = 32 :: s.data.toList.drop (pos + 1)) ∨
    ((Utf8.decode s pos).1 ≠ 32 ∧ 1 ≤ (Utf8.decode s pos).2 ∧ pos + (Utf8.decode s pos).2 ≤ s.size ∧
      ∃ q : Bs, (32 : UInt8) ∉ q ∧ q.length = (Utf8.decode s pos).2 ∧ s.data.toList.drop pos = q ++ s.data.toList.drop (pos + (Utf8.decode s pos).2)) := by
  rw [decode_at]
  have g0 := get_toList s pos h
  rcases decodeN_32 (s.size - pos) (s.get! pos).toNat (s.get! (pos + 1)).toNat (s.get! (pos + 2)).toNat (s.get! (pos + 3)).toNat (by omega) with ⟨a, b, c⟩ | ⟨a, c0, b⟩
  · refine .inl ⟨a, b, ?_⟩
    rw [take_drop_one _ _ _ g0]
    congr 1
    exact UInt8.toNat_inj.1 (by simpa using c)
  · refine .inr ⟨a, ?_⟩
    rcases b with b | ⟨b, c1, h2⟩ | ⟨b, c1, c2, h3⟩ | ⟨b, c1, c2, c3, h4⟩
    · rw [b]
      refine ⟨by omega, by omega, [s.get! pos], by simpa using not32 c0, rfl, ?_⟩
      rw [take_drop_one _ _ _ g0]; rfl
    · rw [b]
      refine ⟨by omega, by omega, [s.get! pos, s.get! (pos + 1)], by simpa using ⟨not32 c0, not32 c1⟩, rfl, ?_⟩
      rw [take_drop_one _ _ _ g0, take_drop_one _ _ _ (get_toList s (pos + 1) (by omega))]; rfl
    · rw [b]
      refine ⟨by omega, by omega, [s.get! pos, s.get! (pos + 1), s.get! (pos + 2)], by simpa using ⟨not32 c0, not32 c1, not32 c2⟩, rfl, ?_⟩
      rw [take_drop_one _ _ _ g0, take_drop_one _ _ _ (get_toList s (pos + 1) (by omega)), take_drop_one _ _ _ (get_toList s (pos + 1 + 1) (by omega))]; rfl
    · rw [b]
      refine ⟨by omega, by omega, [s.get! pos, s.get! (pos + 1), s.get! (pos + 2), s.get! (pos + 3)], by simpa using ⟨not32 c0, not32 c1, not32 c2, not32 c3⟩, rfl, ?_⟩
      rw [take_drop_one _ _ _ g0, take_drop_one _ _ _ (get_toList s (pos + 1) (by omega)), take_drop_one _ _ _ (get_toList s (pos + 1 + 1) (by omega)), take_drop_one _ _ _ (get_toList s (pos + 1 + 1 + 1) (by omega))]; rfl

def is32 (x : Nat) : Bool := x == 32
def pieceF (l : Bs) (a b : Nat) : Bs := (l.drop a).take (b - a)
def openF (l : Bs) (st : Option Nat) (pos : Nat) : Bs := match st with | some a => pieceF l a pos | none => []

theorem pieceF_ne (l : Bs) (a pos : Nat) (h : a < pos) (hp : pos ≤ l.length) : pieceF l a pos ≠ [] := by
  intro e
  have := congrArg List.length e
  unfold pieceF at this
  simp at this
  omega

theorem pieceF_grow (l q : Bs) (a pos k : Nat) (h : a ≤ pos) (hq : q.length = k) (e : l.drop pos = q ++ l.drop (pos + k)) : pieceF l a pos ++ q = pieceF l a (pos + k) := by
  have hk : (l.drop pos).take k = q := by rw [e, List.take_left' hq]
  unfold pieceF
  rw [show pos + k - a = (pos - a) + k by omega, List.take_add, List.drop_drop, show a + (pos - a) = pos by omega, hk]

theorem size_list (s : ByteArray) : s.size = s.data.toList.length := by rw [Array.length_toList]; rfl

theorem spans_words (s : ByteArray) : ∀ (f pos : Nat) (st : Option Nat) (acc : List (Nat × Nat)), s.size ≤ pos + f → pos ≤ s.size → (∀ a, st = some a → a < pos) →
    (closeSpans s (spansFromP is32 s f pos st acc)).map (fun p => pieceF s.data.toList p.1 p.2) = acc.map (fun p => pieceF s.data.toList p.1 p.2) ++ wordsG (openF s.data.toList st pos) (s.data.toList.drop pos)
  | f, pos, st, acc, h, hp, hst => by
    by_cases hlt : pos < s.size
    · obtain ⟨f, rfl⟩ : ∃ g, f = g + 1 := ⟨f - 1, by omega⟩
      simp only [spansFromP, if_pos hlt]
      rcases decode_32 s pos hlt with ⟨a, b, c⟩ | ⟨a, b1, b2, q, hq, hl, c⟩
      · have hp1 : is32 (Utf8.decode s pos).1 = true := by rw [a]; rfl
        rw [if_pos hp1, b, c]
        cases st with
        | none =>
          rw [spans_words s f (pos + 1) none acc (by omega) (by omega) (fun a h => by cases h)]
          simp [openF, wordsG_blank0]
        | some a' =>
          have hne := pieceF_ne s.data.toList a' pos (hst a' rfl) (by rw [← size_list]; omega)
          rw [spans_words s f (pos + 1) none (acc ++ [(a', pos)]) (by omega) (by omega) (fun a h => by cases h)]
          simp [openF, wordsG_blank _ _ hne]
      · have hp1 : ¬ is32 (Utf8.decode s pos).1 = true := fun e => a (by unfold is32 at e; exact eq_of_beq e)
        rw [if_neg hp1, c, wordsG_run _ _ _ hq]
        cases st with
        | none =>
          simp only
          rw [spans_words s f _ (some pos) acc (by omega) b2 (fun a h => by cases h; omega)]
          have := pieceF_grow s.data.toList q pos pos _ (Nat.le_refl _) hl c
          simp only [openF]
          rw [← this]
          simp [pieceF]
        | some a' =>
          simp only
          rw [spans_words s f _ (some a') acc (by omega) b2 (fun b h => by cases h; have := hst a' rfl; omega)]
          have := pieceF_grow s.data.toList q a' pos _ (Nat.le_of_lt (hst a' rfl)) hl c
          simp only [openF]
          rw [← this]
    · obtain rfl : pos = s.size := by omega
      have hd : s.data.toList.drop s.size = [] := List.drop_eq_nil_of_le (by rw [← size_list]; exact Nat.le_refl _)
      rw [spansFromP_end _ _ _ _ _ _ hlt, hd, wordsG_end]
      cases st with
      | none => simp [closeSpans, openF]
      | some a =>
        have hne := pieceF_ne s.data.toList a s.size (hst a rfl) (by rw [← size_list]; exact Nat.le_refl _)
        simp [closeSpans, openF, hne]

theorem extract_list (s : ByteArray) (a b : Nat) : (s.extract a b).data.toList = pieceF s.data.toList a b := by
  rw [ByteArray.data_extract, Array.toList_extract]
  simp [pieceF, List.extract]

/-- What strings.FieldsFunc tells at blanks are the words. -/
theorem fields_words (s : ByteArray) : (goFieldsP is32 s).map (·.data.toList) = wordsM s.data.toList := by
  have h := spans_words s s.size 0 none [] (by omega) (by omega) (fun a h => by cases h)
  unfold goFieldsP spansOfP
  rw [List.map_map]
  have e : (fun x : ByteArray => x.data.toList) ∘ (fun x : Nat × Nat => s.extract x.1 x.2) = fun p => pieceF s.data.toList p.1 p.2 := by
    funext p
    exact extract_list s p.1 p.2
  rw [e, h]
  simp [openF, wordsM]
end Go.Proofs.YtgngdkbcndldfaaDoor.Fr
