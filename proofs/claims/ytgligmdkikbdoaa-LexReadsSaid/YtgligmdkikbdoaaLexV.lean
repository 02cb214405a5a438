/- The document's own small answers of layer lex (package bailmentref02) return what the plain functions say; what was in memory stays. Conditions: lengths within a machine's. -/
import Derived.Test.YtgligmdkikbdoaaLexU
import Derived.Test.YtgligmdkikbdoaaLexC
import Derived.RegionTactic
import Derived.Deep.QuietTactic
import Derived.BigQuiet
import Derived.IntWalk
import Derived.Below
namespace Go.Proofs.Ytgligmdkikbdoaa.Lx
open Go.ChangeShapes Go.WideShapes Go.ChangeAt Go.RowKit
set_option linter.unusedVariables false

theorem refDigit_any (c : UInt8) (w : World) :
    Calls Try.prog 52 #[.int .u8 c.toNat] w fun e w' => e = .returned (.bool (digitB c)) ∧ w = w' := by
  by_cases h : (48 : Int) ≤ c.toNat
  · have e : digitB c = decide ((c.toNat : Int) ≤ 57) := by
      have h1 : (48 : UInt8) ≤ c := (le_cast _ _).2 h
      simp only [digitB, h1, decide_true, Bool.true_and, decide_eq_decide]; exact le_cast _ _
    rw [e]
    go_enter Try.func52, Try.ntmps52
    go_wp2
    go_ret
    exact ⟨rfl, rfl⟩
  · have e : digitB c = false := by
      have h1 : ¬ (48 : UInt8) ≤ c := fun h' => h ((le_cast _ _).1 h')
      simp [digitB, h1]
    rw [e]
    go_enter Try.func52, Try.ntmps52
    go_wp2
    go_ret
    exact ⟨rfl, rfl⟩

theorem refLetter_any (c : UInt8) (w : World) :
    Calls Try.prog 51 #[.int .u8 c.toNat] w fun e w' => e = .returned (.bool (letterB c)) ∧ w = w' := by
  have hb : letterB c = (decide ((97 : Int) ≤ c.toNat) && decide ((c.toNat : Int) ≤ 122) || ((c.toNat : Int) == 95)) := by
    unfold letterB
    have e1 : decide ((97 : UInt8) ≤ c) = decide ((97 : Int) ≤ c.toNat) := decide_eq_decide.2 (le_cast _ _)
    have e2 : decide (c ≤ (122 : UInt8)) = decide ((c.toNat : Int) ≤ 122) := decide_eq_decide.2 (le_cast _ _)
    have e3 : (c == (95 : UInt8)) = ((c.toNat : Int) == 95) := by
      rw [Bool.eq_iff_iff, beq_iff_eq, beq_iff_eq]; exact eq_cast _ _
    rw [e1, e2, e3]
  rw [hb]
  clear hb
  by_cases h1 : (97 : Int) ≤ c.toNat <;> by_cases h2 : (c.toNat : Int) ≤ 122 <;> rcases Bool.eq_false_or_eq_true ((c.toNat : Int) == 95) with h3 | h3
  all_goals
    go_enter Try.func51, Try.ntmps51
    go_wp2
  all_goals
    go_ret
    exact ⟨ret_bool (by first | (simp [h1, h2, h3]; done) | (simp [h1, h2, h3]; intros; omega)), rfl⟩

/-- A row of texts that begins at a block's head. -/
def TextsAt (w : World) (g : Nat) (l : List Bytes) : Prop := g < w.heap.size ∧ ∀ (i : Nat) (x : Bytes), l[i]? = some x → w.cell? ⟨g, i, none⟩ = some (.string (str x))
theorem texts_new (w : World) (l : List Bytes) (cs : Array Value) (t : TypeId) (h : cs.toList = l.map (fun x => Value.string (str x))) : TextsAt (w.alloc (.cells cs t)) w.heap.size l := by
  refine ⟨by simp, fun i x hx => ?_⟩
  rw [World.cell?_alloc_at _ _ _ _ rfl, ← Array.getElem?_toList, h, List.getElem?_map, hx]; rfl
theorem TextsAt.below {w w' : World} {g B : Nat} {l : List Bytes} (h : TextsAt w g l) (hb : Below B w w') (hB : g < B) : TextsAt w' g l :=
  ⟨Nat.lt_of_lt_of_le h.1 hb.size, fun i x hx => (hb.cell (by exact hB)).trans (h.2 i x hx)⟩

def GivesTexts (W : World) (l : List Bytes) (e : Ending) (w' : World) : Prop :=
  e = .returned (.slice (some ⟨W.heap.size, 0, none⟩) l.length l.length) ∧ TextsAt w' W.heap.size l ∧ Below W.heap.size W w'

set_option maxRecDepth 100000 in
theorem words_any (w : World) : Calls Try.prog 53 #[] w (GivesTexts w words) := by
  go_enter Try.func53, Try.ntmps53
  go_wp2
  go_ret
  exact ⟨rfl, texts_new w words _ _ rfl, (Below.refl _ _).alloc (Nat.le_refl _) _⟩
set_option maxRecDepth 100000 in
theorem signs_any (w : World) : Calls Try.prog 67 #[] w (GivesTexts w signTexts) := by
  go_enter Try.func67, Try.ntmps67
  go_wp2
  go_ret
  exact ⟨rfl, texts_new w signTexts _ _ rfl, (Below.refl _ _).alloc (Nat.le_refl _) _⟩

theorem any_more (L : List Bytes) (k : Nat) (x y : Bytes) (h : (L.take k).contains y = false) (hx : L[k]? = some x) (hp : (x == y) = false) : (L.take (k + 1)).contains y = false := by
  have hxy : y ≠ x := fun e => by subst e; simp at hp
  have h' : y ∉ L.take k := by simpa using h
  rw [List.take_add_one, hx]
  simp [hxy, h']
theorem any_hit (L : List Bytes) (k : Nat) (x y : Bytes) (hx : L[k]? = some x) (hp : (x == y) = true) : L.contains y = true := by
  have hxy : x = y := by simpa using hp
  subst hxy
  have := List.mem_of_getElem? hx
  simpa using this

set_option maxHeartbeats 800000 in
theorem refIsWord_any (s : ByteArray) (w : World) :
    Calls Try.prog 30 #[.string s] w fun e w' => e = .returned (.bool (wordB s.toList)) ∧ Below w.heap.size w w' := by
  go_enter Try.func30, Try.ntmps30
  go_wp2_with fail
  refine (words_any _).mono ?_
  rintro e w1 ⟨rfl, ht, hb⟩
  rw [show words.length = 35 from rfl]
  have HT := Lib.hid ht
  have HB := Lib.hid hb
  clear ht hb
  go_wp2
  go_loop [4] (fun i => ∃ k : Nat, k ≤ 35 ∧ i = .int .i64 k ∧ (words.take k).contains s.toList = false) (fun i => 35 - (intOf i).toNat)
  case atStart => exact ⟨0, Nat.zero_le _, rfl, rfl⟩
  case round =>
    obtain ⟨k, hk, rfl, hc⟩ := hrel
    have HC := Lib.hid hc
    clear hc
    by_cases hlt : k < 35
    · obtain ⟨x, hx⟩ : ∃ x, words[k]? = some x := ⟨_, List.getElem?_eq_getElem hlt⟩
      have c0 := HT.out.2 k x hx
      have HX := Lib.hid hx
      clear hx
      have hs := str_toList x
      rcases Bool.eq_false_or_eq_true (x == s.toList) with hq | hq
      · have HQ := Lib.hid (any_hit words k x s.toList HX.out hq)
        go_wp2
        go_ret
        exact ⟨ret_bool HQ.out.symm, HB.out⟩
      · have HQ := Lib.hid (any_more words k x s.toList HC.out HX.out hq)
        go_wp2
        go_round
        case rel => exact ⟨k + 1, by omega, by go_num, HQ.out⟩
        case measure => simp [intOf]; omega
    · have HQ := Lib.hid (show wordB s.toList = false from by
        have := HC.out
        rw [List.take_of_length_le (by show (35 : Nat) ≤ k; omega)] at this
        exact this)
      go_wp2
      go_ret
      exact ⟨ret_bool HQ.out.symm, HB.out⟩
end Go.Proofs.Ytgligmdkikbdoaa.Lx
