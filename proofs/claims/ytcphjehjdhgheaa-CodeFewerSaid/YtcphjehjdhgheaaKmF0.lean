/- What making stands on: the closure, the maker when it begins, code in a box. Conditions: none. -/
import Derived.Test.YtcphjehjdhgheaaKmCd
import Derived.Test.YtcphjehjdhgheaaKmE
import Derived.Test.YtcphjehjdhgheaaNtS2
import Derived.Test.YtcphjehjdhgheaaNtV
import Derived.Test.YtcphjehjdhgheaaNtD
import Derived.Deep.RegionHeld3
namespace Go.Proofs.Ytcphjehjdhgheaa.Nt
open Go.ChangeShapes Go.WideShapes Go.ChangeAt Go.RowKit Go.Proofs.Ytcphjehjdhgheaa.Tr
set_option linter.unusedVariables false
set_option linter.unusedSimpArgs false

theorem mk1_any (x : Int) (b nr c T : Nat) (A : Option Addr) (ov iv : Value) (w : World) (h : NetBox w b T ov (.slice A nr c) iv) : Calls Try.prog 69 #[.int .i64 x, .pointer (some ⟨b, 0, none⟩)] w fun e w' => e = .returned (.bool (!isOp nr x)) ∧ w' = w := by
  obtain ⟨p0, p1, p2⟩ := h.ats
  have HE : Hid ((!isOp nr x) = (decide (x < 0) || decide ((nr : Int) ≤ x))) := Lib.hid (by
    unfold isOp
    by_cases h1 : x < 0
    · have : ¬ (0 ≤ x) := by omega
      simp [h1, this]
    · have h2 : 0 ≤ x := by omega
      by_cases h3 : (nr : Int) ≤ x
      · have : ¬ x < (nr : Int) := by omega
        simp [h3, this]
      · have : x < (nr : Int) := by omega
        simp [h1, h2, h3, this])
  rw [HE.out]
  by_cases h1 : x < 0
  · have d1 : decide (x < 0) = true := decide_eq_true h1
    clear h
    go_enter Try.func69, Try.ntmps69
    go_wp2
    go_ret
    exact ⟨ret_bool (by simp [d1]), rfl⟩
  · have d1 : decide (x < 0) = false := decide_eq_false h1
    clear h
    go_enter Try.func69, Try.ntmps69
    go_wp2
    go_ret
    exact ⟨ret_bool (by simp [d1]), rfl⟩
theorem eMake1 : ∀ args w, (callFunc 69 args).run Try.prog w = .ok (.enter 69 args) w := by intro a w; kernel_rfl
theorem told_cont (w : World) (A A2 : Option Addr) (m c nr c2 b T : Nat) (ov iv : Value) (l : List Int) (hm : m = l.length) (hmm : m ≤ maxLen) (hI : Ints w (.slice A m c) l) (hb : NetBox w b T ov (.slice A2 nr c2) iv) :
    Calls Try.prog 54 #[.slice A m c, .func (.func 69) #[] #[.pointer (some ⟨b, 0, none⟩)]] w (fun e w' => e = .returned (.bool (l.any (fun x => !isOp nr x))) ∧ ∃ q, w' = w.drewN q) :=
  cont_pure 69 #[.pointer (some ⟨b, 0, none⟩)] eMake1 A m c l w _ hm hmm hI (fun x _ q => (mk1_any x b nr c2 T A2 ov iv (w.drewN q) ⟨hb.cell⟩).mono (by rintro e w' ⟨rfl, rfl⟩; exact ⟨rfl, q, rfl⟩))
theorem CodBox.set5 {w : World} {b T : Nat} {iv ov pv : Value} {r s : Int} (h : CodBox w b T iv r s ov pv) (iv' ov' pv' : Value) (r' s' : Int) :
    CodBox (((((w.setCell ⟨b, 0, none⟩ iv').setCell ⟨b, 1, none⟩ (.int .i64 r')).setCell ⟨b, 2, none⟩ (.int .i64 s')).setCell ⟨b, 3, none⟩ ov').setCell ⟨b, 4, none⟩ pv') b T iv' r' s' ov' pv' := by
  have := h.cell
  refine ⟨?_⟩
  simp [World.setCell, Array.getElem?_modify, this]
theorem CodBox.fzs {w : World} {b T : Nat} {iv ov pv : Value} {r s : Int} (h : CodBox w b T iv r s ov pv) : w.frozen? ⟨b, 0, none⟩ = false ∧ w.frozen? ⟨b, 1, none⟩ = false ∧ w.frozen? ⟨b, 2, none⟩ = false ∧ w.frozen? ⟨b, 3, none⟩ = false ∧ w.frozen? ⟨b, 4, none⟩ = false := by
  have := h.cell
  refine ⟨?_, ?_, ?_, ?_, ?_⟩ <;> simp [World.frozen?, this]
/-- The maker when it begins. -/
theorem mk_new {w0 w5 : World} {S : Net} {pv qv ev : Value} {E : List Int} (hb : Below w0.heap.size w0 w5) (ho : w5.ownsRow w0.heap.size 3 1 ev E.length (intsOf E)) (hq : OpsR w0 qv S.ops) (hp : Ints w0 pv S.ins) :
    MkS w0 w0.heap.size w5.heap.size S pv qv (w5.alloc (.cells (mkCells (.slice none 0 0) (.slice none 0 0) pv qv ev (.slice none 0 0) (.slice none 0 0) ⟨[], 0, 0, [], [], E⟩) 121)) (.slice none 0 0) (.slice none 0 0) ev (.slice none 0 0) (.slice none 0 0) ⟨[], 0, 0, [], [], E⟩ [] := by
  refine ⟨heap_alloc_new _ _, hb.size, Nat.le_refl _, hb.alloc hb.size _, World.ownsRow_nil _ _ _ _, World.ownsRow_nil _ _ _ _, own_below ho (below_new _ _), World.ownsRow_nil _ _ _ _, World.ownsRow_nil _ _ _ _, ⟨?_, ?_, ?_, ?_, ?_, ?_⟩, hq, hp⟩
  all_goals intro g hg e
  all_goals first | (cases hg; done) | (cases e; done)
/-- Operators' ends that never come, so far. -/
theorem ends_told_len (S : Net) : ∀ (l : List Int) (e : List Int), (l.foldl (fun e i => e.set (at0 S.roots i).toNat (-2)) e).length = e.length := by
  intro l
  induction l with
  | nil => intro e; rfl
  | cons a r ih => intro e; rw [List.foldl_cons, ih, List.length_set]
theorem ends_pre_len : ∀ (l : List Op5) (e : List Int), (l.foldl (fun e o => if o.op = 21 then e.set o.a.toNat (-2) else e) e).length = e.length := by
  intro l
  induction l with
  | nil => intro e; rfl
  | cons a r ih =>
    intro e
    rw [List.foldl_cons, ih]
    split
    · rw [List.length_set]
    · rfl
theorem fold_snoc {α β : Type} {f : α → β → α} {l : List β} {q : Nat} {x : β} (h : l[q]? = some x) (e : α) : (l.take (q + 1)).foldl f e = f ((l.take q).foldl f e) x := by
  rw [List.take_add_one, h, List.foldl_append]; rfl
end Go.Proofs.Ytcphjehjdhgheaa.Nt
