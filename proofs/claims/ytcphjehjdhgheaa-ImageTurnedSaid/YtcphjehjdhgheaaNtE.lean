/- What an operator needs, by layer norm and by the document: Conditions: it is one of a net. -/
import Derived.Test.YtcphjehjdhgheaaNtD
namespace Go.Proofs.Ytcphjehjdhgheaa.Nt
open Go.ChangeShapes Go.WideShapes Go.ChangeAt Go.RowKit Go.Proofs.Ytcphjehjdhgheaa.Tr
set_option linter.unusedVariables false
set_option linter.unusedSimpArgs false

def NeedPost (w : World) (x : Op5) (e : Ending) (w' : World) : Prop := ∃ v, e = .returned v ∧ Ints w' v (needI x) ∧ Below w.heap.size w w' ∧ ∀ g o n c, v = .slice (some ⟨g, o, none⟩) n c → w.heap.size ≤ g
theorem ints_nil (w : World) : Ints w (.slice none 0 0) [] := ⟨none, 0, rfl, Nat.le_refl _, by unfold maxLen; omega, fun i x h => by simp at h⟩
theorem lit3 {w : World} {g m : Nat} {a b c : Int} {T : TypeId} {fr : Nat × Nat} (h : w.heap[g]? = some (.cells #[.int .i64 a, .int .i64 b, .int .i64 c] T fr)) (hm : m ≤ 3) : Ints w (.slice (some ⟨g, 0, none⟩) m 3) ([a, b, c].take m) := by
  refine ⟨some ⟨g, 0, none⟩, 3, by rw [List.length_take]; simp; omega, by rw [List.length_take]; simp; omega, by unfold maxLen; omega, fun i x hi => ⟨g, 0, rfl, lt_of_block h, ?_⟩⟩
  rw [List.getElem?_take] at hi
  split at hi
  · rcases i with _ | _ | _ | i
    · simp at hi; subst hi; simp [World.cell?, h]
    · simp at hi; subst hi; simp [World.cell?, h]
    · simp at hi; subst hi; simp [World.cell?, h]
    · simp at hi
  · simp at hi
theorem need_pre {x : Op5} (h : x.op = 21) : needI x = [] := by unfold needI; rw [if_pos h]
theorem need_take {x : Op5} {m : Nat} (h : x.op ≠ 21) (hk : kids x.op = (m : Int)) : needI x = [x.a, x.b, x.c].take m := by unfold needI; rw [if_neg h, hk]; rfl
theorem need_end (w : World) (bx : Obj) (o a b c n : Int) (m : Nat) (hp : o ≠ 21) (hk : kids o = (m : Int)) (hm : m ≤ 3) (T : TypeId) (w2 : World) (h2 : w2 = ((w.alloc bx).alloc (.cells #[.int .i64 a, .int .i64 b, .int .i64 c] T)) ∨ w2 = ((w.alloc bx).alloc (.cells #[.int .i64 a, .int .i64 b, .int .i64 c] T)).drew) :
    NeedPost w ⟨o, a, b, c, n⟩ (.returned (.slice (some ⟨w.heap.size + 1, 0, none⟩) m 3)) w2 := by
  have hs : (w.alloc bx).heap.size = w.heap.size + 1 := by simp
  refine ⟨_, rfl, ?_, ?_, fun g o' n' c' e => by simp only [Value.slice.injEq, Option.some.injEq, Addr.mk.injEq] at e; omega⟩
  · rw [need_take (x := ⟨o, a, b, c, n⟩) hp hk]
    have := heap_alloc_new (w.alloc bx) (.cells #[.int .i64 a, .int .i64 b, .int .i64 c] T)
    rw [hs] at this
    rcases h2 with rfl | rfl
    · exact lit3 this hm
    · exact lit3 this hm
  · rcases h2 with rfl | rfl
    · exact below2 _ _ _
    · exact (below2 _ _ _).drew
theorem need_end0 (w w' : World) (a b c n : Int) (hb : Below w.heap.size w w') : NeedPost w ⟨21, a, b, c, n⟩ (.returned (.slice none 0 0)) w' := ⟨_, rfl, by rw [need_pre rfl]; exact ints_nil _, hb, fun g o n c e => by cases e⟩
set_option maxHeartbeats 1600000 in
theorem nneeds_any (w : World) (x : Op5) (h : 0 ≤ kids x.op) : Calls Try.prog 126 #[opV x] w (NeedPost w x) := by
  obtain ⟨o, a, b, c, n⟩ := x
  unfold opV
  by_cases hp : o = 21
  · subst hp
    have HE := Lib.hid (need_end0 w)
    clear h
    go_enter Try.func126, Try.ntmps126
    go_wp2
    go_ret
    exact HE.out _ _ _ _ _ (below_new _ _)
  · have h : 0 ≤ kids o := h
    obtain ⟨m, hm⟩ : ∃ m : Nat, kids o = (m : Int) := ⟨(kids o).toNat, by omega⟩
    have hm3 : m ≤ 3 := by rcases kids_cases o with e | e | e | e | e <;> omega
    have hd : (m : Int) ≤ 3 := by omega
    have HE := Lib.hid (fun T w2 h2 => need_end w (.cells #[.int .i64 o, .int .i64 a, .int .i64 b, .int .i64 c, .int .i64 n] 79) o a b c n m hp hm hm3 T w2 h2)
    have HM : Hid (∀ W, Calls Try.prog 123 #[.int .i64 o] W (fun e w' => e = .returned (.int .i64 (m : Int)) ∧ w' = W)) := Lib.hid (fun W => by have := noper_any o W; rw [hm] at this; exact this)
    clear hm h
    go_enter Try.func126, Try.ntmps126
    go_wp2_with fail
    go_region_held3 (fun W => W.cell? ⟨w.heap.size, 0, none⟩ = some (.int .i64 o) ∧ W.cell? ⟨w.heap.size, 1, none⟩ = some (.int .i64 a) ∧ W.cell? ⟨w.heap.size, 2, none⟩ = some (.int .i64 b) ∧ W.cell? ⟨w.heap.size, 3, none⟩ = some (.int .i64 c))
      (go_keep)
      (first | (go_at_call 123; refine (HM.out _).mono ?_; rintro e w' ⟨rfl, rfl⟩))
    all_goals
      go_wp2
      go_ret
      exact HE.out _ _ (by first | exact .inl rfl | exact .inr rfl)
set_option maxHeartbeats 1600000 in
theorem dOpds_any (w : World) (x : Op5) (h : 0 ≤ kids x.op) : Calls Try.prog 57 #[opV x] w (NeedPost w x) := by
  obtain ⟨o, a, b, c, n⟩ := x
  unfold opV
  by_cases hp : o = 21
  · subst hp
    have HE := Lib.hid (need_end0 w)
    clear h
    go_enter Try.func57, Try.ntmps57
    go_wp2
    go_ret
    exact HE.out _ _ _ _ _ (below_new _ _)
  · have h : 0 ≤ kids o := h
    obtain ⟨m, hm⟩ : ∃ m : Nat, kids o = (m : Int) := ⟨(kids o).toNat, by omega⟩
    have hm3 : m ≤ 3 := by rcases kids_cases o with e | e | e | e | e <;> omega
    have hd : (m : Int) ≤ 3 := by omega
    have HE := Lib.hid (fun T w2 h2 => need_end w (.cells #[.int .i64 o, .int .i64 a, .int .i64 b, .int .i64 c, .int .i64 n] 69) o a b c n m hp hm hm3 T w2 h2)
    have HM : Hid (∀ W, Calls Try.prog 96 #[.int .i64 o] W (fun e w' => e = .returned (.int .i64 (m : Int)) ∧ w' = W)) := Lib.hid (fun W => by have := dkids_any o W; rw [hm] at this; exact this)
    clear hm h
    go_enter Try.func57, Try.ntmps57
    go_wp2_with (go_at_call 96; refine (HM.out _).mono ?_; rintro e w' ⟨rfl, rfl⟩)
    go_ret
    exact HE.out _ _ (by first | exact .inl rfl | exact .inr rfl)
end Go.Proofs.Ytcphjehjdhgheaa.Nt
