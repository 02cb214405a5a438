/- Contracts of a reader's functions take, fail, need and takeSign. Conditions: a reader lies in memory. -/
import Derived.Test.YtdebhngpgabglaaGreatKb14
import Derived.BigRegion
import Derived.Deep.AppendLies
import Derived.Lib.LaidTab
import Derived.Test.YtdebhngpgabglaaGreatProg
import Derived.Test.YtdebhngpgabglaaGreatKa07
set_option linter.unusedVariables false
set_option linter.unusedSimpArgs false
namespace Go.Proofs.YtdebhngpgabglaaGreat.Ex
open Go.ChangeShapes Go.WideShapes Go.ChangeAt Go.RowKit
open Go.Proofs.YtdebhngpgabglaaGreat.Tr (str ret_bool ret_int Bytes Nd)
theorem setObj_heap {w : World} {b k : Nat} {cs : Array Value} {t : TypeId} {v : Value} (h : w.heap[b]? = some (.cells cs t (0, 0))) (hk : k < cs.size) : (w.setCell ⟨b, k, none⟩ v).heap[b]? = some (.cells (cs.setIfInBounds k v) t (0, 0)) := by
 have hl := lt_of_block h
 unfold World.setCell
 simp only [Array.getElem?_modify]
 simp only [if_true, h]; rfl
theorem below_drew1 (w : World) (o : Obj) : Below w.heap.size w (w.alloc o).drew := Tr.below_drewN (n := 1) (below_new w o)
end Go.Proofs.YtdebhngpgabglaaGreat.Ex
namespace Go.Proofs.YtdebhngpgabglaaGreat.Sh
open Go.ChangeShapes Go.WideShapes Go.ChangeAt Go.RowKit
open Go.Proofs.YtdebhngpgabglaaGreat.Tr (str ret_bool ret_int Bytes Nd T)
end Go.Proofs.YtdebhngpgabglaaGreat.Sh
namespace Go.Proofs.YtdebhngpgabglaaGreat.Sh
open Go.ChangeShapes Go.WideShapes Go.ChangeAt Go.RowKit
open Go.Proofs.YtdebhngpgabglaaGreat.Tr (str ret_bool ret_int Bytes Nd T Nodes May tree kidsM mkL mkT fitsB argsL unaryB binaryB ndCells)
end Go.Proofs.YtdebhngpgabglaaGreat.Sh
namespace Go.Proofs.YtdebhngpgabglaaGreat.Sh
open Go.Proofs.YtdebhngpgabglaaGreat.Tr Go.Proofs.YtdebhngpgabglaaGreat.Ex
theorem gets_two {t u : Task} {r s : Rd} {p q : Pt} {r' s' : Rd} (h : Gets t r p r') (k : Gets u s q s') : ∃ f, run f t r = some (p, r') ∧ run f u s = some (q, s') := by
 obtain ⟨f, h⟩ := h
 obtain ⟨g, k⟩ := k
 exact ⟨max f g, run_mono (Nat.le_max_left _ _) h, run_mono (Nat.le_max_right _ _) k⟩
def foldRs : List Pt → List (Int × Bool) → Pt → Pt
 | p :: ps, o :: os, y => sjoin o p (foldRs ps os y)
 | _, _, y => y
theorem foldR_app : ∀ (ps : List Pt) (os : List (Int × Bool)), ps.length = os.length → ∀ qs rs, foldR (ps ++ qs) (os ++ rs) = foldRs ps os (foldR qs rs)
 | [], [], _, qs, rs => rfl
 | p :: ps, o :: os, h, qs, rs => by
  show sjoin o p (foldR (ps ++ qs) (os ++ rs)) = _
  rw [foldR_app ps os (by simpa using h) qs rs]; rfl
 | [], _ :: _, h, _, _ => by simp at h
 | _ :: _, [], h, _, _ => by simp at h
theorem rl_lift : ∀ (f n : Nat) (qs : List Pt) (rs : List (Int × Bool)) (r : Rd) (y : Pt) (r' : Rd), run f (.rl n qs rs) r = some (y, r') → ∀ ps os, ps.length = os.length →
 run f (.rl n (ps ++ qs) (os ++ rs)) r = some (foldRs ps os y, r') := by
 intro f
 induction f with
 | zero => intro n qs rs r y r' h; cases h
 | succ f ih =>
  intro n qs rs r y r' h ps os hl
  rw [run] at h ⊢
  cases hs : r.sign n with
  | none =>
   rw [hs] at h
   simp only [Option.some.injEq, Prod.mk.injEq] at h ⊢
   exact ⟨by rw [foldR_app ps os hl, h.1], h.2⟩
  | some s =>
   rw [hs] at h
   obtain ⟨⟨a, r1⟩, h1, h2⟩ := bind_some h
   simp only [h1, Option.bind_some]
   have := ih n _ _ _ _ _ h2 ps os hl
   rw [List.append_assoc, List.append_assoc]; exact this
theorem gets_right {n : Nat} (hn : n ≤ 2) {r r1 r' : Rd} {p q : Pt} {s : Int × Bool} (h : Gets (.lev (n + 1)) r p r1) (hs : r1.sign n = some s) (k : Gets (.lev n) r1.adv q r') : Gets (.lev n) r (sjoin s p q) r' := by
 obtain ⟨f, e1, e2⟩ := gets_two h k
 cases f with
 | zero => cases e2
 | succ f =>
  have e3 := e2
  rw [run, if_neg (by omega)] at e3
  obtain ⟨⟨b, r2⟩, k1, k2⟩ := bind_some e3
  simp only at k2
  rw [if_pos hn] at k2
  have := rl_lift f n [b] [] r2 q r' k2 [p] [s] rfl
  refine ⟨f + 2, ?_⟩
  rw [run, if_neg (by omega), e1]
  simp only [Option.bind_some]
  rw [if_pos hn, run]
  simp only [hs, k1, Option.bind_some]
  exact this
theorem rl_split : ∀ (f n : Nat) (qs : List Pt) (rs : List (Int × Bool)) (ps : List Pt) (os : List (Int × Bool)) (r : Rd) (x : Pt) (r' : Rd), ps.length = os.length →
 run f (.rl n (ps ++ qs) (os ++ rs)) r = some (x, r') → ∃ y, run f (.rl n qs rs) r = some (y, r') ∧ x = foldRs ps os y := by
 intro f
 induction f with
 | zero => intro n qs rs ps os r x r' _ h; cases h
 | succ f ih =>
  intro n qs rs ps os r x r' hl h
  rw [run] at h ⊢
  cases hs : r.sign n with
  | none =>
   rw [hs] at h
   simp only [Option.some.injEq, Prod.mk.injEq] at h ⊢
   exact ⟨_, ⟨rfl, h.2⟩, by rw [← foldR_app ps os hl, h.1]⟩
  | some s =>
   rw [hs] at h
   obtain ⟨⟨a, r1⟩, h1, h2⟩ := bind_some h
   simp only at h2
   rw [List.append_assoc, List.append_assoc] at h2
   obtain ⟨y, e1, e2⟩ := ih n _ _ ps os _ _ _ hl h2
   exact ⟨y, by simp only [h1, Option.bind_some]; exact e1, e2⟩
theorem lev_right {f n : Nat} (hn : n ≤ 2) {r r' : Rd} {x : Pt} (h : run (f + 1) (.lev n) r = some (x, r')) :
 ∃ p r1, run f (.lev (n + 1)) r = some (p, r1) ∧ ((r1.sign n = none ∧ x = p ∧ r' = r1) ∨ ∃ s q, r1.sign n = some s ∧ run f (.lev n) r1.adv = some (q, r') ∧ x = sjoin s p q) := by
 rw [run, if_neg (by omega)] at h
 obtain ⟨⟨p, r1⟩, h1, h2⟩ := bind_some h
 simp only at h2
 rw [if_pos hn] at h2
 refine ⟨p, r1, h1, ?_⟩
 cases f with
 | zero => cases h1
 | succ f =>
  rw [run] at h2
  cases hs : r1.sign n with
  | none =>
   rw [hs] at h2
   simp only [Option.some.injEq, Prod.mk.injEq] at h2
   exact .inl ⟨rfl, by rw [← h2.1]; rfl, h2.2.symm⟩
  | some s =>
   rw [hs] at h2
   obtain ⟨⟨b, r2⟩, k1, k2⟩ := bind_some h2
   simp only at k2
   obtain ⟨y, e1, e2⟩ := rl_split f n [b] [] [p] [s] r2 x r' rfl k2
   refine .inr ⟨s, y, rfl, ?_, e2⟩
   rw [run, if_neg (by omega), k1]
   simp only [Option.bind_some]
   rw [if_pos hn]; exact e1
theorem no_ws {r : Rd} (h : r.cur.kind = 2 ∨ r.cur.kind = 1) (s : Bytes) : r.isB s = false := by
 unfold Rd.isB Rd.ws
 rcases h with h | h <;> rw [h] <;> simp
theorem no_sign {r : Rd} (h : r.cur.kind = 2 ∨ r.cur.kind = 1) (n : Nat) : r.sign n = none := by
 unfold Rd.sign Rd.ws
 rcases h with h | h <;> rw [h] <;> simp
theorem gets_num {r : Rd} (hk : r.cur.kind = 2) (hn : numB 2147483647 r.cur = true) : Gets .single r (joined 1 (Lx.val r.cur.text : Nat) [] []) r.adv := by
 refine ⟨1, ?_⟩
 rw [run, if_neg (by rw [no_ws (.inl hk)]; decide), if_neg (by rw [no_ws (.inl hk)]; decide), if_neg (by rw [no_ws (.inl hk)]; decide), if_neg (by rw [no_ws (.inl hk)]; decide), if_pos hk]
 have e1 : r.numR 2147483647 = r.adv := by unfold Rd.numR; rw [if_pos hn]
 have e2 : r.num 2147483647 = Lx.val r.cur.text := by unfold Rd.num; rw [if_pos hn]
 rw [e1, e2]
end Go.Proofs.YtdebhngpgabglaaGreat.Sh
namespace Go.Proofs.YtdebhngpgabglaaGreat.Sh
open Go.Proofs.YtdebhngpgabglaaGreat.Tr Go.Proofs.YtdebhngpgabglaaGreat.Ex
def lv (o : Int) : Nat := (levM o).toNat
end Go.Proofs.YtdebhngpgabglaaGreat.Sh
namespace Go.Proofs.YtdebhngpgabglaaGreat.Sh
open Go.ChangeShapes Go.WideShapes Go.ChangeAt Go.RowKit
open Go.Proofs.YtdebhngpgabglaaGreat.Tr (str ret_bool ret_int Bytes Nd T Nodes May tree kidsM mkL mkT fitsB argsL unaryB binaryB ndCells)
end Go.Proofs.YtdebhngpgabglaaGreat.Sh
namespace Go.Proofs.YtdebhngpgabglaaGreat.Sh
open Go.ChangeShapes Go.WideShapes Go.ChangeAt Go.RowKit
open Go.Proofs.YtdebhngpgabglaaGreat.Tr (str ret_bool ret_int Bytes Nd T Nodes May tree kidsM mkL mkT fitsB argsL unaryB binaryB ndCells)
end Go.Proofs.YtdebhngpgabglaaGreat.Sh
namespace Go.Proofs.YtdebhngpgabglaaGreat.Sh
open Go.ChangeShapes Go.WideShapes Go.ChangeAt Go.RowKit
open Go.Proofs.YtdebhngpgabglaaGreat.Tr (str ret_bool ret_int Bytes Nd T Nodes May tree kidsM mkL mkT fitsB argsL unaryB binaryB ndCells)
end Go.Proofs.YtdebhngpgabglaaGreat.Sh
