/- The law's and the document's small functions: a digit of a row, a number below another one. Conditions: at most 62 variables. Maps in memory by keys of any kind, as functions of what the keys stand for. Conditions: the keys' law is given. -/
import Derived.Test.YtfohjlepknnleaaProg
import Derived.Test.YtfohjlepknnleaaChecked
import Derived.Test.YtfohjlepknnleaaRows
import Derived.Test.YtfohjlepknnleaaBdL
import Derived.WalkKit
import Derived.ProofKit
import Derived.OpenShut
import Derived.Outline
import Derived.Lib.Hide
import Derived.WalkLawsBesides
import Derived.WalkSpells
import Derived.Deep.Light
import Derived.OneCell
import Derived.OwnWalk
import Derived.Below
import Derived.RegionTactic
import Derived.Deep.QuietTactic
import Derived.BigQuiet
import Derived.Deep.DeepCutAuto
import Derived.Laws.OwnMore
import Derived.Maps.OwnSet
namespace Go.Proofs.Ytfohjlepknnleaa.Bd
open Go.ChangeShapes Go.WideShapes Go.ChangeAt Go.RowKit
set_option linter.unusedVariables false
set_option linter.unusedSimpArgs false

set_option maxRecDepth 100000 in
set_option maxHeartbeats 1600000 in
/-- A variable's value in a row. -/
theorem digit_any (w : World) (vars k i : Nat) (hv : vars ≤ 62) (hi : i < vars) (hk : k < 2 ^ vars) :
    Calls Try.prog 44 #[.int .i64 (k : Int), .int .i64 (i : Int), .int .i64 (vars : Int)] w (fun e w' => e = .returned (.bool (rowF vars k i)) ∧ w' = w) := by
  have he : (((k : Int) / 2 ^ (vars - 1 - i)).tmod 2 == 1) = rowF vars k i := by
    rw [digit_at (k := k) hi, Nat.shiftRight_eq_div_pow]
    have h1 : ((k : Int) / 2 ^ (vars - 1 - i)) = ((k / 2 ^ (vars - 1 - i) : Nat) : Int) := by simp
    have h2 : (((k / 2 ^ (vars - 1 - i) : Nat) : Int)).tmod 2 = ((k / 2 ^ (vars - 1 - i) % 2 : Nat) : Int) := rfl
    rw [h1, h2]
    by_cases c : k / 2 ^ (vars - 1 - i) % 2 = 1
    · rw [c]; rfl
    · have h3 : k / 2 ^ (vars - 1 - i) % 2 = 0 := by omega
      rw [h3]; rfl
  go_enter Try.func44, Try.ntmps44
  go_wp2_with fail
  refine bodyPost_ret (v := .bool (rowF vars k i)) (by simp [results, Try.results44, go_sem]) rfl ⟨rfl, rfl⟩

set_option maxRecDepth 100000 in
set_option maxHeartbeats 1600000 in
/-- A number below another one. -/
theorem pick_any (w : World) (n b : Int) (hn : -9223372036854775808 ≤ n ∧ n ≤ 9223372036854775807) (hb : 0 ≤ b ∧ b ≤ 9223372036854775807) :
    Calls Try.prog 25 #[.int .i64 n, .int .i64 b] w (fun e w' => (∃ r : Int, e = .returned (.int .i64 r) ∧ 0 ≤ r ∧ r < max b 1) ∧ w' = w) := by
  have h1 : 0 ≤ -(n + 1) → 0 < b → 0 ≤ -((n + 1).tmod b) ∧ -((n + 1).tmod b) < b := fun a c => by
    rw [← Int.neg_tmod]
    exact ⟨Int.tmod_nonneg _ a, Int.tmod_lt_of_pos _ c⟩
  have h2 : 0 < b → 0 ≤ n % b ∧ n % b < b := fun c => ⟨Int.emod_nonneg _ (by omega), Int.emod_lt_of_pos _ c⟩
  have h3 : 0 ≤ n → 0 < b → 0 ≤ n.tmod b ∧ n.tmod b < b := fun a c => ⟨Int.tmod_nonneg _ a, Int.tmod_lt_of_pos _ c⟩
  by_cases h : n < 0
  · go_enter Try.func25, Try.ntmps25
    go_wp2_with fail
    all_goals
      refine bodyPost_ret (by simp [results, Try.results25, go_sem]; rfl) rfl ⟨⟨_, rfl, ?_, ?_⟩, rfl⟩
    all_goals omega
  · go_enter Try.func25, Try.ntmps25
    go_wp2_with fail
    all_goals
      refine bodyPost_ret (by simp [results, Try.results25, go_sem]; rfl) rfl ⟨⟨_, rfl, ?_, ?_⟩, rfl⟩
    all_goals omega
end Go.Proofs.Ytfohjlepknnleaa.Bd

namespace Go.Proofs.Ytfohjlepknnleaa.Bd
open Go Go.ChangeShapes Go.WideShapes Go.RowKit Go.Maps Go.WideMaps
set_option linter.unusedVariables false
set_option linter.unusedSimpArgs false

/-- An element is read as itself. -/
def heldE (v : Value) : Option (DataW Value × List MemPlace) := some (.held v, [])

/-- How what is told by 'a' stands as a key. -/
structure Keys (P : Program) (T : TypeId) {α : Type} (ok : α → Prop) (key : α → Value) (lit : α → Lit) : Prop where
  law : Keyed P T
  of : ∀ a, ok a → keyOf P T (key a) = some (lit a)
  inj : ∀ a b, ok a → ok b → lit a = lit b → a = b

/-- A block is a map, of so many entries at most. -/
def MapK (P : Program) (T : TypeId) {α : Type} (ok : α → Prop) (lit : α → Lit) (w : World) (b n : Nat) (f : α → Option Value) : Prop :=
  ∃ D : DataW Value, w.ownsMap P T heldE b n D ∧ ∀ a, ok a → Maps.has D (lit a) = (f a).isSome ∧ ∀ v z, f a = some v → D.atKey (lit a) z = .held v

variable {P : Program} {T : TypeId} {α : Type} {ok : α → Prop} {key : α → Value} {lit : α → Lit}

theorem MapK.made (w : World) : MapK P T ok lit (w.alloc (.map #[] 0)) w.heap.size 0 (fun _ => none) :=
  ⟨.map [], World.ownsMap_made _ _ _ _, fun s _ => ⟨rfl, fun v z h => by cases h⟩⟩

theorem MapK.lt {w : World} {b n : Nat} {f : α → Option Value} (h : MapK P T ok lit w b n f) : b < w.heap.size := by
  obtain ⟨D, h1, _⟩ := h
  exact h1.lt

theorem MapK.keep {w w' : World} {b n : Nat} {f : α → Option Value} (h : MapK P T ok lit w b n f) (hb : w'.heap[b]? = w.heap[b]?) : MapK P T ok lit w' b n f := by
  obtain ⟨D, ⟨es, clock, h1, h2⟩, h3⟩ := h
  exact ⟨D, ⟨es, clock, hb.trans h1, h2⟩, h3⟩

theorem MapK.below {w w' : World} {b n B : Nat} {f : α → Option Value} (h : MapK P T ok lit w b n f) (hb : Below B w w') (hB : b < B) : MapK P T ok lit w' b n f := h.keep (hb.block b hB)

theorem MapK.alloc {w : World} {b n : Nat} {f : α → Option Value} (h : MapK P T ok lit w b n f) (o : Obj) : MapK P T ok lit (w.alloc o) b n f := h.keep (Below.heap_alloc _ _ _ h.lt)

theorem MapK.grown {w w' : World} {b n : Nat} {row : Option Nat} {f : α → Option Value} (h : MapK P T ok lit w b n f) (hg : w.grownBy w' row) (hne : some b ≠ row) : MapK P T ok lit w' b n f := h.keep (hg.block b h.lt hne)

theorem MapK.mono {w : World} {b n m : Nat} {f : α → Option Value} (h : MapK P T ok lit w b n f) (hn : n ≤ m) : MapK P T ok lit w b m f := by
  obtain ⟨D, h1, h2⟩ := h
  exact ⟨D, h1.mono hn, h2⟩

theorem MapK.look (K : Keys P T ok key lit) {w : World} {b n : Nat} {f : α → Option Value} (h : MapK P T ok lit w b n f) {t e : TypeId} {z : Value} (ht : P.underlying t = some (.map T e)) (hz : (zeroValue e).run P w = .ok z w) (s : α) (hs : ok s) :
    (Instr.lookup t (.map (some b)) (key s) true).run P w = .ok (.tuple #[(f s).getD z, .bool (f s).isSome]) w := by
  obtain ⟨D, own, hD⟩ := h
  obtain ⟨v, ps, hrun, hv⟩ := own.look_ok K.law ht hz (zd := .held z) (zp := []) rfl (K.of s hs)
  have hv' : DataW.held v = D.atKey (lit s) (.held z) := by
    unfold heldE at hv
    simp only [Option.some.injEq, Prod.mk.injEq] at hv
    exact hv.1
  rw [hrun, (hD s hs).1]
  cases hf : f s with
  | some u =>
    rw [(hD s hs).2 u (.held z) hf] at hv'
    have hv' := DataW.held.inj hv'
    simp only [Option.getD_some, Option.isSome_some, hv']
  | none =>
    have h0 : Maps.has D (lit s) = false := by rw [(hD s hs).1, hf]; rfl
    rw [atKey_of_not_has h0] at hv'
    have hv' := DataW.held.inj hv'
    simp only [Option.getD_none, Option.isSome_none, hv']

theorem MapK.put [DecidableEq α] (K : Keys P T ok key lit) {w : World} {b n : Nat} {f : α → Option Value} (h : MapK P T ok lit w b n f) {t e : TypeId} (ht : P.underlying t = some (.map T e)) (hn : n < maxLen) (s : α) (hs : ok s) (v : Value) :
    ∃ w', (Instr.mapUpdate t (.map (some b)) (key s) v).run P w = .ok () w' ∧ MapK P T ok lit w' b (n + 1) (fun x => if x = s then some v else f x) ∧ w.grownBy w' (some b) := by
  obtain ⟨D, own, hD⟩ := h
  have hI := own.isMap
  have hkl := K.law.key (K.of s hs)
  obtain ⟨w', hrun, hown, hg⟩ := own.update K.law ht hn (K.of s hs) (d := .held v) (ps := []) rfl
  refine ⟨w', hrun, ⟨_, hown, fun x hx0 => ?_⟩, hg⟩
  show Maps.has _ _ = (if x = s then some v else f x).isSome ∧ ∀ u z, (if x = s then some v else f x) = some u → _
  by_cases hx : x = s
  · subst hx
    rw [if_pos rfl]
    exact ⟨has_put_same hI hkl _, fun u z hu => by cases hu; exact atKey_put_same hI hkl _ _⟩
  · have hne : lit x ≠ lit s := fun h => hx (K.inj x s hx0 hs h)
    rw [if_neg hx]
    exact ⟨(has_put_other hne _).trans (hD x hx0).1, fun u z hu => (atKey_put_other hne _ _).trans ((hD x hx0).2 u z hu)⟩
end Go.Proofs.Ytfohjlepknnleaa.Bd
