/- What a new node in a draft leaves. Conditions: none. -/
import Derived.Test.YtfohjlepknnleaaBdI
namespace Go.Proofs.Ytfohjlepknnleaa.Bd
open Go.ChangeShapes Go.WideShapes Go.ChangeAt Go.RowKit
set_option linter.unusedVariables false
set_option linter.unusedSimpArgs false

theorem infoN : (Try.prog.info? 59).map (fun i => (i.zero, i.size, i.bytes)) = some (some (.agg #[.int .i64 0, .int .i64 0, .int .i64 0]), 3, 24) := by kernel_rfl

theorem own_keep {w w' : World} {b : Nat} {e : TypeId} {s : Nat} {v : Value} {n : Nat} {xs : List Value} (h : w.ownsRow b e s v n xs) (hk : ∀ g, v.ownBlock = some g → w'.heap[g]? = w.heap[g]?) : w'.ownsRow b e s v n xs := by
  refine ⟨h.1, ?_⟩
  rcases h.2 with h0 | ⟨g, cap, cur, h1, h2, h3, h4⟩
  · exact .inl h0
  · exact .inr ⟨g, cap, cur, h1, h2, by rw [hk g (by rw [h1]; rfl)]; exact h3, h4⟩
/-- The block of a row has cells of its element's type. -/
theorem own_type {w : World} {b : Nat} {e : TypeId} {s : Nat} {v : Value} {n : Nat} {xs : List Value} (h : w.ownsRow b e s v n xs) {g : Nat} (hg : v.ownBlock = some g) : ∃ cs, w.heap[g]? = some (.cells cs e (0, 0)) := by
  rcases h.2 with h0 | ⟨g', cap, cur, h1, h2, h3, h4⟩
  · rw [h0.1] at hg; cases hg
  · rw [h1] at hg
    have : g' = g := by simpa [Value.ownBlock] using hg
    subst this
    exact ⟨_, h3⟩
theorem own_ne {w : World} {b : Nat} {e T : TypeId} {s : Nat} {v : Value} {n : Nat} {xs : List Value} (h : w.ownsRow b e s v n xs) {g : Nat} {cs : Array Value} {lk : Nat × Nat} (hg : w.heap[g]? = some (.cells cs T lk)) (hT : T ≠ e) : v.ownBlock ≠ some g := fun hh => by
  obtain ⟨cs', h2⟩ := own_type h hh
  rw [hg] at h2
  injection h2 with h2
  injection h2 with _ h3 _
  exact hT h3
theorem own_nm {w : World} {α : Type} {KT : TypeId} {okk : α → Prop} {lt : α → Lit} {b : Nat} {e : TypeId} {s : Nat} {v : Value} {n : Nat} {xs : List Value} (h : w.ownsRow b e s v n xs) {g m : Nat} {f : α → Option Value} (hm : MapK Try.prog KT okk lt w g m f) : v.ownBlock ≠ some g := fun hh => by
  obtain ⟨cs', h2⟩ := own_type h hh
  obtain ⟨D, ⟨es, clock, h3, _⟩, _⟩ := hm
  rw [h3] at h2
  cases h2
theorem map_ne {w : World} {α : Type} {KT : TypeId} {okk : α → Prop} {lt : α → Lit} {g g' m : Nat} {f : α → Option Value} (hm : MapK Try.prog KT okk lt w g m f) {cs : Array Value} {T : TypeId} {lk : Nat × Nat} (hg : w.heap[g']? = some (.cells cs T lk)) : g' ≠ g := fun hh => by
  obtain ⟨D, ⟨es, clock, h3, _⟩, _⟩ := hm
  rw [hh, h3] at hg
  cases hg
theorem ndC_snoc (l : List Nd) (n : Nd) : ndC (l ++ [n]) = ndC l ++ cellsOf n := by unfold ndC; rw [List.flatMap_append]; simp

theorem fresh_end {P : Dp} {w w1 w2 w6 w7 : World} {fv : Value} {F : List Nd} {t lo hi q gg cap : Nat} {kf : Nd → Option Value} {o : Obj} (h : Dr P w fv F) (hb : Below w.heap.size w w1) (hk : Dr P w1 fv F)
    (hT : Tells 0 P.S.length F kf) (hkm : MapK Try.prog 59 okN litN w1 P.kb F.length kf) (hok : okN (t, lo, hi)) (hno : ∀ i, 2 ≤ i → (P.S ++ F)[i]? ≠ some (t, lo, hi)) (hful : P.S.length + F.length < P.limit)
    (hm2 : MapK Try.prog 59 okN litN w2 P.kb (F.length + 1) (fun x => if x = (t, lo, hi) then some (.int .i64 ((P.S.length : Int) + (F.length : Int))) else kf x)) (hg2 : (w1.drewN q).grownBy w2 (some P.kb))
    (hb6 : Below w2.heap.size w2 w6) (hg7 : w6.grownBy w7 fv.ownBlock) (hown : w7.ownsRow P.W0.heap.size 59 3 (.slice (some ⟨gg, 0, none⟩) (F.length + 1) cap) (F.length + 1) (ndC F ++ [.int .i64 (t : Int), .int .i64 (lo : Int), .int .i64 (hi : Int)]))
    (hat : fv.ownBlock = some gg ∨ w2.heap.size ≤ gg) (hp : PutTo P.vars (P.S ++ F) t lo hi ((P.S ++ F) ++ [(t, lo, hi)]) (P.S ++ F).length) :
    PutPost P w fv F t lo hi (.returned (.int .i64 ((P.S.length : Int) + (F.length : Int)))) (w7.setCell ⟨P.dd, 1, none⟩ (.slice (some ⟨gg, 0, none⟩) (F.length + 1) cap)) := by
  have hdd := block_lt hk.box
  have hkb := hkm.lt
  have hs2 : w1.heap.size ≤ w2.heap.size := hg2.size
  have hs6 := hb6.size
  have hs7 := hg7.size
  have hs1 := hb.size
  have e2 : ∀ g, g < w1.heap.size → g ≠ P.kb → w2.heap[g]? = w1.heap[g]? := fun g hg hne => hg2.block g hg (fun e => hne (by injection e))
  have e6 : ∀ g, g < w2.heap.size → w6.heap[g]? = w2.heap[g]? := fun g hg => hb6.block g hg
  have e7 : ∀ g, g < w6.heap.size → fv.ownBlock ≠ some g → w7.heap[g]? = w6.heap[g]? := fun g hg hne => hg7.block g hg (fun e => hne e.symm)
  have E : ∀ g, g < w1.heap.size → g ≠ P.kb → fv.ownBlock ≠ some g → w7.heap[g]? = w1.heap[g]? := fun g hg a b => by rw [e7 g (by omega) b, e6 g (by omega), e2 g hg a]
  have nk : P.dd ≠ P.kb := map_ne hkm hk.box
  have nd : fv.ownBlock ≠ some P.dd := own_ne hk.row hk.box (by decide)
  have nm : fv.ownBlock ≠ some P.kb := own_nm hk.row hkm
  have hbox7 : w7.heap[P.dd]? = some (.cells #[.pointer (some ⟨P.b, 0, none⟩), fv, .map (some P.kb), .int .i64 (P.limit : Int)] 86 (0, 0)) := (E _ hdd nk nd).trans hk.box
  have hgg : gg ≠ P.dd := fun e => by
    obtain ⟨cs, h2⟩ := own_type hown (g := gg) rfl
    rw [e, hbox7] at h2
    injection h2 with h2
    injection h2 with _ h3 _
    exact absurd h3 (by decide)
  refine ⟨.slice (some ⟨gg, 0, none⟩) (F.length + 1) cap, F ++ [(t, lo, hi)], ⟨h.st, ?_, ?_, ?_, ?_, ?_, h.dd, h.kb, ?_, h.lim⟩, ⟨?_, ?_, ?_⟩, .inr ⟨P.S.length + F.length, lo, hi, rfl, rfl, rfl, ⟨[(t, lo, hi)], rfl, by simp⟩, ?_⟩⟩
  · have h0 := hk.below.size
    have h1 : Below P.W0.heap.size P.W0 w2 := (hk.below.trans (below_drewN (Below.refl _ _) q)).grown hg2 h0 (fun k e => by injection e with e; rw [← e]; exact h.kb)
    exact ((h1.trans (hb6.mono h1.size)).grown hg7 (by omega) (fun k e => (hk.row.lt k e).1)).setCell h.dd _
  · simp [World.setCell, Array.getElem?_modify, hbox7]
  · rw [List.length_append, List.length_singleton, ndC_snoc]
    refine own_keep hown (fun g hg => ?_)
    have : g = gg := by simpa [Value.ownBlock] using hg.symm
    subst this
    exact Below.heap_setCell _ _ _ _ hgg
  · have hkk : (w7.setCell ⟨P.dd, 1, none⟩ (.slice (some ⟨gg, 0, none⟩) (F.length + 1) cap)).heap[P.kb]? = w2.heap[P.kb]? := (Below.heap_setCell w7 ⟨P.dd, 1, none⟩ _ P.kb (fun e => nk e.symm)).trans ((e7 P.kb (by omega) nm).trans (e6 P.kb (by omega)))
    refine ⟨_, by rw [List.length_append, List.length_singleton]; exact hm2.keep hkk, ?_, ?_⟩
    · intro n hn i _ hh
      by_cases c : n = (t, lo, hi)
      · rw [if_pos c] at hn; cases hn
      · rw [if_neg c] at hn
        by_cases d : i < F.length
        · rw [List.getElem?_append_left d] at hh
          exact hT.no n hn i (Nat.zero_le _) hh
        · have hl := (List.getElem?_eq_some_iff.mp hh).1
          rw [List.length_append, List.length_singleton] at hl
          obtain rfl : i = F.length := by omega
          rw [List.getElem?_append_right (Nat.le_refl _), Nat.sub_self] at hh
          exact c (by simpa using hh.symm)
    · intro n v hn
      by_cases c : n = (t, lo, hi)
      · rw [if_pos c] at hn
        injection hn with hn
        exact ⟨F.length, Nat.zero_le _, by rw [← hn]; congr 1, by rw [List.getElem?_append_right (Nat.le_refl _), Nat.sub_self, c]; rfl⟩
      · rw [if_neg c] at hn
        obtain ⟨i, a, b, d⟩ := hT.yes n v hn
        exact ⟨i, a, b, by rw [List.getElem?_append_left (lt_of d)]; exact d⟩
  · rw [← List.append_assoc]; exact hp.good
  · have := h.lim
    rw [List.length_append, List.length_singleton]; omega
  · simp; omega
  · intro g hg a1 a2 a3 a4
    rw [Below.heap_setCell _ _ _ _ a1, E g (by omega) a2 a4]
    exact hb.block g hg
  · intro g hg
    have : gg = g := by simpa [Value.ownBlock] using hg
    subst this
    rcases hat with e | e
    · exact .inl e
    · exact .inr (by omega)
  · rw [← List.append_assoc, ← List.length_append]; exact hp
end Go.Proofs.Ytfohjlepknnleaa.Bd
