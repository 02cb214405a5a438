/- A choice by its two sides: what stands behind the second one, and behind the node that is put. Conditions: none. -/
import Derived.Test.YtfohjlepknnleaaBdTt
namespace Go.Proofs.Ytfohjlepknnleaa.Bd
open Go.ChangeShapes Go.WideShapes Go.ChangeAt Go.RowKit
set_option linter.unusedVariables false
set_option linter.unusedSimpArgs false

theorem Fr.wide {dd kb mm : Nat} {w w' : World} {fv fv' : Value} (h : Fr dd kb kb w w' fv fv') : Fr dd kb mm w w' fv fv' :=
  ⟨h.size, fun g hg a b _ d => h.keep g hg a b b d, h.own⟩
/-- What is written beside a draft and what it remembers. -/
theorem Dr.set {P : Dp} {E : Nat} {ns : List Nd} {ok : Prop} {w : World} {fv : Value} {F : List Nd} (hD : Dr P w fv F) (hC : Ch P E ns ok w) {n k : Nat} {u : Value} {cs : Array Value} {T : TypeId} (hn : w.heap[n]? = some (.cells cs T (0, 0))) (hE : E + 6 ≤ n) (hd : n ≠ P.dd) (ho : fv.ownBlock ≠ some n) :
    Dr P (w.setCell ⟨n, k, none⟩ u) fv F ∧ Ch P E ns ok (w.setCell ⟨n, k, none⟩ u) := by
  obtain ⟨f, k1, k3⟩ := hD.known
  obtain ⟨m, f2, k2, k4, k5⟩ := hC.c4
  have hE1 := hC.hE
  have hk := hC.hk
  have K : ∀ g, g ≠ n → (w.setCell ⟨n, k, none⟩ u).heap[g]? = w.heap[g]? := fun g h => Below.heap_setCell _ _ _ _ h
  refine ⟨⟨hD.st, hD.below.setCell (by show _ ≤ n; omega) _, (K _ (fun e => hd e.symm)).trans hD.box, own_keep hD.row (fun g h1 => K g (fun e => ho (by rw [← e]; exact h1))), ⟨f, k1.keep (K _ (by omega)), k3⟩, hD.good, hD.dd, hD.kb, hD.room, hD.lim⟩,
    ⟨(K _ (by omega)).trans hC.c0, (K _ (by omega)).trans hC.c1, (K _ (by omega)).trans hC.c2, (K _ (by omega)).trans hC.c3, (K _ (by omega)).trans hC.c5, ⟨m, f2, k2.keep (K _ (by omega)), k4, k5⟩, hC.hE, hC.hk⟩⟩
theorem Ch.put_fr {P : Dp} {E : Nat} {ns : List Nd} {ok : Prop} {w w' : World} {fv fv' : Value} {F : List Nd} (hD : Dr P w fv F) (hC : Ch P E ns ok w) (hF : Fr P.dd P.kb P.kb w w' fv fv') : Ch P E ns ok w' := by
  have hF2 : Fr P.dd P.kb (E + 4) w w' fv fv' := hF.wide
  obtain ⟨m, f2, k2, k4, k5⟩ := hC.c4
  have hk := hC.hk
  have h4 : w'.heap[E + 4]? = w.heap[E + 4]? := hF.keep _ k2.lt (fun e => map_ne k2 hD.box (by omega)) (by omega) (by omega) (own_nm hD.row k2)
  exact ⟨hF2.stay hD hC hC.c0 (by decide) (by decide), hF2.stay hD hC hC.c1 (by decide) (by decide), hF2.stay hD hC hC.c2 (by decide) (by decide), hF2.stay hD hC hC.c3 (by decide) (by decide), hF2.stay hD hC hC.c5 (by decide) (by decide), ⟨m, f2, k2.keep h4, k4, k5⟩, hC.hE, hC.hk⟩
theorem IteTo.le {vars : Nat} {ns ns' : List Nd} {f g h i j x : Nat} (t : IteTo vars ns f g h i ns' x) (hj : j ≤ i) : IteTo vars ns f g h j ns' x := ⟨t.more, t.good, t.lt, t.val, Nat.le_trans hj t.ge⟩

theorem reckon_end {P : Dp} {E : Nat} {w wr w7 w8 w9 : World} {fv fv1 : Value} {F F1 : List Nd} {f g h i M x0 : Nat} {v1 : Int} (hD : Dr P w fv F) (lf : f < (P.S ++ F).length) (lg : g < (P.S ++ F).length) (lh : h < (P.S ++ F).length) (hi : mn (P.S ++ F) f g h = i) (hiv : i < P.vars)
    (hb : Below w.heap.size w wr) (hD7 : Dr P w7 fv1 F1) (hF7 : Fr P.dd P.kb (E + 4) wr w7 fv fv1) (hn7 : F1.length ≤ F.length + M) (hm7 : ∃ m, F1 = F ++ m) (hC7 : Ch P E (P.S ++ F1) True w7)
    (hx0 : IteTo P.vars (P.S ++ F) (side (P.S ++ F) f i false) (side (P.S ++ F) g i false) (side (P.S ++ F) h i false) (i + 1) (P.S ++ F1) x0)
    (hb8 : Below w7.heap.size w7 w8) (hn8 : w8.heap[w7.heap.size]? = some (.cells #[.int .i64 (i : Int), .int .i64 (x0 : Int), .int .i64 0] 59 (0, 0)))
    (h1i : i + 1 ≤ mn (P.S ++ F1) (side (P.S ++ F) f i true) (side (P.S ++ F) g i true) (side (P.S ++ F) h i true))
    (hp9 : ChPost P E w8 fv1 F1 (side (P.S ++ F) f i true) (side (P.S ++ F) g i true) (side (P.S ++ F) h i true) M (.returned (.int .i64 v1)) w9) :
    w9.heap[w7.heap.size]? = some (.cells #[.int .i64 (i : Int), .int .i64 (x0 : Int), .int .i64 0] 59 (0, 0)) ∧
    ∃ fv2 F2, Dr P (w9.setCell ⟨w7.heap.size, 2, none⟩ (.int .i64 v1)) fv2 F2 ∧ (∃ ok, Ch P E (P.S ++ F2) ok (w9.setCell ⟨w7.heap.size, 2, none⟩ (.int .i64 v1))) ∧ (x0 < (P.S ++ F2).length ∧ i < tst (P.S ++ F2) x0) ∧ (v1 = -1 ∨ ∃ l : Nat, v1 = (l : Int) ∧ l < (P.S ++ F2).length ∧ i < tst (P.S ++ F2) l) ∧
      ∀ e w11, PutPost P (w9.setCell ⟨w7.heap.size, 2, none⟩ (.int .i64 v1)) fv2 F2 i x0 v1 e w11 → ChPost P E w fv F f g h (2 * M + 1) e w11 := by
  obtain ⟨fv2, F2, hD9, hF9, hn9, ⟨m2, hm9⟩, hR9⟩ := hp9
  obtain ⟨m1, hm7⟩ := hm7
  have hE6 : E + 6 ≤ w7.heap.size := by have := block_lt hC7.c5; omega
  have hdd : P.dd < w7.heap.size := block_lt hD7.box
  have hD8 := hD7.kept hb8
  have hC8 := hC7.kept hb8
  obtain ⟨kf, kk1, _⟩ := hD7.known
  have hk7 := kk1.lt
  have ho1 : fv1.ownBlock ≠ some w7.heap.size := fun e => by obtain ⟨cs, h2⟩ := own_type hD7.row e; have := block_lt h2; omega
  have hn9' : w9.heap[w7.heap.size]? = some (.cells #[.int .i64 (i : Int), .int .i64 (x0 : Int), .int .i64 0] 59 (0, 0)) := by
    rw [hF9.keep _ (block_lt hn8) (by omega) (by omega) (by omega) ho1]; exact hn8
  have ho2 : fv2.ownBlock ≠ some w7.heap.size := fun e => by
    rcases hF9.own _ e with e1 | e1
    · exact ho1 e1
    · have := block_lt hn8; omega
  obtain ⟨ok, hC9, hR⟩ : ∃ ok : Prop, Ch P E (P.S ++ F2) ok w9 ∧ ((v1 = -1 ∧ P.limit ≤ P.S.length + F2.length) ∨ ∃ x : Nat, v1 = (x : Int) ∧ IteTo P.vars (P.S ++ F1) (side (P.S ++ F) f i true) (side (P.S ++ F) g i true) (side (P.S ++ F) h i true) (i + 1) (P.S ++ F2) x ∧ ok = True) := by
    rcases hR9 with ⟨e, a, b⟩ | ⟨x, e, a, b⟩
    · exact ⟨False, b, .inl ⟨by simpa using e, a⟩⟩
    · exact ⟨True, b, .inr ⟨x, by simpa using e, a.le h1i, rfl⟩⟩
  obtain ⟨hDS, hCS⟩ := hD9.set hC9 (k := 2) (u := .int .i64 v1) hn9' hE6 (by omega) ho2
  have g1 := hD7.good
  have e2 : P.S ++ F2 = (P.S ++ F1) ++ m2 := by rw [hm9, List.append_assoc]
  have l0 : x0 < (P.S ++ F2).length := by have := hx0.lt; rw [e2, List.length_append]; omega
  have t0 : tst (P.S ++ F2) x0 = tst (P.S ++ F1) x0 := by rw [e2]; exact tst_app hx0.lt
  refine ⟨hn9', fv2, F2, hDS, ⟨ok, hCS⟩, ⟨l0, by rw [t0]; have := hx0.ge; omega⟩, ?_, ?_⟩
  · rcases hR with ⟨a, _⟩ | ⟨x, a, b, _⟩
    · exact .inl a
    · exact .inr ⟨x, a, b.lt, by have := b.ge; omega⟩
  · rintro e w11 ⟨fv3, F3, hD11, hF11, hR11⟩
    have hC11 := hCS.put_fr hDS hF11
    have hfr : Fr P.dd P.kb (E + 4) w w11 fv fv3 := by
      have a : Fr P.dd P.kb (E + 4) w w9 fv fv2 := (Fr.of hb).trans (hF7.trans ((Fr.of hb8).trans hF9))
      have hs := a.size
      have hs7 := hF7.size
      have hsb := hb.size
      refine ⟨by have := hF11.size; simp at this; omega, fun y hy a1 a2 a3 a4 => ?_, fun y hy => ?_⟩
      · rw [hF11.keep y (by simp; omega) a1 a2 a2 (fun e => by
          rcases a.own y e with e1 | e1
          · exact a4 e1
          · omega), Below.heap_setCell _ _ _ _ (by show y ≠ w7.heap.size; omega)]
        exact a.keep y hy a1 a2 a3 a4
      · rcases hF11.own y hy with e1 | e1
        · exact a.own y e1
        · simp at e1; exact .inr (by omega)
    rcases hR11 with ⟨rfl, rfl, hc⟩ | ⟨x, l, j, rfl, el, ej, ⟨m3, hm3, hl3⟩, hput⟩
    · refine ⟨fv3, F3, hD11, hfr, by omega, ⟨m1 ++ m2, by rw [hm9, hm7, List.append_assoc]⟩, .inl ⟨rfl, ?_, hC11.weak _⟩⟩
      rcases hc with c | c | c
      · omega
      · rcases hR with ⟨_, a⟩ | ⟨y, a, _, _⟩
        · exact a
        · omega
      · exact c
    · rcases hR with ⟨a, _⟩ | ⟨y, a, b, ho⟩
      · omega
      · obtain rfl : l = x0 := by omega
        obtain rfl : j = y := by omega
        have e3 : P.S ++ F3 = (P.S ++ F2) ++ m3 := by rw [hm3, List.append_assoc]
        have st := ite_step hD.good hiv lf lg lh (by rw [← hi]; exact mn_le.1) (by rw [← hi]; exact mn_le.2.1) (by rw [← hi]; exact mn_le.2.2) hx0 b ⟨m3, e3⟩ hput
        refine ⟨fv3, F3, hD11, hfr, by rw [hm3, List.length_append]; omega, ⟨m1 ++ m2 ++ m3, by rw [hm3, hm9, hm7]; simp⟩, .inr ⟨x, rfl, by rw [hi]; exact st, ?_⟩⟩
        subst ho
        have := hC11.app (m := m3) (by rw [← e3]; exact hD11.good)
        rw [← e3] at this
        exact this
end Go.Proofs.Ytfohjlepknnleaa.Bd
