/- The closure that sets a variable: by its two sides. Conditions: none. -/
import Derived.Test.YtfohjlepknnleaaBdRa
namespace Go.Proofs.Ytfohjlepknnleaa.Bd
open Go.ChangeShapes Go.WideShapes Go.ChangeAt Go.RowKit
set_option linter.unusedVariables false
set_option linter.unusedSimpArgs false

/-- What is read on the way. -/
def RdN (P : Dp) (E nb t lo hi : Nat) (W : World) : Prop :=
  (W.cell? ⟨E, 0, none⟩ = some (.pointer (some ⟨P.dd, 0, none⟩)) ∧ W.cell? ⟨E + 3, 0, none⟩ = some (.func (.func 54) #[] #[.pointer (some ⟨E + 6, 0, none⟩), .pointer (some ⟨E + 4, 0, none⟩)])) ∧
  W.cell? ⟨nb, 0, none⟩ = some (.int .i64 (t : Int)) ∧ W.cell? ⟨nb, 1, none⟩ = some (.int .i64 (lo : Int)) ∧ W.cell? ⟨nb, 2, none⟩ = some (.int .i64 (hi : Int))
theorem rdN {P : Dp} {E i nb t lo hi : Nat} {b : Bool} {F : List Nd} {W : World} (hR : Rs P E i b F W) (hn : W.heap[nb]? = some (.cells #[.int .i64 (t : Int), .int .i64 (lo : Int), .int .i64 (hi : Int)] 59 (0, 0))) : RdN P E nb t lo hi W :=
  ⟨⟨hR.ats.1, hR.ats.2.2.2.1⟩, by unfold World.cell?; rw [hn]; rfl, by unfold World.cell?; rw [hn]; rfl, by unfold World.cell?; rw [hn]; rfl⟩

theorem rs_chain {P : Dp} {E i : Nat} {b : Bool} {w W : World} {fv : Value} {F : List Nd} {f t lo hi M nb : Nat} (hD : Dr P w fv F) (hR : Rs P E i b F w) (h2 : 2 ≤ f) (hnd : (P.S ++ F)[f]? = some (t, lo, hi)) (hti : t < i)
    (hb : Below w.heap.size w W) (hnb : w.heap.size ≤ nb) (hn : W.heap[nb]? = some (.cells #[.int .i64 (t : Int), .int .i64 (lo : Int), .int .i64 (hi : Int)] 59 (0, 0)))
    (ih : ∀ W' fv' F' g, Dr P W' fv' F' → Rs P E i b F' W' → g < (P.S ++ F').length → t + 1 ≤ tst (P.S ++ F') g → Calls Try.prog 54 #[.int .i64 (g : Int), .pointer (some ⟨E + 6, 0, none⟩), .pointer (some ⟨E + 4, 0, none⟩)] W' (RsPost P E i b W' fv' F' g M)) :
    Calls Try.prog 54 #[.int .i64 (lo : Int), .pointer (some ⟨E + 6, 0, none⟩), .pointer (some ⟨E + 4, 0, none⟩)] W (fun e w2 => ∃ v0, e = .returned (.int .i64 v0) ∧ RdN P E nb t lo hi w2 ∧
      Calls Try.prog 54 #[.int .i64 (hi : Int), .pointer (some ⟨E + 6, 0, none⟩), .pointer (some ⟨E + 4, 0, none⟩)] w2 (fun e w3 => ∃ v1, e = .returned (.int .i64 v1) ∧ RdN P E nb t lo hi w3 ∧
        Calls Try.prog 36 #[.pointer (some ⟨P.dd, 0, none⟩), .agg #[.int .i64 (t : Int), .int .i64 v0, .int .i64 v1]] w3 (fun e w4 => ∃ v2, e = .returned (.int .i64 v2) ∧ RdN P E nb t lo hi w4 ∧ RsPost P E i b w fv F f (2 * M + 1) e w4))) := by
  have G := hD.good
  obtain ⟨e1, e2, e3, e4, e5, e6⟩ := G.node f t lo hi h2 hnd
  have lf := lt_of hnd
  have hDW := hD.kept hb
  have hRW := hR.kept hb
  have own0 : ∀ g, fv.ownBlock = some g → g < w.heap.size := fun g e => by
    obtain ⟨cs, h⟩ := own_type hD.row e
    exact block_lt h
  have hddw : P.dd < w.heap.size := block_lt hD.box
  obtain ⟨kf, km, _⟩ := hD.known
  have hkbw := km.lt
  obtain ⟨n0, mf0, hm0, _, _⟩ := hR.c5
  have hmw := hm0.lt
  have hnbW := block_lt hn
  refine (ih W fv F lo hDW hRW (by omega) (by omega)).mono ?_
  rintro e w2 hp2
  obtain ⟨v0, rfl⟩ := hp2.int
  obtain ⟨fv1, F1, hD1, hF1, hN1, ⟨m1, hM1⟩, hR1, hE1⟩ := hp2
  have hn2 : w2.heap[nb]? = some (.cells #[.int .i64 (t : Int), .int .i64 (lo : Int), .int .i64 (hi : Int)] 59 (0, 0)) := by
    rw [hF1.keep nb hnbW (by omega) (by omega) (by omega) (fun e => by have := own0 _ e; omega)]; exact hn
  have own1 : fv1.ownBlock ≠ some nb := fun e => by
    rcases hF1.own _ e with h | h
    · have := own0 _ h; omega
    · omega
  have eq1 : P.S ++ F1 = (P.S ++ F) ++ m1 := by rw [hM1, List.append_assoc]
  have thi : tst (P.S ++ F1) hi = tst (P.S ++ F) hi := by rw [eq1, tst_app (by omega)]
  have len1 : (P.S ++ F).length ≤ (P.S ++ F1).length := by rw [eq1]; simp only [List.length_append]; omega
  refine ⟨v0, rfl, rdN hR1 hn2, ?_⟩
  refine (ih w2 fv1 F1 hi hD1 hR1 (by omega) (by omega)).mono ?_
  rintro e w3 hp3
  obtain ⟨v1, rfl⟩ := hp3.int
  obtain ⟨fv2, F2, hD2, hF2, hN2, ⟨m2, hM2⟩, hR2, hE2⟩ := hp3
  have hs1 := hF1.size
  have hn3 : w3.heap[nb]? = some (.cells #[.int .i64 (t : Int), .int .i64 (lo : Int), .int .i64 (hi : Int)] 59 (0, 0)) := by
    rw [hF2.keep nb (block_lt hn2) (by omega) (by omega) (by omega) own1]; exact hn2
  have eq2 : P.S ++ F2 = (P.S ++ F1) ++ m2 := by rw [hM2, List.append_assoc]
  have len2 : (P.S ++ F1).length ≤ (P.S ++ F2).length := by rw [eq2]; simp only [List.length_append]; omega
  refine ⟨v1, rfl, rdN hR2 hn3, ?_⟩
  have c0 : v0 = -1 ∨ ∃ l : Nat, v0 = (l : Int) ∧ l < (P.S ++ F2).length ∧ t < tst (P.S ++ F2) l := by
    rcases hE1 with ⟨a, _⟩ | ⟨x, a, h⟩
    · exact .inl (by injection a with a; injection a)
    · have hl := h.lt
      have hg := h.ge
      refine .inr ⟨x, by injection a with a; injection a, by omega, ?_⟩
      rw [eq2, tst_app h.lt]
      omega
  have c1 : v1 = -1 ∨ ∃ l : Nat, v1 = (l : Int) ∧ l < (P.S ++ F2).length ∧ t < tst (P.S ++ F2) l := by
    rcases hE2 with ⟨a, _⟩ | ⟨x, a, h⟩
    · exact .inl (by injection a with a; injection a)
    · have hg := h.ge
      exact .inr ⟨x, by injection a with a; injection a, h.lt, by omega⟩
  refine (put_any P w3 fv2 F2 hD2 t v0 v1 (by omega) c0 c1).mono ?_
  rintro e w4 ⟨fv3, F3, hD3, hF3, hE3⟩
  have h13 : Fr P.dd P.kb (E + 5) w w4 fv fv3 := (Fr.of hb).trans (hF1.trans (hF2.trans hF3.wide))
  have hR3 : Rs P E i b F2 w4 := hR2.put_fr hD2 hF3
  have hs2 := hF2.size
  have own2 : fv2.ownBlock ≠ some nb := fun e => by
    rcases hF2.own _ e with h | h
    · exact own1 h
    · have := block_lt hn2; omega
  have hn4 : w4.heap[nb]? = some (.cells #[.int .i64 (t : Int), .int .i64 (lo : Int), .int .i64 (hi : Int)] 59 (0, 0)) := by
    rw [hF3.keep nb (block_lt hn3) (by omega) (by omega) (by omega) own2]; exact hn3
  have hrd := rdN hR3 hn4
  rcases hE3 with ⟨rfl, rfl, hc⟩ | ⟨x, l, h, rfl, hl, hh, ⟨m3, hM3, hm3⟩, hput⟩
  · refine ⟨-1, rfl, hrd, fv3, F3, hD3, h13, by omega, ⟨m1 ++ m2, by rw [hM2, hM1, List.append_assoc]⟩, hR3, .inl ⟨rfl, ?_⟩⟩
    rcases hc with rfl | rfl | hc
    · rcases hE1 with ⟨a, hfu⟩ | ⟨x, a, h⟩
      · rw [hM2]; exact hfu.more
      · injection a with a; injection a with _ a; omega
    · rcases hE2 with ⟨a, hfu⟩ | ⟨x, a, h⟩
      · exact hfu
      · injection a with a; injection a with _ a; omega
    · exact hc
  · have hR4 : Rs P E i b F3 w4 := by rw [hM3]; exact hR3.app (by rw [← hM3]; exact hD3.good)
    have hlen3 : F3.length ≤ F2.length + 1 := by rw [hM3, List.length_append]; omega
    refine ⟨_, rfl, hrd, fv3, F3, hD3, h13, by omega, ⟨m1 ++ m2 ++ m3, by rw [hM3, hM2, hM1]; simp [List.append_assoc]⟩, hR4, .inr ⟨x, rfl, ?_⟩⟩
    subst hl hh
    obtain ⟨x0, a0, t0⟩ : ∃ x : Nat, (l : Int) = (x : Int) ∧ SetTo P.vars (P.S ++ F) lo i b (tst (P.S ++ F) lo) (P.S ++ F1) x := by
      rcases hE1 with ⟨a, _⟩ | ⟨x, a, h⟩
      · injection a with a; injection a with _ a; omega
      · exact ⟨x, by injection a with a; injection a, h⟩
    obtain ⟨x1, a1, t1⟩ : ∃ x : Nat, (h : Int) = (x : Int) ∧ SetTo P.vars (P.S ++ F1) hi i b (tst (P.S ++ F1) hi) (P.S ++ F2) x := by
      rcases hE2 with ⟨a, _⟩ | ⟨x, a, h⟩
      · injection a with a; injection a with _ a; omega
      · exact ⟨x, by injection a with a; injection a, h⟩
    obtain rfl : l = x0 := by omega
    obtain rfl : h = x1 := by omega
    rw [tst_at hnd]
    exact set_step G h2 hnd hti (Nat.le_refl _) ⟨t0.more, t0.good, t0.lt, t0.val, by have := t0.ge; omega⟩ ⟨t1.more, t1.good, t1.lt, t1.val, by have := t1.ge; omega⟩ ⟨m3, by rw [hM3, List.append_assoc]⟩ hput
end Go.Proofs.Ytfohjlepknnleaa.Bd
