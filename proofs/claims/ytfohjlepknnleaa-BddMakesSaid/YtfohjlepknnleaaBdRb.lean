/- The closures that set a variable: what they work on, what a call of them tells. Conditions: none. The closure that sets a variable: by its two sides. Conditions: none. -/
import Derived.Test.YtfohjlepknnleaaBdNa
import Derived.Test.YtfohjlepknnleaaBdTa
namespace Go.Proofs.Ytfohjlepknnleaa.Bd
open Go.ChangeShapes Go.WideShapes Go.ChangeAt Go.RowKit
set_option linter.unusedVariables false
set_option linter.unusedSimpArgs false

/-- There is no room for more nodes. -/
def Full (P : Dp) (F : List Nd) : Prop := P.limit ≤ P.S.length + F.length
def SetV (P : Dp) (i : Nat) (b : Bool) (F : List Nd) (x y : Nat) : Prop := x < (P.S ++ F).length ∧ SetTo P.vars (P.S ++ F) x i b (tst (P.S ++ F) x) (P.S ++ F) y
theorem SetV.app {P : Dp} {i : Nat} {b : Bool} {F m : List Nd} {x y : Nat} (h : SetV P i b F x y) (G : Good P.vars (P.S ++ (F ++ m))) : SetV P i b (F ++ m) x y := by
  obtain ⟨lx, t⟩ := h
  have e : P.S ++ (F ++ m) = (P.S ++ F) ++ m := (List.append_assoc _ _ _).symm
  unfold SetV
  rw [e] at G ⊢
  have hl : (P.S ++ F).length ≤ ((P.S ++ F) ++ m).length := by simp only [List.length_append]; omega
  refine ⟨Nat.lt_of_lt_of_le lx hl, ⟨[], (List.append_nil _).symm⟩, G, Nat.lt_of_lt_of_le t.lt hl, fun r => ?_, ?_⟩
  · rw [den_app t.good r t.lt, den_app t.good _ lx]; exact t.val r
  · rw [tst_app lx, tst_app t.lt]; exact t.ge
/-- The closures that set a variable, in memory from block E on. -/
structure Rs (P : Dp) (E i : Nat) (b : Bool) (F : List Nd) (w : World) : Prop where
  c0 : w.heap[E]? = some (.cells #[.pointer (some ⟨P.dd, 0, none⟩)] 73 (0, 0))
  c1 : w.heap[E + 1]? = some (.cells #[.int .i64 (i : Int)] 3 (0, 0))
  c2 : w.heap[E + 2]? = some (.cells #[.bool b] 4 (0, 0))
  c3 : w.heap[E + 3]? = some (.cells #[.func (.func 54) #[] #[.pointer (some ⟨E + 6, 0, none⟩), .pointer (some ⟨E + 4, 0, none⟩)]] 81 (0, 0))
  c4 : w.heap[E + 4]? = some (.cells #[.func (.func 53) #[] #[.pointer (some ⟨E, 0, none⟩), .pointer (some ⟨E + 1, 0, none⟩), .pointer (some ⟨E + 3, 0, none⟩), .pointer (some ⟨E + 2, 0, none⟩)]] 81 (0, 0))
  c6 : w.heap[E + 6]? = some (.cells #[.map (some (E + 5))] 98 (0, 0))
  c5 : ∃ n f, MapK Try.prog 3 okI litI w (E + 5) n f ∧ n ≤ 1048576 ∧ ∀ x v, f x = some v → (v = .int .i64 (-1) ∧ Full P F) ∨ ∃ y : Nat, v = .int .i64 (y : Int) ∧ SetV P i b F x y
  hE : P.W0.heap.size ≤ E
  hk : P.kb < E
theorem Rs.ats {P : Dp} {E i : Nat} {b : Bool} {F : List Nd} {w : World} (h : Rs P E i b F w) :
    w.cell? ⟨E, 0, none⟩ = some (.pointer (some ⟨P.dd, 0, none⟩)) ∧ w.cell? ⟨E + 1, 0, none⟩ = some (.int .i64 (i : Int)) ∧ w.cell? ⟨E + 2, 0, none⟩ = some (.bool b) ∧
    w.cell? ⟨E + 3, 0, none⟩ = some (.func (.func 54) #[] #[.pointer (some ⟨E + 6, 0, none⟩), .pointer (some ⟨E + 4, 0, none⟩)]) ∧
    w.cell? ⟨E + 4, 0, none⟩ = some (.func (.func 53) #[] #[.pointer (some ⟨E, 0, none⟩), .pointer (some ⟨E + 1, 0, none⟩), .pointer (some ⟨E + 3, 0, none⟩), .pointer (some ⟨E + 2, 0, none⟩)]) ∧
    w.cell? ⟨E + 6, 0, none⟩ = some (.map (some (E + 5))) := by
  have h0 := h.c0; have h1 := h.c1; have h2 := h.c2; have h3 := h.c3; have h4 := h.c4; have h6 := h.c6
  exact ⟨by simp [World.cell?, h0], by simp [World.cell?, h1], by simp [World.cell?, h2], by simp [World.cell?, h3], by simp [World.cell?, h4], by simp [World.cell?, h6]⟩
theorem Rs.moved {P : Dp} {E i : Nat} {b : Bool} {F F' : List Nd} {w w' : World} (h : Rs P E i b F w) (hk : ∀ (g : Nat) (cs : Array Value) (T : TypeId), w.heap[g]? = some (.cells cs T (0, 0)) → T ≠ 86 → T ≠ 59 → w'.heap[g]? = some (.cells cs T (0, 0)))
    (h5 : ∃ n f, MapK Try.prog 3 okI litI w' (E + 5) n f ∧ n ≤ 1048576 ∧ ∀ x v, f x = some v → (v = .int .i64 (-1) ∧ Full P F') ∨ ∃ y : Nat, v = .int .i64 (y : Int) ∧ SetV P i b F' x y) : Rs P E i b F' w' :=
  ⟨hk _ _ _ h.c0 (by decide) (by decide), hk _ _ _ h.c1 (by decide) (by decide), hk _ _ _ h.c2 (by decide) (by decide), hk _ _ _ h.c3 (by decide) (by decide), hk _ _ _ h.c4 (by decide) (by decide), hk _ _ _ h.c6 (by decide) (by decide), h5, h.hE, h.hk⟩
theorem Rs.kept {P : Dp} {E i : Nat} {b : Bool} {F : List Nd} {w w' : World} (h : Rs P E i b F w) (hb : Below w.heap.size w w') : Rs P E i b F w' := by
  obtain ⟨n, f, h1, h2, h3⟩ := h.c5
  exact h.moved (fun g cs T hg _ _ => (hb.block _ (block_lt hg)).trans hg) ⟨n, f, h1.below hb h1.lt, h2, h3⟩
theorem Full.more {P : Dp} {F m : List Nd} (h : Full P F) : Full P (F ++ m) := by
  unfold Full at h ⊢; rw [List.length_append]; omega
theorem Rs.app {P : Dp} {E i : Nat} {b : Bool} {F m : List Nd} {w : World} (h : Rs P E i b F w) (G : Good P.vars (P.S ++ (F ++ m))) : Rs P E i b (F ++ m) w := by
  obtain ⟨n, f, h1, h2, h3⟩ := h.c5
  refine h.moved (fun _ _ _ hg _ _ => hg) ⟨n, f, h1, h2, fun x v hv => ?_⟩
  rcases h3 x v hv with ⟨a, c⟩ | ⟨y, a, c⟩
  · exact .inl ⟨a, c.more⟩
  · exact .inr ⟨y, a, c.app G⟩
/-- What setting a variable tells: none, where the draft is full; or the function; at most so many nodes more. -/
def RsPost (P : Dp) (E i : Nat) (b : Bool) (w : World) (fv : Value) (F : List Nd) (f N : Nat) (e : Ending) (w' : World) : Prop :=
  ∃ fv' F', Dr P w' fv' F' ∧ Fr P.dd P.kb (E + 5) w w' fv fv' ∧ F'.length ≤ F.length + N ∧ (∃ m, F' = F ++ m) ∧ Rs P E i b F' w' ∧
    ((e = .returned (.int .i64 (-1)) ∧ Full P F') ∨ ∃ x : Nat, e = .returned (.int .i64 (x : Int)) ∧ SetTo P.vars (P.S ++ F) f i b (tst (P.S ++ F) f) (P.S ++ F') x)
theorem RsPost.int {P : Dp} {E i : Nat} {b : Bool} {w w' : World} {fv : Value} {F : List Nd} {f N : Nat} {e : Ending} (hp : RsPost P E i b w fv F f N e w') : ∃ v : Int, e = .returned (.int .i64 v) := by
  obtain ⟨fv', F', _, _, _, _, _, ⟨rfl, _⟩ | ⟨x, rfl, _⟩⟩ := hp
  · exact ⟨_, rfl⟩
  · exact ⟨_, rfl⟩
theorem rs_same {P : Dp} {E i : Nat} {b : Bool} {w w' : World} {fv : Value} {F : List Nd} {f N x : Nat} (hD : Dr P w fv F) (hR : Rs P E i b F w) (hb : Below w.heap.size w w') (hx : SetTo P.vars (P.S ++ F) f i b (tst (P.S ++ F) f) (P.S ++ F) x) :
    RsPost P E i b w fv F f N (.returned (.int .i64 (x : Int))) w' :=
  ⟨fv, F, hD.kept hb, Fr.of hb, by omega, ⟨[], (List.append_nil _).symm⟩, hR.kept hb, .inr ⟨x, rfl, hx⟩⟩
theorem RsPost.back {P : Dp} {E i : Nat} {b : Bool} {w w1 w' : World} {fv : Value} {F : List Nd} {f N : Nat} {e : Ending} (hb : Below w.heap.size w w1) (hp : RsPost P E i b w1 fv F f N e w') : RsPost P E i b w fv F f N e w' := by
  obtain ⟨fv', F', a, c, d, r⟩ := hp
  exact ⟨fv', F', a, (Fr.of hb).trans c, d, r⟩
/-- What lies beside a draft and what is remembered stays. -/
theorem Fr.stayI {P : Dp} {E n : Nat} {mf : Nat → Option Value} {w w' : World} {fv fv' : Value} {F : List Nd} (hF : Fr P.dd P.kb (E + 5) w w' fv fv') (hD : Dr P w fv F) (hm : MapK Try.prog 3 okI litI w (E + 5) n mf) {g : Nat} {cs : Array Value} {T : TypeId} (hg : w.heap[g]? = some (.cells cs T (0, 0))) (h1 : T ≠ 86) (h2 : T ≠ 59) :
    w'.heap[g]? = some (.cells cs T (0, 0)) := by
  obtain ⟨f, k1, _⟩ := hD.known
  rw [hF.keep g (block_lt hg) (fun e => ?_) (map_ne k1 hg) (map_neI hm hg) (own_ne hD.row hg h2)]
  · exact hg
  · rw [e, hD.box] at hg
    injection hg with hg
    injection hg with _ h3 _
    exact h1 h3.symm
theorem Rs.put_fr {P : Dp} {E i : Nat} {b : Bool} {w w' : World} {fv fv' : Value} {F : List Nd} (hD : Dr P w fv F) (hR : Rs P E i b F w) (hF : Fr P.dd P.kb P.kb w w' fv fv') : Rs P E i b F w' := by
  have hF2 : Fr P.dd P.kb (E + 5) w w' fv fv' := hF.wide
  obtain ⟨n, f, h1, h2, h3⟩ := hR.c5
  have hk := hR.hk
  have h5 : w'.heap[E + 5]? = w.heap[E + 5]? := hF.keep _ h1.lt (fun e => map_neI h1 hD.box (by omega)) (by omega) (by omega) (fun e => by
    obtain ⟨cs, h4⟩ := own_type hD.row e
    exact map_neI h1 h4 rfl)
  exact hR.moved (fun g cs T hg a c => hF2.stayI hD h1 hg a c) ⟨n, f, h1.keep h5, h2, h3⟩
theorem Dr.mappedI {P : Dp} {E n : Nat} {mf : Nat → Option Value} {w w' : World} {fv : Value} {F : List Nd} (hD : Dr P w fv F) (hE : P.W0.heap.size ≤ E) (hk : P.kb < E) (hm : MapK Try.prog 3 okI litI w (E + 5) n mf) (hg : w.grownBy w' (some (E + 5))) : Dr P w' fv F := by
  obtain ⟨f, k1, k3⟩ := hD.known
  have K : ∀ g, g < w.heap.size → g ≠ E + 5 → w'.heap[g]? = w.heap[g]? := fun g h1 h2 => hg.block g h1 (fun e => h2 (by injection e))
  refine ⟨hD.st, hD.below.grown hg hD.below.size (fun k e => by injection e with e; omega), ?_, ?_, ⟨f, k1.keep (K _ k1.lt (by omega)), k3⟩, hD.good, hD.dd, hD.kb, hD.room, hD.lim⟩
  · rw [K _ (block_lt hD.box) (map_neI hm hD.box)]; exact hD.box
  · exact own_keep hD.row (fun g h1 => by
      obtain ⟨cs, h2⟩ := own_type hD.row h1
      exact K g (block_lt h2) (map_neI hm h2))
/-- By the function that remembers. -/
theorem rs_down (P : Dp) (E i : Nat) (b : Bool) (w : World) (fv : Value) (F : List Nd) (hD : Dr P w fv F) (hR : Rs P E i b F w) (f N : Nat) (lf : f < (P.S ++ F).length)
    (hrk : Calls Try.prog 53 #[.int .i64 (f : Int), .pointer (some ⟨E, 0, none⟩), .pointer (some ⟨E + 1, 0, none⟩), .pointer (some ⟨E + 3, 0, none⟩), .pointer (some ⟨E + 2, 0, none⟩)] w (RsPost P E i b w fv F f N)) :
    Calls Try.prog 54 #[.int .i64 (f : Int), .pointer (some ⟨E + 6, 0, none⟩), .pointer (some ⟨E + 4, 0, none⟩)] w (RsPost P E i b w fv F f N) := by
  obtain ⟨n, mf, hm, hn, hs⟩ := hR.c5
  have hroom := hD.room
  have lf2 := lf
  rw [List.length_append] at lf2
  obtain ⟨y0, y1, y2, y3, y4, y6⟩ := hR.ats
  refine rem_set w (E + 6) (E + 4) (E + 5) n f E (by omega) mf hm hn y6 y4 _ (fun v hv => ?_) (fun _ => hrk.mono ?_)
  · rcases hs f v hv with ⟨rfl, a⟩ | ⟨y, rfl, a⟩
    · exact ⟨-1, rfl, fv, F, hD, Fr.of (Below.refl _ _), by omega, ⟨[], (List.append_nil _).symm⟩, hR, .inl ⟨rfl, a⟩⟩
    · exact ⟨_, rfl, rs_same hD hR (Below.refl _ _) a.2⟩
  · rintro e w2 hp
    obtain ⟨v, rfl⟩ := hp.int
    obtain ⟨fv', F', hD2, hF2, hN2, ⟨m, hM2⟩, hR2, hE2⟩ := hp
    obtain ⟨n2, f2, hm2, hn2, hs2⟩ := hR2.c5
    refine ⟨v, rfl, hR2.ats.2.2.2.2.2, n2, f2, hm2, hn2, fun w4 n4 f4 hg hm4 hn4 hu => ?_⟩
    have hK : ∀ (g : Nat) (cs : Array Value) (T : TypeId), w2.heap[g]? = some (.cells cs T (0, 0)) → T ≠ 86 → T ≠ 59 → w4.heap[g]? = some (.cells cs T (0, 0)) := fun g cs T h1 _ _ => (hg.block g (block_lt h1) (fun e => map_neI hm2 h1 (by injection e))).trans h1
    refine ⟨fv', F', hD2.mappedI hR2.hE hR2.hk hm2 hg, hF2.trans (grow_fr hg), hN2, ⟨m, hM2⟩, hR2.moved hK ⟨n4, f4, hm4, hn4, fun x u hx => ?_⟩, hE2⟩
    rcases hu x u hx with ⟨rfl, rfl⟩ | h
    · rcases hE2 with ⟨a, c⟩ | ⟨y, a, t⟩
      · exact .inl ⟨by injection a, c⟩
      · refine .inr ⟨y, by injection a, ?_⟩
        have e : P.S ++ F' = (P.S ++ F) ++ m := by rw [hM2, List.append_assoc]
        refine ⟨by rw [e, List.length_append]; omega, ⟨[], (List.append_nil _).symm⟩, t.good, t.lt, fun r => ?_, ?_⟩
        · rw [t.val r, e, den_app hD.good _ lf]
        · rw [show tst (P.S ++ F') x = tst (P.S ++ F) x from by rw [e, tst_app lf]]; exact t.ge
    · exact hs2 x u h
end Go.Proofs.Ytfohjlepknnleaa.Bd

namespace Go.Proofs.Ytfohjlepknnleaa.Bd
open Go.ChangeShapes Go.WideShapes Go.ChangeAt Go.RowKit
set_option linter.unusedVariables false
set_option linter.unusedSimpArgs false

/-- What is read on the way. -/
def RdN (P : Dp) (E nb t lo hi : Nat) (W : World) : Prop :=
  (W.cell? ⟨E, 0, none⟩ = some (.pointer (some ⟨P.dd, 0, none⟩)) ∧ W.cell? ⟨E + 3, 0, none⟩ = some (.func (.func 54) #[] #[.pointer (some ⟨E + 6, 0, none⟩), .pointer (some ⟨E + 4, 0, none⟩)])) ∧
  W.cell? ⟨nb, 0, none⟩ = some (.int .i64 (t : Int)) ∧ W.cell? ⟨nb, 1, none⟩ = some (.int .i64 (lo : Int)) ∧ W.cell? ⟨nb, 2, none⟩ = some (.int .i64 (hi : Int))
theorem rdN {P : Dp} {E i nb t lo hi : Nat} {b : Bool} {F : List Nd} {W : World} (hR : Rs P E i b F W) (hn : W.heap[nb]? = some (.cells #[.int .i64 (t : Int), .int .i64 (lo : Int), .int .i64 (hi : Int)] 59 (0, 0))) : RdN P E nb t lo hi W :=
  ⟨⟨hR.ats.1, hR.ats.2.2.2.1⟩, by unfold World.cell?; rw [hn]; rfl, by unfold World.cell?; rw [hn]; rfl, by unfold World.cell?; rw [hn]; rfl⟩

theorem rs_chain {P : Dp} {E i : Nat} {b : Bool} {w W : World} {fv : Value} {F : List Nd} {f t lo hi M nb : Nat} (hD : Dr P w fv F) (hR : Rs P E i b F w) (h2 : 2 ≤ f) (hnd : (P.S ++ F)[f]? = some (t, lo, hi)) (hti : t < i)
    (hb : Below w.heap.size w W) (hnb : w.heap.size ≤ nb) (hn : W.heap[nb]? = some (.cells #[.int .i64 (t : Int), .int .i64 (lo : Int), .int .i64 (hi : Int)] 59 (0, 0)))
    (ih : ∀ W' fv' F' g, Dr P W' fv' F' → Rs P E i b F' W' → g < (P.S ++ F').length → t + 1 ≤ tst (P.S ++ F') g → Calls Try.prog 54 #[.int .i64 (g : Int), .pointer (some ⟨E + 6, 0, none⟩), .pointer (some ⟨E + 4, 0, none⟩)] W' (RsPost P E i b W' fv' F' g M)) :
    Calls Try.prog 54 #[.int .i64 (lo : Int), .pointer (some ⟨E + 6, 0, none⟩), .pointer (some ⟨E + 4, 0, none⟩)] W (fun e w2 => ∃ v0, e = .returned (.int .i64 v0) ∧ RdN P E nb t lo hi w2 ∧
      Calls Try.prog 54 #[.int .i64 (hi : Int), .pointer (some ⟨E + 6, 0, none⟩), .pointer (some ⟨E + 4, 0, none⟩)] w2 (fun e w3 => ∃ v1, e = .returned (.int .i64 v1) ∧ RdN P E nb t lo hi w3 ∧
        Calls Try.prog 36 #[.pointer (some ⟨P.dd, 0, none⟩), .agg #[.int .i64 (t : Int), .int .i64 v0, .int .i64 v1]] w3 (fun e w4 => ∃ v2, e = .returned (.int .i64 v2) ∧ RdN P E nb t lo hi w4 ∧ RsPost P E i b w fv F f (2 * M + 1) e w4))) := by
  have G := hD.good
  obtain ⟨e1, e2, e3, e4, e5, e6⟩ := G.node f t lo hi h2 hnd
  have lf := lt_of hnd
  have hDW := hD.kept hb
  have hRW := hR.kept hb
  have own0 : ∀ g, fv.ownBlock = some g → g < w.heap.size := fun g e => by
    obtain ⟨cs, h⟩ := own_type hD.row e
    exact block_lt h
  have hddw : P.dd < w.heap.size := block_lt hD.box
  obtain ⟨kf, km, _⟩ := hD.known
  have hkbw := km.lt
  obtain ⟨n0, mf0, hm0, _, _⟩ := hR.c5
  have hmw := hm0.lt
  have hnbW := block_lt hn
  refine (ih W fv F lo hDW hRW (by omega) (by omega)).mono ?_
  rintro e w2 hp2
  obtain ⟨v0, rfl⟩ := hp2.int
  obtain ⟨fv1, F1, hD1, hF1, hN1, ⟨m1, hM1⟩, hR1, hE1⟩ := hp2
  have hn2 : w2.heap[nb]? = some (.cells #[.int .i64 (t : Int), .int .i64 (lo : Int), .int .i64 (hi : Int)] 59 (0, 0)) := by
    rw [hF1.keep nb hnbW (by omega) (by omega) (by omega) (fun e => by have := own0 _ e; omega)]; exact hn
  have own1 : fv1.ownBlock ≠ some nb := fun e => by
    rcases hF1.own _ e with h | h
    · have := own0 _ h; omega
    · omega
  have eq1 : P.S ++ F1 = (P.S ++ F) ++ m1 := by rw [hM1, List.append_assoc]
  have thi : tst (P.S ++ F1) hi = tst (P.S ++ F) hi := by rw [eq1, tst_app (by omega)]
  have len1 : (P.S ++ F).length ≤ (P.S ++ F1).length := by rw [eq1]; simp only [List.length_append]; omega
  refine ⟨v0, rfl, rdN hR1 hn2, ?_⟩
  refine (ih w2 fv1 F1 hi hD1 hR1 (by omega) (by omega)).mono ?_
  rintro e w3 hp3
  obtain ⟨v1, rfl⟩ := hp3.int
  obtain ⟨fv2, F2, hD2, hF2, hN2, ⟨m2, hM2⟩, hR2, hE2⟩ := hp3
  have hs1 := hF1.size
  have hn3 : w3.heap[nb]? = some (.cells #[.int .i64 (t : Int), .int .i64 (lo : Int), .int .i64 (hi : Int)] 59 (0, 0)) := by
    rw [hF2.keep nb (block_lt hn2) (by omega) (by omega) (by omega) own1]; exact hn2
  have eq2 : P.S ++ F2 = (P.S ++ F1) ++ m2 := by rw [hM2, List.append_assoc]
  have len2 : (P.S ++ F1).length ≤ (P.S ++ F2).length := by rw [eq2]; simp only [List.length_append]; omega
  refine ⟨v1, rfl, rdN hR2 hn3, ?_⟩
  have c0 : v0 = -1 ∨ ∃ l : Nat, v0 = (l : Int) ∧ l < (P.S ++ F2).length ∧ t < tst (P.S ++ F2) l := by
    rcases hE1 with ⟨a, _⟩ | ⟨x, a, h⟩
    · exact .inl (by injection a with a; injection a)
    · have hl := h.lt
      have hg := h.ge
      refine .inr ⟨x, by injection a with a; injection a, by omega, ?_⟩
      rw [eq2, tst_app h.lt]
      omega
  have c1 : v1 = -1 ∨ ∃ l : Nat, v1 = (l : Int) ∧ l < (P.S ++ F2).length ∧ t < tst (P.S ++ F2) l := by
    rcases hE2 with ⟨a, _⟩ | ⟨x, a, h⟩
    · exact .inl (by injection a with a; injection a)
    · have hg := h.ge
      exact .inr ⟨x, by injection a with a; injection a, h.lt, by omega⟩
  refine (put_any P w3 fv2 F2 hD2 t v0 v1 (by omega) c0 c1).mono ?_
  rintro e w4 ⟨fv3, F3, hD3, hF3, hE3⟩
  have h13 : Fr P.dd P.kb (E + 5) w w4 fv fv3 := (Fr.of hb).trans (hF1.trans (hF2.trans hF3.wide))
  have hR3 : Rs P E i b F2 w4 := hR2.put_fr hD2 hF3
  have hs2 := hF2.size
  have own2 : fv2.ownBlock ≠ some nb := fun e => by
    rcases hF2.own _ e with h | h
    · exact own1 h
    · have := block_lt hn2; omega
  have hn4 : w4.heap[nb]? = some (.cells #[.int .i64 (t : Int), .int .i64 (lo : Int), .int .i64 (hi : Int)] 59 (0, 0)) := by
    rw [hF3.keep nb (block_lt hn3) (by omega) (by omega) (by omega) own2]; exact hn3
  have hrd := rdN hR3 hn4
  rcases hE3 with ⟨rfl, rfl, hc⟩ | ⟨x, l, h, rfl, hl, hh, ⟨m3, hM3, hm3⟩, hput⟩
  · refine ⟨-1, rfl, hrd, fv3, F3, hD3, h13, by omega, ⟨m1 ++ m2, by rw [hM2, hM1, List.append_assoc]⟩, hR3, .inl ⟨rfl, ?_⟩⟩
    rcases hc with rfl | rfl | hc
    · rcases hE1 with ⟨a, hfu⟩ | ⟨x, a, h⟩
      · rw [hM2]; exact hfu.more
      · injection a with a; injection a with _ a; omega
    · rcases hE2 with ⟨a, hfu⟩ | ⟨x, a, h⟩
      · exact hfu
      · injection a with a; injection a with _ a; omega
    · exact hc
  · have hR4 : Rs P E i b F3 w4 := by rw [hM3]; exact hR3.app (by rw [← hM3]; exact hD3.good)
    have hlen3 : F3.length ≤ F2.length + 1 := by rw [hM3, List.length_append]; omega
    refine ⟨_, rfl, hrd, fv3, F3, hD3, h13, by omega, ⟨m1 ++ m2 ++ m3, by rw [hM3, hM2, hM1]; simp [List.append_assoc]⟩, hR4, .inr ⟨x, rfl, ?_⟩⟩
    subst hl hh
    obtain ⟨x0, a0, t0⟩ : ∃ x : Nat, (l : Int) = (x : Int) ∧ SetTo P.vars (P.S ++ F) lo i b (tst (P.S ++ F) lo) (P.S ++ F1) x := by
      rcases hE1 with ⟨a, _⟩ | ⟨x, a, h⟩
      · injection a with a; injection a with _ a; omega
      · exact ⟨x, by injection a with a; injection a, h⟩
    obtain ⟨x1, a1, t1⟩ : ∃ x : Nat, (h : Int) = (x : Int) ∧ SetTo P.vars (P.S ++ F1) hi i b (tst (P.S ++ F1) hi) (P.S ++ F2) x := by
      rcases hE2 with ⟨a, _⟩ | ⟨x, a, h⟩
      · injection a with a; injection a with _ a; omega
      · exact ⟨x, by injection a with a; injection a, h⟩
    obtain rfl : l = x0 := by omega
    obtain rfl : h = x1 := by omega
    rw [tst_at hnd]
    exact set_step G h2 hnd hti (Nat.le_refl _) ⟨t0.more, t0.good, t0.lt, t0.val, by have := t0.ge; omega⟩ ⟨t1.more, t1.good, t1.lt, t1.val, by have := t1.ge; omega⟩ ⟨m3, by rw [hM3, List.append_assoc]⟩ hput
end Go.Proofs.Ytfohjlepknnleaa.Bd
