/- The closures that set a variable: what they work on, what a call of them tells. Conditions: none. -/
import Derived.Test.YtfohjlepknnleaaBdNa
import Derived.Test.YtfohjlepknnleaaBdTa
namespace Go.Proofs.Ytfohjlepknnleaa.Bd
open Go.ChangeShapes Go.WideShapes Go.ChangeAt Go.RowKit
set_option linter.unusedVariables false
set_option linter.unusedSimpArgs false

/-- There is no room for more nodes. -/
def Full (P : Dp) (F : List Nd) : Prop := P.limit ≤ P.S.length + F.length
def SetV (P : Dp) (i : Nat) (b : Bool) (F : List Nd) (x y : Nat) : Prop := x < (P.S ++ F).length ∧ SetTo P.vars (P.S ++ F) x i b (tst (P.S ++ F) x) (P.S ++ F) y
theorem SetV.app {P : Dp} {i : Nat} {b : Bool} {F m : List Nd} {x y : Nat} (h : SetV P i b F x y) (G : Good P.vars (P.S ++ (F ++ m))) : SetV P i b (F ++ m) x y := by
  obtain ⟨lx, t⟩ := h
  have e : P.S ++ (F ++ m) = (P.S ++ F) ++ m := (List.append_assoc _ _ _).symm
  unfold SetV
  rw [e] at G ⊢
  have hl : (P.S ++ F).length ≤ ((P.S ++ F) ++ m).length := by simp only [List.length_append]; omega
  refine ⟨Nat.lt_of_lt_of_le lx hl, ⟨[], (List.append_nil _).symm⟩, G, Nat.lt_of_lt_of_le t.lt hl, fun r => ?_, ?_⟩
  · rw [den_app t.good r t.lt, den_app t.good _ lx]; exact t.val r
  · rw [tst_app lx, tst_app t.lt]; exact t.ge
/-- The closures that set a variable, in memory from block E on. -/
structure Rs (P : Dp) (E i : Nat) (b : Bool) (F : List Nd) (w : World) : Prop where
  c0 : w.heap[E]? = some (.cells #[.pointer (some ⟨P.dd, 0, none⟩)] 73 (0, 0))
  c1 : w.heap[E + 1]? = some (.cells #[.int .i64 (i : Int)] 3 (0, 0))
  c2 : w.heap[E + 2]? = some (.cells #[.bool b] 4 (0, 0))
  c3 : w.heap[E + 3]? = some (.cells #[.func (.func 54) #[] #[.pointer (some ⟨E + 6, 0, none⟩), .pointer (some ⟨E + 4, 0, none⟩)]] 81 (0, 0))
  c4 : w.heap[E + 4]? = some (.cells #[.func (.func 53) #[] #[.pointer (some ⟨E, 0, none⟩), .pointer (some ⟨E + 1, 0, none⟩), .pointer (some ⟨E + 3, 0, none⟩), .pointer (some ⟨E + 2, 0, none⟩)]] 81 (0, 0))
  c6 : w.heap[E + 6]? = some (.cells #[.map (some (E + 5))] 98 (0, 0))
  c5 : ∃ n f, MapK Try.prog 3 okI litI w (E + 5) n f ∧ n ≤ 1048576 ∧ ∀ x v, f x = some v → (v = .int .i64 (-1) ∧ Full P F) ∨ ∃ y : Nat, v = .int .i64 (y : Int) ∧ SetV P i b F x y
  hE : P.W0.heap.size ≤ E
  hk : P.kb < E
theorem Rs.ats {P : Dp} {E i : Nat} {b : Bool} {F : List Nd} {w : World} (h : Rs P E i b F w) :
    w.cell? ⟨E, 0, none⟩ = some (.pointer (some ⟨P.dd, 0, none⟩)) ∧ w.cell? ⟨E + 1, 0, none⟩ = some (.int .i64 (i : Int)) ∧ w.cell? ⟨E + 2, 0, none⟩ = some (.bool b) ∧
    w.cell? ⟨E + 3, 0, none⟩ = some (.func (.func 54) #[] #[.pointer (some ⟨E + 6, 0, none⟩), .pointer (some ⟨E + 4, 0, none⟩)]) ∧
    w.cell? ⟨E + 4, 0, none⟩ = some (.func (.func 53) #[] #[.pointer (some ⟨E, 0, none⟩), .pointer (some ⟨E + 1, 0, none⟩), .pointer (some ⟨E + 3, 0, none⟩), .pointer (some ⟨E + 2, 0, none⟩)]) ∧
    w.cell? ⟨E + 6, 0, none⟩ = some (.map (some (E + 5))) := by
  have h0 := h.c0; have h1 := h.c1; have h2 := h.c2; have h3 := h.c3; have h4 := h.c4; have h6 := h.c6
  exact ⟨by simp [World.cell?, h0], by simp [World.cell?, h1], by simp [World.cell?, h2], by simp [World.cell?, h3], by simp [World.cell?, h4], by simp [World.cell?, h6]⟩
theorem Rs.moved {P : Dp} {E i : Nat} {b : Bool} {F F' : List Nd} {w w' : World} (h : Rs P E i b F w) (hk : ∀ (g : Nat) (cs : Array Value) (T : TypeId), w.heap[g]? = some (.cells cs T (0, 0)) → T ≠ 86 → T ≠ 59 → w'.heap[g]? = some (.cells cs T (0, 0)))
    (h5 : ∃ n f, MapK Try.prog 3 okI litI w' (E + 5) n f ∧ n ≤ 1048576 ∧ ∀ x v, f x = some v → (v = .int .i64 (-1) ∧ Full P F') ∨ ∃ y : Nat, v = .int .i64 (y : Int) ∧ SetV P i b F' x y) : Rs P E i b F' w' :=
  ⟨hk _ _ _ h.c0 (by decide) (by decide), hk _ _ _ h.c1 (by decide) (by decide), hk _ _ _ h.c2 (by decide) (by decide), hk _ _ _ h.c3 (by decide) (by decide), hk _ _ _ h.c4 (by decide) (by decide), hk _ _ _ h.c6 (by decide) (by decide), h5, h.hE, h.hk⟩
theorem Rs.kept {P : Dp} {E i : Nat} {b : Bool} {F : List Nd} {w w' : World} (h : Rs P E i b F w) (hb : Below w.heap.size w w') : Rs P E i b F w' := by
  obtain ⟨n, f, h1, h2, h3⟩ := h.c5
  exact h.moved (fun g cs T hg _ _ => (hb.block _ (block_lt hg)).trans hg) ⟨n, f, h1.below hb h1.lt, h2, h3⟩
theorem Full.more {P : Dp} {F m : List Nd} (h : Full P F) : Full P (F ++ m) := by
  unfold Full at h ⊢; rw [List.length_append]; omega
theorem Rs.app {P : Dp} {E i : Nat} {b : Bool} {F m : List Nd} {w : World} (h : Rs P E i b F w) (G : Good P.vars (P.S ++ (F ++ m))) : Rs P E i b (F ++ m) w := by
  obtain ⟨n, f, h1, h2, h3⟩ := h.c5
  refine h.moved (fun _ _ _ hg _ _ => hg) ⟨n, f, h1, h2, fun x v hv => ?_⟩
  rcases h3 x v hv with ⟨a, c⟩ | ⟨y, a, c⟩
  · exact .inl ⟨a, c.more⟩
  · exact .inr ⟨y, a, c.app G⟩
/-- What setting a variable tells: none, where the draft is full; or the function; at most so many nodes more. -/
def RsPost (P : Dp) (E i : Nat) (b : Bool) (w : World) (fv : Value) (F : List Nd) (f N : Nat) (e : Ending) (w' : World) : Prop :=
  ∃ fv' F', Dr P w' fv' F' ∧ Fr P.dd P.kb (E + 5) w w' fv fv' ∧ F'.length ≤ F.length + N ∧ (∃ m, F' = F ++ m) ∧ Rs P E i b F' w' ∧
    ((e = .returned (.int .i64 (-1)) ∧ Full P F') ∨ ∃ x : Nat, e = .returned (.int .i64 (x : Int)) ∧ SetTo P.vars (P.S ++ F) f i b (tst (P.S ++ F) f) (P.S ++ F') x)
theorem RsPost.int {P : Dp} {E i : Nat} {b : Bool} {w w' : World} {fv : Value} {F : List Nd} {f N : Nat} {e : Ending} (hp : RsPost P E i b w fv F f N e w') : ∃ v : Int, e = .returned (.int .i64 v) := by
  obtain ⟨fv', F', _, _, _, _, _, ⟨rfl, _⟩ | ⟨x, rfl, _⟩⟩ := hp
  · exact ⟨_, rfl⟩
  · exact ⟨_, rfl⟩
theorem rs_same {P : Dp} {E i : Nat} {b : Bool} {w w' : World} {fv : Value} {F : List Nd} {f N x : Nat} (hD : Dr P w fv F) (hR : Rs P E i b F w) (hb : Below w.heap.size w w') (hx : SetTo P.vars (P.S ++ F) f i b (tst (P.S ++ F) f) (P.S ++ F) x) :
    RsPost P E i b w fv F f N (.returned (.int .i64 (x : Int))) w' :=
  ⟨fv, F, hD.kept hb, Fr.of hb, by omega, ⟨[], (List.append_nil _).symm⟩, hR.kept hb, .inr ⟨x, rfl, hx⟩⟩
theorem RsPost.back {P : Dp} {E i : Nat} {b : Bool} {w w1 w' : World} {fv : Value} {F : List Nd} {f N : Nat} {e : Ending} (hb : Below w.heap.size w w1) (hp : RsPost P E i b w1 fv F f N e w') : RsPost P E i b w fv F f N e w' := by
  obtain ⟨fv', F', a, c, d, r⟩ := hp
  exact ⟨fv', F', a, (Fr.of hb).trans c, d, r⟩
/-- What lies beside a draft and what is remembered stays. -/
theorem Fr.stayI {P : Dp} {E n : Nat} {mf : Nat → Option Value} {w w' : World} {fv fv' : Value} {F : List Nd} (hF : Fr P.dd P.kb (E + 5) w w' fv fv') (hD : Dr P w fv F) (hm : MapK Try.prog 3 okI litI w (E + 5) n mf) {g : Nat} {cs : Array Value} {T : TypeId} (hg : w.heap[g]? = some (.cells cs T (0, 0))) (h1 : T ≠ 86) (h2 : T ≠ 59) :
    w'.heap[g]? = some (.cells cs T (0, 0)) := by
  obtain ⟨f, k1, _⟩ := hD.known
  rw [hF.keep g (block_lt hg) (fun e => ?_) (map_ne k1 hg) (map_neI hm hg) (own_ne hD.row hg h2)]
  · exact hg
  · rw [e, hD.box] at hg
    injection hg with hg
    injection hg with _ h3 _
    exact h1 h3.symm
theorem Rs.put_fr {P : Dp} {E i : Nat} {b : Bool} {w w' : World} {fv fv' : Value} {F : List Nd} (hD : Dr P w fv F) (hR : Rs P E i b F w) (hF : Fr P.dd P.kb P.kb w w' fv fv') : Rs P E i b F w' := by
  have hF2 : Fr P.dd P.kb (E + 5) w w' fv fv' := hF.wide
  obtain ⟨n, f, h1, h2, h3⟩ := hR.c5
  have hk := hR.hk
  have h5 : w'.heap[E + 5]? = w.heap[E + 5]? := hF.keep _ h1.lt (fun e => map_neI h1 hD.box (by omega)) (by omega) (by omega) (fun e => by
    obtain ⟨cs, h4⟩ := own_type hD.row e
    exact map_neI h1 h4 rfl)
  exact hR.moved (fun g cs T hg a c => hF2.stayI hD h1 hg a c) ⟨n, f, h1.keep h5, h2, h3⟩
theorem Dr.mappedI {P : Dp} {E n : Nat} {mf : Nat → Option Value} {w w' : World} {fv : Value} {F : List Nd} (hD : Dr P w fv F) (hE : P.W0.heap.size ≤ E) (hk : P.kb < E) (hm : MapK Try.prog 3 okI litI w (E + 5) n mf) (hg : w.grownBy w' (some (E + 5))) : Dr P w' fv F := by
  obtain ⟨f, k1, k3⟩ := hD.known
  have K : ∀ g, g < w.heap.size → g ≠ E + 5 → w'.heap[g]? = w.heap[g]? := fun g h1 h2 => hg.block g h1 (fun e => h2 (by injection e))
  refine ⟨hD.st, hD.below.grown hg hD.below.size (fun k e => by injection e with e; omega), ?_, ?_, ⟨f, k1.keep (K _ k1.lt (by omega)), k3⟩, hD.good, hD.dd, hD.kb, hD.room, hD.lim⟩
  · rw [K _ (block_lt hD.box) (map_neI hm hD.box)]; exact hD.box
  · exact own_keep hD.row (fun g h1 => by
      obtain ⟨cs, h2⟩ := own_type hD.row h1
      exact K g (block_lt h2) (map_neI hm h2))
/-- By the function that remembers. -/
theorem rs_down (P : Dp) (E i : Nat) (b : Bool) (w : World) (fv : Value) (F : List Nd) (hD : Dr P w fv F) (hR : Rs P E i b F w) (f N : Nat) (lf : f < (P.S ++ F).length)
    (hrk : Calls Try.prog 53 #[.int .i64 (f : Int), .pointer (some ⟨E, 0, none⟩), .pointer (some ⟨E + 1, 0, none⟩), .pointer (some ⟨E + 3, 0, none⟩), .pointer (some ⟨E + 2, 0, none⟩)] w (RsPost P E i b w fv F f N)) :
    Calls Try.prog 54 #[.int .i64 (f : Int), .pointer (some ⟨E + 6, 0, none⟩), .pointer (some ⟨E + 4, 0, none⟩)] w (RsPost P E i b w fv F f N) := by
  obtain ⟨n, mf, hm, hn, hs⟩ := hR.c5
  have hroom := hD.room
  have lf2 := lf
  rw [List.length_append] at lf2
  obtain ⟨y0, y1, y2, y3, y4, y6⟩ := hR.ats
  refine rem_set w (E + 6) (E + 4) (E + 5) n f E (by omega) mf hm hn y6 y4 _ (fun v hv => ?_) (fun _ => hrk.mono ?_)
  · rcases hs f v hv with ⟨rfl, a⟩ | ⟨y, rfl, a⟩
    · exact ⟨-1, rfl, fv, F, hD, Fr.of (Below.refl _ _), by omega, ⟨[], (List.append_nil _).symm⟩, hR, .inl ⟨rfl, a⟩⟩
    · exact ⟨_, rfl, rs_same hD hR (Below.refl _ _) a.2⟩
  · rintro e w2 hp
    obtain ⟨v, rfl⟩ := hp.int
    obtain ⟨fv', F', hD2, hF2, hN2, ⟨m, hM2⟩, hR2, hE2⟩ := hp
    obtain ⟨n2, f2, hm2, hn2, hs2⟩ := hR2.c5
    refine ⟨v, rfl, hR2.ats.2.2.2.2.2, n2, f2, hm2, hn2, fun w4 n4 f4 hg hm4 hn4 hu => ?_⟩
    have hK : ∀ (g : Nat) (cs : Array Value) (T : TypeId), w2.heap[g]? = some (.cells cs T (0, 0)) → T ≠ 86 → T ≠ 59 → w4.heap[g]? = some (.cells cs T (0, 0)) := fun g cs T h1 _ _ => (hg.block g (block_lt h1) (fun e => map_neI hm2 h1 (by injection e))).trans h1
    refine ⟨fv', F', hD2.mappedI hR2.hE hR2.hk hm2 hg, hF2.trans (grow_fr hg), hN2, ⟨m, hM2⟩, hR2.moved hK ⟨n4, f4, hm4, hn4, fun x u hx => ?_⟩, hE2⟩
    rcases hu x u hx with ⟨rfl, rfl⟩ | h
    · rcases hE2 with ⟨a, c⟩ | ⟨y, a, t⟩
      · exact .inl ⟨by injection a, c⟩
      · refine .inr ⟨y, by injection a, ?_⟩
        have e : P.S ++ F' = (P.S ++ F) ++ m := by rw [hM2, List.append_assoc]
        refine ⟨by rw [e, List.length_append]; omega, ⟨[], (List.append_nil _).symm⟩, t.good, t.lt, fun r => ?_, ?_⟩
        · rw [t.val r, e, den_app hD.good _ lf]
        · rw [show tst (P.S ++ F') x = tst (P.S ++ F) x from by rw [e, tst_app lf]]; exact t.ge
    · exact hs2 x u h
end Go.Proofs.Ytfohjlepknnleaa.Bd
