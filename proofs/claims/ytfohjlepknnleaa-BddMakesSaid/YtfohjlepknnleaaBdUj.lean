/- A draft whose limit is changed. Conditions: none. Functions put together, one to the others ahead of it. Conditions: as it says. Functions put together: a round, and what is kept of it. Conditions: as it says. Functions put together; And, Or. Conditions: as it says. And, Or of functions. Conditions: as it says. -/
import Derived.Test.YtfohjlepknnleaaBdMb
import Derived.Test.YtfohjlepknnleaaBdUf
namespace Go.Proofs.Ytfohjlepknnleaa.Bd
open Go.ChangeShapes Go.WideShapes Go.ChangeAt Go.RowKit
set_option linter.unusedVariables false
set_option linter.unusedSimpArgs false

theorem dd_ne {P : Dp} {w : World} {fv : Value} {F : List Nd} (hD : Dr P w fv F) {g : Nat} {cs : Array Value} {T : TypeId} (hg : w.heap[g]? = some (.cells cs T (0, 0))) (hT : T ≠ 86) : g ≠ P.dd := fun e => by
  rw [e, hD.box] at hg
  injection hg with hg
  injection hg with _ h3 _
  exact hT h3.symm
theorem Dr.limit {P : Dp} {w : World} {fv : Value} {F : List Nd} (hD : Dr P w fv F) (L : Nat) (hL : L ≤ 2097152) : Dr { P with limit := L } (w.setCell ⟨P.dd, 3, none⟩ (.int .i64 (L : Int))) fv F := by
  obtain ⟨f, k1, k3⟩ := hD.known
  have K : ∀ g, g ≠ P.dd → (w.setCell ⟨P.dd, 3, none⟩ (.int .i64 (L : Int))).heap[g]? = w.heap[g]? := fun g h => Below.heap_setCell _ _ _ _ h
  refine ⟨hD.st, hD.below.setCell hD.dd _, ?_, own_keep hD.row (fun g h1 => ?_), ⟨f, k1.keep (K _ (fun e => map_ne k1 hD.box e.symm)), k3⟩, hD.good, hD.dd, hD.kb, hD.room, hL⟩
  · exact set_at hD.box
  · obtain ⟨cs, h2⟩ := own_type hD.row h1
    exact K g (dd_ne hD h2 (by decide))
theorem Ch.limit {P : Dp} {E : Nat} {ns : List Nd} {ok : Prop} {w : World} {fv : Value} {F : List Nd} (hD : Dr P w fv F) (hC : Ch P E ns ok w) (L : Nat) : Ch { P with limit := L } E ns ok (w.setCell ⟨P.dd, 3, none⟩ (.int .i64 (L : Int))) := by
  obtain ⟨m, f2, k2, k4, k5⟩ := hC.c4
  have K : ∀ (g : Nat) (cs : Array Value) (T : TypeId), w.heap[g]? = some (.cells cs T (0, 0)) → T ≠ 86 → (w.setCell ⟨P.dd, 3, none⟩ (.int .i64 (L : Int))).heap[g]? = some (.cells cs T (0, 0)) := fun g cs T h hT => (Below.heap_setCell _ _ _ _ (dd_ne hD h hT)).trans h
  exact ⟨K _ _ _ hC.c0 (by decide), K _ _ _ hC.c1 (by decide), K _ _ _ hC.c2 (by decide), K _ _ _ hC.c3 (by decide), K _ _ _ hC.c5 (by decide), ⟨m, f2, k2.keep (Below.heap_setCell _ _ _ _ (fun e => map_ne k2 hD.box e.symm)), k4, k5⟩, hC.hE, hC.hk⟩
end Go.Proofs.Ytfohjlepknnleaa.Bd

namespace Go.Proofs.Ytfohjlepknnleaa.Bd
open Go.ChangeShapes Go.WideShapes Go.ChangeAt Go.RowKit
set_option linter.unusedVariables false
set_option linter.unusedSimpArgs false

def stepB (sel a b : Bool) : Bool := if sel = true then a && b else a || b
def valT (sel : Bool) (S : List Nd) (l : List Nat) (r : Nat → Bool) : Bool := if sel = true then l.all (fun f => den S f r) else l.any (fun f => den S f r)
def triG (sel : Bool) (x : Nat) : Nat := if sel = true then x else 1
def triH (sel : Bool) (x : Nat) : Nat := if sel = true then 0 else x
def empT (sel : Bool) : Nat := if sel = true then 1 else 0
theorem valT_next {sel : Bool} {S : List Nd} {l : List Nat} {i f : Nat} (h : l[i]? = some f) (r : Nat → Bool) : valT sel S (l.take (i + 1)) r = stepB sel (den S f r) (valT sel S (l.take i) r) := by
  unfold valT stepB
  rw [List.take_add_one, h]
  cases sel <;> simp [Bool.and_comm, Bool.or_comm]
theorem valT_mem {sel : Bool} {S : List Nd} {l m : List Nat} (h : ∀ x, x ∈ m ↔ x ∈ l) (r : Nat → Bool) : valT sel S m r = valT sel S l r := by
  unfold valT
  rw [Bool.eq_iff_iff]
  cases sel <;> simp [List.any_eq_true, List.all_eq_true, h]
theorem sem_tri (sel : Bool) (ns : List Nd) (f x : Nat) (r : Nat → Bool) : (if den ns f r = true then den ns (triG sel x) r else den ns (triH sel x) r) = stepB sel (den ns f r) (den ns x r) := by
  unfold stepB triG triH
  cases sel <;> cases h : den ns f r <;> simp [den_zero, den_one]
theorem ownI_form {W : World} {b n : Nat} {v : Value} {l : List Nat} (h : W.ownsRow b 3 1 v n (natV l)) : ∃ A c, v = .slice A n c := by
  rcases h.2 with ⟨rfl, h0⟩ | ⟨g, cap, cur, rfl, _⟩
  · exact ⟨none, 0, by rw [h0]⟩
  · exact ⟨_, _, rfl⟩
theorem ownI_at {W : World} {b n c i f : Nat} {A : Option Addr} {l : List Nat} (h : W.ownsRow b 3 1 (.slice A n c) n (natV l)) (hi : l[i]? = some f) : ∃ g, A = some ⟨g, 0, none⟩ ∧ W.cell? ⟨g, i, none⟩ = some (.int .i64 (f : Int)) := by
  have hn : l.length = n := by have := h.1; simpa [natV] using this
  have hil := (List.getElem?_eq_some_iff.1 hi).1
  obtain ⟨hl, ⟨e, h0⟩ | ⟨g, cap, cur, e, hb, hh, hnc, hcm, hcs, hct⟩⟩ := h
  · omega
  · have h : W.ownsRow b 3 1 (.slice (some ⟨g, 0, none⟩) n cap) n (natV l) := ⟨hl, .inr ⟨g, cap, cur, rfl, hb, hh, hnc, hcm, hcs, hct⟩⟩
    injection e with e1 e2 e3
    refine ⟨g, e1, ?_⟩
    rw [h.cellAt _ (by omega)]
    unfold natV
    rw [List.getElem?_map, hi]; rfl
/-- A round's state: what the functions so far are, put together. -/
def Tg (P : Dp) (E : Nat) (sel : Bool) (A : Option Addr) (n c : Nat) (l : List Nat) (K : Nat) (W : World) (i x : Nat) : Prop :=
  ∃ (L : Nat) (fv : Value) (F : List Nd), Dr { P with limit := L } W fv F ∧ Ch { P with limit := L } E (P.S ++ F) True W ∧ W.ownsRow 0 3 1 (.slice A n c) n (natV l) ∧ x < (P.S ++ F).length ∧ (∀ r, den (P.S ++ F) x r = valT sel P.S (l.take i) r) ∧ F.length ≤ i * K
theorem own_limit {P : Dp} {W : World} {fv v : Value} {F : List Nd} (hD : Dr P W fv F) {n : Nat} {l : List Nat} (h : W.ownsRow 0 3 1 v n (natV l)) (u : Value) : (W.setCell ⟨P.dd, 3, none⟩ u).ownsRow 0 3 1 v n (natV l) :=
  own_keep h (fun g hg => by
    obtain ⟨cs, h2⟩ := own_type h hg
    exact Below.heap_setCell _ _ _ _ (dd_ne hD h2 (by decide)))
theorem own_fr {P : Dp} {W W' : World} {fv fv' v : Value} {F : List Nd} {E : Nat} {ns : List Nd} {ok : Prop} (hD : Dr P W fv F) (hC : Ch P E ns ok W) (hf : Fr P.dd P.kb (E + 4) W W' fv fv') {n : Nat} {l : List Nat} (h : W.ownsRow 0 3 1 v n (natV l)) : W'.ownsRow 0 3 1 v n (natV l) :=
  own_keep h (fun g hg => by
    obtain ⟨cs, h2⟩ := own_type h hg
    obtain ⟨f, k1, k3⟩ := hD.known
    obtain ⟨m, f2, k2, k4, k5⟩ := hC.c4
    exact hf.keep g (block_lt h2) (dd_ne hD h2 (by decide)) (map_ne k1 h2) (map_ne k2 h2) (own_ne hD.row h2 (by decide)))
end Go.Proofs.Ytfohjlepknnleaa.Bd

namespace Go.Proofs.Ytfohjlepknnleaa.Bd
open Go.ChangeShapes Go.WideShapes Go.ChangeAt Go.RowKit
set_option linter.unusedVariables false
set_option linter.unusedSimpArgs false

/-- What keep is asked for in the end. -/
def TailP (P : Dp) (KT : Nat) (val : (Nat → Bool) → Bool) (x : Int) (W : World) : Prop :=
  ∃ (L : Nat) (fv : Value) (F : List Nd), Dr { P with limit := L } W fv F ∧ (-1 ≤ x ∧ x < ((P.S ++ F).length : Int)) ∧ (x = -1 → P.budget ≤ P.S.length + KT) ∧ F.length ≤ KT ∧ ∀ y : Nat, x = (y : Int) → ∀ r, den (P.S ++ F) y r = val r
theorem tail_any {P : Dp} {KT : Nat} {val : (Nat → Bool) → Bool} {x : Int} {W : World} (h : TailP P KT val x W) : Calls Try.prog 35 #[.pointer (some ⟨P.dd, 0, none⟩), .int .i64 x] W (OpPost P.B P.W0 P.b P.vars P.budget P.S KT val) := by
  obtain ⟨L, fv, F, hD, hx, h1, h2, h3⟩ := h
  exact (keep_any { P with limit := L } W fv F hD x hx).mono (fun e w' hk => op_keep (P := { P with limit := L }) (K := KT) (val := val) hD rfl rfl rfl rfl rfl rfl hk h2 h1 h3)
theorem Tg.end_ {P : Dp} {E : Nat} {sel : Bool} {A : Option Addr} {n c : Nat} {l m : List Nat} {K KT : Nat} {W : World} {x : Nat} (h : Tg P E sel A n c l K W n x) (hl : l.length = n) (hK : n * K ≤ KT) (hm : ∀ x, x ∈ l ↔ x ∈ m) : TailP P KT (valT sel P.S m) (x : Int) W := by
  obtain ⟨L, fv, F, hD, hC, ho, hx, hv, hF⟩ := h
  refine ⟨L, fv, F, hD, ⟨by omega, by omega⟩, fun h => by omega, by omega, fun y hy r => ?_⟩
  obtain rfl : y = x := by omega
  rw [hv r, List.take_of_length_le (by omega)]
  exact valT_mem hm r
/-- What a round's choice tells. -/
def RoundP (P : Dp) (E : Nat) (sel : Bool) (A : Option Addr) (n c : Nat) (l m : List Nat) (K KT : Nat) (i : Nat) (e : Ending) (W' : World) : Prop :=
  ∃ y : Int, e = .returned (.int .i64 y) ∧ ((y = -1 ∧ TailP P KT (valT sel P.S m) (-1) W') ∨ ∃ x' : Nat, y = (x' : Int) ∧ x' ≤ 4194304 ∧ Tg P E sel A n c l K W' (i + 1) x')
theorem choose_round {P : Dp} {E : Nat} {sel : Bool} {A : Option Addr} {n c : Nat} {l m : List Nat} {K KT : Nat} {W : World} {i x f L : Nat} {fv : Value} {F : List Nd} (hD : Dr { P with limit := L } W fv F) (hC : Ch { P with limit := L } E (P.S ++ F) True W) (ho : W.ownsRow 0 3 1 (.slice A n c) n (natV l)) (hx : x < (P.S ++ F).length) (hv : ∀ r, den (P.S ++ F) x r = valT sel P.S (l.take i) r) (hF : F.length ≤ i * K)
    (hi : l[i]? = some f) (hf : f < P.S.length) (hL : P.budget ≤ L) (hK : K = 2 ^ P.vars - 1) (hKT : (i + 1) * K ≤ KT) :
    Calls Try.prog 47 #[.int .i64 (f : Int), .int .i64 (triG sel x : Int), .int .i64 (triH sel x : Int), .pointer (some ⟨E + 1, 0, none⟩)] W (RoundP P E sel A n c l m K KT i) := by
  have h2 := hD.good.two
  have hlf : f < (P.S ++ F).length := by rw [List.length_append]; omega
  have hg : triG sel x < (P.S ++ F).length := by unfold triG; split; exact hx; exact h2
  have hh : triH sel x < (P.S ++ F).length := by unfold triH; split; omega; exact hx
  have hS := hD.st.good
  refine (choose_any { P with limit := L } E P.vars W fv F f (triG sel x) (triH sel x) hD hC hlf hg hh (by show P.vars - _ ≤ _; omega)).mono ?_
  rintro e W' ⟨fv2, F2, hD2, hfr, hl2, ⟨k, hk⟩, hR⟩
  have hrow := own_fr hD hC hfr ho
  have hF2 : F2.length ≤ (i + 1) * K := by rw [Nat.succ_mul, hK]; rw [hK] at hF; omega
  have hroom := hD2.room
  rcases hR with ⟨rfl, hc, -⟩ | ⟨y, rfl, hp, hC2⟩
  · refine ⟨-1, rfl, .inl ⟨rfl, L, fv2, F2, hD2, ⟨by omega, by omega⟩, fun _ => ?_, by omega, fun y hy => by omega⟩⟩
    have hc' : L ≤ P.S.length + F2.length := hc
    omega
  · refine ⟨y, rfl, .inr ⟨y, rfl, ?_, L, fv2, F2, hD2, hC2, hrow, hp.lt, fun r => ?_, hF2⟩⟩
    · have := hp.lt
      have hr : P.S.length + F2.length ≤ 2097152 := hroom
      have hlt : y < (P.S ++ F2).length := hp.lt
      rw [List.length_append] at hlt
      omega
    · have hval : den (P.S ++ F2) y r = if den (P.S ++ F) f r = true then den (P.S ++ F) (triG sel x) r else den (P.S ++ F) (triH sel x) r := hp.val r
      rw [hval, sem_tri, valT_next hi, hv r, den_app hS r hf]
end Go.Proofs.Ytfohjlepknnleaa.Bd

namespace Go.Proofs.Ytfohjlepknnleaa.Bd
open Go.ChangeShapes Go.WideShapes Go.ChangeAt Go.RowKit
set_option linter.unusedVariables false
set_option linter.unusedSimpArgs false

theorem hasB_nat {n : Nat} {l : List Nat} (h0 : 0 < n) (h : ∀ x ∈ l, x < n) : hasB n (natZ l) = true := by
  unfold hasB natZ
  simp only [List.all_map, Bool.and_eq_true, decide_eq_true_eq]
  refine ⟨?_, h0⟩
  rw [List.all_eq_true]
  intro x hx
  have := h x hx
  simp only [Function.comp, Bool.and_eq_true, decide_eq_true_eq]
  omega
theorem box_cells {w : World} {g : Nat} {a b c d : Value} {T : TypeId} (h : w.heap[g]? = some (.cells #[a, b, c, d] T (0, 0))) :
    w.cell? ⟨g, 1, none⟩ = some b ∧ w.cell? ⟨g, 3, none⟩ = some d ∧ w.frozen? ⟨g, 3, none⟩ = false := by
  refine ⟨?_, ?_, ?_⟩
  · unfold World.cell?; rw [h]; rfl
  · unfold World.cell?; rw [h]; rfl
  · unfold World.frozen?; rw [h]; rfl
set_option maxRecDepth 100000 in
set_option maxHeartbeats 8000000 in
theorem together_any (B : Nat) (w : World) (b vars budget : Nat) (S : List Nd) (h : StAt B w b vars budget S) (v : Value) (l : List Nat) (hv : IntsAt w v (natZ l)) (hS : ∀ x ∈ l, x < S.length) (hl : l.length * (2 ^ vars - 1) ≤ 1000000) (hl2 : l.length ≤ 1000000)
    (sel : Bool) (k : Nat) (ek : ∀ args w, (callFunc k args).run Try.prog w = .ok (.enter k args) w)
    (hk : ∀ (W : World) (f x : Nat), Calls Try.prog k #[.int .i64 (f : Int), .int .i64 (x : Int)] W (fun e w' => e = .returned (.tuple #[.int .i64 (f : Int), .int .i64 (triG sel x : Int), .int .i64 (triH sel x : Int)]) ∧ w' = W)) :
    Calls Try.prog 38 #[.pointer (some ⟨b, 0, none⟩), v, .int .i64 (empT sel : Int), .func (.func k) #[] #[]] w (OpPost B w b vars budget S (l.length * (2 ^ vars - 1)) (valT sel S l)) := by
  obtain ⟨nv, pb, h⟩ := h
  have h2 := h.good.two
  have hbud := h.hbud
  have hc := phas_any w (.pointer (some ⟨b, 0, none⟩)) S.length v (natZ l) (.inr ⟨B, b, vars, budget, nv, pb, S, rfl, h, rfl⟩) hv (by simp [natZ]; exact hl2)
  rw [hasB_nat (by omega) hS] at hc
  have HC := Lib.hid hc
  have HDR := Lib.hid (draft_any B w b vars budget nv pb S h)
  have HV := Lib.hid hv
  have HS := Lib.hid hS
  have HK := Lib.hid hk
  have H2 := Lib.hid h2
  obtain ⟨K, hK⟩ : ∃ K, 2 ^ vars - 1 = K := ⟨_, rfl⟩
  obtain ⟨KT, hKT⟩ : ∃ K, l.length * (2 ^ vars - 1) = K := ⟨_, rfl⟩
  rw [hKT] at hl ⊢
  have HKT := Lib.hid hKT
  have HKK := Lib.hid hK
  obtain ⟨ev, hev⟩ : ∃ e : Nat, empT sel = e := ⟨_, rfl⟩
  have HEV := Lib.hid hev
  rw [hev]
  clear hc h hv hS hk hKT hK hev h2
  go_enter Try.func38, Try.ntmps38
  go_wp2_with fail
  refine HC.out.mono ?_
  rintro e w' ⟨rfl, hw'⟩
  subst hw'
  obtain ⟨w, hw⟩ : ∃ W, W = w' := ⟨_, rfl⟩
  subst hw
  go_wp2_with fail
  refine HDR.out.mono ?_
  rintro e w2 ⟨hb2, P, e0, e1, e2, e3, e4, e5, e6, e7, e8, rfl, hD⟩
  have HE := Lib.hid (And.intro e0 (And.intro e1 (And.intro e2 (And.intro e3 (And.intro e4 (And.intro e7 (And.intro e5 e6)))))))
  have HD := Lib.hid hD
  have HB2 := Lib.hid hb2
  have HCH := Lib.hid (chooser_any P w2 _ _ hD)
  clear hD e0 e1 e2 e3 e4 e5 e6 e7 e8 hb2
  go_wp2_with fail
  refine HCH.out.mono ?_
  rintro e w3 ⟨hb3, rfl, hC⟩
  have HB3 := Lib.hid hb3
  have HCC := Lib.hid hC
  have HD3 := Lib.hid (HD.out.kept hb3)
  have HUP : Hid (Calls Try.prog 52 #[.pointer (some ⟨b, 0, none⟩), v] w3 (UpPost l w3)) := Lib.hid (by
    obtain ⟨e0, e1, e2, e3, e4, e7, e5, e6⟩ := HE.out
    have hst := HD3.out.stv
    rw [e1, e2, e3, e4, e5, e6, e7] at hst
    exact upwards_any w3 B b vars budget nv pb S hst v l (ints_below (ints_below HV.out HB2.out) HB3.out) hl2 HS.out)
  clear hb3 hC
  go_wp2_with fail
  refine HUP.out.mono ?_
  rintro e w4 ⟨v4, l4, rfl, hl4, hm4, ho4, hb4⟩
  obtain ⟨n, hn⟩ : ∃ n, l4.length = n := ⟨_, rfl⟩
  rw [hn] at hl4 ho4
  obtain ⟨A, c, rfl⟩ := ownI_form ho4
  have HN := Lib.hid hn
  have HM := Lib.hid hm4
  have HLE := Lib.hid hl4
  have hn6 : n ≤ 1000000 := by omega
  have HTG : Hid (Tg P w2.heap.size sel A n c l4 K w4 0 ev) := Lib.hid (by
    obtain ⟨e0, e1, e2, e3, e4, e7, e5, e6⟩ := HE.out
    refine ⟨P.limit, .slice none 0 0, [], HD3.out.kept hb4, HCC.out.kept hb4, own_low ho4 (Nat.zero_le _), ?_, fun r => ?_, by simp⟩
    · rw [List.append_nil, e7, ← HEV.out]; unfold empT; have := H2.out; split <;> omega
    · rw [← HEV.out, List.append_nil]; unfold empT valT; cases sel <;> simp [den_zero, den_one])
  have HBD : Hid (n * K ≤ KT) := Lib.hid (by rw [← HKT.out, HKK.out]; exact Nat.mul_le_mul_right _ hl4)
  clear hn hl4 hm4 ho4 hb4
  go_wp2_with fail
  go_loopw [12, 29] (fun vx vi wr => ∃ i x : Nat, i ≤ n ∧ vx = .int .i64 (x : Int) ∧ vi = .int .i64 (i : Int) ∧ x ≤ 4194304 ∧ Tg P w2.heap.size sel A n c l4 K wr i x) (fun _ vi _ => n - intV vi)
  case atStart => exact ⟨0, ev, Nat.zero_le _, rfl, rfl, by rw [← HEV.out]; unfold empT; split <;> omega, HTG.out⟩
  case round =>
    obtain ⟨i, x, hi, rfl, rfl, hx, htg⟩ := hrel
    have HTR := Lib.hid htg
    clear htg
    by_cases hin : i < n
    · obtain ⟨f, hf⟩ : ∃ f, l4[i]? = some f := ⟨_, List.getElem?_eq_getElem (by rw [HN.out]; exact hin)⟩
      have hfS : f < S.length := HS.out f ((HM.out f).1 (List.mem_of_getElem? hf))
      obtain ⟨L, fv, F, hD, hC, ho, hxl, hxv, hF⟩ := HTR.out
      obtain ⟨g, rfl, hcell⟩ := ownI_at ho hf
      obtain ⟨FA, cF, hfv⟩ := row_form hD.row
      have hroom := hD.room
      obtain ⟨W1, hW1⟩ : ∃ W, wr.setCell ⟨P.dd, 3, none⟩ (.int .i64 1048576) = W := ⟨_, rfl⟩
      have hD1 : Dr { P with limit := 1048576 } W1 fv F := by rw [← hW1]; exact hD.limit 1048576 (by omega)
      have hC1 : Ch { P with limit := 1048576 } w2.heap.size (P.S ++ F) True W1 := by rw [← hW1]; exact hC.limit hD 1048576
      have ho1 := own_limit hD ho (.int .i64 1048576)
      have ho1 : W1.ownsRow 0 3 1 (.slice (some ⟨g, 0, none⟩) n c) n (natV l4) := by rw [← hW1]; exact ho1
      obtain ⟨-, c3, c3f⟩ := box_cells hD.box
      obtain ⟨d1, d3, d3f⟩ := box_cells hD1.box
      obtain ⟨m, hm⟩ : ∃ m, F.length = m := ⟨_, rfl⟩
      have hb1 := hD1.ats.2.2.1
      rw [hfv, hm] at d1
      have HKI : Hid ((i + 1) * K ≤ KT) := Lib.hid (Nat.le_trans (Nat.mul_le_mul_right _ hin) HBD.out)
      have HP2 : Hid (P.b = b ∧ P.budget = budget ∧ P.S.length = S.length ∧ 2 ^ P.vars - 1 = K ∧ f < P.S.length) := Lib.hid (by
        obtain ⟨e0, e1, e2, e3, e4, e7, e5, e6⟩ := HE.out
        exact ⟨e2, e4, by rw [e7], by rw [e3]; exact HKK.out, by rw [e7]; exact hfS⟩)
      obtain ⟨p1, p2, p3, p4, p5⟩ := HP2.out
      have hm6 : m ≤ 1000000 := by have h1 := HKI.out; rw [Nat.succ_mul] at h1; rw [← hm]; omega
      have HTAIL : Hid (∀ W, TailP P KT (valT sel P.S l) (-1) W → Calls Try.prog 35 #[.pointer (some ⟨P.dd, 0, none⟩), .int .i64 (-1)] W (OpPost B w b vars budget S KT (valT sel S l))) := Lib.hid (fun W hW => by
        have ht := tail_any hW
        obtain ⟨e0, e1, e2, e3, e4, e7, e5, e6⟩ := HE.out
        rw [e0, e1, e2, e3, e4, e7] at ht
        exact ht)
      have HW1 := Lib.hid hW1
      simp only [p1, p2] at hb1
      by_cases hlast : i + 1 = n
      · have heq : ((i : Int) == (n : Int) - 1) = true := by simp; omega
        obtain ⟨W2, hW2⟩ : ∃ W, W1.setCell ⟨P.dd, 3, none⟩ (.int .i64 ((budget : Int) + (m : Int))) = W := ⟨_, rfl⟩
        have hD2 : Dr { P with limit := budget + m } W2 fv F := by rw [← hW2]; exact hD1.limit (budget + m) (by omega)
        have hC2 : Ch { P with limit := budget + m } w2.heap.size (P.S ++ F) True W2 := by rw [← hW2]; exact hC1.limit hD1 (budget + m)
        have ho2 : W2.ownsRow 0 3 1 (.slice (some ⟨g, 0, none⟩) n c) n (natV l4) := by rw [← hW2]; exact own_limit hD1 ho1 _
        have HCO : Hid (∀ q, Calls Try.prog 47 #[.int .i64 (f : Int), .int .i64 (triG sel x : Int), .int .i64 (triH sel x : Int), .pointer (some ⟨w2.heap.size + 1, 0, none⟩)] (W2.drewN q) (RoundP P w2.heap.size sel (some ⟨g, 0, none⟩) n c l4 l K KT i)) := Lib.hid (fun q => by
          have hbq := below_drewN (Below.refl W2.heap.size W2) q
          exact choose_round (hD2.kept hbq) (hC2.kept hbq) (own_below ho2 hbq) hxl hxv hF hf p5 (by rw [p2]; omega) p4.symm HKI.out)
        have HW2 := Lib.hid hW2
        clear hD hC ho hxv hfv hD1 hC1 ho1 hW1 hW2 hD2 hC2 ho2 hm hf
        go_wp2_with fail
        rw [HW1.out]
        go_region
        go_wp2_with fail
        rw [HW2.out]
        refine (HK.out _ f x).mono ?_
        rintro e w5 ⟨rfl, hw5⟩
        subst hw5
        go_wp2_with fail
        refine (HCO.out 1).mono ?_
        rintro e w6 ⟨y, rfl, ⟨rfl, ht⟩ | ⟨x', rfl, hx', ht⟩⟩
        · have HT := Lib.hid ht
          clear ht
          go_wp2_with fail
          refine (HTAIL.out _ HT.out).mono ?_
          rintro e w9 hp
          obtain ⟨a, c, rfl⟩ := hp.ret
          have HR := Lib.hid hp
          clear hp
          go_wp2
          refine bodyPost_ret (v := .tuple #[.int .i64 a, .int .i64 c]) (by simp [results, Try.results38, go_sem]) rfl HR.out
        · have HT := Lib.hid ht
          have hy1 : ((x' : Int) == -1) = false := by simp
          clear ht
          go_wp2_with fail
          go_roundw
          case rel => exact ⟨i + 1, x', by omega, rfl, by go_num, hx', HT.out⟩
          case measure => simp [intV]; omega
      · have heq : ((i : Int) == (n : Int) - 1) = false := by simp; omega
        have HCO : Hid (Calls Try.prog 47 #[.int .i64 (f : Int), .int .i64 (triG sel x : Int), .int .i64 (triH sel x : Int), .pointer (some ⟨w2.heap.size + 1, 0, none⟩)] W1 (RoundP P w2.heap.size sel (some ⟨g, 0, none⟩) n c l4 l K KT i)) := Lib.hid (
          choose_round hD1 hC1 ho1 hxl hxv hF hf p5 (by rw [p2]; omega) p4.symm HKI.out)
        clear hD hC ho hxv hfv hD1 hC1 ho1 hW1 hm hf
        go_wp2_with fail
        rw [HW1.out]
        refine (HK.out W1 f x).mono ?_
        rintro e w5 ⟨rfl, hw5⟩
        subst hw5
        go_wp2_with fail
        refine HCO.out.mono ?_
        rintro e w6 ⟨y, rfl, ⟨rfl, ht⟩ | ⟨x', rfl, hx', ht⟩⟩
        · have HT := Lib.hid ht
          clear ht
          go_wp2_with fail
          refine (HTAIL.out _ HT.out).mono ?_
          rintro e w9 hp
          obtain ⟨a, c, rfl⟩ := hp.ret
          have HR := Lib.hid hp
          clear hp
          go_wp2
          refine bodyPost_ret (v := .tuple #[.int .i64 a, .int .i64 c]) (by simp [results, Try.results38, go_sem]) rfl HR.out
        · have HT := Lib.hid ht
          have hy1 : ((x' : Int) == -1) = false := by simp
          clear ht
          go_wp2_with fail
          go_roundw
          case rel => exact ⟨i + 1, x', by omega, rfl, by go_num, hx', HT.out⟩
          case measure => simp [intV]; omega
    · obtain rfl : i = n := by omega
      have HTL : Hid (Calls Try.prog 35 #[.pointer (some ⟨P.dd, 0, none⟩), .int .i64 (x : Int)] wr (OpPost B w b vars budget S KT (valT sel S l))) := Lib.hid (by
        have ht := tail_any (HTR.out.end_ HN.out HBD.out HM.out)
        obtain ⟨e0, e1, e2, e3, e4, e7, e5, e6⟩ := HE.out
        rw [e0, e1, e2, e3, e4, e7] at ht
        exact ht)
      go_wp2_with fail
      refine HTL.out.mono ?_
      rintro e w9 hp
      obtain ⟨a, c, rfl⟩ := hp.ret
      have HR := Lib.hid hp
      clear hp
      go_wp2
      refine bodyPost_ret (v := .tuple #[.int .i64 a, .int .i64 c]) (by simp [results, Try.results38, go_sem]) rfl HR.out
end Go.Proofs.Ytfohjlepknnleaa.Bd

namespace Go.Proofs.Ytfohjlepknnleaa.Bd
open Go.ChangeShapes Go.WideShapes Go.ChangeAt Go.RowKit
set_option linter.unusedVariables false
set_option linter.unusedSimpArgs false

set_option maxRecDepth 100000 in
set_option maxHeartbeats 1600000 in
theorem and_any (B : Nat) (w : World) (b vars budget : Nat) (S : List Nd) (h : StAt B w b vars budget S) (v : Value) (l : List Nat) (hv : IntsAt w v (natZ l)) (hS : ∀ x ∈ l, x < S.length) (hl : l.length * (2 ^ vars - 1) ≤ 1000000) (hl2 : l.length ≤ 1000000) :
    Calls Try.prog 18 #[.pointer (some ⟨b, 0, none⟩), v] w (OpPost B w b vars budget S (l.length * (2 ^ vars - 1)) (fun r => l.all (fun f => den S f r))) := by
  have HC : Hid (Calls Try.prog 38 #[.pointer (some ⟨b, 0, none⟩), v, .int .i64 1, .func (.func 39) #[] #[]] w (OpPost B w b vars budget S (l.length * (2 ^ vars - 1)) (fun r => l.all (fun f => den S f r)))) := Lib.hid
    (together_any B w b vars budget S h v l hv hS hl hl2 true 39 (enters_of Try.func39 (by kernel_rfl) rfl) (fun W f x => and1_any W f x))
  clear h hv hS
  go_enter Try.func18, Try.ntmps18
  go_wp2_with fail
  refine HC.out.mono ?_
  rintro e w5 hp
  obtain ⟨a, c, rfl⟩ := hp.ret
  have HR := Lib.hid hp
  clear hp
  go_wp2
  refine bodyPost_ret (v := .tuple #[.int .i64 a, .int .i64 c]) (by simp [results, Try.results18, go_sem]) rfl HR.out

set_option maxRecDepth 100000 in
set_option maxHeartbeats 1600000 in
theorem or_any (B : Nat) (w : World) (b vars budget : Nat) (S : List Nd) (h : StAt B w b vars budget S) (v : Value) (l : List Nat) (hv : IntsAt w v (natZ l)) (hS : ∀ x ∈ l, x < S.length) (hl : l.length * (2 ^ vars - 1) ≤ 1000000) (hl2 : l.length ≤ 1000000) :
    Calls Try.prog 19 #[.pointer (some ⟨b, 0, none⟩), v] w (OpPost B w b vars budget S (l.length * (2 ^ vars - 1)) (fun r => l.any (fun f => den S f r))) := by
  have HC : Hid (Calls Try.prog 38 #[.pointer (some ⟨b, 0, none⟩), v, .int .i64 0, .func (.func 40) #[] #[]] w (OpPost B w b vars budget S (l.length * (2 ^ vars - 1)) (fun r => l.any (fun f => den S f r)))) := Lib.hid
    (together_any B w b vars budget S h v l hv hS hl hl2 false 40 (enters_of Try.func40 (by kernel_rfl) rfl) (fun W f x => or1_any W f x))
  clear h hv hS
  go_enter Try.func19, Try.ntmps19
  go_wp2_with fail
  refine HC.out.mono ?_
  rintro e w5 hp
  obtain ⟨a, c, rfl⟩ := hp.ret
  have HR := Lib.hid hp
  clear hp
  go_wp2
  refine bodyPost_ret (v := .tuple #[.int .i64 a, .int .i64 c]) (by simp [results, Try.results19, go_sem]) rfl HR.out
end Go.Proofs.Ytfohjlepknnleaa.Bd
