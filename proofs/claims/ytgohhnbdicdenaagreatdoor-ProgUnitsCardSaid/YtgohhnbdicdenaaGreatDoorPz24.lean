/- A program has at most 200 units, without a program. Conditions: none. -/
import Derived.Test.YtgohhnbdicdenaaGreatDoorPz22
import Derived.Test.YtgohhnbdicdenaaGreatDoorPz21
namespace Go.Proofs.YtgohhnbdicdenaaGreatDoor.Pg
open Go.Proofs.YtgohhnbdicdenaaGreatDoor.Tr Go.Proofs.YtgohhnbdicdenaaGreatDoor.Ex
set_option linter.unusedVariables false

theorem rowF_len {α : Type} {b : Rd → Bool} {one : PM α} : ∀ (k : Nat) (acc : List α) (r : Rd), acc.length ≤ 200 → (rowF b one k acc r).1.length ≤ 200
  | 0, acc, r, h => h
  | k + 1, acc, r, h => by
    show (if b r then (if acc.length = 200 then ([], r.fail 7) else pBind one (fun x => rowF b one k (acc ++ [x])) r) else (acc, r)).1.length ≤ 200
    split
    · split
      · simp
      · rename_i hne
        exact rowF_len k (acc ++ [(one r).1]) (one r).2 (by rw [List.length_append, List.length_cons, List.length_nil]; omega)
    · exact h
theorem units_len {s : Bytes} {P : Prg} {C A : Int} (h : progM s = (P, C, A)) : P.units.length ≤ 200 := by
  cases hl : Lx.lexM s with
  | bad c x =>
    unfold progM at h
    rw [hl] at h
    simp only [Prod.mk.injEq] at h
    rw [← h.1]; exact Nat.zero_le _
  | ok L =>
    by_cases hc : C = 0
    · obtain ⟨-, h2, -⟩ := prog_tok hl h hc
      rw [← h2, rest_units, rowP_eq]
      exact rowF_len _ _ _ (Nat.zero_le _)
    · have := prog_fault (s := s) (by rw [h]; exact hc)
      rw [h] at this
      have h1 : P = .none := this.1
      rw [h1]; exact Nat.zero_le _
end Go.Proofs.YtgohhnbdicdenaaGreatDoor.Pg

/- A program with one more unit ahead of it has that unit first: the walk. Conditions: the variable of the error of a number's form holds an error or none. -/
namespace Go.Proofs.YtgohhnbdicdenaaGreatDoor.progUnits
open Go.ChangeShapes Go.WideShapes Go.ChangeAt Go.RowKit
open Go.Proofs.YtgohhnbdicdenaaGreatDoor.Pg Go.Proofs.YtgohhnbdicdenaaGreatDoor.Ex
open Go.Proofs.YtgohhnbdicdenaaGreatDoor.Tr (str ret_bool ret_int Bytes Nd)
set_option linter.unusedVariables false
set_option linter.unusedSimpArgs false

attribute [local go_sem ↓] Lx.eql_fault Lx.guard_fault
theorem rowU_below {w w' : World} {l : List Unt} {v : Value} (h : RowR 50 8 UntV w l v) (hb : Below w.heap.size w w') : RowR 50 8 UntV w' l v :=
  h.stay (Stay.below (P := fun _ => False) hb) (fun h => h) (fun a x hx => UntV.below hb a x hx)
set_option maxRecDepth 100000 in
set_option maxHeartbeats 4000000 in
theorem walk_big (a b : ByteArray) (A B : Bool) (ha : decide ((700 : Int) < (a.size : Int)) = A) (hb : decide ((700 : Int) < (b.size : Int)) = B) (hc : A = true ∨ B = true) (W : World) (hv : Ex.VarAt W W.heap.size) : Calls Tryz.prog 6 #[.string a, .string b] W (fun e W' => e = .returned (.bool true) ∧ Below W.heap.size W W') := by
  have HV := Lib.hid hv
  clear hv
  cases A with
  | true =>
    clear hc
    go_enter Tryz.func6, Tryz.ntmps6
    go_wp2_with fail
    refine (live_any _ HV.out).mono ?_
    rintro e w1 ⟨rfl, hb1⟩
    have HB1 := Lib.hid hb1
    clear hb1
    go_wp2
    go_ret
    exact ⟨rfl, HB1.out⟩
  | false =>
    have hB : B = true := by
      rcases hc with h | h
      · cases h
      · exact h
    subst hB
    clear hc
    go_enter Tryz.func6, Tryz.ntmps6
    go_wp2_with fail
    refine (live_any _ HV.out).mono ?_
    rintro e w1 ⟨rfl, hb1⟩
    have HB1 := Lib.hid hb1
    clear hb1
    go_wp2
    go_ret
    exact ⟨rfl, HB1.out⟩
/-- What lies where after the three programs are read. -/
structure Three (W w1 w2 w3 : World) (p1 f1 p2 f2 : Obj) : Prop where
  low : Below W.heap.size W w3
  x1 : w3.heap[w1.heap.size]? = some p1
  y1 : w3.heap[w1.heap.size + 1]? = some f1
  x2 : w3.heap[w2.heap.size]? = some p2
  y2 : w3.heap[w2.heap.size + 1]? = some f2
set_option maxRecDepth 100000 in
set_option maxHeartbeats 8000000 in
theorem walk_three (a b : ByteArray) (ha : decide ((700 : Int) < (a.size : Int)) = false) (hb : decide ((700 : Int) < (b.size : Int)) = false) (W : World) (hv : Ex.VarAt W W.heap.size) (P Q R : Prg) (C A D B E F : Int)
    (hp : progM (a.toList ++ 10 :: mainT) = (P, C, A)) (hq : progM b.toList = (Q, D, B)) (hr : progM (a.toList ++ 10 :: b.toList) = (R, E, F)) (hoff : C ≠ 0 ∨ D ≠ 0 ∨ 200 < P.units.length + Q.units.length) : Calls Tryz.prog 6 #[.string a, .string b] W (fun e W' => e = .returned (.bool true) ∧ Below W.heap.size W W') := by
  have ha1 : a.size ≤ 700 := by have := of_decide_eq_false ha; omega
  have hb1 : b.size ≤ 700 := by have := of_decide_eq_false hb; omega
  have lp := units_len hp
  have lq := units_len hq
  have z1 : a.size + 8 ≤ 9223372036854775807 := by omega
  have z2 : a.size + 1 ≤ 9223372036854775807 := by omega
  have z3 : a.size + 1 + b.size ≤ 9223372036854775807 := by omega
  have HV := Lib.hid hv
  have HP : Hid (∀ w, VarAt w w.heap.size → Calls Tryz.prog 20 #[.string (a ++ ⟨#[10, 109, 97, 105, 110, 32, 102, 59]⟩)] w (ParG w (P, C, A))) := Lib.hid (fun w h => parse_s (by
    rw [Lx.app_toList, show (⟨#[10, 109, 97, 105, 110, 32, 102, 59]⟩ : ByteArray).toList = 10 :: mainT from Tr.str_toList (10 :: mainT)]; exact hp) (by rw [ByteArray.size_append, show (⟨#[10, 109, 97, 105, 110, 32, 102, 59]⟩ : ByteArray).size = 8 from rfl]; unfold maxLen; omega) h)
  have HQ := Lib.hid (fun w h => parse_s (w := w) hq (by unfold maxLen; omega) h)
  have HR : Hid (∀ w, VarAt w w.heap.size → Calls Tryz.prog 20 #[.string (a ++ ⟨#[10]⟩ ++ b)] w (ParG w (R, E, F))) := Lib.hid (fun w h => parse_s (by
    rw [Lx.app_toList, Lx.app_toList, show (⟨#[10]⟩ : ByteArray).toList = [10] from Tr.str_toList [10], List.append_assoc]; exact hr) (by rw [ByteArray.size_append, ByteArray.size_append, show (⟨#[10]⟩ : ByteArray).size = 1 from rfl]; unfold maxLen; omega) h)
  obtain ⟨c0, hc0⟩ : ∃ b, (C == 0) = b := ⟨_, rfl⟩
  obtain ⟨d0, hd0⟩ : ∃ b, (D == 0) = b := ⟨_, rfl⟩
  obtain ⟨n0, hn0⟩ : ∃ b, decide ((200 : Int) < (P.units.length : Int) + (Q.units.length : Int)) = b := ⟨_, rfl⟩
  have hcase : c0 = false ∨ d0 = false ∨ n0 = true := by
    rcases hoff with h | h | h
    · exact .inl (by rw [← hc0, beq_eq_false_iff_ne]; exact h)
    · exact .inr (.inl (by rw [← hd0, beq_eq_false_iff_ne]; exact h))
    · exact .inr (.inr (by rw [← hn0]; simp; omega))
  have hc1 : (C != 0) = !c0 := by rw [← hc0]; rfl
  have hd1 : (D != 0) = !d0 := by rw [← hd0]; rfl
  clear hv hp hq hr hoff
  go_enter Tryz.func6, Tryz.ntmps6
  go_wp2_with fail
  refine (HP.out _ HV.out).mono ?_
  rintro e w1 ⟨v1, rfl, hu1, hb1'⟩
  obtain ⟨A1, c1, rfl, y1, y2, -⟩ := hu1
  unfold maxLen at y2
  have N1 := Lib.hid (two_new w1 (.cells #[.slice A1 P.units.length c1, .string (str P.main), .string (str P.back)] 38) (.cells #[.int .i64 C, .int .i64 A] 33))
  have HW1 := Lib.hid (hb1'.trans (N1.out.1.mono hb1'.size))
  clear hb1'
  go_wp2_with fail
  refine (HQ.out _ (var_up HV.out HW1.out)).mono ?_
  rintro e w2 ⟨v2, rfl, hu2, hb2⟩
  obtain ⟨A2, c2, rfl, y3, y4, -⟩ := hu2
  unfold maxLen at y4
  have X2 := Lib.hid ((hb2.block _ (lt_of_block N1.out.2.1)).trans N1.out.2.1)
  have Y2 := Lib.hid ((hb2.block _ (lt_of_block N1.out.2.2)).trans N1.out.2.2)
  have N2 := Lib.hid (two_new w2 (.cells #[.slice A2 Q.units.length c2, .string (str Q.main), .string (str Q.back)] 38) (.cells #[.int .i64 D, .int .i64 B] 33))
  have HW2 := Lib.hid (HW1.out.trans ((hb2.mono HW1.out.size).trans (N2.out.1.mono (Nat.le_trans HW1.out.size hb2.size))))
  clear hb2
  go_wp2_with fail
  refine (HR.out _ (var_up HV.out HW2.out)).mono ?_
  rintro e w3 ⟨v3, rfl, hu3, hb3⟩
  obtain ⟨A3, c3, rfl, y5, y6, -⟩ := hu3
  unfold maxLen at y6
  have HT : Hid (Three W w1 w2 w3 (.cells #[.slice A1 P.units.length c1, .string (str P.main), .string (str P.back)] 38) (.cells #[.int .i64 C, .int .i64 A] 33) (.cells #[.slice A2 Q.units.length c2, .string (str Q.main), .string (str Q.back)] 38) (.cells #[.int .i64 D, .int .i64 B] 33)) :=
    Lib.hid ⟨HW2.out.trans (hb3.mono HW2.out.size), (hb3.block _ (Nat.lt_of_lt_of_le (lt_of_block X2.out) N2.out.1.size)).trans ((N2.out.1.block _ (lt_of_block X2.out)).trans X2.out), (hb3.block _ (Nat.lt_of_lt_of_le (lt_of_block Y2.out) N2.out.1.size)).trans ((N2.out.1.block _ (lt_of_block Y2.out)).trans Y2.out), (hb3.block _ (lt_of_block N2.out.2.1)).trans N2.out.2.1, (hb3.block _ (lt_of_block N2.out.2.2)).trans N2.out.2.2⟩
  clear hb3
  have l1 := lt_of_block HT.out.x1
  have l2 := lt_of_block HT.out.y1
  have l3 := lt_of_block HT.out.x2
  have l4 := lt_of_block HT.out.y2
  have l5 : w1.heap.size < w3.heap.size + 1 := by omega
  have l6 : w1.heap.size + 1 < w3.heap.size + 1 := by omega
  have l7 : w2.heap.size < w3.heap.size + 1 := by omega
  have l8 : w2.heap.size + 1 < w3.heap.size + 1 := by omega
  have p0 : w3.cell? ⟨w1.heap.size, 0, none⟩ = some (.slice A1 P.units.length c1) := (cell_at HT.out.x1 0).trans rfl
  have f0 : w3.cell? ⟨w1.heap.size + 1, 0, none⟩ = some (.int .i64 C) := (cell_at HT.out.y1 0).trans rfl
  have q0 : w3.cell? ⟨w2.heap.size, 0, none⟩ = some (.slice A2 Q.units.length c2) := (cell_at HT.out.x2 0).trans rfl
  have f1 : w3.cell? ⟨w2.heap.size + 1, 0, none⟩ = some (.int .i64 D) := (cell_at HT.out.y2 0).trans rfl
  have HN := Lib.hid (HT.out.low.trans ((two_new w3 (.cells #[.slice A3 R.units.length c3, .string (str R.main), .string (str R.back)] 38) (.cells #[.int .i64 E, .int .i64 F] 33)).1.mono HT.out.low.size))
  cases c0 with
  | false =>
    have hc2 : ¬ C = 0 := by simpa using hc0
    clear hcase hd0 hd1 hn0
    go_wp2_with fail
    refine (live_any _ (var_up HV.out HN.out)).mono ?_
    rintro e w4 ⟨rfl, hb4⟩
    have HB4 := Lib.hid (HN.out.trans (hb4.mono HN.out.size))
    clear hb4
    go_wp2
    go_ret
    exact ⟨rfl, HB4.out⟩
  | true =>
    have hC : C = 0 := by simpa using hc0
    subst hC
    cases d0 with
    | false =>
      have hd2 : ¬ D = 0 := by simpa using hd0
      clear hcase hc0 hc1 hn0
      go_wp2_with fail
      refine (live_any _ (var_up HV.out HN.out)).mono ?_
      rintro e w4 ⟨rfl, hb4⟩
      have HB4 := Lib.hid (HN.out.trans (hb4.mono HN.out.size))
      clear hb4
      go_wp2
      go_ret
      exact ⟨rfl, HB4.out⟩
    | true =>
      have hD : D = 0 := by simpa using hd0
      subst hD
      have hn1 : n0 = true := by
        rcases hcase with h | h | h
        · cases h
        · cases h
        · exact h
      subst hn1
      clear hcase hc0 hc1 hd0 hd1
      go_wp2_with fail
      refine (live_any _ (var_up HV.out HN.out)).mono ?_
      rintro e w4 ⟨rfl, hb4⟩
      have HB4 := Lib.hid (HN.out.trans (hb4.mono HN.out.size))
      clear hb4
      go_wp2
      go_ret
      exact ⟨rfl, HB4.out⟩
end Go.Proofs.YtgohhnbdicdenaaGreatDoor.progUnits

/- A program with one more unit ahead of it has that unit first: the walk, where all three programs are read. Conditions: the variable of the error of a number's form holds an error or none. -/
namespace Go.Proofs.YtgohhnbdicdenaaGreatDoor.progUnits
open Go.ChangeShapes Go.WideShapes Go.ChangeAt Go.RowKit
open Go.Proofs.YtgohhnbdicdenaaGreatDoor.Pg Go.Proofs.YtgohhnbdicdenaaGreatDoor.Ex
open Go.Proofs.YtgohhnbdicdenaaGreatDoor.Tr (str ret_bool ret_int Bytes Nd)
set_option linter.unusedVariables false
set_option linter.unusedSimpArgs false

attribute [local go_sem ↓] Lx.eql_fault Lx.guard_fault
/-- A unit's cells in a row, in a later world. -/
structure UCell (w : World) (A : Option Addr) (k : Nat) (u : Unt) (g : Nat) (i1 v1 q1 l1 : Value) : Prop where
  at_ : A = some ⟨g, 0, none⟩
  lt : g < w.heap.size
  c0 : w.cell? ⟨g, k * 8, none⟩ = some (.bool u.contract)
  c1 : w.cell? ⟨g, k * 8 + 1, none⟩ = some (.string (str u.name))
  c2 : w.cell? ⟨g, k * 8 + 2, none⟩ = some i1
  c3 : w.cell? ⟨g, k * 8 + 3, none⟩ = some (.string (str u.out.name))
  c4 : w.cell? ⟨g, k * 8 + 4, none⟩ = some (.int .i64 u.out.ty)
  c5 : w.cell? ⟨g, k * 8 + 5, none⟩ = some v1
  c6 : w.cell? ⟨g, k * 8 + 6, none⟩ = some q1
  c7 : w.cell? ⟨g, k * 8 + 7, none⟩ = some l1
  un : UntV w u [.bool u.contract, .string (str u.name), i1, .string (str u.out.name), .int .i64 u.out.ty, v1, q1, l1]
  f1 : ∃ A n c, i1 = .slice A n c
  f2 : ∃ A n c, v1 = .slice A n c
  f3 : ∃ A n c, q1 = .slice A n c
  f4 : ∃ A n c, l1 = .slice A n c
theorem ucell {w : World} {us : List Unt} {A : Option Addr} {n c k : Nat} {u : Unt} (h : RowR 50 8 UntV w us (.slice A n c)) (hk : us[k]? = some u) : ∃ g i1 v1 q1 l1, UCell w A k u g i1 v1 q1 l1 := by
  obtain ⟨A', c', h0, h1, h2, h3⟩ := h
  simp only [Value.slice.injEq] at h0
  obtain ⟨rfl, rfl, rfl⟩ := h0
  obtain ⟨g, x, cs, f, e1, e2, e3, -, e5⟩ := h3 k u hk
  have hx := e3
  obtain ⟨i1, v1, q1, l1, rfl, r1, r2, r3, r4⟩ := e3
  obtain ⟨_, _, _, s1, -⟩ := row_form r1
  obtain ⟨_, _, _, s2, -⟩ := row_form r2
  obtain ⟨_, _, _, s3, -⟩ := row_form r3
  obtain ⟨_, _, _, s4, -⟩ := row_form r4
  have q : ∀ j, j < 8 → w.cell? ⟨g, k * 8 + j, none⟩ = _ := fun j hj => (at_cell e2 _).trans (e5 j hj)
  exact ⟨g, i1, v1, q1, l1, e1, lt_of_block e2, q 0 (by decide), q 1 (by decide), q 2 (by decide), q 3 (by decide), q 4 (by decide), q 5 (by decide), q 6 (by decide), q 7 (by decide), hx, ⟨_, _, _, s1⟩, ⟨_, _, _, s2⟩, ⟨_, _, _, s3⟩, ⟨_, _, _, s4⟩⟩
theorem undrew {w w' : World} (h : Below w.drew.heap.size w.drew w') : Below w.heap.size w w' := ⟨h.os, h.tape, h.output, h.size, h.block⟩
theorem UntV.drewNN {w : World} {u : Unt} {x : List Value} (k : UntV w u x) (n : Nat) : UntV (w.drewN n) u x :=
  UntV.stay (P := fun _ => False) (w' := w.drewN n) ⟨Nat.le_refl _, fun _ _ _ _ _ _ => rfl⟩ ⟨fun h => h, fun h => h, fun h => h, fun h => h, fun h => h⟩ u x k
theorem unit_eqvN {u : Unt} {w : World} {i1 v1 q1 l1 i2 v2 q2 l2 : Value} (h1 : UntV w u [.bool u.contract, .string (str u.name), i1, .string (str u.out.name), .int .i64 u.out.ty, v1, q1, l1]) (h2 : UntV w u [.bool u.contract, .string (str u.name), i2, .string (str u.out.name), .int .i64 u.out.ty, v2, q2, l2]) (n : Nat) :
    Calls Tryz.prog 23 #[.agg #[.bool u.contract, .string (str u.name), i1, .string (str u.out.name), .int .i64 u.out.ty, v1, q1, l1], .agg #[.bool u.contract, .string (str u.name), i2, .string (str u.out.name), .int .i64 u.out.ty, v2, q2, l2]] (w.drewN n) fun e w' => e = .returned (.bool true) ∧ Below w.heap.size w w' := by
  refine (unit_eqv (UntV.drewNN h1 n) (UntV.drewNN h2 n)).mono ?_
  rintro e w' ⟨h, hb⟩
  exact ⟨h, (Tr.below_drewN (Below.refl _ _) n).trans (hb.mono (Tr.below_drewN (Below.refl w.heap.size w) n).size)⟩
theorem app_left {us vs : List Unt} {k : Nat} (h : k < us.length) : (us ++ vs)[k]? = us[k]? := List.getElem?_append_left h
theorem app_right {us vs : List Unt} {k : Nat} (h : ¬ k < us.length) : (us ++ vs)[k]? = vs[k - us.length]? := List.getElem?_append_right (by omega)
set_option maxRecDepth 100000 in
set_option maxHeartbeats 16000000 in
theorem walk_all (a b : ByteArray) (ha : decide ((700 : Int) < (a.size : Int)) = false) (hb : decide ((700 : Int) < (b.size : Int)) = false) (W : World) (hv : Ex.VarAt W W.heap.size) (us vs ws : List Unt) (m k : Bytes) (A B : Int)
    (hp : progM (a.toList ++ 10 :: mainT) = (⟨us, [102], []⟩, 0, A)) (hq : progM b.toList = (⟨vs, m, k⟩, 0, B)) (hr : progM (a.toList ++ 10 :: b.toList) = (⟨ws, m, k⟩, 0, 0)) (hn : us.length + vs.length ≤ 200) (hws : us ++ vs = ws) : Calls Tryz.prog 6 #[.string a, .string b] W (fun e W' => e = .returned (.bool true) ∧ Below W.heap.size W W') := by
  have ha1 : a.size ≤ 700 := by have := of_decide_eq_false ha; omega
  have hb1 : b.size ≤ 700 := by have := of_decide_eq_false hb; omega
  have z1 : a.size + 8 ≤ 9223372036854775807 := by omega
  have z2 : a.size + 1 ≤ 9223372036854775807 := by omega
  have z3 : a.size + 1 + b.size ≤ 9223372036854775807 := by omega
  have HV := Lib.hid hv
  have HP : Hid (∀ w, VarAt w w.heap.size → Calls Tryz.prog 20 #[.string (a ++ ⟨#[10, 109, 97, 105, 110, 32, 102, 59]⟩)] w (ParG w (⟨us, [102], []⟩, 0, A))) := Lib.hid (fun w h => parse_s (by
    rw [Lx.app_toList, show (⟨#[10, 109, 97, 105, 110, 32, 102, 59]⟩ : ByteArray).toList = 10 :: mainT from Tr.str_toList (10 :: mainT)]; exact hp) (by rw [ByteArray.size_append, show (⟨#[10, 109, 97, 105, 110, 32, 102, 59]⟩ : ByteArray).size = 8 from rfl]; unfold maxLen; omega) h)
  have HQ := Lib.hid (fun w h => parse_s (w := w) hq (by unfold maxLen; omega) h)
  have HR : Hid (∀ w, VarAt w w.heap.size → Calls Tryz.prog 20 #[.string (a ++ ⟨#[10]⟩ ++ b)] w (ParG w (⟨ws, m, k⟩, 0, 0))) := Lib.hid (fun w h => parse_s (by
    rw [Lx.app_toList, Lx.app_toList, show (⟨#[10]⟩ : ByteArray).toList = [10] from Tr.str_toList [10], List.append_assoc]; exact hr) (by rw [ByteArray.size_append, ByteArray.size_append, show (⟨#[10]⟩ : ByteArray).size = 1 from rfl]; unfold maxLen; omega) h)
  have HS := Lib.hid hws
  have HWL : Hid (ws.length = us.length + vs.length) := Lib.hid (by rw [← hws, List.length_append])
  have n0 : decide ((200 : Int) < (us.length : Int) + (vs.length : Int)) = false := by simp; omega
  have n1 : ((ws.length : Int) != (us.length : Int) + (vs.length : Int)) = false := by have := HWL.out; simp; omega
  have n2 : us.length ≤ 200 := by omega
  have n3 : vs.length ≤ 200 := by omega
  have t0 : (str ([] : Bytes)).toList = [] := Tr.str_toList []
  have t1 : (!(str [102]).toList == [102]) = false := by rw [Tr.str_toList]; rfl
  have t2 : (!(str []).toList == []) = false := by rw [Tr.str_toList]; rfl
  have t3 : (!(str m).toList == (str m).toList) = false := by simp
  have t4 : (!(str k).toList == (str k).toList) = false := by simp
  clear hv hp hq hr hws
  go_enter Tryz.func6, Tryz.ntmps6
  go_wp2_with fail
  refine (HP.out _ HV.out).mono ?_
  rintro e w1 ⟨v1, rfl, hu1, hb1'⟩
  have HU1 := Lib.hid hu1
  obtain ⟨A1, c1, rfl, y1, y2, -⟩ := hu1
  unfold maxLen at y2
  have N1 := Lib.hid (two_new w1 (.cells #[.slice A1 us.length c1, .string (str [102]), .string (str [])] 38) (.cells #[.int .i64 0, .int .i64 A] 33))
  have HW1 := Lib.hid (hb1'.trans (N1.out.1.mono hb1'.size))
  clear hb1'
  go_wp2_with fail
  refine (HQ.out _ (var_up HV.out HW1.out)).mono ?_
  rintro e w2 ⟨v2, rfl, hu2, hb2⟩
  have HU2 := Lib.hid hu2
  have HU12 := Lib.hid (rowU_below (rowU_below HU1.out N1.out.1) hb2)
  obtain ⟨A2, c2, rfl, y3, y4, -⟩ := hu2
  unfold maxLen at y4
  have X2 := Lib.hid ((hb2.block _ (lt_of_block N1.out.2.1)).trans N1.out.2.1)
  have Y2 := Lib.hid ((hb2.block _ (lt_of_block N1.out.2.2)).trans N1.out.2.2)
  have N2 := Lib.hid (two_new w2 (.cells #[.slice A2 vs.length c2, .string (str m), .string (str k)] 38) (.cells #[.int .i64 0, .int .i64 B] 33))
  have HW2 := Lib.hid (HW1.out.trans ((hb2.mono HW1.out.size).trans (N2.out.1.mono (Nat.le_trans HW1.out.size hb2.size))))
  clear hb2
  go_wp2_with fail
  refine (HR.out _ (var_up HV.out HW2.out)).mono ?_
  rintro e w3 ⟨v3, rfl, hu3, hb3⟩
  have N3 : Hid (∀ c, Below w3.heap.size w3 ((w3.alloc (.cells #[c, .string (str m), .string (str k)] 38)).alloc (.cells #[.int .i64 0, .int .i64 0] 33)) ∧ ((w3.alloc (.cells #[c, .string (str m), .string (str k)] 38)).alloc (.cells #[.int .i64 0, .int .i64 0] 33)).heap[w3.heap.size]? = some (.cells #[c, .string (str m), .string (str k)] 38)) := Lib.hid (fun c => ⟨(two_new w3 _ _).1, (two_new w3 _ _).2.1⟩)
  have HU13 := Lib.hid (rowU_below (rowU_below HU12.out N2.out.1) hb3)
  have HU23 := Lib.hid (rowU_below (rowU_below HU2.out N2.out.1) hb3)
  have HU33 := Lib.hid hu3
  obtain ⟨A3, c3, rfl, y5, y6, -⟩ := hu3
  unfold maxLen at y6
  have HT : Hid (Three W w1 w2 w3 (.cells #[.slice A1 us.length c1, .string (str [102]), .string (str [])] 38) (.cells #[.int .i64 0, .int .i64 A] 33) (.cells #[.slice A2 vs.length c2, .string (str m), .string (str k)] 38) (.cells #[.int .i64 0, .int .i64 B] 33)) :=
    Lib.hid ⟨HW2.out.trans (hb3.mono HW2.out.size), (hb3.block _ (Nat.lt_of_lt_of_le (lt_of_block X2.out) N2.out.1.size)).trans ((N2.out.1.block _ (lt_of_block X2.out)).trans X2.out), (hb3.block _ (Nat.lt_of_lt_of_le (lt_of_block Y2.out) N2.out.1.size)).trans ((N2.out.1.block _ (lt_of_block Y2.out)).trans Y2.out), (hb3.block _ (lt_of_block N2.out.2.1)).trans N2.out.2.1, (hb3.block _ (lt_of_block N2.out.2.2)).trans N2.out.2.2⟩
  clear hb3
  have l1 := lt_of_block HT.out.x1
  have l2 := lt_of_block HT.out.y1
  have l3 := lt_of_block HT.out.x2
  have l4 := lt_of_block HT.out.y2
  have l5 : w1.heap.size < w3.heap.size + 1 := by omega
  have l6 : w1.heap.size + 1 < w3.heap.size + 1 := by omega
  have l7 : w2.heap.size < w3.heap.size + 1 := by omega
  have l8 : w2.heap.size + 1 < w3.heap.size + 1 := by omega
  have p0 : w3.cell? ⟨w1.heap.size, 0, none⟩ = some (.slice A1 us.length c1) := (cell_at HT.out.x1 0).trans rfl
  have p1 : w3.cell? ⟨w1.heap.size, 1, none⟩ = some (.string (str [102])) := (cell_at HT.out.x1 1).trans rfl
  have p2 : w3.cell? ⟨w1.heap.size, 2, none⟩ = some (.string (str [])) := (cell_at HT.out.x1 2).trans rfl
  have f0 : w3.cell? ⟨w1.heap.size + 1, 0, none⟩ = some (.int .i64 0) := (cell_at HT.out.y1 0).trans rfl
  have q0 : w3.cell? ⟨w2.heap.size, 0, none⟩ = some (.slice A2 vs.length c2) := (cell_at HT.out.x2 0).trans rfl
  have q1 : w3.cell? ⟨w2.heap.size, 1, none⟩ = some (.string (str m)) := (cell_at HT.out.x2 1).trans rfl
  have q2 : w3.cell? ⟨w2.heap.size, 2, none⟩ = some (.string (str k)) := (cell_at HT.out.x2 2).trans rfl
  have f1 : w3.cell? ⟨w2.heap.size + 1, 0, none⟩ = some (.int .i64 0) := (cell_at HT.out.y2 0).trans rfl
  go_wp2
  go_loopw [11] (fun i wr => ∃ n : Nat, n ≤ ws.length ∧ i = .int .i64 n ∧ Below ((w3.alloc (.cells #[.slice A3 ws.length c3, .string (str m), .string (str k)] 38)).alloc (.cells #[.int .i64 0, .int .i64 0] 33)).heap.size ((w3.alloc (.cells #[.slice A3 ws.length c3, .string (str m), .string (str k)] 38)).alloc (.cells #[.int .i64 0, .int .i64 0] 33)) wr) (fun i _ => ws.length - (intOf i).toNat)
  case atStart => exact ⟨0, Nat.zero_le _, rfl, Below.refl _ _⟩
  case round =>
    clear p0 p1 p2 f0 q0 q1 q2 f1 t0 t1 t2 t3 t4 l5 l6 l7 l8
    obtain ⟨n, hnk, rfl, hbr⟩ := hrel
    have B3 := Lib.hid ((N3.out (.slice A3 ws.length c3)).1.trans (hbr.mono (N3.out (.slice A3 ws.length c3)).1.size))
    have hZ3 := (hbr.block _ (lt_of_block (N3.out (.slice A3 ws.length c3)).2)).trans (N3.out (.slice A3 ws.length c3)).2
    have hX1 := (B3.out.block _ l1).trans HT.out.x1
    have hX2 := (B3.out.block _ l3).trans HT.out.x2
    have HBR := Lib.hid hbr
    have HLOW := Lib.hid (HT.out.low.trans (B3.out.mono HT.out.low.size))
    have k1 := lt_of_block hX1
    have k2 := lt_of_block hX2
    have k3 := lt_of_block hZ3
    have p0 : wr.cell? ⟨w1.heap.size, 0, none⟩ = some (.slice A1 us.length c1) := (cell_at hX1 0).trans rfl
    have q0 : wr.cell? ⟨w2.heap.size, 0, none⟩ = some (.slice A2 vs.length c2) := (cell_at hX2 0).trans rfl
    have r0 : wr.cell? ⟨w3.heap.size, 0, none⟩ = some (.slice A3 ws.length c3) := (cell_at hZ3 0).trans rfl
    clear hbr hX1 hX2 hZ3
    by_cases hlt : n < ws.length
    · obtain ⟨u, hu⟩ : ∃ u, ws[n]? = some u := ⟨_, List.getElem?_eq_getElem hlt⟩
      obtain ⟨g, i1, v1, j1, l1', hc⟩ := ucell (rowU_below HU33.out B3.out) hu
      obtain ⟨⟨a1, a2, a3, rfl⟩, ⟨a4, a5, a6, rfl⟩, ⟨a7, a8, a9, rfl⟩, ⟨a10, a11, a12, rfl⟩⟩ := And.intro hc.f1 (And.intro hc.f2 (And.intro hc.f3 hc.f4))
      have hg1 := hc.at_
      subst hg1
      have HC := Lib.hid hc
      have hg := hc.lt
      obtain ⟨-, -, d0, d1, d2, d3, d4, d5, d6, d7, -⟩ := hc
      have NB := Lib.hid (new_one wr (.cells #[.bool u.contract, .string (str u.name), .slice a1 a2 a3, .string (str u.out.name), .int .i64 u.out.ty, .slice a4 a5 a6, .slice a7 a8 a9, .slice a10 a11 a12] 50))
      have HCU := Lib.hid (UntV.below NB.out.1 u _ HC.out.un)
      by_cases hlu : n < us.length
      · have hu2 : us[n]? = some u := by rw [← HS.out, app_left hlu] at hu; exact hu
        obtain ⟨g', i2, v2, j2, l2', hc2⟩ := ucell (rowU_below HU13.out B3.out) hu2
        obtain ⟨⟨b1, b2, b3, rfl⟩, ⟨b4, b5, b6, rfl⟩, ⟨b7, b8, b9, rfl⟩, ⟨b10, b11, b12, rfl⟩⟩ := And.intro hc2.f1 (And.intro hc2.f2 (And.intro hc2.f3 hc2.f4))
        have hg2 := hc2.at_
        subst hg2
        have HC2 := Lib.hid (UntV.below NB.out.1 u _ hc2.un)
        have hg' := hc2.lt
        obtain ⟨-, -, e0, e1, e2, e3, e4, e5, e6, e7, -⟩ := hc2
        have hge : decide ((us.length : Int) ≤ (n : Int)) = false := by simp; omega
        have hge2 : decide (us.length ≤ n) = false := by simp; omega
        have o1 : w1.heap.size ≠ wr.heap.size := by omega
        have o2 : g' ≠ wr.heap.size := by omega
        clear hu hu2
        have HK0 : Hid ((wr.alloc (.cells #[.bool u.contract, .string (str u.name), .slice a1 a2 a3, .string (str u.out.name), .int .i64 u.out.ty, .slice a4 a5 a6, .slice a7 a8 a9, .slice a10 a11 a12] 50)).cell? ⟨w1.heap.size, 0, none⟩ = some (.slice (some ⟨g', 0, none⟩) us.length c1) ∧ (wr.alloc (.cells #[.bool u.contract, .string (str u.name), .slice a1 a2 a3, .string (str u.out.name), .int .i64 u.out.ty, .slice a4 a5 a6, .slice a7 a8 a9, .slice a10 a11 a12] 50)).cell? ⟨wr.heap.size, 0, none⟩ = some (.bool u.contract) ∧ (wr.alloc (.cells #[.bool u.contract, .string (str u.name), .slice a1 a2 a3, .string (str u.out.name), .int .i64 u.out.ty, .slice a4 a5 a6, .slice a7 a8 a9, .slice a10 a11 a12] 50)).cell? ⟨wr.heap.size, 1, none⟩ = some (.string (str u.name)) ∧ (wr.alloc (.cells #[.bool u.contract, .string (str u.name), .slice a1 a2 a3, .string (str u.out.name), .int .i64 u.out.ty, .slice a4 a5 a6, .slice a7 a8 a9, .slice a10 a11 a12] 50)).cell? ⟨wr.heap.size, 2, none⟩ = some (.slice a1 a2 a3) ∧ (wr.alloc (.cells #[.bool u.contract, .string (str u.name), .slice a1 a2 a3, .string (str u.out.name), .int .i64 u.out.ty, .slice a4 a5 a6, .slice a7 a8 a9, .slice a10 a11 a12] 50)).cell? ⟨wr.heap.size, 3, none⟩ = some (.string (str u.out.name)) ∧ (wr.alloc (.cells #[.bool u.contract, .string (str u.name), .slice a1 a2 a3, .string (str u.out.name), .int .i64 u.out.ty, .slice a4 a5 a6, .slice a7 a8 a9, .slice a10 a11 a12] 50)).cell? ⟨wr.heap.size, 4, none⟩ = some (.int .i64 u.out.ty) ∧ (wr.alloc (.cells #[.bool u.contract, .string (str u.name), .slice a1 a2 a3, .string (str u.out.name), .int .i64 u.out.ty, .slice a4 a5 a6, .slice a7 a8 a9, .slice a10 a11 a12] 50)).cell? ⟨wr.heap.size, 5, none⟩ = some (.slice a4 a5 a6) ∧ (wr.alloc (.cells #[.bool u.contract, .string (str u.name), .slice a1 a2 a3, .string (str u.out.name), .int .i64 u.out.ty, .slice a4 a5 a6, .slice a7 a8 a9, .slice a10 a11 a12] 50)).cell? ⟨wr.heap.size, 6, none⟩ = some (.slice a7 a8 a9) ∧ (wr.alloc (.cells #[.bool u.contract, .string (str u.name), .slice a1 a2 a3, .string (str u.out.name), .int .i64 u.out.ty, .slice a4 a5 a6, .slice a7 a8 a9, .slice a10 a11 a12] 50)).cell? ⟨wr.heap.size, 7, none⟩ = some (.slice a10 a11 a12) ∧ (wr.alloc (.cells #[.bool u.contract, .string (str u.name), .slice a1 a2 a3, .string (str u.out.name), .int .i64 u.out.ty, .slice a4 a5 a6, .slice a7 a8 a9, .slice a10 a11 a12] 50)).cell? ⟨g', n * 8, none⟩ = some (.bool u.contract) ∧ (wr.alloc (.cells #[.bool u.contract, .string (str u.name), .slice a1 a2 a3, .string (str u.out.name), .int .i64 u.out.ty, .slice a4 a5 a6, .slice a7 a8 a9, .slice a10 a11 a12] 50)).cell? ⟨g', n * 8 + 1, none⟩ = some (.string (str u.name)) ∧ (wr.alloc (.cells #[.bool u.contract, .string (str u.name), .slice a1 a2 a3, .string (str u.out.name), .int .i64 u.out.ty, .slice a4 a5 a6, .slice a7 a8 a9, .slice a10 a11 a12] 50)).cell? ⟨g', n * 8 + 2, none⟩ = some (.slice b1 b2 b3) ∧ (wr.alloc (.cells #[.bool u.contract, .string (str u.name), .slice a1 a2 a3, .string (str u.out.name), .int .i64 u.out.ty, .slice a4 a5 a6, .slice a7 a8 a9, .slice a10 a11 a12] 50)).cell? ⟨g', n * 8 + 3, none⟩ = some (.string (str u.out.name)) ∧ (wr.alloc (.cells #[.bool u.contract, .string (str u.name), .slice a1 a2 a3, .string (str u.out.name), .int .i64 u.out.ty, .slice a4 a5 a6, .slice a7 a8 a9, .slice a10 a11 a12] 50)).cell? ⟨g', n * 8 + 4, none⟩ = some (.int .i64 u.out.ty) ∧ (wr.alloc (.cells #[.bool u.contract, .string (str u.name), .slice a1 a2 a3, .string (str u.out.name), .int .i64 u.out.ty, .slice a4 a5 a6, .slice a7 a8 a9, .slice a10 a11 a12] 50)).cell? ⟨g', n * 8 + 5, none⟩ = some (.slice b4 b5 b6) ∧ (wr.alloc (.cells #[.bool u.contract, .string (str u.name), .slice a1 a2 a3, .string (str u.out.name), .int .i64 u.out.ty, .slice a4 a5 a6, .slice a7 a8 a9, .slice a10 a11 a12] 50)).cell? ⟨g', n * 8 + 6, none⟩ = some (.slice b7 b8 b9) ∧ (wr.alloc (.cells #[.bool u.contract, .string (str u.name), .slice a1 a2 a3, .string (str u.out.name), .int .i64 u.out.ty, .slice a4 a5 a6, .slice a7 a8 a9, .slice a10 a11 a12] 50)).cell? ⟨g', n * 8 + 7, none⟩ = some (.slice b10 b11 b12)) := Lib.hid ⟨(NB.out.1.cell k1).trans p0, (cell_at NB.out.2 0).trans rfl, (cell_at NB.out.2 1).trans rfl, (cell_at NB.out.2 2).trans rfl, (cell_at NB.out.2 3).trans rfl, (cell_at NB.out.2 4).trans rfl, (cell_at NB.out.2 5).trans rfl, (cell_at NB.out.2 6).trans rfl, (cell_at NB.out.2 7).trans rfl, (NB.out.1.cell hg').trans e0, (NB.out.1.cell hg').trans e1, (NB.out.1.cell hg').trans e2, (NB.out.1.cell hg').trans e3, (NB.out.1.cell hg').trans e4, (NB.out.1.cell hg').trans e5, (NB.out.1.cell hg').trans e6, (NB.out.1.cell hg').trans e7⟩
        have MK : Hid (∀ w2', Below (wr.alloc (.cells #[.bool u.contract, .string (str u.name), .slice a1 a2 a3, .string (str u.out.name), .int .i64 u.out.ty, .slice a4 a5 a6, .slice a7 a8 a9, .slice a10 a11 a12] 50)).heap.size (wr.alloc (.cells #[.bool u.contract, .string (str u.name), .slice a1 a2 a3, .string (str u.out.name), .int .i64 u.out.ty, .slice a4 a5 a6, .slice a7 a8 a9, .slice a10 a11 a12] 50)) w2' → w2'.cell? ⟨w1.heap.size, 0, none⟩ = some (.slice (some ⟨g', 0, none⟩) us.length c1) ∧ w2'.cell? ⟨wr.heap.size, 0, none⟩ = some (.bool u.contract) ∧ w2'.cell? ⟨wr.heap.size, 1, none⟩ = some (.string (str u.name)) ∧ w2'.cell? ⟨wr.heap.size, 2, none⟩ = some (.slice a1 a2 a3) ∧ w2'.cell? ⟨wr.heap.size, 3, none⟩ = some (.string (str u.out.name)) ∧ w2'.cell? ⟨wr.heap.size, 4, none⟩ = some (.int .i64 u.out.ty) ∧ w2'.cell? ⟨wr.heap.size, 5, none⟩ = some (.slice a4 a5 a6) ∧ w2'.cell? ⟨wr.heap.size, 6, none⟩ = some (.slice a7 a8 a9) ∧ w2'.cell? ⟨wr.heap.size, 7, none⟩ = some (.slice a10 a11 a12) ∧ w2'.cell? ⟨g', n * 8, none⟩ = some (.bool u.contract) ∧ w2'.cell? ⟨g', n * 8 + 1, none⟩ = some (.string (str u.name)) ∧ w2'.cell? ⟨g', n * 8 + 2, none⟩ = some (.slice b1 b2 b3) ∧ w2'.cell? ⟨g', n * 8 + 3, none⟩ = some (.string (str u.out.name)) ∧ w2'.cell? ⟨g', n * 8 + 4, none⟩ = some (.int .i64 u.out.ty) ∧ w2'.cell? ⟨g', n * 8 + 5, none⟩ = some (.slice b4 b5 b6) ∧ w2'.cell? ⟨g', n * 8 + 6, none⟩ = some (.slice b7 b8 b9) ∧ w2'.cell? ⟨g', n * 8 + 7, none⟩ = some (.slice b10 b11 b12)) := Lib.hid (fun w2' h => ⟨(h.cell (by simp; omega)).trans HK0.out.1, (h.cell (by simp)).trans HK0.out.2.1, (h.cell (by simp)).trans HK0.out.2.2.1, (h.cell (by simp)).trans HK0.out.2.2.2.1, (h.cell (by simp)).trans HK0.out.2.2.2.2.1, (h.cell (by simp)).trans HK0.out.2.2.2.2.2.1, (h.cell (by simp)).trans HK0.out.2.2.2.2.2.2.1, (h.cell (by simp)).trans HK0.out.2.2.2.2.2.2.2.1, (h.cell (by simp)).trans HK0.out.2.2.2.2.2.2.2.2.1, (h.cell (by simp; omega)).trans HK0.out.2.2.2.2.2.2.2.2.2.1, (h.cell (by simp; omega)).trans HK0.out.2.2.2.2.2.2.2.2.2.2.1, (h.cell (by simp; omega)).trans HK0.out.2.2.2.2.2.2.2.2.2.2.2.1, (h.cell (by simp; omega)).trans HK0.out.2.2.2.2.2.2.2.2.2.2.2.2.1, (h.cell (by simp; omega)).trans HK0.out.2.2.2.2.2.2.2.2.2.2.2.2.2.1, (h.cell (by simp; omega)).trans HK0.out.2.2.2.2.2.2.2.2.2.2.2.2.2.2.1, (h.cell (by simp; omega)).trans HK0.out.2.2.2.2.2.2.2.2.2.2.2.2.2.2.2.1, (h.cell (by simp; omega)).trans HK0.out.2.2.2.2.2.2.2.2.2.2.2.2.2.2.2.2⟩)
        go_wp2
        go_region_held3 (fun w' => w'.cell? ⟨w1.heap.size, 0, none⟩ = some (.slice (some ⟨g', 0, none⟩) us.length c1) ∧ w'.cell? ⟨wr.heap.size, 0, none⟩ = some (.bool u.contract) ∧ w'.cell? ⟨wr.heap.size, 1, none⟩ = some (.string (str u.name)) ∧ w'.cell? ⟨wr.heap.size, 2, none⟩ = some (.slice a1 a2 a3) ∧ w'.cell? ⟨wr.heap.size, 3, none⟩ = some (.string (str u.out.name)) ∧ w'.cell? ⟨wr.heap.size, 4, none⟩ = some (.int .i64 u.out.ty) ∧ w'.cell? ⟨wr.heap.size, 5, none⟩ = some (.slice a4 a5 a6) ∧ w'.cell? ⟨wr.heap.size, 6, none⟩ = some (.slice a7 a8 a9) ∧ w'.cell? ⟨wr.heap.size, 7, none⟩ = some (.slice a10 a11 a12) ∧ w'.cell? ⟨g', n * 8, none⟩ = some (.bool u.contract) ∧ w'.cell? ⟨g', n * 8 + 1, none⟩ = some (.string (str u.name)) ∧ w'.cell? ⟨g', n * 8 + 2, none⟩ = some (.slice b1 b2 b3) ∧ w'.cell? ⟨g', n * 8 + 3, none⟩ = some (.string (str u.out.name)) ∧ w'.cell? ⟨g', n * 8 + 4, none⟩ = some (.int .i64 u.out.ty) ∧ w'.cell? ⟨g', n * 8 + 5, none⟩ = some (.slice b4 b5 b6) ∧ w'.cell? ⟨g', n * 8 + 6, none⟩ = some (.slice b7 b8 b9) ∧ w'.cell? ⟨g', n * 8 + 7, none⟩ = some (.slice b10 b11 b12)) (first | go_keep | exact HK0.out | exact HKB.out)
          ((go_at_call 23; (with_reducible refine (unit_eqv HCU.out.drew HC2.out.drew).mono ?_); rintro e w2' ⟨rfl, hb2⟩; have HB2 := Lib.hid (undrew hb2); have HKB := Lib.hid (MK.out w2' HB2.out); clear hb2))
        all_goals
          have m1 := HKB.out.1
          have HBX := Lib.hid (NB.out.1.trans (HB2.out.mono NB.out.1.size))
          clear p0 q0 r0 d0 d1 d2 d3 d4 d5 d6 d7 e0 e1 e2 e3 e4 e5 e6 e7
          go_wp2
          go_big_quiet (fail)
          go_wp2
          go_roundw
        all_goals first | exact ⟨n + 1, by omega, by go_num, Tr.below_drewN (HBR.out.trans (HBX.out.mono HBR.out.size)) _⟩ | (simp [intOf]; omega)
      · obtain ⟨jv, hjv⟩ : ∃ j, n - us.length = j := ⟨_, rfl⟩
        have hu2 : vs[jv]? = some u := by rw [← HS.out, app_right hlu, hjv] at hu; exact hu
        have hlv : jv < vs.length := (List.getElem?_eq_some_iff.1 hu2).1
        have hsub : (n : Int) - (us.length : Int) = (jv : Int) := by omega
        have hwj : IntKind.i64.wrap (jv : Int) = (jv : Int) := IntWalk.i64_in _ (by omega)
        have hsw : IntKind.i64.wrap ((n : Int) - (us.length : Int)) = (jv : Int) := by rw [hsub]; exact hwj
        have jj0 : (0 : Int) ≤ (jv : Int) := by omega
        have jj1 : (jv : Int) < (vs.length : Int) := by omega
        obtain ⟨g', i2, v2, j2, l2', hc2⟩ := ucell (rowU_below HU23.out B3.out) hu2
        obtain ⟨⟨b1, b2, b3, rfl⟩, ⟨b4, b5, b6, rfl⟩, ⟨b7, b8, b9, rfl⟩, ⟨b10, b11, b12, rfl⟩⟩ := And.intro hc2.f1 (And.intro hc2.f2 (And.intro hc2.f3 hc2.f4))
        have hg2 := hc2.at_
        subst hg2
        have HC2 := Lib.hid (UntV.below NB.out.1 u _ hc2.un)
        have hg' := hc2.lt
        obtain ⟨-, -, e0, e1, e2, e3, e4, e5, e6, e7, -⟩ := hc2
        have hge : decide ((us.length : Int) ≤ (n : Int)) = true := by simp; omega
        have hge2 : decide (us.length ≤ n) = true := by simp; omega
        have hls : decide ((n : Int) < (us.length : Int)) = false := by simp; omega
        have hls2 : decide (n < us.length) = false := by simp; omega
        have o1 : w1.heap.size ≠ wr.heap.size := by omega
        have o2 : g' ≠ wr.heap.size := by omega
        have o3 : w2.heap.size ≠ wr.heap.size := by omega
        have HK0 : Hid ((wr.alloc (.cells #[.bool u.contract, .string (str u.name), .slice a1 a2 a3, .string (str u.out.name), .int .i64 u.out.ty, .slice a4 a5 a6, .slice a7 a8 a9, .slice a10 a11 a12] 50)).cell? ⟨w1.heap.size, 0, none⟩ = some (.slice A1 us.length c1) ∧ (wr.alloc (.cells #[.bool u.contract, .string (str u.name), .slice a1 a2 a3, .string (str u.out.name), .int .i64 u.out.ty, .slice a4 a5 a6, .slice a7 a8 a9, .slice a10 a11 a12] 50)).cell? ⟨w2.heap.size, 0, none⟩ = some (.slice (some ⟨g', 0, none⟩) vs.length c2) ∧ (wr.alloc (.cells #[.bool u.contract, .string (str u.name), .slice a1 a2 a3, .string (str u.out.name), .int .i64 u.out.ty, .slice a4 a5 a6, .slice a7 a8 a9, .slice a10 a11 a12] 50)).cell? ⟨wr.heap.size, 0, none⟩ = some (.bool u.contract) ∧ (wr.alloc (.cells #[.bool u.contract, .string (str u.name), .slice a1 a2 a3, .string (str u.out.name), .int .i64 u.out.ty, .slice a4 a5 a6, .slice a7 a8 a9, .slice a10 a11 a12] 50)).cell? ⟨wr.heap.size, 1, none⟩ = some (.string (str u.name)) ∧ (wr.alloc (.cells #[.bool u.contract, .string (str u.name), .slice a1 a2 a3, .string (str u.out.name), .int .i64 u.out.ty, .slice a4 a5 a6, .slice a7 a8 a9, .slice a10 a11 a12] 50)).cell? ⟨wr.heap.size, 2, none⟩ = some (.slice a1 a2 a3) ∧ (wr.alloc (.cells #[.bool u.contract, .string (str u.name), .slice a1 a2 a3, .string (str u.out.name), .int .i64 u.out.ty, .slice a4 a5 a6, .slice a7 a8 a9, .slice a10 a11 a12] 50)).cell? ⟨wr.heap.size, 3, none⟩ = some (.string (str u.out.name)) ∧ (wr.alloc (.cells #[.bool u.contract, .string (str u.name), .slice a1 a2 a3, .string (str u.out.name), .int .i64 u.out.ty, .slice a4 a5 a6, .slice a7 a8 a9, .slice a10 a11 a12] 50)).cell? ⟨wr.heap.size, 4, none⟩ = some (.int .i64 u.out.ty) ∧ (wr.alloc (.cells #[.bool u.contract, .string (str u.name), .slice a1 a2 a3, .string (str u.out.name), .int .i64 u.out.ty, .slice a4 a5 a6, .slice a7 a8 a9, .slice a10 a11 a12] 50)).cell? ⟨wr.heap.size, 5, none⟩ = some (.slice a4 a5 a6) ∧ (wr.alloc (.cells #[.bool u.contract, .string (str u.name), .slice a1 a2 a3, .string (str u.out.name), .int .i64 u.out.ty, .slice a4 a5 a6, .slice a7 a8 a9, .slice a10 a11 a12] 50)).cell? ⟨wr.heap.size, 6, none⟩ = some (.slice a7 a8 a9) ∧ (wr.alloc (.cells #[.bool u.contract, .string (str u.name), .slice a1 a2 a3, .string (str u.out.name), .int .i64 u.out.ty, .slice a4 a5 a6, .slice a7 a8 a9, .slice a10 a11 a12] 50)).cell? ⟨wr.heap.size, 7, none⟩ = some (.slice a10 a11 a12) ∧ (wr.alloc (.cells #[.bool u.contract, .string (str u.name), .slice a1 a2 a3, .string (str u.out.name), .int .i64 u.out.ty, .slice a4 a5 a6, .slice a7 a8 a9, .slice a10 a11 a12] 50)).cell? ⟨g', jv * 8, none⟩ = some (.bool u.contract) ∧ (wr.alloc (.cells #[.bool u.contract, .string (str u.name), .slice a1 a2 a3, .string (str u.out.name), .int .i64 u.out.ty, .slice a4 a5 a6, .slice a7 a8 a9, .slice a10 a11 a12] 50)).cell? ⟨g', jv * 8 + 1, none⟩ = some (.string (str u.name)) ∧ (wr.alloc (.cells #[.bool u.contract, .string (str u.name), .slice a1 a2 a3, .string (str u.out.name), .int .i64 u.out.ty, .slice a4 a5 a6, .slice a7 a8 a9, .slice a10 a11 a12] 50)).cell? ⟨g', jv * 8 + 2, none⟩ = some (.slice b1 b2 b3) ∧ (wr.alloc (.cells #[.bool u.contract, .string (str u.name), .slice a1 a2 a3, .string (str u.out.name), .int .i64 u.out.ty, .slice a4 a5 a6, .slice a7 a8 a9, .slice a10 a11 a12] 50)).cell? ⟨g', jv * 8 + 3, none⟩ = some (.string (str u.out.name)) ∧ (wr.alloc (.cells #[.bool u.contract, .string (str u.name), .slice a1 a2 a3, .string (str u.out.name), .int .i64 u.out.ty, .slice a4 a5 a6, .slice a7 a8 a9, .slice a10 a11 a12] 50)).cell? ⟨g', jv * 8 + 4, none⟩ = some (.int .i64 u.out.ty) ∧ (wr.alloc (.cells #[.bool u.contract, .string (str u.name), .slice a1 a2 a3, .string (str u.out.name), .int .i64 u.out.ty, .slice a4 a5 a6, .slice a7 a8 a9, .slice a10 a11 a12] 50)).cell? ⟨g', jv * 8 + 5, none⟩ = some (.slice b4 b5 b6) ∧ (wr.alloc (.cells #[.bool u.contract, .string (str u.name), .slice a1 a2 a3, .string (str u.out.name), .int .i64 u.out.ty, .slice a4 a5 a6, .slice a7 a8 a9, .slice a10 a11 a12] 50)).cell? ⟨g', jv * 8 + 6, none⟩ = some (.slice b7 b8 b9) ∧ (wr.alloc (.cells #[.bool u.contract, .string (str u.name), .slice a1 a2 a3, .string (str u.out.name), .int .i64 u.out.ty, .slice a4 a5 a6, .slice a7 a8 a9, .slice a10 a11 a12] 50)).cell? ⟨g', jv * 8 + 7, none⟩ = some (.slice b10 b11 b12)) := Lib.hid ⟨(NB.out.1.cell k1).trans p0, (NB.out.1.cell k2).trans q0, (cell_at NB.out.2 0).trans rfl, (cell_at NB.out.2 1).trans rfl, (cell_at NB.out.2 2).trans rfl, (cell_at NB.out.2 3).trans rfl, (cell_at NB.out.2 4).trans rfl, (cell_at NB.out.2 5).trans rfl, (cell_at NB.out.2 6).trans rfl, (cell_at NB.out.2 7).trans rfl, (NB.out.1.cell hg').trans e0, (NB.out.1.cell hg').trans e1, (NB.out.1.cell hg').trans e2, (NB.out.1.cell hg').trans e3, (NB.out.1.cell hg').trans e4, (NB.out.1.cell hg').trans e5, (NB.out.1.cell hg').trans e6, (NB.out.1.cell hg').trans e7⟩
        have MK : Hid (∀ w2', Below (wr.alloc (.cells #[.bool u.contract, .string (str u.name), .slice a1 a2 a3, .string (str u.out.name), .int .i64 u.out.ty, .slice a4 a5 a6, .slice a7 a8 a9, .slice a10 a11 a12] 50)).heap.size (wr.alloc (.cells #[.bool u.contract, .string (str u.name), .slice a1 a2 a3, .string (str u.out.name), .int .i64 u.out.ty, .slice a4 a5 a6, .slice a7 a8 a9, .slice a10 a11 a12] 50)) w2' → w2'.cell? ⟨w1.heap.size, 0, none⟩ = some (.slice A1 us.length c1) ∧ w2'.cell? ⟨w2.heap.size, 0, none⟩ = some (.slice (some ⟨g', 0, none⟩) vs.length c2) ∧ w2'.cell? ⟨wr.heap.size, 0, none⟩ = some (.bool u.contract) ∧ w2'.cell? ⟨wr.heap.size, 1, none⟩ = some (.string (str u.name)) ∧ w2'.cell? ⟨wr.heap.size, 2, none⟩ = some (.slice a1 a2 a3) ∧ w2'.cell? ⟨wr.heap.size, 3, none⟩ = some (.string (str u.out.name)) ∧ w2'.cell? ⟨wr.heap.size, 4, none⟩ = some (.int .i64 u.out.ty) ∧ w2'.cell? ⟨wr.heap.size, 5, none⟩ = some (.slice a4 a5 a6) ∧ w2'.cell? ⟨wr.heap.size, 6, none⟩ = some (.slice a7 a8 a9) ∧ w2'.cell? ⟨wr.heap.size, 7, none⟩ = some (.slice a10 a11 a12) ∧ w2'.cell? ⟨g', jv * 8, none⟩ = some (.bool u.contract) ∧ w2'.cell? ⟨g', jv * 8 + 1, none⟩ = some (.string (str u.name)) ∧ w2'.cell? ⟨g', jv * 8 + 2, none⟩ = some (.slice b1 b2 b3) ∧ w2'.cell? ⟨g', jv * 8 + 3, none⟩ = some (.string (str u.out.name)) ∧ w2'.cell? ⟨g', jv * 8 + 4, none⟩ = some (.int .i64 u.out.ty) ∧ w2'.cell? ⟨g', jv * 8 + 5, none⟩ = some (.slice b4 b5 b6) ∧ w2'.cell? ⟨g', jv * 8 + 6, none⟩ = some (.slice b7 b8 b9) ∧ w2'.cell? ⟨g', jv * 8 + 7, none⟩ = some (.slice b10 b11 b12)) := Lib.hid (fun w2' h => ⟨(h.cell (by simp; omega)).trans HK0.out.1, (h.cell (by simp; omega)).trans HK0.out.2.1, (h.cell (by simp)).trans HK0.out.2.2.1, (h.cell (by simp)).trans HK0.out.2.2.2.1, (h.cell (by simp)).trans HK0.out.2.2.2.2.1, (h.cell (by simp)).trans HK0.out.2.2.2.2.2.1, (h.cell (by simp)).trans HK0.out.2.2.2.2.2.2.1, (h.cell (by simp)).trans HK0.out.2.2.2.2.2.2.2.1, (h.cell (by simp)).trans HK0.out.2.2.2.2.2.2.2.2.1, (h.cell (by simp)).trans HK0.out.2.2.2.2.2.2.2.2.2.1, (h.cell (by simp; omega)).trans HK0.out.2.2.2.2.2.2.2.2.2.2.1, (h.cell (by simp; omega)).trans HK0.out.2.2.2.2.2.2.2.2.2.2.2.1, (h.cell (by simp; omega)).trans HK0.out.2.2.2.2.2.2.2.2.2.2.2.2.1, (h.cell (by simp; omega)).trans HK0.out.2.2.2.2.2.2.2.2.2.2.2.2.2.1, (h.cell (by simp; omega)).trans HK0.out.2.2.2.2.2.2.2.2.2.2.2.2.2.2.1, (h.cell (by simp; omega)).trans HK0.out.2.2.2.2.2.2.2.2.2.2.2.2.2.2.2.1, (h.cell (by simp; omega)).trans HK0.out.2.2.2.2.2.2.2.2.2.2.2.2.2.2.2.2.1, (h.cell (by simp; omega)).trans HK0.out.2.2.2.2.2.2.2.2.2.2.2.2.2.2.2.2.2⟩)
        clear hu hu2 hjv
        go_wp2
        go_big_quiet (fail)
        clear p0 q0 r0 d0 d1 d2 d3 d4 d5 d6 d7 e0 e1 e2 e3 e4 e5 e6 e7
        have HQ0 := Lib.hid (MK.out ((wr.alloc (.cells #[.bool u.contract, .string (str u.name), .slice a1 a2 a3, .string (str u.out.name), .int .i64 u.out.ty, .slice a4 a5 a6, .slice a7 a8 a9, .slice a10 a11 a12] 50)).drewN nq) (Tr.below_drewN (Below.refl _ _) nq))
        have HQ1 := Lib.hid (MK.out ((wr.alloc (.cells #[.bool u.contract, .string (str u.name), .slice a1 a2 a3, .string (str u.out.name), .int .i64 u.out.ty, .slice a4 a5 a6, .slice a7 a8 a9, .slice a10 a11 a12] 50)).drewN nq).drew (Tr.below_drewN (n := 1) (Tr.below_drewN (Below.refl _ _) nq)))
        obtain ⟨s0, s1, xx0, xx1, xx2, xx3, xx4, xx5, xx6, xx7, ee0, ee1, ee2, ee3, ee4, ee5, ee6, ee7⟩ := MK.out _ (Tr.below_drewN (Below.refl _ _) nq)
        go_wp2
        go_region_held3 (fun w' => w'.cell? ⟨w1.heap.size, 0, none⟩ = some (.slice A1 us.length c1) ∧ w'.cell? ⟨w2.heap.size, 0, none⟩ = some (.slice (some ⟨g', 0, none⟩) vs.length c2) ∧ w'.cell? ⟨wr.heap.size, 0, none⟩ = some (.bool u.contract) ∧ w'.cell? ⟨wr.heap.size, 1, none⟩ = some (.string (str u.name)) ∧ w'.cell? ⟨wr.heap.size, 2, none⟩ = some (.slice a1 a2 a3) ∧ w'.cell? ⟨wr.heap.size, 3, none⟩ = some (.string (str u.out.name)) ∧ w'.cell? ⟨wr.heap.size, 4, none⟩ = some (.int .i64 u.out.ty) ∧ w'.cell? ⟨wr.heap.size, 5, none⟩ = some (.slice a4 a5 a6) ∧ w'.cell? ⟨wr.heap.size, 6, none⟩ = some (.slice a7 a8 a9) ∧ w'.cell? ⟨wr.heap.size, 7, none⟩ = some (.slice a10 a11 a12) ∧ w'.cell? ⟨g', jv * 8, none⟩ = some (.bool u.contract) ∧ w'.cell? ⟨g', jv * 8 + 1, none⟩ = some (.string (str u.name)) ∧ w'.cell? ⟨g', jv * 8 + 2, none⟩ = some (.slice b1 b2 b3) ∧ w'.cell? ⟨g', jv * 8 + 3, none⟩ = some (.string (str u.out.name)) ∧ w'.cell? ⟨g', jv * 8 + 4, none⟩ = some (.int .i64 u.out.ty) ∧ w'.cell? ⟨g', jv * 8 + 5, none⟩ = some (.slice b4 b5 b6) ∧ w'.cell? ⟨g', jv * 8 + 6, none⟩ = some (.slice b7 b8 b9) ∧ w'.cell? ⟨g', jv * 8 + 7, none⟩ = some (.slice b10 b11 b12)) (first | exact HQ1.out | exact HKB.out | (go_keep; done))
          ((go_at_call 23; (with_reducible refine (unit_eqvN HCU.out HC2.out _).mono ?_); rintro e w2' ⟨rfl, hb2⟩; have HB2 := Lib.hid hb2; have HKB := Lib.hid (MK.out w2' HB2.out); clear hb2))
        all_goals
          have HBX := Lib.hid (NB.out.1.trans (HB2.out.mono NB.out.1.size))
          clear s0 s1 xx0 xx1 xx2 xx3 xx4 xx5 xx6 xx7 ee0 ee1 ee2 ee3 ee4 ee5 ee6 ee7
          go_wp2
          go_roundw
        all_goals first | exact ⟨n + 1, by omega, by go_num, HBR.out.trans (HBX.out.mono HBR.out.size)⟩ | (simp [intOf]; omega)
    · go_wp2_with fail
      refine (live_any _ (var_up HV.out HLOW.out)).mono ?_
      rintro e w4 ⟨rfl, hb4⟩
      have HB4 := Lib.hid (HLOW.out.trans (hb4.mono HLOW.out.size))
      clear hb4
      go_wp2
      go_ret
      exact ⟨rfl, HB4.out⟩
end Go.Proofs.YtgohhnbdicdenaaGreatDoor.progUnits

