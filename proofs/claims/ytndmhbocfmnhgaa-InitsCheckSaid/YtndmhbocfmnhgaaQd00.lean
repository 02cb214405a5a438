/- Layer inits: what must be from 0 on, in the program and in the document. Conditions: the slice is read as a list of nodes. -/
import Derived.Test.YtndmhbocfmnhgaaQb03
import Derived.Test.YtndmhbocfmnhgaaQb02
import Derived.Test.YtndmhbocfmnhgaaQa02
import Derived.Laws.AppendOwnNone
namespace Go.Proofs.Ytndmhbocfmnhgaa.In
open Go.ChangeShapes Go.WideShapes Go.ChangeAt Go.RowKit Go.Proofs.Ytndmhbocfmnhgaa.Tr
set_option linter.unusedVariables false
set_option linter.unusedSimpArgs false

/-- The error of an expression that must be from 0 on. -/
noncomputable def begunM (e : List Nd) : Int := if (ofM e).2 = 0 ∧ (ofM e).1 ≠ 0 then 11 else (ofM e).2
theorem ofM_ok (e : List Nd) : 0 ≤ (ofM e).1 ∧ (ofM e).1 ≤ 1 ∧ ((ofM e).2 = 0 ∨ (ofM e).2 = 1 ∨ (ofM e).2 = 11) := by
  unfold ofM
  split
  · split
    · rename_i v h
      have := inT_le _ _ h
      exact ⟨by show (0 : Int) ≤ (v : Int); omega, by show (v : Int) ≤ 1; omega, .inl rfl⟩
    · exact ⟨by decide, by decide, .inr (.inr rfl)⟩
  · exact ⟨by decide, by decide, .inr (.inl rfl)⟩
def ErrPost (w : World) (x : Int) (e : Ending) (w' : World) : Prop := e = .returned (.int .i64 x) ∧ Below w.heap.size w w'
set_option maxHeartbeats 1600000 in
theorem begun_any (v : Value) (e : List Nd) (w : World) (hv : Nodes w v e) : Calls Try.prog 50 #[v] w (ErrPost w (begunM e)) := by
  have HC := Lib.hid (of_any v e w hv)
  have hb := ofM_ok e
  have HE := Lib.hid (show begunM e = if (ofM e).2 = 0 ∧ (ofM e).1 ≠ 0 then 11 else (ofM e).2 from rfl)
  obtain ⟨A, c, rfl, h1, h2, hA⟩ := hv
  unfold maxLen at h2
  rw [HE.out]
  obtain ⟨⟨p, q⟩, hpq⟩ : ∃ x, ofM e = x := ⟨_, rfl⟩
  rw [hpq] at HC hb ⊢
  simp only at hb ⊢
  clear hA hpq HE
  have hq : q = 0 ∨ q = 1 ∨ q = 11 := hb.2.2
  have hp : p = 0 ∨ p = 1 := by omega
  clear hb
  rcases hq with rfl | rfl | rfl
  all_goals rcases hp with rfl | rfl
  all_goals
    go_enter Try.func50, Try.ntmps50
    go_wp2_with fail
    refine HC.out.mono ?_
    rintro r w1 ⟨rfl, hb1⟩
    have HB1 := Lib.hid hb1
    clear hb1
    go_wp2
    go_ret
    exact ⟨rfl, HB1.out⟩
set_option maxHeartbeats 1600000 in
theorem rbegun_any (v : Value) (e : List Nd) (w : World) (hv : Nodes w v e) : Calls Try.prog 27 #[v] w (ErrPost w (begunM e)) := by
  have HC := Lib.hid (rof_any v e w hv)
  have hb := ofM_ok e
  have HE := Lib.hid (show begunM e = if (ofM e).2 = 0 ∧ (ofM e).1 ≠ 0 then 11 else (ofM e).2 from rfl)
  obtain ⟨A, c, rfl, h1, h2, hA⟩ := hv
  unfold maxLen at h2
  rw [HE.out]
  obtain ⟨⟨p, q⟩, hpq⟩ : ∃ x, ofM e = x := ⟨_, rfl⟩
  rw [hpq] at HC hb ⊢
  simp only at hb ⊢
  clear hA hpq HE
  have hq : q = 0 ∨ q = 1 ∨ q = 11 := hb.2.2
  have hp : p = 0 ∨ p = 1 := by omega
  clear hb
  rcases hq with rfl | rfl | rfl
  all_goals rcases hp with rfl | rfl
  all_goals
    go_enter Try.func27, Try.ntmps27
    go_wp2_with fail
    refine HC.out.mono ?_
    rintro r w1 ⟨rfl, hb1⟩
    have HB1 := Lib.hid hb1
    clear hb1
    go_wp2
    go_ret
    exact ⟨rfl, HB1.out⟩
/-- The first error of some. -/
noncomputable def firstE : List (List Nd) → Int
  | [] => 0
  | e :: r => if begunM e ≠ 0 then begunM e else firstE r
/-- Items' expressions: empty ones are left out. -/
noncomputable def firstX : List (List Nd) → Int
  | [] => 0
  | e :: r => if e = [] then firstX r else if begunM e ≠ 0 then begunM e else firstX r
theorem firstE_drop {l : List (List Nd)} {j : Nat} {e : List Nd} (h : l[j]? = some e) : firstE (l.drop j) = if begunM e ≠ 0 then begunM e else firstE (l.drop (j + 1)) := by
  have hj := (List.getElem?_eq_some_iff.1 h).1
  have : l.drop j = e :: l.drop (j + 1) := by rw [List.drop_eq_getElem_cons hj]; congr 1; exact (List.getElem?_eq_some_iff.1 h).2
  rw [this]; rfl
theorem firstX_drop {l : List (List Nd)} {j : Nat} {e : List Nd} (h : l[j]? = some e) : firstX (l.drop j) = if e = [] then firstX (l.drop (j + 1)) else if begunM e ≠ 0 then begunM e else firstX (l.drop (j + 1)) := by
  have hj := (List.getElem?_eq_some_iff.1 h).1
  have : l.drop j = e :: l.drop (j + 1) := by rw [List.drop_eq_getElem_cons hj]; congr 1; exact (List.getElem?_eq_some_iff.1 h).2
  rw [this]; rfl
theorem firstE_end (l : List (List Nd)) : firstE (l.drop l.length) = 0 := by rw [List.drop_length]; rfl
theorem firstX_end (l : List (List Nd)) : firstX (l.drop l.length) = 0 := by rw [List.drop_length]; rfl
end Go.Proofs.Ytndmhbocfmnhgaa.In

/- Layer inits: Check of the program. Conditions: what is checked is read as a program's units. -/
namespace Go.Proofs.Ytndmhbocfmnhgaa.In
open Go.ChangeShapes Go.WideShapes Go.ChangeAt Go.RowKit
open Go.Proofs.Ytndmhbocfmnhgaa.Ex Go.Proofs.Ytndmhbocfmnhgaa.Pg
open Go.Proofs.Ytndmhbocfmnhgaa.Rp (own_form pt_form row_form one_list news_new)
open Go.Proofs.Ytndmhbocfmnhgaa.Tr (str ret_bool ret_int Bytes Nd Nodes)
set_option linter.unusedVariables false
set_option linter.unusedSimpArgs false

noncomputable def itemM (i : Itm) : Int := firstX (i.e :: i.f :: i.args)
noncomputable def firstI : List Itm → Int
  | [] => 0
  | i :: r => if itemM i ≠ 0 then itemM i else firstI r
noncomputable def unitM (u : Unt) : Int := if firstE (u.eqs.map (·.e)) ≠ 0 then firstE (u.eqs.map (·.e)) else firstI u.items
/-- The first unit of which something is wrong, from a number on. -/
noncomputable def checkF : Nat → List Unt → Int × Int
  | _, [] => (0, 0)
  | n, u :: r => if unitM u ≠ 0 then (unitM u, (n : Int)) else checkF (n + 1) r
theorem firstI_drop {l : List Itm} {j : Nat} {e : Itm} (h : l[j]? = some e) : firstI (l.drop j) = if itemM e ≠ 0 then itemM e else firstI (l.drop (j + 1)) := by
  have hj := (List.getElem?_eq_some_iff.1 h).1
  have : l.drop j = e :: l.drop (j + 1) := by rw [List.drop_eq_getElem_cons hj]; congr 1; exact (List.getElem?_eq_some_iff.1 h).2
  rw [this]; rfl
theorem checkF_drop {l : List Unt} {j : Nat} {e : Unt} (h : l[j]? = some e) : checkF j (l.drop j) = if unitM e ≠ 0 then (unitM e, (j : Int)) else checkF (j + 1) (l.drop (j + 1)) := by
  have hj := (List.getElem?_eq_some_iff.1 h).1
  have : l.drop j = e :: l.drop (j + 1) := by rw [List.drop_eq_getElem_cons hj]; congr 1; exact (List.getElem?_eq_some_iff.1 h).2
  rw [this]; rfl
theorem row_at {α : Type} {T : TypeId} {K : Nat} {R : World → α → List Value → Prop} {w : World} {l : List α} {v : Value} {i : Nat} {a : α} (h : RowR T K R w l v) (hi : l[i]? = some a) :
    ∃ g c x, v = .slice (some ⟨g, 0, none⟩) l.length c ∧ g < w.heap.size ∧ R w a x ∧ x.length = K ∧ ∀ k, k < K → w.cell? ⟨g, i * K + k, none⟩ = x[k]? := by
  obtain ⟨A, c, rfl, h1, h2, h3⟩ := h
  obtain ⟨g, x, cs, f, rfl, e2, e3, e4, e5⟩ := h3 i a hi
  exact ⟨g, c, x, rfl, lt_of_block e2, e3, e4, fun k hk => by rw [← e5 k hk]; simp [World.cell?, e2]⟩
theorem err_of {w w' : World} {x y : Int} (h : x = y) (hb : Below w.heap.size w w') : ErrPost w y (.returned (.int .i64 x)) w' := by subst h; exact ⟨rfl, hb⟩
end Go.Proofs.Ytndmhbocfmnhgaa.In

/- Layer inits: contracts of unit and Check of the program, where no unit has items. Conditions: what is checked is read as a program's units. -/
namespace Go.Proofs.Ytndmhbocfmnhgaa.In
open Go.ChangeShapes Go.WideShapes Go.ChangeAt Go.RowKit
open Go.Proofs.Ytndmhbocfmnhgaa.Ex Go.Proofs.Ytndmhbocfmnhgaa.Pg
open Go.Proofs.Ytndmhbocfmnhgaa.Rp (own_form pt_form row_form one_list news_new)
open Go.Proofs.Ytndmhbocfmnhgaa.Tr (str ret_bool ret_int Bytes Nd Nodes)
set_option linter.unusedVariables false
set_option linter.unusedSimpArgs false

theorem unitM_plain {u : Unt} (h : u.items = []) : unitM u = firstE (u.eqs.map (·.e)) := by
  unfold unitM; rw [h]
  split
  · rfl
  · rename_i h0; simp only [Classical.not_not] at h0; rw [h0]; rfl
set_option maxRecDepth 100000 in
set_option maxHeartbeats 8000000 in
theorem unit_plain (u : Unt) (iv vv qv lv : Value) (w : World) (hq : RowR 60 2 EqnV w u.eqs qv) (hl : RowR 62 6 ItmV w u.items lv) (hi0 : u.items = []) (hiv : ∃ A n c, iv = .slice A n c) (hvv : ∃ A n c, vv = .slice A n c) :
    Calls Try.prog 26 #[.agg #[.bool u.contract, .string (str u.name), iv, .string (str u.out.name), .int .i64 u.out.ty, vv, qv, lv]] w (ErrPost w (unitM u)) := by
  obtain ⟨A1, n1, c1, rfl⟩ := hiv
  obtain ⟨A2, n2, c2, rfl⟩ := hvv
  obtain ⟨M, hM⟩ : ∃ M, unitM u = M := ⟨_, rfl⟩
  have HM : Hid (firstE (u.eqs.map (·.e)) = M) := Lib.hid (by rw [← hM, unitM_plain hi0])
  rw [hM]
  rw [hi0] at hl
  obtain ⟨A4, c4, hlv, -, -, -⟩ := hl
  simp only [List.length_nil] at hlv
  subst hlv
  obtain ⟨es, hes⟩ : ∃ es, u.eqs = es := ⟨_, rfl⟩
  rw [hes] at hq HM
  have hq' := hq
  obtain ⟨A3, c3, hqv, q1, q2, -⟩ := hq'
  have HQ : Hid (RowR 60 2 EqnV w es (.slice A3 es.length c3)) := Lib.hid (hqv ▸ hq)
  subst hqv
  unfold maxLen at q2
  clear hM hi0 hq
  obtain ⟨w1, hw1⟩ : ∃ W, w.alloc (.cells #[.bool u.contract, .string (str u.name), .slice A1 n1 c1, .string (str u.out.name), .int .i64 u.out.ty, .slice A2 n2 c2, .slice A3 es.length c3, .slice A4 0 c4] 58) = W := ⟨_, rfl⟩
  have hb1 : Below w.heap.size w w1 := hw1 ▸ below_new w _
  have hX : w1.heap[w.heap.size]? = some (.cells #[.bool u.contract, .string (str u.name), .slice A1 n1 c1, .string (str u.out.name), .int .i64 u.out.ty, .slice A2 n2 c2, .slice A3 es.length c3, .slice A4 0 c4] 58 (0, 0)) := hw1 ▸ heap_alloc_new w _
  have HX := Lib.hid hX
  have x6 : w1.cell? ⟨w.heap.size, 6, none⟩ = some (.slice A3 es.length c3) := (cell_at hX 6).trans rfl
  have lx := lt_of_block hX
  have HB1 := Lib.hid hb1
  have HROW : Hid (∀ wr, Below w1.heap.size w1 wr → RowR 60 2 EqnV wr es (.slice A3 es.length c3)) := Lib.hid (fun wr hb => HQ.out.stay (Stay.below (P := fun _ => False) (hb1.trans (hb.mono hb1.size))) (fun h => h) (EqnV.stay (Stay.below (P := fun _ => False) (hb1.trans (hb.mono hb1.size))) (fun h => h)))
  have hs1 := hb1.size
  clear hb1 hX
  go_enter Try.func26, Try.ntmps26
  go_wp2
  go_loopw [12] (fun c wr => ∃ j : Nat, j ≤ es.length ∧ c = .int .i64 j ∧ Below w1.heap.size w1 wr ∧ firstE ((es.map (·.e)).drop j) = M) (fun c _ => es.length - (intOf c).toNat)
  case atStart => exact ⟨0, Nat.zero_le _, rfl, Below.refl _ _, HM.out⟩
  case round =>
    obtain ⟨j, hj, rfl, hb, hm⟩ := hrel
    have HB := Lib.hid hb
    have HMM := Lib.hid hm
    have hsr := hb.size
    clear hb hm
    by_cases hlt : j < es.length
    · obtain ⟨q, he⟩ : ∃ q, es[j]? = some q := ⟨_, List.getElem?_eq_getElem hlt⟩
      obtain ⟨g, cc, x, hov, hg, ⟨ev, rfl, hp⟩, -, hcell⟩ := row_at (HROW.out wr HB.out) he
      simp only [Value.slice.injEq] at hov
      obtain ⟨rfl, -, rfl⟩ := hov
      have hc0 : wr.cell? ⟨g, j * 2, none⟩ = some (.string (str q.name)) := hcell 0 (by omega)
      have hc1 : wr.cell? ⟨g, j * 2 + 1, none⟩ = some ev := hcell 1 (by omega)
      have hp2 := hp.below (below_new wr (.cells #[.string (str q.name), ev] 60))
      obtain ⟨⟨A5, c5, hev, v1, v2, hA5⟩, hpb⟩ := hp
      simp only at hev v1 hA5
      subst hev
      unfold maxLen at v2
      have hem : (es.map (·.e))[j]? = some q.e := by rw [List.getElem?_map, he]; rfl
      have HD := Lib.hid (firstE_drop hem)
      have HC := Lib.hid (begun_any _ q.e _ hp2.1)
      obtain ⟨z, hz⟩ : ∃ z, begunM q.e = z := ⟨_, rfl⟩
      have HDD : Hid (M = if z ≠ 0 then z else firstE ((es.map (·.e)).drop (j + 1))) := Lib.hid (by rw [← HMM.out, HD.out, hz])
      rw [hz] at HC
      clear hcell hA5 hpb he hem hz hp2
      go_wp2_with fail
      refine HC.out.mono ?_
      rintro r w3 ⟨rfl, hb3⟩
      have HB4 := Lib.hid ((HB.out.alloc hsr _).trans (hb3.mono (by simp; omega)))
      clear hb3
      by_cases hz0 : z = 0
      · subst hz0
        have HN : Hid (firstE ((es.map (·.e)).drop (j + 1)) = M) := Lib.hid (by rw [HDD.out, if_neg (by simp)])
        go_wp2
        refine ⟨⟨j + 1, by omega, by go_num, HB4.out, HN.out⟩, by simp [intOf]; omega⟩
      · have hzd : (z != 0) = true := by simpa using hz0
        have HN : Hid (z = M) := Lib.hid (by rw [HDD.out, if_pos hz0])
        go_wp2
        go_ret
        exact err_of HN.out (HB1.out.trans (HB4.out.mono hs1))
    · have hjl : j = es.length := by omega
      subst hjl
      have HN : Hid (0 = M) := Lib.hid (by rw [← HMM.out]; have := firstE_end (es.map (·.e)); rw [List.length_map] at this; exact this.symm)
      have x7 : wr.cell? ⟨w.heap.size, 7, none⟩ = some (.slice A4 0 c4) := (HB.out.cell (p := ⟨w.heap.size, 7, none⟩) lx).trans ((cell_at HX.out 7).trans rfl)
      have lxr : w.heap.size < wr.heap.size := by omega
      go_wp2
      go_loopw [26] (fun c wq => c = .int .i64 0 ∧ wq = wr) (fun c _ => 0)
      case atStart => exact ⟨rfl, rfl⟩
      case round =>
        obtain ⟨rfl, rfl⟩ := hrel
        go_wp2
        go_ret
        exact err_of HN.out (HB1.out.trans (HB.out.mono hs1))
set_option maxRecDepth 100000 in
set_option maxHeartbeats 8000000 in
theorem check_plain (us : List Unt) (uv : Value) (m b : Bytes) (w : World) (hu : RowR 58 8 UntV w us uv) (hi0 : ∀ u ∈ us, u.items = []) :
    Calls Try.prog 13 #[.agg #[uv, .string (str m), .string (str b)]] w (fun e w' => e = .returned (.agg #[.int .i64 (checkF 0 us).1, .int .i64 (checkF 0 us).2]) ∧ Below w.heap.size w w') := by
  obtain ⟨R, hR⟩ : ∃ R, checkF 0 us = R := ⟨_, rfl⟩
  have HR : Hid (checkF 0 (us.drop 0) = R) := Lib.hid hR
  rw [hR]
  have hu' := hu
  obtain ⟨A3, c3, hqv, q1, q2, -⟩ := hu'
  have HU : Hid (RowR 58 8 UntV w us (.slice A3 us.length c3)) := Lib.hid (hqv ▸ hu)
  subst hqv
  unfold maxLen at q2
  have HI := Lib.hid hi0
  clear hR hu hi0
  obtain ⟨w1, hw1⟩ : ∃ W, (w.alloc (.cells #[.slice A3 us.length c3, .string (str m), .string (str b)] 31)).alloc (.cells #[.int .i64 0, .int .i64 0] 34) = W := ⟨_, rfl⟩
  have hb1 : Below w.heap.size w w1 := hw1 ▸ (below_new w _).alloc (below_new w _).size _
  have hX : w1.heap[w.heap.size]? = some (.cells #[.slice A3 us.length c3, .string (str m), .string (str b)] 31 (0, 0)) := by rw [← hw1, Below.heap_alloc _ _ _ (by simp)]; exact heap_alloc_new w _
  have hZ : w1.heap[w.heap.size + 1]? = some (.cells #[.int .i64 0, .int .i64 0] 34 (0, 0)) := hw1 ▸ new_blk (by simp)
  have x0 : w1.cell? ⟨w.heap.size, 0, none⟩ = some (.slice A3 us.length c3) := (cell_at hX 0).trans rfl
  have lx := lt_of_block hX
  have lz := lt_of_block hZ
  have HZ := Lib.hid hZ
  have HB1 := Lib.hid hb1
  have HROW : Hid (∀ wr, Below w1.heap.size w1 wr → RowR 58 8 UntV wr us (.slice A3 us.length c3)) := Lib.hid (fun wr hb => HU.out.stay (Stay.below (P := fun _ => False) (hb1.trans (hb.mono hb1.size))) (fun h => h) (UntV.stay (Stay.below (P := fun _ => False) (hb1.trans (hb.mono hb1.size))) ⟨fun h => h, fun h => h, fun h => h, fun h => h, fun h => h⟩))
  have hs1 := hb1.size
  clear hb1 hX hZ
  have HEND : Hid (∀ (wr : World) (p q : Int), Below w1.heap.size w1 wr → (p, q) = R → ∀ e, e = Ending.returned (.agg #[.int .i64 p, .int .i64 q]) → e = .returned (.agg #[.int .i64 R.1, .int .i64 R.2]) ∧ Below w.heap.size w ((wr.setCell ⟨w.heap.size + 1, 0, none⟩ (.int .i64 p)).setCell ⟨w.heap.size + 1, 1, none⟩ (.int .i64 q))) := Lib.hid (fun wr p q hb h e he => by
    subst h; subst he
    exact ⟨rfl, ((HB1.out.trans (hb.mono HB1.out.size)).setCell (by simp) _).setCell (by simp) _⟩)
  go_enter Try.func13, Try.ntmps13
  go_wp2
  go_loopw [9] (fun c wr => ∃ j : Nat, j ≤ us.length ∧ c = .int .i64 j ∧ Below w1.heap.size w1 wr ∧ checkF j (us.drop j) = R) (fun c _ => us.length - (intOf c).toNat)
  case atStart => exact ⟨0, Nat.zero_le _, rfl, Below.refl _ _, HR.out⟩
  case round =>
    obtain ⟨j, hj, rfl, hb, hm⟩ := hrel
    have HB := Lib.hid hb
    have HMM := Lib.hid hm
    have hsr := hb.size
    clear hb hm
    by_cases hlt : j < us.length
    · obtain ⟨u, he⟩ : ∃ q, us[j]? = some q := ⟨_, List.getElem?_eq_getElem hlt⟩
      obtain ⟨g, cc, x, hov, hg, hux, -, hcell⟩ := row_at (HROW.out wr HB.out) he
      obtain ⟨iv, vv, qv, lv, rfl, h1, h2, h3, h4⟩ := hux
      simp only [Value.slice.injEq] at hov
      obtain ⟨rfl, -, rfl⟩ := hov
      obtain ⟨A5, n5, c5, rfl, -, -⟩ := row_form h1
      obtain ⟨A6, n6, c6, rfl, -, -⟩ := row_form h2
      obtain ⟨A7, n7, c7, rfl, -, -⟩ := row_form h3
      obtain ⟨A8, n8, c8, rfl, -, -⟩ := row_form h4
      have e0 : wr.cell? ⟨g, j * 8, none⟩ = some (.bool u.contract) := hcell 0 (by omega)
      have e1 : wr.cell? ⟨g, j * 8 + 1, none⟩ = some (.string (str u.name)) := hcell 1 (by omega)
      have e2 : wr.cell? ⟨g, j * 8 + 2, none⟩ = some (.slice A5 n5 c5) := hcell 2 (by omega)
      have e3 : wr.cell? ⟨g, j * 8 + 3, none⟩ = some (.string (str u.out.name)) := hcell 3 (by omega)
      have e4 : wr.cell? ⟨g, j * 8 + 4, none⟩ = some (.int .i64 u.out.ty) := hcell 4 (by omega)
      have e5 : wr.cell? ⟨g, j * 8 + 5, none⟩ = some (.slice A6 n6 c6) := hcell 5 (by omega)
      have e6 : wr.cell? ⟨g, j * 8 + 6, none⟩ = some (.slice A7 n7 c7) := hcell 6 (by omega)
      have e7 : wr.cell? ⟨g, j * 8 + 7, none⟩ = some (.slice A8 n8 c8) := hcell 7 (by omega)
      obtain ⟨w2, hw2⟩ : ∃ W, wr.alloc (.cells #[.bool u.contract, .string (str u.name), .slice A5 n5 c5, .string (str u.out.name), .int .i64 u.out.ty, .slice A6 n6 c6, .slice A7 n7 c7, .slice A8 n8 c8] 58) = W := ⟨_, rfl⟩
      have hb2 : Below wr.heap.size wr w2 := hw2 ▸ below_new wr _
      have HC := Lib.hid (unit_plain u (.slice A5 n5 c5) (.slice A6 n6 c6) (.slice A7 n7 c7) (.slice A8 n8 c8) w2 (h3.stay (Stay.below (P := fun _ => False) hb2) (fun h => h) (EqnV.stay (Stay.below (P := fun _ => False) hb2) (fun h => h))) (h4.stay (Stay.below (P := fun _ => False) hb2) (fun h => h) (ItmV.stay (Stay.below (P := fun _ => False) hb2) (fun h => h) (fun h => h))) (HI.out u (List.mem_of_getElem? he)) ⟨_, _, _, rfl⟩ ⟨_, _, _, rfl⟩)
      have HB2 := Lib.hid (HB.out.trans (hb2.mono hsr))
      have HD := Lib.hid (checkF_drop he)
      have hs2 := hb2.size
      obtain ⟨z, hz⟩ : ∃ z, unitM u = z := ⟨_, rfl⟩
      have HDD : Hid (R = if z ≠ 0 then (z, (j : Int)) else checkF (j + 1) (us.drop (j + 1))) := Lib.hid (by rw [← HMM.out, HD.out, hz])
      rw [hz] at HC
      have HW2 := Lib.hid hw2
      clear hcell h1 h2 h3 h4 he hz hb2 hw2
      go_wp2_with fail
      rw [HW2.out]
      refine HC.out.mono ?_
      rintro r w3 ⟨rfl, hb3⟩
      have HB4 := Lib.hid (HB2.out.trans (hb3.mono (by omega)))
      have hs3 := hb3.size
      clear hb3
      by_cases hz0 : z = 0
      · subst hz0
        have HN : Hid (checkF (j + 1) (us.drop (j + 1)) = R) := Lib.hid (by rw [HDD.out, if_neg (by simp)])
        go_wp2
        refine ⟨⟨j + 1, by omega, by go_num, HB4.out, HN.out⟩, by simp [intOf]; omega⟩
      · have hzd : (z != 0) = true := by simpa using hz0
        have HN : Hid ((z, (j : Int)) = R) := Lib.hid (by rw [HDD.out, if_pos hz0])
        have hZ3 := (HB4.out.block _ lz).trans HZ.out
        have p0 : w3.cell? ⟨w.heap.size + 1, 0, none⟩ = some (.int .i64 0) := (cell_at hZ3 0).trans rfl
        have p1 : w3.cell? ⟨w.heap.size + 1, 1, none⟩ = some (.int .i64 0) := (cell_at hZ3 1).trans rfl
        have f0 : w3.frozen? ⟨w.heap.size + 1, 0, none⟩ = false := free_at hZ3 0
        have f1 : w3.frozen? ⟨w.heap.size + 1, 1, none⟩ = false := free_at hZ3 1
        have HZ3 := Lib.hid hZ3
        have lz3 := lt_of_block hZ3
        clear hZ3
        go_wp2
        have Z := Go.Proofs.Ytndmhbocfmnhgaa.Rp.blk2 HZ3.out (.int .i64 z) (.int .i64 (j : Int))
        have z0 := (cell_at Z 0).trans (show _ = some (.int .i64 z) from rfl)
        have z1 := (cell_at Z 1).trans (show _ = some (.int .i64 (j : Int)) from rfl)
        clear p0 p1 f0 f1
        exact bodyPost_ret (v := .agg #[.int .i64 z, .int .i64 (j : Int)]) (by simp [results, Try.results13, go_sem, z0, z1]) rfl (HEND.out w3 z j HB4.out HN.out _ rfl)
    · have hjl : j = us.length := by omega
      subst hjl
      have HN : Hid (((0 : Int), (0 : Int)) = R) := Lib.hid (by rw [← HMM.out, List.drop_length]; rfl)
      have hZ3 := (HB.out.block _ lz).trans HZ.out
      have p0 : wr.cell? ⟨w.heap.size + 1, 0, none⟩ = some (.int .i64 0) := (cell_at hZ3 0).trans rfl
      have p1 : wr.cell? ⟨w.heap.size + 1, 1, none⟩ = some (.int .i64 0) := (cell_at hZ3 1).trans rfl
      have f0 : wr.frozen? ⟨w.heap.size + 1, 0, none⟩ = false := free_at hZ3 0
      have f1 : wr.frozen? ⟨w.heap.size + 1, 1, none⟩ = false := free_at hZ3 1
      have HZ3 := Lib.hid hZ3
      have lz3 := lt_of_block hZ3
      clear hZ3
      go_wp2
      have Z := Go.Proofs.Ytndmhbocfmnhgaa.Rp.blk2 HZ3.out (.int .i64 0) (.int .i64 0)
      have z0 := (cell_at Z 0).trans (show _ = some (.int .i64 0) from rfl)
      have z1 := (cell_at Z 1).trans (show _ = some (.int .i64 0) from rfl)
      clear p0 p1 f0 f1
      exact bodyPost_ret (v := .agg #[.int .i64 0, .int .i64 0]) (by simp [results, Try.results13, go_sem, z0, z1]) rfl (HEND.out wr 0 0 HB.out HN.out _ rfl)
end Go.Proofs.Ytndmhbocfmnhgaa.In

