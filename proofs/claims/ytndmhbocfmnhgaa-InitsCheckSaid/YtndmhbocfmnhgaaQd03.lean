/- Layer inits: the document's Small: what is small has few equations, items and arguments. Conditions: what is looked at is read as a program's units. -/
import Derived.Test.YtndmhbocfmnhgaaQd02
namespace Go.Proofs.Ytndmhbocfmnhgaa.In
open Go.ChangeShapes Go.WideShapes Go.ChangeAt Go.RowKit
open Go.Proofs.Ytndmhbocfmnhgaa.Ex Go.Proofs.Ytndmhbocfmnhgaa.Pg Go.Proofs.Ytndmhbocfmnhgaa.Op
open Go.Proofs.Ytndmhbocfmnhgaa.Tr (str ret_bool ret_int Bytes Nd Nodes)
set_option linter.unusedVariables false
set_option linter.unusedSimpArgs false

def SmallU (u : Unt) : Prop := u.eqs.length ≤ 30 ∧ u.items.length ≤ 30 ∧ ∀ x ∈ u.items, x.args.length ≤ 30
def SmallP (us : List Unt) : Prop := ∀ u ∈ us, SmallU u
def SmallPost (w : World) (us : List Unt) (e : Ending) (w' : World) : Prop := ∃ r, e = .returned (.bool r) ∧ Below w.heap.size w w' ∧ (r = true → SmallP us)
theorem small_no {w w' : World} {us : List Unt} (h : Below w.heap.size w w') : SmallPost w us (.returned (.bool false)) w' := ⟨false, rfl, h, fun h => by cases h⟩
set_option maxRecDepth 100000 in
set_option maxHeartbeats 8000000 in
theorem small_any (us : List Unt) (uv : Value) (m b : Bytes) (w : World) (hu : RowN 8 UntN w us uv) : Calls Try.prog 12 #[.agg #[uv, .string (str m), .string (str b)]] w (SmallPost w us) := by
  obtain ⟨A3, c3, hqv, q1, q2, -⟩ := rown_form hu
  have HU : Hid (RowN 8 UntN w us (.slice A3 us.length c3)) := Lib.hid (hqv ▸ hu)
  subst hqv
  unfold maxLen at q2
  clear hu
  obtain ⟨w1, hw1⟩ : ∃ W, w.alloc (.cells #[.slice A3 us.length c3, .string (str m), .string (str b)] 31) = W := ⟨_, rfl⟩
  have hb1 : Below w.heap.size w w1 := hw1 ▸ below_new w _
  have hX : w1.heap[w.heap.size]? = some (.cells #[.slice A3 us.length c3, .string (str m), .string (str b)] 31 (0, 0)) := hw1 ▸ heap_alloc_new w _
  have HX := Lib.hid hX
  have x0 : w1.cell? ⟨w.heap.size, 0, none⟩ = some (.slice A3 us.length c3) := (cell_at hX 0).trans rfl
  have lx := lt_of_block hX
  have HB1 := Lib.hid hb1
  have HROW : Hid (∀ wr, Below w1.heap.size w1 wr → RowN 8 UntN wr us (.slice A3 us.length c3)) := Lib.hid (fun wr hb => HU.out.below (hb1.trans (hb.mono hb1.size)) (UntN.below (hb1.trans (hb.mono hb1.size))))
  have hs1 := hb1.size
  clear hb1 hX
  go_enter Try.func12, Try.ntmps12
  by_cases h30 : us.length ≤ 30
  case neg =>
    have hd : decide ((30 : Int) < us.length) = true := by simp; omega
    go_wp2
    go_ret
    exact small_no HB1.out
  have hd : decide ((30 : Int) < us.length) = false := by simp; omega
  go_wp2
  clear hd x0
  go_loopw [3] (fun c wr => ∃ j : Nat, j ≤ us.length ∧ c = .int .i64 j ∧ Below w1.heap.size w1 wr ∧ ∀ u ∈ us.take j, SmallU u) (fun c _ => us.length - (intOf c).toNat)
  case atStart => exact ⟨0, Nat.zero_le _, rfl, Below.refl _ _, by simp⟩
  case round =>
    obtain ⟨j, hj, rfl, hb, hm⟩ := hrel
    have HB := Lib.hid hb
    have HMM := Lib.hid hm
    have hsr := hb.size
    have x0 : wr.cell? ⟨w.heap.size, 0, none⟩ = some (.slice A3 us.length c3) := (HB.out.cell (p := ⟨w.heap.size, 0, none⟩) lx).trans ((cell_at HX.out 0).trans rfl)
    have lxr : w.heap.size < wr.heap.size := by omega
    clear hb hm
    by_cases hlt : j < us.length
    · obtain ⟨u, he⟩ : ∃ q, us[j]? = some q := ⟨_, List.getElem?_eq_getElem hlt⟩
      have HT : Hid (us.take (j + 1) = us.take j ++ [u]) := Lib.hid (by rw [List.take_add_one, he]; rfl)
      obtain ⟨g, o, cc, x, hov, hg, hux, -, hcell⟩ := rown_at (HROW.out wr HB.out) he
      obtain ⟨iv, vv, qv, lv, rfl, h1, h2, h3, h4, -⟩ := hux
      simp only [Value.slice.injEq] at hov
      obtain ⟨rfl, -, rfl⟩ := hov
      obtain ⟨A5, c5, rfl, k1, k2, -⟩ := rown_form h1
      obtain ⟨A6, c6, rfl, k3, k4, -⟩ := rown_form h2
      obtain ⟨A7, c7, rfl, k5, k6, -⟩ := rown_form h3
      obtain ⟨A8, c8, rfl, k7, k8, -⟩ := rown_form h4
      unfold maxLen at k2 k4 k6 k8
      have e0 : wr.cell? ⟨g, o + j * 8, none⟩ = some (.bool u.contract) := hcell 0 (by omega)
      have e1 : wr.cell? ⟨g, o + j * 8 + 1, none⟩ = some (.string (str u.name)) := hcell 1 (by omega)
      have e2 : wr.cell? ⟨g, o + j * 8 + 2, none⟩ = some (.slice A5 u.ins.length c5) := hcell 2 (by omega)
      have e3 : wr.cell? ⟨g, o + j * 8 + 3, none⟩ = some (.string (str u.out.name)) := hcell 3 (by omega)
      have e4 : wr.cell? ⟨g, o + j * 8 + 4, none⟩ = some (.int .i64 u.out.ty) := hcell 4 (by omega)
      have e5 : wr.cell? ⟨g, o + j * 8 + 5, none⟩ = some (.slice A6 u.vars.length c6) := hcell 5 (by omega)
      have e6 : wr.cell? ⟨g, o + j * 8 + 6, none⟩ = some (.slice A7 u.eqs.length c7) := hcell 6 (by omega)
      have e7 : wr.cell? ⟨g, o + j * 8 + 7, none⟩ = some (.slice A8 u.items.length c8) := hcell 7 (by omega)
      obtain ⟨w2, hw2⟩ : ∃ W, wr.alloc (.cells #[.bool u.contract, .string (str u.name), .slice A5 u.ins.length c5, .string (str u.out.name), .int .i64 u.out.ty, .slice A6 u.vars.length c6, .slice A7 u.eqs.length c7, .slice A8 u.items.length c8] 58) = W := ⟨_, rfl⟩
      have hb2 : Below wr.heap.size wr w2 := hw2 ▸ below_new wr _
      have hX2 : w2.heap[wr.heap.size]? = some (.cells #[.bool u.contract, .string (str u.name), .slice A5 u.ins.length c5, .string (str u.out.name), .int .i64 u.out.ty, .slice A6 u.vars.length c6, .slice A7 u.eqs.length c7, .slice A8 u.items.length c8] 58 (0, 0)) := hw2 ▸ heap_alloc_new wr _
      have HX2 := Lib.hid hX2
      have z2 : w2.cell? ⟨wr.heap.size, 2, none⟩ = some (.slice A5 u.ins.length c5) := (cell_at hX2 2).trans rfl
      have z5 : w2.cell? ⟨wr.heap.size, 5, none⟩ = some (.slice A6 u.vars.length c6) := (cell_at hX2 5).trans rfl
      have z6 : w2.cell? ⟨wr.heap.size, 6, none⟩ = some (.slice A7 u.eqs.length c7) := (cell_at hX2 6).trans rfl
      have z7 : w2.cell? ⟨wr.heap.size, 7, none⟩ = some (.slice A8 u.items.length c8) := (cell_at hX2 7).trans rfl
      have lz := lt_of_block hX2
      have HZ7 : Hid (∀ wq, Below w2.heap.size w2 wq → wq.cell? ⟨wr.heap.size, 7, none⟩ = some (.slice A8 u.items.length c8)) := Lib.hid (fun wq h => (h.cell (p := ⟨wr.heap.size, 7, none⟩) lz).trans z7)
      have HB2 := Lib.hid (HB.out.trans (hb2.mono hsr))
      have hs2 := hb2.size
      have HS12 : Hid (w1.heap.size ≤ w2.heap.size) := Lib.hid (by omega)
      have HQ2 := Lib.hid (h3.below hb2 (EqnN.below hb2))
      have HL2 := Lib.hid (h4.below hb2 (ItmN.below hb2))
      have HOUT : Hid (∀ w', Below w2.heap.size w2 w' → SmallPost w us (.returned (.bool false)) w') := Lib.hid (fun w' h => small_no (HB1.out.trans ((HB2.out.trans (h.mono (by omega))).mono hs1)))
      clear hcell h1 h2 h3 h4 hb2 hX2
      by_cases t1 : u.ins.length ≤ 30
      case neg =>
        have hd : decide ((30 : Int) < u.ins.length) = true := by simp; omega
        go_wp2
        go_ret
        exact HOUT.out w2 (Below.refl _ _)
      have d1 : decide ((30 : Int) < u.ins.length) = false := by simp; omega
      by_cases t2 : u.vars.length ≤ 30
      case neg =>
        have hd : decide ((30 : Int) < u.vars.length) = true := by simp; omega
        go_wp2
        go_ret
        exact HOUT.out w2 (Below.refl _ _)
      have d2 : decide ((30 : Int) < u.vars.length) = false := by simp; omega
      by_cases t3 : u.eqs.length ≤ 30
      case neg =>
        have hd : decide ((30 : Int) < u.eqs.length) = true := by simp; omega
        go_wp2
        go_ret
        exact HOUT.out w2 (Below.refl _ _)
      have d3 : decide ((30 : Int) < u.eqs.length) = false := by simp; omega
      by_cases t4 : u.items.length ≤ 30
      case neg =>
        have hd : decide ((30 : Int) < u.items.length) = true := by simp; omega
        go_wp2
        go_ret
        exact HOUT.out w2 (Below.refl _ _)
      have d4 : decide ((30 : Int) < u.items.length) = false := by simp; omega
      go_wp2
      clear d1 d2 d3 d4 z2 z5 z7 e0 e1 e2 e3 e4 e5 e6 e7
      go_loopw [5] (fun c wr => ∃ k : Nat, k ≤ u.eqs.length ∧ c = .int .i64 k ∧ wr = w2) (fun c _ => u.eqs.length - (intOf c).toNat)
      case atStart => exact ⟨0, Nat.zero_le _, rfl, rfl⟩
      case round =>
        obtain ⟨k, hk, rfl, rfl⟩ := hrel
        by_cases hlt2 : k < u.eqs.length
        · obtain ⟨q, hq⟩ : ∃ q, u.eqs[k]? = some q := ⟨_, List.getElem?_eq_getElem hlt2⟩
          obtain ⟨g2, o2, cc2, x2, hov2, hg2, ⟨ev, rfl, hp, -⟩, -, hcell2⟩ := rown_at HQ2.out hq
          simp only [Value.slice.injEq] at hov2
          obtain ⟨rfl, -, rfl⟩ := hov2
          obtain ⟨A9, c9, rfl, v1, v2⟩ := nodesz_form hp
          have f1 : wr.cell? ⟨g2, o2 + k * 2 + 1, none⟩ = some (.slice A9 q.e.length c9) := hcell2 1 (by omega)
          clear hcell2
          by_cases t5 : q.e.length ≤ 200
          case neg =>
            have hd : decide ((200 : Int) < q.e.length) = true := by simp; omega
            go_wp2
            go_ret
            exact HOUT.out wr (Below.refl _ _)
          have hd : decide ((200 : Int) < q.e.length) = false := by simp; omega
          go_wp2
          exact ⟨⟨k + 1, by omega, by go_num, trivial⟩, by simp [intOf]; omega⟩
        · have hkl : k = u.eqs.length := by omega
          subst hkl
          have z7 := HZ7.out _ (Below.refl _ _)
          go_wp2
          go_loopw [6] (fun c wq => ∃ k : Nat, k ≤ u.items.length ∧ c = .int .i64 k ∧ Below wr.heap.size wr wq ∧ ∀ x ∈ u.items.take k, x.args.length ≤ 30) (fun c _ => u.items.length - (intOf c).toNat)
          case atStart => exact ⟨0, Nat.zero_le _, rfl, Below.refl _ _, by simp⟩
          case round =>
            obtain ⟨k, hk, rfl, hbq, hmk⟩ := hrel
            have HBQ := Lib.hid hbq
            have HMK := Lib.hid hmk
            have hsq := hbq.size
            have z7 := HZ7.out _ hbq
            clear hbq hmk
            by_cases hlt2 : k < u.items.length
            · obtain ⟨t, hit⟩ : ∃ q, u.items[k]? = some q := ⟨_, List.getElem?_eq_getElem hlt2⟩
              have HTI : Hid (u.items.take (k + 1) = u.items.take k ++ [t]) := Lib.hid (by rw [List.take_add_one, hit]; rfl)
              obtain ⟨g3, o3, cc3, x3, hov3, hg3, ⟨ev, fv, av, rfl, hp1, hp2, hp3, -⟩, -, hcell⟩ := rown_at (HL2.out.below HBQ.out (ItmN.below HBQ.out)) hit
              simp only [Value.slice.injEq] at hov3
              obtain ⟨rfl, -, rfl⟩ := hov3
              obtain ⟨A10, c10, rfl, v1, v2⟩ := nodesz_form hp1
              obtain ⟨A11, c11, rfl, v3, v4⟩ := nodesz_form hp2
              obtain ⟨A12, c12, rfl, v5, v6, -⟩ := rown_form hp3
              unfold maxLen at v2 v4 v6
              have e0 : wr.cell? ⟨g3, o3 + k * 6, none⟩ = some (.int .i64 t.kind) := hcell 0 (by omega)
              have e1 : wr.cell? ⟨g3, o3 + k * 6 + 1, none⟩ = some (.string (str t.name)) := hcell 1 (by omega)
              have e2 : wr.cell? ⟨g3, o3 + k * 6 + 2, none⟩ = some (.int .i64 t.ty) := hcell 2 (by omega)
              have e3 : wr.cell? ⟨g3, o3 + k * 6 + 3, none⟩ = some (.slice A10 t.e.length c10) := hcell 3 (by omega)
              have e4 : wr.cell? ⟨g3, o3 + k * 6 + 4, none⟩ = some (.slice A11 t.f.length c11) := hcell 4 (by omega)
              have e5 : wr.cell? ⟨g3, o3 + k * 6 + 5, none⟩ = some (.slice A12 t.args.length c12) := hcell 5 (by omega)
              obtain ⟨w3, hw3⟩ : ∃ W, wr.alloc (.cells #[.int .i64 t.kind, .string (str t.name), .int .i64 t.ty, .slice A10 t.e.length c10, .slice A11 t.f.length c11, .slice A12 t.args.length c12] 62) = W := ⟨_, rfl⟩
              have hb3 : Below wr.heap.size wr w3 := hw3 ▸ below_new wr _
              have hX3 : w3.heap[wr.heap.size]? = some (.cells #[.int .i64 t.kind, .string (str t.name), .int .i64 t.ty, .slice A10 t.e.length c10, .slice A11 t.f.length c11, .slice A12 t.args.length c12] 62 (0, 0)) := hw3 ▸ heap_alloc_new wr _
              have z3 : w3.cell? ⟨wr.heap.size, 3, none⟩ = some (.slice A10 t.e.length c10) := (cell_at hX3 3).trans rfl
              have z4 : w3.cell? ⟨wr.heap.size, 4, none⟩ = some (.slice A11 t.f.length c11) := (cell_at hX3 4).trans rfl
              have z5 : w3.cell? ⟨wr.heap.size, 5, none⟩ = some (.slice A12 t.args.length c12) := (cell_at hX3 5).trans rfl
              have HZ5 := Lib.hid z5
              have l3 := lt_of_block hX3
              have HA := Lib.hid (hp3.below hb3 (ExpN.below hb3))
              have HB3 := Lib.hid (HBQ.out.trans (hb3.mono hsq))
              clear hcell hp1 hp2 hp3 hb3 hX3
              by_cases t5 : t.e.length ≤ 200
              case neg =>
                have hd : decide ((200 : Int) < t.e.length) = true := by simp; omega
                go_wp2
                go_ret
                exact HOUT.out w3 HB3.out
              have d5 : decide ((200 : Int) < t.e.length) = false := by simp; omega
              by_cases t6 : t.f.length ≤ 200
              case neg =>
                have hd : decide ((200 : Int) < t.f.length) = true := by simp; omega
                go_wp2
                go_ret
                exact HOUT.out w3 HB3.out
              have d6 : decide ((200 : Int) < t.f.length) = false := by simp; omega
              by_cases t7 : t.args.length ≤ 30
              case neg =>
                have hd : decide ((30 : Int) < t.args.length) = true := by simp; omega
                go_wp2
                go_ret
                exact HOUT.out w3 HB3.out
              have d7 : decide ((30 : Int) < t.args.length) = false := by simp; omega
              go_wp2
              clear d5 d6 d7 e0 e1 e2 e3 e4 e5
              go_loopw [8] (fun c ws => ∃ i : Nat, i ≤ t.args.length ∧ c = .int .i64 i ∧ ws = w3) (fun c _ => t.args.length - (intOf c).toNat)
              case atStart => exact ⟨0, Nat.zero_le _, rfl, rfl⟩
              case round =>
                obtain ⟨i, hi, rfl, rfl⟩ := hrel
                by_cases hlt3 : i < t.args.length
                · obtain ⟨a, ha⟩ : ∃ q, t.args[i]? = some q := ⟨_, List.getElem?_eq_getElem hlt3⟩
                  obtain ⟨g4, o4, cc4, x4, hov4, hg4, ⟨ev, rfl, hp, -⟩, -, hcell4⟩ := rown_at HA.out ha
                  simp only [Value.slice.injEq] at hov4
                  obtain ⟨rfl, -, rfl⟩ := hov4
                  obtain ⟨A13, c13, rfl, v7, v8⟩ := nodesz_form hp
                  have f1 : wr.cell? ⟨g4, o4 + i * 1, none⟩ = some (.slice A13 a.length c13) := hcell4 0 (by omega)
                  rw [Nat.mul_one] at f1
                  clear hcell4
                  by_cases t8 : a.length ≤ 200
                  case neg =>
                    have hd : decide ((200 : Int) < a.length) = true := by simp; omega
                    go_wp2
                    go_ret
                    exact HOUT.out wr HB3.out
                  have hd : decide ((200 : Int) < a.length) = false := by simp; omega
                  go_wp2
                  exact ⟨⟨i + 1, by omega, by go_num, trivial⟩, by simp [intOf]; omega⟩
                · have hil : i = t.args.length := by omega
                  subst hil
                  go_wp2
                  refine ⟨⟨k + 1, by omega, by go_num, HB3.out, ?_⟩, by simp [intOf]; omega⟩
                  rw [HTI.out]
                  intro x hx
                  rcases List.mem_append.1 hx with h | h
                  · exact HMK.out x h
                  · simp at h; rw [h]; exact t7
            · have hkl : k = u.items.length := by omega
              subst hkl
              go_wp2
              refine ⟨⟨j + 1, by omega, by go_num, HB2.out.trans (HBQ.out.mono HS12.out), ?_⟩, by simp [intOf]; omega⟩
              rw [HT.out]
              intro x hx
              rcases List.mem_append.1 hx with h | h
              · exact HMM.out x h
              · simp at h; rw [h]; exact ⟨t3, t4, by have := HMK.out; rwa [List.take_length] at this⟩
    · have hjl : j = us.length := by omega
      subst hjl
      have HN : Hid (SmallP us) := Lib.hid (by have := HMM.out; rwa [List.take_length] at this)
      go_wp2
      go_ret
      exact ⟨true, rfl, HB1.out.trans (HB.out.mono hs1), fun _ => HN.out⟩
end Go.Proofs.Ytndmhbocfmnhgaa.In

/- Layer inits: what the document's Check gathers of a unit, as a plain function; a row of expressions under way. Conditions: none. -/
namespace Go.Proofs.Ytndmhbocfmnhgaa.In
open Go.ChangeShapes Go.WideShapes Go.ChangeAt Go.RowKit
open Go.Proofs.Ytndmhbocfmnhgaa.Ex Go.Proofs.Ytndmhbocfmnhgaa.Pg Go.Proofs.Ytndmhbocfmnhgaa.Op
open Go.Proofs.Ytndmhbocfmnhgaa.Tr (Nd)
set_option linter.unusedVariables false
set_option linter.unusedSimpArgs false

def some1 (e : List Nd) : List (List Nd) := if e = [] then [] else [e]
def someL (l : List (List Nd)) : List (List Nd) := l.flatMap some1
def itemE (i : Itm) : List (List Nd) := some1 i.e ++ some1 i.f ++ someL i.args
def allE (u : Unt) : List (List Nd) := u.eqs.map (·.e) ++ u.items.flatMap itemE
theorem firstE_append (a b : List (List Nd)) : firstE (a ++ b) = if firstE a ≠ 0 then firstE a else firstE b := by
  induction a with
  | nil => simp [firstE]
  | cons x r ih =>
    simp only [List.cons_append, firstE]
    by_cases h : begunM x = 0
    · simp only [h, ne_eq, not_true_eq_false, if_false]; exact ih
    · simp [h]
theorem firstX_some (l : List (List Nd)) : firstX l = firstE (someL l) := by
  induction l with
  | nil => rfl
  | cons e r ih =>
    unfold someL at ih ⊢
    rw [List.flatMap_cons, firstE_append, ← ih]
    show (if e = [] then firstX r else if begunM e ≠ 0 then begunM e else firstX r) = _
    unfold some1
    by_cases h : e = []
    · rw [if_pos h, if_pos h]; simp [firstE]
    · rw [if_neg h, if_neg h]
      have h1 : firstE [e] = begunM e := by
        by_cases h : begunM e = 0 <;> simp [firstE, h]
      rw [h1]
theorem itemE_eq (i : Itm) : someL (i.e :: i.f :: i.args) = itemE i := by
  unfold someL itemE someL; simp [List.append_assoc]
theorem firstI_flat (l : List Itm) : firstI l = firstE (l.flatMap itemE) := by
  induction l with
  | nil => rfl
  | cons i r ih => rw [List.flatMap_cons, firstE_append, ← ih, ← itemE_eq, ← firstX_some]; rfl
theorem unit_all (u : Unt) : unitM u = firstE (allE u) := by unfold unitM allE; rw [firstE_append, firstI_flat]
theorem some1_len (e : List Nd) : (some1 e).length ≤ 1 := by unfold some1; split <;> simp
theorem someL_len (l : List (List Nd)) : (someL l).length ≤ l.length := by
  induction l with
  | nil => simp [someL]
  | cons e r ih => unfold someL at ih ⊢; rw [List.flatMap_cons, List.length_append, List.length_cons]; have := some1_len e; omega
theorem items_len (l : List Itm) (h : ∀ x ∈ l, x.args.length ≤ 30) : (l.flatMap itemE).length ≤ 32 * l.length := by
  induction l with
  | nil => simp
  | cons i r ih =>
    rw [List.flatMap_cons, List.length_append, List.length_cons]
    have h1 := ih (fun x hx => h x (by simp [hx]))
    have h2 := h i (by simp)
    have h3 := some1_len i.e
    have h4 := some1_len i.f
    have h5 := someL_len i.args
    have h6 : (itemE i).length = (some1 i.e).length + (some1 i.f).length + (someL i.args).length := by unfold itemE; simp; omega
    omega
theorem take_snoc {α : Type} {l : List α} {k : Nat} {a : α} (h : l[k]? = some a) : l.take (k + 1) = l.take k ++ [a] := by rw [List.take_add_one, h]; rfl
/-- A row of expressions under way. -/
structure OL (W : World) (base : Nat) (w : World) (ov : Value) (l : List (List Nd)) (vals : List Value) : Prop where
  own : w.ownsRow base 23 1 ov l.length vals
  len : vals.length = l.length
  el : ∀ (j : Nat) (u : Value) (a : List Nd), vals[j]? = some u → l[j]? = some a → NodesZ W u a
theorem OL.nil (W : World) (base : Nat) (w : World) : OL W base w (.slice none 0 0) [] [] := ⟨World.ownsRow_nil _ _ _ _, rfl, fun j u a h => by simp at h⟩
theorem OL.snoc {W : World} {base : Nat} {w w3 : World} {ov v3 u : Value} {l : List (List Nd)} {vals : List Value} {a : List Nd} (h : OL W base w ov l vals) (hz : NodesZ W u a) (hown : w3.ownsRow base 23 1 v3 (l.length + 1) (vals ++ [u])) : OL W base w3 v3 (l ++ [a]) (vals ++ [u]) := by
  refine ⟨by simpa using hown, by simp [h.len], fun j x b h1 h2 => ?_⟩
  by_cases hj : j < vals.length
  · rw [List.getElem?_append_left hj] at h1
    rw [List.getElem?_append_left (by rw [← h.len]; exact hj)] at h2
    exact h.el j x b h1 h2
  · rw [List.getElem?_append_right (by omega)] at h1
    rw [List.getElem?_append_right (by rw [← h.len]; omega), ← h.len] at h2
    have e0 : j - vals.length = 0 := by
      have := (List.getElem?_eq_some_iff.1 h1).1
      simp at this; omega
    rw [e0] at h1 h2
    simp at h1 h2
    subst h1; subst h2
    exact hz
theorem OL.to {W : World} {base : Nat} {w : World} {ov : Value} {l l' : List (List Nd)} {vals : List Value} (h : OL W base w ov l vals) (e : l = l') : OL W base w ov l' vals := e ▸ h
theorem OL.alloc {W : World} {base : Nat} {w : World} {ov : Value} {l : List (List Nd)} {vals : List Value} (h : OL W base w ov l vals) (ob : Obj) : OL W base (w.alloc ob) ov l vals := ⟨h.own.alloc _, h.len, h.el⟩
theorem OL.grow {W : World} {base : Nat} {w2 w w3 : World} {ov : Value} {l : List (List Nd)} {vals : List Value} {ob : Obj} (h : OL W base w ov l vals) (hb : Below base w2 w) (hbs : base ≤ w.heap.size) (hg : (w.alloc ob).grownBy w3 ov.ownBlock) : Below base w2 w3 :=
  hb.trans (((Below.refl base w).alloc hbs _).trans (grown_below (by simp; omega) hg (fun k hk => (h.own.lt k hk).1)))
theorem OL.blk {W : World} {base : Nat} {w w3 : World} {ov : Value} {l : List (List Nd)} {vals : List Value} {ob : Obj} {B : Nat} {cs : Array Value} {T : TypeId} {f : Nat × Nat} (h : OL W base w ov l vals) (hX : w.heap[B]? = some (Obj.cells cs T f)) (hT : T ≠ 23) (hg : (w.alloc ob).grownBy w3 ov.ownBlock) : w3.heap[B]? = some (Obj.cells cs T f) := by
  have hlt := lt_of_block hX
  have h1 : (w.alloc ob).heap[B]? = some (Obj.cells cs T f) := (Below.heap_alloc _ _ _ hlt).trans hX
  refine (hg.block B (by simp; omega) (fun e => ?_)).trans h1
  obtain ⟨hl, h0 | ⟨g, cap, cur, hv, hb, hh, _⟩⟩ := h.own
  · rw [h0.1] at e; cases e
  · rw [hv] at e
    have e : some B = some g := e
    injection e with e
    subst e
    rw [hX] at hh
    simp only [Option.some.injEq, Obj.cells.injEq] at hh
    exact hT hh.2.1
/-- What lies in the row, as a reader needs it. -/
theorem OL.read {W : World} {base : Nat} {w : World} {ov : Value} {l : List (List Nd)} {vals : List Value} (h : OL W base w ov l vals) : ∃ A c, ov = .slice A l.length c ∧ c ≤ maxLen ∧ ∀ (k : Nat) (a : List Nd), l[k]? = some a → ∃ g u, A = some ⟨g, 0, none⟩ ∧ g < w.heap.size ∧ w.cell? ⟨g, k, none⟩ = some u ∧ NodesZ W u a := by
  obtain ⟨hl, ⟨rfl, h0⟩ | ⟨g, cap, cur, rfl, hb, hh, hn, hc, hs, ht⟩⟩ := h.own
  · have : l = [] := List.length_eq_zero_iff.1 h0
    subst this
    exact ⟨none, 0, rfl, by unfold maxLen; omega, fun k a h => by simp at h⟩
  · refine ⟨_, cap, rfl, hc, fun k a hk => ?_⟩
    have hkl := (List.getElem?_eq_some_iff.1 hk).1
    obtain ⟨u, hu⟩ : ∃ u, vals[k]? = some u := ⟨_, List.getElem?_eq_getElem (by rw [h.len]; exact hkl)⟩
    refine ⟨g, u, rfl, lt_of_block hh, ?_, h.el k u a hu hk⟩
    rw [← hu]
    exact h.own.cellAt k (by omega)
end Go.Proofs.Ytndmhbocfmnhgaa.In

