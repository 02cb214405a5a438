/- Layer inits: the document's Check. Conditions: what is checked is read as a program's units; it has few equations, items and arguments. -/
import Derived.Test.YtndmhbocfmnhgaaQd03
namespace Go.Proofs.Ytndmhbocfmnhgaa.In
open Go.ChangeShapes Go.WideShapes Go.ChangeAt Go.RowKit
open Go.Proofs.Ytndmhbocfmnhgaa.Ex Go.Proofs.Ytndmhbocfmnhgaa.Pg Go.Proofs.Ytndmhbocfmnhgaa.Op
open Go.Proofs.Ytndmhbocfmnhgaa.Rp (own_form news_new)
open Go.Proofs.Ytndmhbocfmnhgaa.Tr (str ret_bool ret_int Bytes Nd Nodes)
set_option linter.unusedVariables false
set_option linter.unusedSimpArgs false

set_option maxRecDepth 100000 in
set_option maxHeartbeats 16000000 in
theorem rcheck_any (us : List Unt) (uv : Value) (m b : Bytes) (w : World) (hu : RowN 8 UntN w us uv) (hsm : SmallP us) :
    Calls Try.prog 14 #[.agg #[uv, .string (str m), .string (str b)]] w (fun e w' => e = .returned (.agg #[.int .i64 (checkF 0 us).1, .int .i64 (checkF 0 us).2]) ∧ Below w.heap.size w w') := by
  obtain ⟨i0, hi, hz0, hz1, hz2⟩ := info_parts info23_H
  obtain ⟨R, hR⟩ : ∃ R, checkF 0 us = R := ⟨_, rfl⟩
  have HR : Hid (checkF 0 (us.drop 0) = R) := Lib.hid hR
  rw [hR]
  obtain ⟨A3, c3, hqv, q1, q2, -⟩ := rown_form hu
  have HU : Hid (RowN 8 UntN w us (.slice A3 us.length c3)) := Lib.hid (hqv ▸ hu)
  subst hqv
  unfold maxLen at q2
  have HSM := Lib.hid hsm
  clear hR hu hsm
  obtain ⟨w1, hw1⟩ : ∃ W, (w.alloc (.cells #[.slice A3 us.length c3, .string (str m), .string (str b)] 31)).alloc (.cells #[.int .i64 0, .int .i64 0] 34) = W := ⟨_, rfl⟩
  have hb1 : Below w.heap.size w w1 := hw1 ▸ (below_new w _).alloc (below_new w _).size _
  have hX : w1.heap[w.heap.size]? = some (.cells #[.slice A3 us.length c3, .string (str m), .string (str b)] 31 (0, 0)) := by rw [← hw1, Below.heap_alloc _ _ _ (by simp)]; exact heap_alloc_new w _
  have hZ : w1.heap[w.heap.size + 1]? = some (.cells #[.int .i64 0, .int .i64 0] 34 (0, 0)) := hw1 ▸ new_blk (by simp)
  have HX0 : Hid (w1.cell? ⟨w.heap.size, 0, none⟩ = some (.slice A3 us.length c3)) := Lib.hid ((cell_at hX 0).trans rfl)
  have lx := lt_of_block hX
  have lz := lt_of_block hZ
  have HZ := Lib.hid hZ
  have HB1 := Lib.hid hb1
  have HROW : Hid (∀ wr, Below w1.heap.size w1 wr → RowN 8 UntN wr us (.slice A3 us.length c3)) := Lib.hid (fun wr hb => HU.out.below (hb1.trans (hb.mono hb1.size)) (UntN.below (hb1.trans (hb.mono hb1.size))))
  have hs1 := hb1.size
  clear hb1 hX hZ
  have HEND : Hid (∀ (wr : World) (p q : Int), Below w1.heap.size w1 wr → (p, q) = R → ∀ e, e = Ending.returned (.agg #[.int .i64 p, .int .i64 q]) → e = .returned (.agg #[.int .i64 R.1, .int .i64 R.2]) ∧ Below w.heap.size w ((wr.setCell ⟨w.heap.size + 1, 0, none⟩ (.int .i64 p)).setCell ⟨w.heap.size + 1, 1, none⟩ (.int .i64 q))) := Lib.hid (fun wr p q hb h e he => by
    subst h; subst he
    exact ⟨rfl, ((HB1.out.trans (hb.mono HB1.out.size)).setCell (by simp) _).setCell (by simp) _⟩)
  go_enter Try.func14, Try.ntmps14
  go_wp2
  go_loopw [3] (fun c wr => ∃ j : Nat, j ≤ us.length ∧ c = .int .i64 j ∧ Below w1.heap.size w1 wr ∧ checkF j (us.drop j) = R) (fun c _ => us.length - (intOf c).toNat)
  case atStart => exact ⟨0, Nat.zero_le _, rfl, Below.refl _ _, HR.out⟩
  case round =>
    obtain ⟨j, hj, rfl, hb, hm⟩ := hrel
    have HB := Lib.hid hb
    have HMM := Lib.hid hm
    have hsr := hb.size
    have x0 : wr.cell? ⟨w.heap.size, 0, none⟩ = some (.slice A3 us.length c3) := (HB.out.cell (p := ⟨w.heap.size, 0, none⟩) lx).trans HX0.out
    have lxr : w.heap.size < wr.heap.size := by omega
    clear hb hm
    by_cases hlt : j < us.length
    · obtain ⟨u, he⟩ : ∃ q, us[j]? = some q := ⟨_, List.getElem?_eq_getElem hlt⟩
      obtain ⟨hu30, hu31, hu32⟩ := HSM.out u (List.mem_of_getElem? he)
      have HU32 := Lib.hid hu32
      obtain ⟨g, o, cc, x, hov, hg, hux, -, hcell⟩ := rown_at (HROW.out wr HB.out) he
      obtain ⟨iv, vv, qv, lv, rfl, h1, h2, h3, h4, -⟩ := hux
      simp only [Value.slice.injEq] at hov
      obtain ⟨rfl, -, rfl⟩ := hov
      obtain ⟨A5, n5, c5, rfl⟩ := slice_of h1
      obtain ⟨A6, n6, c6, rfl⟩ := slice_of h2
      obtain ⟨A7, c7, rfl, k5, k6, -⟩ := rown_form h3
      obtain ⟨A8, c8, rfl, k7, k8, -⟩ := rown_form h4
      unfold maxLen at k6 k8
      have e0 : wr.cell? ⟨g, o + j * 8, none⟩ = some (.bool u.contract) := hcell 0 (by omega)
      have e1 : wr.cell? ⟨g, o + j * 8 + 1, none⟩ = some (.string (str u.name)) := hcell 1 (by omega)
      have e2 : wr.cell? ⟨g, o + j * 8 + 2, none⟩ = some (.slice A5 n5 c5) := hcell 2 (by omega)
      have e3 : wr.cell? ⟨g, o + j * 8 + 3, none⟩ = some (.string (str u.out.name)) := hcell 3 (by omega)
      have e4 : wr.cell? ⟨g, o + j * 8 + 4, none⟩ = some (.int .i64 u.out.ty) := hcell 4 (by omega)
      have e5 : wr.cell? ⟨g, o + j * 8 + 5, none⟩ = some (.slice A6 n6 c6) := hcell 5 (by omega)
      have e6 : wr.cell? ⟨g, o + j * 8 + 6, none⟩ = some (.slice A7 u.eqs.length c7) := hcell 6 (by omega)
      have e7 : wr.cell? ⟨g, o + j * 8 + 7, none⟩ = some (.slice A8 u.items.length c8) := hcell 7 (by omega)
      obtain ⟨w2, hw2⟩ : ∃ W, wr.alloc (.cells #[.bool u.contract, .string (str u.name), .slice A5 n5 c5, .string (str u.out.name), .int .i64 u.out.ty, .slice A6 n6 c6, .slice A7 u.eqs.length c7, .slice A8 u.items.length c8] 58) = W := ⟨_, rfl⟩
      have hb2 : Below wr.heap.size wr w2 := hw2 ▸ below_new wr _
      have hX2 : w2.heap[wr.heap.size]? = some (.cells #[.bool u.contract, .string (str u.name), .slice A5 n5 c5, .string (str u.out.name), .int .i64 u.out.ty, .slice A6 n6 c6, .slice A7 u.eqs.length c7, .slice A8 u.items.length c8] 58 (0, 0)) := hw2 ▸ heap_alloc_new wr _
      have lz2 := lt_of_block hX2
      have HZ6 : Hid (∀ wq, Below w2.heap.size w2 wq → wq.cell? ⟨wr.heap.size, 6, none⟩ = some (.slice A7 u.eqs.length c7)) := Lib.hid (fun wq h => (h.cell (p := ⟨wr.heap.size, 6, none⟩) lz2).trans ((cell_at hX2 6).trans rfl))
      have HZ7 : Hid (∀ wq, Below w2.heap.size w2 wq → wq.cell? ⟨wr.heap.size, 7, none⟩ = some (.slice A8 u.items.length c8)) := Lib.hid (fun wq h => (h.cell (p := ⟨wr.heap.size, 7, none⟩) lz2).trans ((cell_at hX2 7).trans rfl))
      have HLZ : Hid (∀ wq, Below w2.heap.size w2 wq → wr.heap.size < wq.heap.size) := Lib.hid (fun wq h => by have := h.size; omega)
      have HB2 := Lib.hid (HB.out.trans (hb2.mono hsr))
      have HS12 : Hid (w1.heap.size ≤ w2.heap.size) := Lib.hid (by have := hb2.size; omega)
      have HQ2 := Lib.hid (h3.below hb2 (EqnN.below hb2))
      have HL2 := Lib.hid (h4.below hb2 (ItmN.below hb2))
      have HX02 : Hid (∀ wq, Below w2.heap.size w2 wq → wq.cell? ⟨w.heap.size, 0, none⟩ = some (.slice (some ⟨g, o, none⟩) us.length c3) ∧ w.heap.size < wq.heap.size ∧ w.heap.size + 1 < wq.heap.size) := Lib.hid (fun wq h => by
        have h5 := HB2.out.trans (h.mono HS12.out)
        exact ⟨(h5.cell (p := ⟨w.heap.size, 0, none⟩) lx).trans HX0.out, by have := h5.size; omega, by have := h5.size; omega⟩)
      have HD := Lib.hid (checkF_drop he)
      obtain ⟨z, hz⟩ : ∃ z, unitM u = z := ⟨_, rfl⟩
      have HDD : Hid (R = if z ≠ 0 then (z, (j : Int)) else checkF (j + 1) (us.drop (j + 1))) := Lib.hid (by rw [← HMM.out, HD.out, hz])
      have HZA : Hid (firstE ((u.eqs.map (·.e) ++ u.items.flatMap itemE).drop 0) = z) := Lib.hid (by rw [← hz]; exact (unit_all u).symm)
      have z6 := HZ6.out _ (Below.refl _ _)
      clear hcell h1 h2 h3 h4 hX2 he hz hb2 hu32
      go_wp2
      clear e0 e1 e2 e3 e4 e5 e6 e7 z6
      go_loopw [5, 6] (fun ov c wq => ∃ k : Nat, k ≤ u.eqs.length ∧ c = .int .i64 k ∧ Below w2.heap.size w2 wq ∧ ∃ l vals, OL w2 w2.heap.size wq ov l vals ∧ l = (u.eqs.take k).map (·.e)) (fun ov c _ => u.eqs.length - (intOf c).toNat)
      case atStart => exact ⟨0, Nat.zero_le _, rfl, Below.refl _ _, [], [], OL.nil _ _ _, by simp⟩
      case round =>
        obtain ⟨k, hk, rfl, hbq, l, vals, hol, hll⟩ := hrel
        have HBQ := Lib.hid hbq
        have HOL := Lib.hid hol
        have HLL := Lib.hid hll
        have z6 := HZ6.out _ hbq
        have lq := HLZ.out _ hbq
        have hsq := hbq.size
        have hln : l.length ≤ k := by rw [hll]; simp; omega
        clear hbq hol hll
        by_cases hlt2 : k < u.eqs.length
        · obtain ⟨q, hq⟩ : ∃ q, u.eqs[k]? = some q := ⟨_, List.getElem?_eq_getElem hlt2⟩
          have HT : Hid ((u.eqs.take (k + 1)).map (·.e) = l ++ [q.e]) := Lib.hid (by rw [take_snoc hq, List.map_append, HLL.out]; rfl)
          obtain ⟨g2, o2, cc2, x2, hov2, hg2, ⟨ev, rfl, hp, -⟩, -, hcell2⟩ := rown_at HQ2.out hq
          simp only [Value.slice.injEq] at hov2
          obtain ⟨rfl, -, rfl⟩ := hov2
          have HP := Lib.hid hp
          obtain ⟨A9, c9, rfl, v1, v2⟩ := nodesz_form hp
          have f1 : wr.cell? ⟨g2, o2 + k * 2 + 1, none⟩ = some (.slice A9 q.e.length c9) := (HBQ.out.cell (p := ⟨g2, o2 + k * 2 + 1, none⟩) hg2).trans (hcell2 1 (by omega))
          have lg : g2 < wr.heap.size := by omega
          clear hcell2 hp hq
          go_wp2_with (at_builtin; refine wpList_append_own _ rfl (.tmp 31) (.tmp 38) 38 rfl w2.heap.size 23 i0 _ 1 24 Try.underlying38 hi hz0 hz1 hz2 rfl (by decide) _ l.length vals rfl (HOL.out.own.alloc _) ⟨wr.heap.size, 0, none⟩ 1 1 [.slice A9 q.e.length c9] rfl rfl ?a1 ?b1 ?c1 ?d1 ?e1 ?_)
          case a1 => first | exact (fun j u h => h) | exact news_new _ #[.slice A9 q.e.length c9] _ [.slice A9 q.e.length c9] rfl rfl
          case b1 => simp [Value.oneCell']
          case c1 => unfold maxLen; omega
          case d1 => omega
          case e1 => simp; omega
          intro v3 w3 hown3 hg3 _
          have HB3 := Lib.hid (HOL.out.grow HBQ.out hsq hg3)
          have HOL3 := Lib.hid ((HOL.out.snoc HP.out hown3).to HT.out.symm)
          clear hown3 hg3
          go_wp2
          refine ⟨⟨k + 1, by omega, by go_num, HB3.out, _, _, HOL3.out, rfl⟩, by simp [intOf]; omega⟩
        · have hkl : k = u.eqs.length := by omega
          subst hkl
          have z7 := HZ7.out _ HBQ.out
          have HL0 : Hid (l = u.eqs.map (·.e) ++ (u.items.take 0).flatMap itemE) := Lib.hid (by rw [HLL.out, List.take_length]; simp)
          go_wp2
          clear z7 z6
          go_loopw [5, 7] (fun ov c wq => ∃ k : Nat, k ≤ u.items.length ∧ c = .int .i64 k ∧ Below w2.heap.size w2 wq ∧ ∃ l vals, OL w2 w2.heap.size wq ov l vals ∧ l = u.eqs.map (·.e) ++ (u.items.take k).flatMap itemE) (fun ov c _ => u.items.length - (intOf c).toNat)
          case atStart => exact ⟨0, Nat.zero_le _, rfl, HBQ.out, l, vals, HOL.out, HL0.out⟩
          case round =>
            obtain ⟨k, hk, rfl, hbq, l, vals, hol, hll⟩ := hrel
            have HBQ := Lib.hid hbq
            have HOL := Lib.hid hol
            have HLL := Lib.hid hll
            have z7 := HZ7.out _ hbq
            have lq := HLZ.out _ hbq
            have hsq := hbq.size
            have hln : l.length ≤ 30 + 32 * 30 := by
              rw [hll, List.length_append, List.length_map]
              have := items_len (u.items.take k) (fun x hx => HU32.out x (List.mem_of_mem_take hx))
              have h2 : (u.items.take k).length ≤ 30 := by simp; omega
              omega
            clear hbq hol hll
            by_cases hlt2 : k < u.items.length
            · obtain ⟨t, hit⟩ : ∃ q, u.items[k]? = some q := ⟨_, List.getElem?_eq_getElem hlt2⟩
              have HT : Hid (u.eqs.map (·.e) ++ (u.items.take (k + 1)).flatMap itemE = l ++ itemE t) := Lib.hid (by rw [take_snoc hit, List.flatMap_append, ← List.append_assoc, ← HLL.out]; simp)
              have hta := HU32.out t (List.mem_of_getElem? hit)
              obtain ⟨g3, o3, cc3, x3, hov3, hg3, ⟨ev, fv, av, rfl, hp1, hp2, hp3, -⟩, -, hcell⟩ := rown_at HL2.out hit
              simp only [Value.slice.injEq] at hov3
              obtain ⟨rfl, -, rfl⟩ := hov3
              have HP1 := Lib.hid hp1
              have HP2 := Lib.hid hp2
              have HP3 := Lib.hid hp3
              obtain ⟨A10, c10, rfl, v1, v2⟩ := nodesz_form hp1
              obtain ⟨A11, c11, rfl, v3, v4⟩ := nodesz_form hp2
              obtain ⟨A12, c12, rfl, v5, v6, -⟩ := rown_form hp3
              unfold maxLen at v2 v4 v6
              have hce : ∀ i, i < 6 → wr.cell? ⟨g3, o3 + k * 6 + i, none⟩ = w2.cell? ⟨g3, o3 + k * 6 + i, none⟩ := fun i _ => HBQ.out.cell (p := ⟨g3, o3 + k * 6 + i, none⟩) hg3
              have e0 : wr.cell? ⟨g3, o3 + k * 6, none⟩ = some (.int .i64 t.kind) := (hce 0 (by omega)).trans (hcell 0 (by omega))
              have e1 : wr.cell? ⟨g3, o3 + k * 6 + 1, none⟩ = some (.string (str t.name)) := (hce 1 (by omega)).trans (hcell 1 (by omega))
              have e2 : wr.cell? ⟨g3, o3 + k * 6 + 2, none⟩ = some (.int .i64 t.ty) := (hce 2 (by omega)).trans (hcell 2 (by omega))
              have e3 : wr.cell? ⟨g3, o3 + k * 6 + 3, none⟩ = some (.slice A10 t.e.length c10) := (hce 3 (by omega)).trans (hcell 3 (by omega))
              have e4 : wr.cell? ⟨g3, o3 + k * 6 + 4, none⟩ = some (.slice A11 t.f.length c11) := (hce 4 (by omega)).trans (hcell 4 (by omega))
              have e5 : wr.cell? ⟨g3, o3 + k * 6 + 5, none⟩ = some (.slice A12 t.args.length c12) := (hce 5 (by omega)).trans (hcell 5 (by omega))
              have lg : g3 < wr.heap.size := by omega
              obtain ⟨w3, hw3⟩ : ∃ W, wr.alloc (.cells #[.int .i64 t.kind, .string (str t.name), .int .i64 t.ty, .slice A10 t.e.length c10, .slice A11 t.f.length c11, .slice A12 t.args.length c12] 62) = W := ⟨_, rfl⟩
              have hb3 : Below wr.heap.size wr w3 := hw3 ▸ below_new wr _
              have hX3 : w3.heap[wr.heap.size]? = some (.cells #[.int .i64 t.kind, .string (str t.name), .int .i64 t.ty, .slice A10 t.e.length c10, .slice A11 t.f.length c11, .slice A12 t.args.length c12] 62 (0, 0)) := hw3 ▸ heap_alloc_new wr _
              have HX3 := Lib.hid hX3
              have HOL3 : Hid (OL w2 w2.heap.size w3 _ l vals) := Lib.hid (hw3 ▸ HOL.out.alloc _)
              have HB3 := Lib.hid (HBQ.out.trans (hb3.mono hsq))
              have s3 : w2.heap.size ≤ w3.heap.size := by have := hb3.size; omega
              have z3 : w3.cell? ⟨wr.heap.size, 3, none⟩ = some (.slice A10 t.e.length c10) := (cell_at hX3 3).trans rfl
              have l3 := lt_of_block hX3
              have hmine : ∀ (wq : World), wq.heap[wr.heap.size]? = some (.cells #[.int .i64 t.kind, .string (str t.name), .int .i64 t.ty, .slice A10 t.e.length c10, .slice A11 t.f.length c11, .slice A12 t.args.length c12] 62 (0, 0)) →
                  wq.cell? ⟨wr.heap.size, 4, none⟩ = some (.slice A11 t.f.length c11) ∧ wq.cell? ⟨wr.heap.size, 5, none⟩ = some (.slice A12 t.args.length c12) ∧ wr.heap.size < wq.heap.size := fun wq h => ⟨(cell_at h 4).trans rfl, (cell_at h 5).trans rfl, lt_of_block h⟩
              have HMINE := Lib.hid hmine
              clear hcell hp1 hp2 hp3 hb3 hX3 hce hmine hit
              by_cases te : t.e = []
              · have TE := Lib.hid te
                have hd : decide ((0 : Int) < t.e.length) = false := by simp [TE.out]
                have hd2 : decide (0 < t.e.length) = false := by simp [TE.out]
                clear te
                obtain ⟨z4, -, lb4⟩ := HMINE.out w3 HX3.out
                by_cases tf : t.f = []
                · have TF := Lib.hid tf
                  have hfd : decide ((0 : Int) < t.f.length) = false := by simp [TF.out]
                  have hfd2 : decide (0 < t.f.length) = false := by simp [TF.out]
                  clear tf
                  have HL4 : Hid (l = l ++ some1 t.e ++ some1 t.f ++ someL (t.args.take 0)) := Lib.hid (by simp [some1, TE.out, TF.out, someL])
                  have z5 := (HMINE.out w3 HX3.out).2.1
                  go_wp2
                  clear hfd hfd2
                  go_loopw [5, 9] (fun ov c ws => ∃ i : Nat, i ≤ t.args.length ∧ c = .int .i64 i ∧ Below w2.heap.size w2 ws ∧ ws.heap[wr.heap.size]? = some (.cells #[.int .i64 t.kind, .string (str t.name), .int .i64 t.ty, .slice A10 t.e.length c10, .slice A11 t.f.length c11, .slice A12 t.args.length c12] 62 (0, 0)) ∧ ∃ l' vals', OL w2 w2.heap.size ws ov l' vals' ∧ l'.length ≤ 30 + 32 * 30 + 2 + i ∧ l' = l ++ some1 t.e ++ some1 t.f ++ someL (t.args.take i)) (fun ov c _ => t.args.length - (intOf c).toNat)
                  case atStart => exact ⟨0, Nat.zero_le _, rfl, HB3.out, HX3.out, _, _, HOL3.out, by omega, HL4.out⟩
                  case round =>
                    obtain ⟨i, hi2, rfl, hbs, hxs, l', vals', hol', hln', hll'⟩ := hrel
                    have HBS := Lib.hid hbs
                    have HXS := Lib.hid hxs
                    have HOS := Lib.hid hol'
                    have HLS := Lib.hid hll'
                    obtain ⟨-, z5, lb⟩ := HMINE.out _ hxs
                    have hss := hbs.size
                    clear hbs hxs hol' hll'
                    by_cases hlt3 : i < t.args.length
                    · obtain ⟨a, ha⟩ : ∃ q, t.args[i]? = some q := ⟨_, List.getElem?_eq_getElem hlt3⟩
                      have HTA : Hid (someL (t.args.take (i + 1)) = someL (t.args.take i) ++ some1 a) := Lib.hid (by unfold someL; rw [take_snoc ha, List.flatMap_append]; simp)
                      obtain ⟨g4, o4, cc4, x4, hov4, hg4, ⟨ev, rfl, hp, -⟩, -, hcell4⟩ := rown_at HP3.out ha
                      simp only [Value.slice.injEq] at hov4
                      obtain ⟨rfl, -, rfl⟩ := hov4
                      have HP4 := Lib.hid hp
                      obtain ⟨A13, c13, rfl, v7, v8⟩ := nodesz_form hp
                      have f1 : wr.cell? ⟨g4, o4 + i, none⟩ = some (.slice A13 a.length c13) := (HBS.out.cell (p := ⟨g4, o4 + i, none⟩) hg4).trans (by have := hcell4 0 (by omega); rw [Nat.mul_one] at this; exact this)
                      have lg4 : g4 < wr.heap.size := by omega
                      clear hcell4 hp ha
                      by_cases ta : a = []
                      · have TA := Lib.hid ta
                        have hd : decide ((0 : Int) < a.length) = false := by simp [TA.out]
                        have hd2 : decide (0 < a.length) = false := by simp [TA.out]
                        have HN : Hid (l' = l ++ some1 t.e ++ some1 t.f ++ someL (t.args.take (i + 1))) := Lib.hid (by rw [HTA.out, HLS.out]; simp [some1, TA.out])
                        clear ta
                        go_wp2
                        exact ⟨⟨i + 1, by omega, by go_num, HBS.out, HXS.out, _, _, HOS.out, by omega, HN.out⟩, by simp [intOf]; omega⟩
                      · have TA := Lib.hid ta
                        have ta0 : a.length ≠ 0 := fun h => TA.out (List.length_eq_zero_iff.1 h)
                        clear ta
                        have hd : decide ((0 : Int) < a.length) = true := by simp; omega
                        have hd2 : decide (0 < a.length) = true := by simp; omega
                        clear ta0
                        go_wp2_with (at_builtin; refine wpList_append_own _ rfl (.tmp 84) (.tmp 90) 38 rfl w2.heap.size 23 i0 _ 1 24 Try.underlying38 hi hz0 hz1 hz2 rfl (by decide) _ l'.length vals' rfl (HOS.out.own.alloc _) ⟨wr.heap.size, 0, none⟩ 1 1 [.slice A13 a.length c13] rfl rfl ?a2 ?b2 ?c2 ?d2 ?e2 ?_)
                        case a2 => first | exact (fun j u h => h) | exact news_new _ #[.slice A13 a.length c13] _ [.slice A13 a.length c13] rfl rfl
                        case b2 => simp [Value.oneCell']
                        case c2 => unfold maxLen; omega
                        case d2 => omega
                        case e2 => simp; omega
                        intro v9 w9 hown hg _
                        have Hw9B := Lib.hid (HOS.out.grow HBS.out hss hg)
                        have Hw9X := Lib.hid (HOS.out.blk HXS.out (by decide) hg)
                        obtain ⟨l9, hnl⟩ : ∃ L, l' ++ [a] = L := ⟨_, rfl⟩
                        obtain ⟨vals9, Hw9O⟩ : ∃ V, Hid (OL w2 w2.heap.size w9 v9 l9 V) := ⟨_, Lib.hid ((HOS.out.snoc HP4.out hown).to hnl)⟩
                        have Hw9L := Lib.hid hnl
                        have sw9 := Hw9B.out.size
                        have nw9 : l9.length ≤ l'.length + 1 := by rw [← hnl]; simp
                        clear hown hg hnl
                        have HN : Hid (l9 = l ++ some1 t.e ++ some1 t.f ++ someL (t.args.take (i + 1))) := Lib.hid (by rw [← Hw9L.out, HTA.out, HLS.out]; simp [some1, TA.out])
                        go_wp2
                        exact ⟨⟨i + 1, by omega, by go_num, Hw9B.out, Hw9X.out, _, _, Hw9O.out, by omega, HN.out⟩, by simp [intOf]; omega⟩
                    · have hil : i = t.args.length := by omega
                      subst hil
                      have HN : Hid (l' = u.eqs.map (·.e) ++ (u.items.take (k + 1)).flatMap itemE) := Lib.hid (by rw [HT.out, HLS.out, List.take_length]; simp [itemE])
                      go_wp2
                      exact ⟨⟨k + 1, by omega, by go_num, HBS.out, _, _, HOS.out, HN.out⟩, by simp [intOf]; omega⟩
                · have TF := Lib.hid tf
                  have tf0 : t.f.length ≠ 0 := fun h => TF.out (List.length_eq_zero_iff.1 h)
                  clear tf
                  have hfd : decide ((0 : Int) < t.f.length) = true := by simp; omega
                  have hfd2 : decide (0 < t.f.length) = true := by simp; omega
                  clear tf0
                  go_wp2_with (at_builtin; refine wpList_append_own _ rfl (.tmp 65) (.tmp 68) 38 rfl w2.heap.size 23 i0 _ 1 24 Try.underlying38 hi hz0 hz1 hz2 rfl (by decide) _ l.length vals rfl (HOL3.out.own.alloc _) ⟨w3.heap.size, 0, none⟩ 1 1 [.slice A11 t.f.length c11] rfl rfl ?a3 ?b3 ?c3 ?d3 ?e3 ?_)
                  case a3 => first | exact (fun j u h => h) | exact news_new _ #[.slice A11 t.f.length c11] _ [.slice A11 t.f.length c11] rfl rfl
                  case b3 => simp [Value.oneCell']
                  case c3 => unfold maxLen; omega
                  case d3 => omega
                  case e3 => simp; omega
                  intro v5 w5 hown hg _
                  have Hw5B := Lib.hid (HOL3.out.grow HB3.out s3 hg)
                  have Hw5X := Lib.hid (HOL3.out.blk HX3.out (by decide) hg)
                  obtain ⟨l5, hnl⟩ : ∃ L, l ++ [t.f] = L := ⟨_, rfl⟩
                  obtain ⟨vals5, Hw5O⟩ : ∃ V, Hid (OL w2 w2.heap.size w5 v5 l5 V) := ⟨_, Lib.hid ((HOL3.out.snoc HP2.out hown).to hnl)⟩
                  have Hw5L := Lib.hid hnl
                  have sw5 := Hw5B.out.size
                  have nw5 : l5.length ≤ l.length + 1 := by rw [← hnl]; simp
                  clear hown hg hnl
                  have HL4 : Hid (l5 = l ++ some1 t.e ++ some1 t.f ++ someL (t.args.take 0)) := Lib.hid (by rw [← Hw5L.out]; simp [some1, TE.out, TF.out, someL])
                  have z5 := (HMINE.out w5 Hw5X.out).2.1
                  have lb5 := (HMINE.out w5 Hw5X.out).2.2
                  go_wp2
                  clear hfd hfd2
                  go_loopw [5, 9] (fun ov c ws => ∃ i : Nat, i ≤ t.args.length ∧ c = .int .i64 i ∧ Below w2.heap.size w2 ws ∧ ws.heap[wr.heap.size]? = some (.cells #[.int .i64 t.kind, .string (str t.name), .int .i64 t.ty, .slice A10 t.e.length c10, .slice A11 t.f.length c11, .slice A12 t.args.length c12] 62 (0, 0)) ∧ ∃ l' vals', OL w2 w2.heap.size ws ov l' vals' ∧ l'.length ≤ 30 + 32 * 30 + 2 + i ∧ l' = l ++ some1 t.e ++ some1 t.f ++ someL (t.args.take i)) (fun ov c _ => t.args.length - (intOf c).toNat)
                  case atStart => exact ⟨0, Nat.zero_le _, rfl, Hw5B.out, Hw5X.out, _, _, Hw5O.out, by omega, HL4.out⟩
                  case round =>
                    obtain ⟨i, hi2, rfl, hbs, hxs, l', vals', hol', hln', hll'⟩ := hrel
                    have HBS := Lib.hid hbs
                    have HXS := Lib.hid hxs
                    have HOS := Lib.hid hol'
                    have HLS := Lib.hid hll'
                    obtain ⟨-, z5, lb⟩ := HMINE.out _ hxs
                    have hss := hbs.size
                    clear hbs hxs hol' hll'
                    by_cases hlt3 : i < t.args.length
                    · obtain ⟨a, ha⟩ : ∃ q, t.args[i]? = some q := ⟨_, List.getElem?_eq_getElem hlt3⟩
                      have HTA : Hid (someL (t.args.take (i + 1)) = someL (t.args.take i) ++ some1 a) := Lib.hid (by unfold someL; rw [take_snoc ha, List.flatMap_append]; simp)
                      obtain ⟨g4, o4, cc4, x4, hov4, hg4, ⟨ev, rfl, hp, -⟩, -, hcell4⟩ := rown_at HP3.out ha
                      simp only [Value.slice.injEq] at hov4
                      obtain ⟨rfl, -, rfl⟩ := hov4
                      have HP4 := Lib.hid hp
                      obtain ⟨A13, c13, rfl, v7, v8⟩ := nodesz_form hp
                      have f1 : wr.cell? ⟨g4, o4 + i, none⟩ = some (.slice A13 a.length c13) := (HBS.out.cell (p := ⟨g4, o4 + i, none⟩) hg4).trans (by have := hcell4 0 (by omega); rw [Nat.mul_one] at this; exact this)
                      have lg4 : g4 < wr.heap.size := by omega
                      clear hcell4 hp ha
                      by_cases ta : a = []
                      · have TA := Lib.hid ta
                        have hd : decide ((0 : Int) < a.length) = false := by simp [TA.out]
                        have hd2 : decide (0 < a.length) = false := by simp [TA.out]
                        have HN : Hid (l' = l ++ some1 t.e ++ some1 t.f ++ someL (t.args.take (i + 1))) := Lib.hid (by rw [HTA.out, HLS.out]; simp [some1, TA.out])
                        clear ta
                        go_wp2
                        exact ⟨⟨i + 1, by omega, by go_num, HBS.out, HXS.out, _, _, HOS.out, by omega, HN.out⟩, by simp [intOf]; omega⟩
                      · have TA := Lib.hid ta
                        have ta0 : a.length ≠ 0 := fun h => TA.out (List.length_eq_zero_iff.1 h)
                        clear ta
                        have hd : decide ((0 : Int) < a.length) = true := by simp; omega
                        have hd2 : decide (0 < a.length) = true := by simp; omega
                        clear ta0
                        go_wp2_with (at_builtin; refine wpList_append_own _ rfl (.tmp 84) (.tmp 90) 38 rfl w2.heap.size 23 i0 _ 1 24 Try.underlying38 hi hz0 hz1 hz2 rfl (by decide) _ l'.length vals' rfl (HOS.out.own.alloc _) ⟨wr.heap.size, 0, none⟩ 1 1 [.slice A13 a.length c13] rfl rfl ?a4 ?b4 ?c4 ?d4 ?e4 ?_)
                        case a4 => first | exact (fun j u h => h) | exact news_new _ #[.slice A13 a.length c13] _ [.slice A13 a.length c13] rfl rfl
                        case b4 => simp [Value.oneCell']
                        case c4 => unfold maxLen; omega
                        case d4 => omega
                        case e4 => simp; omega
                        intro v9 w9 hown hg _
                        have Hw9B := Lib.hid (HOS.out.grow HBS.out hss hg)
                        have Hw9X := Lib.hid (HOS.out.blk HXS.out (by decide) hg)
                        obtain ⟨l9, hnl⟩ : ∃ L, l' ++ [a] = L := ⟨_, rfl⟩
                        obtain ⟨vals9, Hw9O⟩ : ∃ V, Hid (OL w2 w2.heap.size w9 v9 l9 V) := ⟨_, Lib.hid ((HOS.out.snoc HP4.out hown).to hnl)⟩
                        have Hw9L := Lib.hid hnl
                        have sw9 := Hw9B.out.size
                        have nw9 : l9.length ≤ l'.length + 1 := by rw [← hnl]; simp
                        clear hown hg hnl
                        have HN : Hid (l9 = l ++ some1 t.e ++ some1 t.f ++ someL (t.args.take (i + 1))) := Lib.hid (by rw [← Hw9L.out, HTA.out, HLS.out]; simp [some1, TA.out])
                        go_wp2
                        exact ⟨⟨i + 1, by omega, by go_num, Hw9B.out, Hw9X.out, _, _, Hw9O.out, by omega, HN.out⟩, by simp [intOf]; omega⟩
                    · have hil : i = t.args.length := by omega
                      subst hil
                      have HN : Hid (l' = u.eqs.map (·.e) ++ (u.items.take (k + 1)).flatMap itemE) := Lib.hid (by rw [HT.out, HLS.out, List.take_length]; simp [itemE])
                      go_wp2
                      exact ⟨⟨k + 1, by omega, by go_num, HBS.out, _, _, HOS.out, HN.out⟩, by simp [intOf]; omega⟩
              · have TE := Lib.hid te
                have te0 : t.e.length ≠ 0 := fun h => TE.out (List.length_eq_zero_iff.1 h)
                clear te
                have hd : decide ((0 : Int) < t.e.length) = true := by simp; omega
                have hd2 : decide (0 < t.e.length) = true := by simp; omega
                clear te0
                go_wp2_with (at_builtin; refine wpList_append_own _ rfl (.tmp 56) (.tmp 59) 38 rfl w2.heap.size 23 i0 _ 1 24 Try.underlying38 hi hz0 hz1 hz2 rfl (by decide) _ l.length vals rfl (HOL3.out.own.alloc _) ⟨w3.heap.size, 0, none⟩ 1 1 [.slice A10 t.e.length c10] rfl rfl ?a5 ?b5 ?c5 ?d5 ?e5 ?_)
                case a5 => first | exact (fun j u h => h) | exact news_new _ #[.slice A10 t.e.length c10] _ [.slice A10 t.e.length c10] rfl rfl
                case b5 => simp [Value.oneCell']
                case c5 => unfold maxLen; omega
                case d5 => omega
                case e5 => simp; omega
                intro v4 w4 hown hg _
                have Hw4B := Lib.hid (HOL3.out.grow HB3.out s3 hg)
                have Hw4X := Lib.hid (HOL3.out.blk HX3.out (by decide) hg)
                obtain ⟨l4, hnl⟩ : ∃ L, l ++ [t.e] = L := ⟨_, rfl⟩
                obtain ⟨vals4, Hw4O⟩ : ∃ V, Hid (OL w2 w2.heap.size w4 v4 l4 V) := ⟨_, Lib.hid ((HOL3.out.snoc HP1.out hown).to hnl)⟩
                have Hw4L := Lib.hid hnl
                have sw4 := Hw4B.out.size
                have nw4 : l4.length ≤ l.length + 1 := by rw [← hnl]; simp
                clear hown hg hnl
                obtain ⟨z4, -, lb4⟩ := HMINE.out w4 Hw4X.out
                by_cases tf : t.f = []
                · have TF := Lib.hid tf
                  have hfd : decide ((0 : Int) < t.f.length) = false := by simp [TF.out]
                  have hfd2 : decide (0 < t.f.length) = false := by simp [TF.out]
                  clear tf
                  have HL4 : Hid (l4 = l ++ some1 t.e ++ some1 t.f ++ someL (t.args.take 0)) := Lib.hid (by (try rw [← Hw4L.out]); simp [some1, TE.out, TF.out, someL])
                  have z5 := (HMINE.out w4 Hw4X.out).2.1
                  go_wp2
                  clear hfd hfd2
                  go_loopw [5, 9] (fun ov c ws => ∃ i : Nat, i ≤ t.args.length ∧ c = .int .i64 i ∧ Below w2.heap.size w2 ws ∧ ws.heap[wr.heap.size]? = some (.cells #[.int .i64 t.kind, .string (str t.name), .int .i64 t.ty, .slice A10 t.e.length c10, .slice A11 t.f.length c11, .slice A12 t.args.length c12] 62 (0, 0)) ∧ ∃ l' vals', OL w2 w2.heap.size ws ov l' vals' ∧ l'.length ≤ 30 + 32 * 30 + 2 + i ∧ l' = l ++ some1 t.e ++ some1 t.f ++ someL (t.args.take i)) (fun ov c _ => t.args.length - (intOf c).toNat)
                  case atStart => exact ⟨0, Nat.zero_le _, rfl, Hw4B.out, Hw4X.out, _, _, Hw4O.out, by omega, HL4.out⟩
                  case round =>
                    obtain ⟨i, hi2, rfl, hbs, hxs, l', vals', hol', hln', hll'⟩ := hrel
                    have HBS := Lib.hid hbs
                    have HXS := Lib.hid hxs
                    have HOS := Lib.hid hol'
                    have HLS := Lib.hid hll'
                    obtain ⟨-, z5, lb⟩ := HMINE.out _ hxs
                    have hss := hbs.size
                    clear hbs hxs hol' hll'
                    by_cases hlt3 : i < t.args.length
                    · obtain ⟨a, ha⟩ : ∃ q, t.args[i]? = some q := ⟨_, List.getElem?_eq_getElem hlt3⟩
                      have HTA : Hid (someL (t.args.take (i + 1)) = someL (t.args.take i) ++ some1 a) := Lib.hid (by unfold someL; rw [take_snoc ha, List.flatMap_append]; simp)
                      obtain ⟨g4, o4, cc4, x4, hov4, hg4, ⟨ev, rfl, hp, -⟩, -, hcell4⟩ := rown_at HP3.out ha
                      simp only [Value.slice.injEq] at hov4
                      obtain ⟨rfl, -, rfl⟩ := hov4
                      have HP4 := Lib.hid hp
                      obtain ⟨A13, c13, rfl, v7, v8⟩ := nodesz_form hp
                      have f1 : wr.cell? ⟨g4, o4 + i, none⟩ = some (.slice A13 a.length c13) := (HBS.out.cell (p := ⟨g4, o4 + i, none⟩) hg4).trans (by have := hcell4 0 (by omega); rw [Nat.mul_one] at this; exact this)
                      have lg4 : g4 < wr.heap.size := by omega
                      clear hcell4 hp ha
                      by_cases ta : a = []
                      · have TA := Lib.hid ta
                        have hd : decide ((0 : Int) < a.length) = false := by simp [TA.out]
                        have hd2 : decide (0 < a.length) = false := by simp [TA.out]
                        have HN : Hid (l' = l ++ some1 t.e ++ some1 t.f ++ someL (t.args.take (i + 1))) := Lib.hid (by rw [HTA.out, HLS.out]; simp [some1, TA.out])
                        clear ta
                        go_wp2
                        exact ⟨⟨i + 1, by omega, by go_num, HBS.out, HXS.out, _, _, HOS.out, by omega, HN.out⟩, by simp [intOf]; omega⟩
                      · have TA := Lib.hid ta
                        have ta0 : a.length ≠ 0 := fun h => TA.out (List.length_eq_zero_iff.1 h)
                        clear ta
                        have hd : decide ((0 : Int) < a.length) = true := by simp; omega
                        have hd2 : decide (0 < a.length) = true := by simp; omega
                        clear ta0
                        go_wp2_with (at_builtin; refine wpList_append_own _ rfl (.tmp 84) (.tmp 90) 38 rfl w2.heap.size 23 i0 _ 1 24 Try.underlying38 hi hz0 hz1 hz2 rfl (by decide) _ l'.length vals' rfl (HOS.out.own.alloc _) ⟨wr.heap.size, 0, none⟩ 1 1 [.slice A13 a.length c13] rfl rfl ?a6 ?b6 ?c6 ?d6 ?e6 ?_)
                        case a6 => first | exact (fun j u h => h) | exact news_new _ #[.slice A13 a.length c13] _ [.slice A13 a.length c13] rfl rfl
                        case b6 => simp [Value.oneCell']
                        case c6 => unfold maxLen; omega
                        case d6 => omega
                        case e6 => simp; omega
                        intro v9 w9 hown hg _
                        have Hw9B := Lib.hid (HOS.out.grow HBS.out hss hg)
                        have Hw9X := Lib.hid (HOS.out.blk HXS.out (by decide) hg)
                        obtain ⟨l9, hnl⟩ : ∃ L, l' ++ [a] = L := ⟨_, rfl⟩
                        obtain ⟨vals9, Hw9O⟩ : ∃ V, Hid (OL w2 w2.heap.size w9 v9 l9 V) := ⟨_, Lib.hid ((HOS.out.snoc HP4.out hown).to hnl)⟩
                        have Hw9L := Lib.hid hnl
                        have sw9 := Hw9B.out.size
                        have nw9 : l9.length ≤ l'.length + 1 := by rw [← hnl]; simp
                        clear hown hg hnl
                        have HN : Hid (l9 = l ++ some1 t.e ++ some1 t.f ++ someL (t.args.take (i + 1))) := Lib.hid (by rw [← Hw9L.out, HTA.out, HLS.out]; simp [some1, TA.out])
                        go_wp2
                        exact ⟨⟨i + 1, by omega, by go_num, Hw9B.out, Hw9X.out, _, _, Hw9O.out, by omega, HN.out⟩, by simp [intOf]; omega⟩
                    · have hil : i = t.args.length := by omega
                      subst hil
                      have HN : Hid (l' = u.eqs.map (·.e) ++ (u.items.take (k + 1)).flatMap itemE) := Lib.hid (by rw [HT.out, HLS.out, List.take_length]; simp [itemE])
                      go_wp2
                      exact ⟨⟨k + 1, by omega, by go_num, HBS.out, _, _, HOS.out, HN.out⟩, by simp [intOf]; omega⟩
                · have TF := Lib.hid tf
                  have tf0 : t.f.length ≠ 0 := fun h => TF.out (List.length_eq_zero_iff.1 h)
                  clear tf
                  have hfd : decide ((0 : Int) < t.f.length) = true := by simp; omega
                  have hfd2 : decide (0 < t.f.length) = true := by simp; omega
                  clear tf0
                  go_wp2_with (at_builtin; refine wpList_append_own _ rfl (.tmp 65) (.tmp 68) 38 rfl w2.heap.size 23 i0 _ 1 24 Try.underlying38 hi hz0 hz1 hz2 rfl (by decide) _ l4.length vals4 rfl (Hw4O.out.own.alloc _) ⟨w4.heap.size, 0, none⟩ 1 1 [.slice A11 t.f.length c11] rfl rfl ?a7 ?b7 ?c7 ?d7 ?e7 ?_)
                  case a7 => first | exact (fun j u h => h) | exact news_new _ #[.slice A11 t.f.length c11] _ [.slice A11 t.f.length c11] rfl rfl
                  case b7 => simp [Value.oneCell']
                  case c7 => unfold maxLen; omega
                  case d7 => omega
                  case e7 => simp; omega
                  intro v5 w5 hown hg _
                  have Hw5B := Lib.hid (Hw4O.out.grow Hw4B.out sw4 hg)
                  have Hw5X := Lib.hid (Hw4O.out.blk Hw4X.out (by decide) hg)
                  obtain ⟨l5, hnl⟩ : ∃ L, l4 ++ [t.f] = L := ⟨_, rfl⟩
                  obtain ⟨vals5, Hw5O⟩ : ∃ V, Hid (OL w2 w2.heap.size w5 v5 l5 V) := ⟨_, Lib.hid ((Hw4O.out.snoc HP2.out hown).to hnl)⟩
                  have Hw5L := Lib.hid hnl
                  have sw5 := Hw5B.out.size
                  have nw5 : l5.length ≤ l4.length + 1 := by rw [← hnl]; simp
                  clear hown hg hnl
                  have HL4 : Hid (l5 = l ++ some1 t.e ++ some1 t.f ++ someL (t.args.take 0)) := Lib.hid (by rw [← Hw5L.out]; (try rw [← Hw4L.out]); simp [some1, TE.out, TF.out, someL])
                  have z5 := (HMINE.out w5 Hw5X.out).2.1
                  have lb5 := (HMINE.out w5 Hw5X.out).2.2
                  go_wp2
                  clear hfd hfd2
                  go_loopw [5, 9] (fun ov c ws => ∃ i : Nat, i ≤ t.args.length ∧ c = .int .i64 i ∧ Below w2.heap.size w2 ws ∧ ws.heap[wr.heap.size]? = some (.cells #[.int .i64 t.kind, .string (str t.name), .int .i64 t.ty, .slice A10 t.e.length c10, .slice A11 t.f.length c11, .slice A12 t.args.length c12] 62 (0, 0)) ∧ ∃ l' vals', OL w2 w2.heap.size ws ov l' vals' ∧ l'.length ≤ 30 + 32 * 30 + 2 + i ∧ l' = l ++ some1 t.e ++ some1 t.f ++ someL (t.args.take i)) (fun ov c _ => t.args.length - (intOf c).toNat)
                  case atStart => exact ⟨0, Nat.zero_le _, rfl, Hw5B.out, Hw5X.out, _, _, Hw5O.out, by omega, HL4.out⟩
                  case round =>
                    obtain ⟨i, hi2, rfl, hbs, hxs, l', vals', hol', hln', hll'⟩ := hrel
                    have HBS := Lib.hid hbs
                    have HXS := Lib.hid hxs
                    have HOS := Lib.hid hol'
                    have HLS := Lib.hid hll'
                    obtain ⟨-, z5, lb⟩ := HMINE.out _ hxs
                    have hss := hbs.size
                    clear hbs hxs hol' hll'
                    by_cases hlt3 : i < t.args.length
                    · obtain ⟨a, ha⟩ : ∃ q, t.args[i]? = some q := ⟨_, List.getElem?_eq_getElem hlt3⟩
                      have HTA : Hid (someL (t.args.take (i + 1)) = someL (t.args.take i) ++ some1 a) := Lib.hid (by unfold someL; rw [take_snoc ha, List.flatMap_append]; simp)
                      obtain ⟨g4, o4, cc4, x4, hov4, hg4, ⟨ev, rfl, hp, -⟩, -, hcell4⟩ := rown_at HP3.out ha
                      simp only [Value.slice.injEq] at hov4
                      obtain ⟨rfl, -, rfl⟩ := hov4
                      have HP4 := Lib.hid hp
                      obtain ⟨A13, c13, rfl, v7, v8⟩ := nodesz_form hp
                      have f1 : wr.cell? ⟨g4, o4 + i, none⟩ = some (.slice A13 a.length c13) := (HBS.out.cell (p := ⟨g4, o4 + i, none⟩) hg4).trans (by have := hcell4 0 (by omega); rw [Nat.mul_one] at this; exact this)
                      have lg4 : g4 < wr.heap.size := by omega
                      clear hcell4 hp ha
                      by_cases ta : a = []
                      · have TA := Lib.hid ta
                        have hd : decide ((0 : Int) < a.length) = false := by simp [TA.out]
                        have hd2 : decide (0 < a.length) = false := by simp [TA.out]
                        have HN : Hid (l' = l ++ some1 t.e ++ some1 t.f ++ someL (t.args.take (i + 1))) := Lib.hid (by rw [HTA.out, HLS.out]; simp [some1, TA.out])
                        clear ta
                        go_wp2
                        exact ⟨⟨i + 1, by omega, by go_num, HBS.out, HXS.out, _, _, HOS.out, by omega, HN.out⟩, by simp [intOf]; omega⟩
                      · have TA := Lib.hid ta
                        have ta0 : a.length ≠ 0 := fun h => TA.out (List.length_eq_zero_iff.1 h)
                        clear ta
                        have hd : decide ((0 : Int) < a.length) = true := by simp; omega
                        have hd2 : decide (0 < a.length) = true := by simp; omega
                        clear ta0
                        go_wp2_with (at_builtin; refine wpList_append_own _ rfl (.tmp 84) (.tmp 90) 38 rfl w2.heap.size 23 i0 _ 1 24 Try.underlying38 hi hz0 hz1 hz2 rfl (by decide) _ l'.length vals' rfl (HOS.out.own.alloc _) ⟨wr.heap.size, 0, none⟩ 1 1 [.slice A13 a.length c13] rfl rfl ?a8 ?b8 ?c8 ?d8 ?e8 ?_)
                        case a8 => first | exact (fun j u h => h) | exact news_new _ #[.slice A13 a.length c13] _ [.slice A13 a.length c13] rfl rfl
                        case b8 => simp [Value.oneCell']
                        case c8 => unfold maxLen; omega
                        case d8 => omega
                        case e8 => simp; omega
                        intro v9 w9 hown hg _
                        have Hw9B := Lib.hid (HOS.out.grow HBS.out hss hg)
                        have Hw9X := Lib.hid (HOS.out.blk HXS.out (by decide) hg)
                        obtain ⟨l9, hnl⟩ : ∃ L, l' ++ [a] = L := ⟨_, rfl⟩
                        obtain ⟨vals9, Hw9O⟩ : ∃ V, Hid (OL w2 w2.heap.size w9 v9 l9 V) := ⟨_, Lib.hid ((HOS.out.snoc HP4.out hown).to hnl)⟩
                        have Hw9L := Lib.hid hnl
                        have sw9 := Hw9B.out.size
                        have nw9 : l9.length ≤ l'.length + 1 := by rw [← hnl]; simp
                        clear hown hg hnl
                        have HN : Hid (l9 = l ++ some1 t.e ++ some1 t.f ++ someL (t.args.take (i + 1))) := Lib.hid (by rw [← Hw9L.out, HTA.out, HLS.out]; simp [some1, TA.out])
                        go_wp2
                        exact ⟨⟨i + 1, by omega, by go_num, Hw9B.out, Hw9X.out, _, _, Hw9O.out, by omega, HN.out⟩, by simp [intOf]; omega⟩
                    · have hil : i = t.args.length := by omega
                      subst hil
                      have HN : Hid (l' = u.eqs.map (·.e) ++ (u.items.take (k + 1)).flatMap itemE) := Lib.hid (by rw [HT.out, HLS.out, List.take_length]; simp [itemE])
                      go_wp2
                      exact ⟨⟨k + 1, by omega, by go_num, HBS.out, _, _, HOS.out, HN.out⟩, by simp [intOf]; omega⟩
            · have hkl : k = u.items.length := by omega
              subst hkl
              obtain ⟨A14, c14, rfl, v14, hread⟩ := HOL.out.read
              unfold maxLen at v14
              have HREAD := Lib.hid hread
              have HALL : Hid (firstE (l.drop 0) = z) := Lib.hid (by rw [HLL.out, List.take_length]; exact HZA.out)
              clear hread
              go_wp2
              clear z7
              go_loopw [10] (fun c wt => ∃ i : Nat, i ≤ l.length ∧ c = .int .i64 i ∧ Below wr.heap.size wr wt ∧ firstE (l.drop i) = z) (fun c _ => l.length - (intOf c).toNat)
              case atStart => exact ⟨0, Nat.zero_le _, rfl, Below.refl _ _, HALL.out⟩
              case round =>
                obtain ⟨i, hi2, rfl, hbt, hmt⟩ := hrel
                have HBT := Lib.hid (HBQ.out.trans (hbt.mono hsq))
                have HBT0 := Lib.hid hbt
                have HMT := Lib.hid hmt
                have hst := hbt.size
                clear hbt hmt
                by_cases hlt3 : i < l.length
                · obtain ⟨a, ha⟩ : ∃ q, l[i]? = some q := ⟨_, List.getElem?_eq_getElem hlt3⟩
                  obtain ⟨g5, u5, hA, hg5, hc5, hz5⟩ := HREAD.out i a ha
                  subst hA
                  have HC := Lib.hid (rbegun_any u5 a wr (hz5.below HBT.out).1)
                  obtain ⟨A15, c15, rfl, v15, v16⟩ := nodesz_form hz5
                  unfold maxLen at v16
                  have hc : wr.cell? ⟨g5, i, none⟩ = some (.slice A15 a.length c15) := (HBT0.out.cell (p := ⟨g5, i, none⟩) hg5).trans hc5
                  have hgr : g5 < wr.heap.size := by omega
                  have HD3 := Lib.hid (firstE_drop ha)
                  obtain ⟨y, hy⟩ : ∃ y, begunM a = y := ⟨_, rfl⟩
                  have HYY : Hid (z = if y ≠ 0 then y else firstE (l.drop (i + 1))) := Lib.hid (by rw [← HMT.out, HD3.out, hy])
                  rw [hy] at HC
                  clear hc5 hz5 ha hy
                  go_wp2_with fail
                  refine HC.out.mono ?_
                  rintro r w6 ⟨rfl, hb6⟩
                  have HB6 := Lib.hid (HBT0.out.trans (hb6.mono hst))
                  have HB7 := Lib.hid (HB2.out.trans (((HBT.out.trans (hb6.mono (by omega)))).mono HS12.out))
                  clear hb6
                  by_cases hy0 : y = 0
                  · subst hy0
                    have HN : Hid (firstE (l.drop (i + 1)) = z) := Lib.hid (by rw [HYY.out]; exact (if_neg (by simp)).symm)
                    go_wp2
                    exact ⟨⟨i + 1, by omega, by go_num, HB6.out, HN.out⟩, by simp [intOf]; omega⟩
                  · have hyd : (y != 0) = true := by simpa using hy0
                    have HN : Hid ((y, (j : Int)) = R) := Lib.hid (by
                      have h1 : z = y := by rw [HYY.out, if_pos hy0]
                      rw [HDD.out, h1, if_pos hy0])
                    have hZ3 := (HB7.out.block _ lz).trans HZ.out
                    have p0 : w6.cell? ⟨w.heap.size + 1, 0, none⟩ = some (.int .i64 0) := (cell_at hZ3 0).trans rfl
                    have p1 : w6.cell? ⟨w.heap.size + 1, 1, none⟩ = some (.int .i64 0) := (cell_at hZ3 1).trans rfl
                    have f0 : w6.frozen? ⟨w.heap.size + 1, 0, none⟩ = false := free_at hZ3 0
                    have f1 : w6.frozen? ⟨w.heap.size + 1, 1, none⟩ = false := free_at hZ3 1
                    have HZ3 := Lib.hid hZ3
                    have lz3 := lt_of_block hZ3
                    clear hZ3
                    go_wp2
                    have Z := Go.Proofs.Ytndmhbocfmnhgaa.Rp.blk2 HZ3.out (.int .i64 y) (.int .i64 (j : Int))
                    have z0 := (cell_at Z 0).trans (show _ = some (.int .i64 y) from rfl)
                    have z1 := (cell_at Z 1).trans (show _ = some (.int .i64 (j : Int)) from rfl)
                    clear p0 p1 f0 f1
                    exact bodyPost_ret (v := .agg #[.int .i64 y, .int .i64 (j : Int)]) (by simp [results, Try.results14, go_sem, z0, z1]) rfl (HEND.out w6 y j HB7.out HN.out _ rfl)
                · have hil : i = l.length := by omega
                  have HN : Hid (checkF (j + 1) (us.drop (j + 1)) = R) := Lib.hid (by
                    have h1 : z = 0 := by rw [← HMT.out, hil]; exact firstE_end l
                    rw [HDD.out, if_neg (by simp [h1])])
                  go_wp2
                  exact ⟨⟨j + 1, by omega, by go_num, HB2.out.trans (HBT.out.mono HS12.out), HN.out⟩, by simp [intOf]; omega⟩
    · have hjl : j = us.length := by omega
      subst hjl
      have HN : Hid (((0 : Int), (0 : Int)) = R) := Lib.hid (by rw [← HMM.out, List.drop_length]; rfl)
      have hZ3 := (HB.out.block _ lz).trans HZ.out
      have p0 : wr.cell? ⟨w.heap.size + 1, 0, none⟩ = some (.int .i64 0) := (cell_at hZ3 0).trans rfl
      have p1 : wr.cell? ⟨w.heap.size + 1, 1, none⟩ = some (.int .i64 0) := (cell_at hZ3 1).trans rfl
      have f0 : wr.frozen? ⟨w.heap.size + 1, 0, none⟩ = false := free_at hZ3 0
      have f1 : wr.frozen? ⟨w.heap.size + 1, 1, none⟩ = false := free_at hZ3 1
      have HZ3 := Lib.hid hZ3
      have lz3 := lt_of_block hZ3
      clear hZ3
      go_wp2
      have Z := Go.Proofs.Ytndmhbocfmnhgaa.Rp.blk2 HZ3.out (.int .i64 0) (.int .i64 0)
      have z0 := (cell_at Z 0).trans (show _ = some (.int .i64 0) from rfl)
      have z1 := (cell_at Z 1).trans (show _ = some (.int .i64 0) from rfl)
      clear p0 p1 f0 f1
      exact bodyPost_ret (v := .agg #[.int .i64 0, .int .i64 0]) (by simp [results, Try.results14, go_sem, z0, z1]) rfl (HEND.out wr 0 0 HB.out HN.out _ rfl)
end Go.Proofs.Ytndmhbocfmnhgaa.In

