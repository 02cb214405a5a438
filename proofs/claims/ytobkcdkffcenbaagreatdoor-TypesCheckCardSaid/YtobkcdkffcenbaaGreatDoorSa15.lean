/- A lean reader of programs: Parse. Conditions: as each says. -/
import Derived.Test.YtobkcdkffcenbaaGreatDoorSa14
set_option linter.unusedVariables false
set_option linter.unusedSimpArgs false
namespace Go.Proofs.YtobkcdkffcenbaaGreatDoor.Lp
open Go.ChangeShapes Go.WideShapes Go.ChangeAt Go.RowKit Go.Maps Go.WideMaps
open Go.Proofs.YtobkcdkffcenbaaGreatDoor.Tr (str ret_bool ret_int Bytes Nd Nodes)
open Go.Proofs.YtobkcdkffcenbaaGreatDoor.Lr (isAt run TkAt Mv NdW blk_lt isAt_lt mv_set)
open Go.Proofs.YtobkcdkffcenbaaGreatDoor.Pg (Prm Eqn Itm Unt Stay RowR OList PrmV EqnV ExpV ItmV UntV)
open Go.Proofs.YtobkcdkffcenbaaGreatDoor.Ex (PtW)
theorem two_new (w : World) (o o' : Obj) : Below w.heap.size w ((w.alloc o).alloc o') ∧ ((w.alloc o).alloc o').heap[w.heap.size]? = some o ∧ ((w.alloc o).alloc o').heap[w.heap.size + 1]? = some o' := by
  have hs : (w.alloc o).heap.size = w.heap.size + 1 := by simp
  exact ⟨(below_al w o).trans ((below_al _ o').mono (by omega)), by rw [Below.heap_alloc _ _ _ (by simp)]; exact heap_alloc_new w o, by rw [← hs]; exact heap_alloc_new _ _⟩
theorem P.up0 {w wq w' : World} {b : Nat} {L : List Lx.Tok} {lv : Value} {i : Nat} (h : Below w.heap.size w wq) (hb : w.heap.size ≤ b) (k : P wq w' b L lv i) : Below w.heap.size w w' :=
  ⟨k.mv.os.trans h.os, k.mv.tape.trans h.tape, k.mv.output.trans h.output, Nat.le_trans h.size k.mv.size, fun i hi => (k.mv.block i (Nat.lt_of_lt_of_le hi h.size) (fun e => by injection e; omega)).trans (h.block i hi)⟩
theorem P.undrew {w w' : World} {b : Nat} {L : List Lx.Tok} {lv : Value} {i : Nat} (h : P w.drew w' b L lv i) : P w w' b L lv i := ⟨h.rd, ⟨h.mv.os, h.mv.tape, h.mv.output, h.mv.size, h.mv.block⟩⟩
theorem set_at {W : World} {B k : Nat} {cs cs' : Array Value} {T : TypeId} (h : W.heap[B]? = some (.cells cs T (0, 0))) (v : Value) (he : cs.setIfInBounds k v = cs') : (W.setCell ⟨B, k, none⟩ v).heap[B]? = some (.cells cs' T (0, 0)) := by
  subst he; simp [World.setCell, Array.getElem?_modify, h, Array.setIfInBounds]
theorem own_ne {w : World} {B : Nat} {T : TypeId} {K : Nat} {v : Value} {n : Nat} {xs : List Value} (h : w.ownsRow (B + 1) T K v n xs) : ∀ g, v.ownBlock = some g → g ≠ B := fun g hg e => by have := (h.lt _ hg).1; omega
theorem fin5 {W W' : World} {X Y : Nat} {u0 u1 u2 t0 t1 v0 v1 v2 y0 y1 : Value} (hX : W.heap[X]? = some (.cells #[u0, u1, u2] 24 (0, 0))) (hY : W.heap[Y]? = some (.cells #[t0, t1] 29 (0, 0))) (hne : X ≠ Y) (hW : (((((W.setCell ⟨X, 0, none⟩ v0).setCell ⟨X, 1, none⟩ v1).setCell ⟨X, 2, none⟩ v2).setCell ⟨Y, 0, none⟩ y0).setCell ⟨Y, 1, none⟩ y1) = W') :
    Stay (fun t => t = 24 ∨ t = 29) W W' ∧ (∀ w : World, Below w.heap.size w W → w.heap.size ≤ X → w.heap.size ≤ Y → Below w.heap.size w W') ∧ W'.cell? ⟨X, 0, none⟩ = some v0 ∧ W'.cell? ⟨X, 1, none⟩ = some v1 ∧ W'.cell? ⟨X, 2, none⟩ = some v2 ∧ W'.cell? ⟨Y, 0, none⟩ = some y0 ∧ W'.cell? ⟨Y, 1, none⟩ = some y1 := by
  subst hW
  have a0 := set_at (k := 0) (cs' := #[v0, u1, u2]) hX v0 rfl
  have a1 := set_at (k := 1) (cs' := #[v0, v1, u2]) a0 v1 rfl
  have a2 := set_at (k := 2) (cs' := #[v0, v1, v2]) a1 v2 rfl
  have c0 := set_oth (k := 0) (v := v0) hY hne.symm
  have c1 := set_oth (k := 1) (v := v1) c0 hne.symm
  have c2 := set_oth (k := 2) (v := v2) c1 hne.symm
  have c3 := set_at (k := 0) (cs' := #[y0, t1]) c2 y0 rfl
  have c4 := set_at (k := 1) (cs' := #[y0, y1]) c3 y1 rfl
  have a3 := set_oth (k := 0) (v := y0) a2 hne
  have a4 := set_oth (k := 1) (v := y1) a3 hne
  refine ⟨((((stay_set hX (.inl rfl) _).trans (stay_set a0 (.inl rfl) _)).trans (stay_set a1 (.inl rfl) _)).trans (stay_set c2 (.inr rfl) _)).trans (stay_set c3 (.inr rfl) _), fun w h hx hy => ((((h.setCell (p := ⟨X, 0, none⟩) hx _).setCell (p := ⟨X, 1, none⟩) hx _).setCell (p := ⟨X, 2, none⟩) hx _).setCell (p := ⟨Y, 0, none⟩) hy _).setCell (p := ⟨Y, 1, none⟩) hy _, (cell_at a4 0).trans rfl, (cell_at a4 1).trans rfl, (cell_at a4 2).trans rfl, (cell_at c4 0).trans rfl, (cell_at c4 1).trans rfl⟩
theorem infounits : (Tryz.prog.info? 49).map (fun i => (i.zero, i.size, i.bytes)) = some (some (.agg #[.bool false, .string ⟨#[]⟩, .slice none 0 0, .string ⟨#[]⟩, .int .i64 0, .slice none 0 0, .slice none 0 0, .slice none 0 0]), 8, 144) := by kernel_rfl
def ParG (w : World) (x : Pg.Prg × Int × Int) (e : Ending) (w' : World) : Prop := ∃ uv, e = .returned (.tuple #[.agg #[uv, .string (str x.1.main), .string (str x.1.back)], .agg #[.int .i64 x.2.1, .int .i64 x.2.2]]) ∧ RowR 49 8 UntV w' x.1.units uv ∧ Below w.heap.size w w'
def readsP (s : Bytes) (p : Pg.Prg) : Bool := match Lx.lexM s with
  | r => r.code == 0 && r.at_ == 0 && decide (r.toks.length ≤ 100000) && decide (progL r.toks = some (p.units, p.main, p.back))
set_option maxRecDepth 100000 in
set_option maxHeartbeats 8000000 in
theorem parse_go (S : ByteArray) (w : World) (hs : S.size ≤ maxLen) (us : List Unt) (m k : Bytes) (h : readsP S.toList ⟨us, m, k⟩ = true) : Calls Tryz.prog 14 #[.string S] w (ParG w (⟨us, m, k⟩, 0, 0)) := by
  unfold readsP at h
  simp only [Bool.and_eq_true, beq_iff_eq, decide_eq_true_eq] at h
  obtain ⟨⟨⟨r1, r2⟩, r3⟩, r4⟩ := h
  obtain ⟨L, hL⟩ : ∃ l, (Lx.lexM S.toList).toks = l := ⟨_, rfl⟩
  rw [hL] at r3 r4
  have HC : Hid (Calls Tryz.prog 34 #[.string S] ((w.alloc (.cells #[.slice none 0 0, .string ⟨#[]⟩, .string ⟨#[]⟩] 24)).alloc (.cells #[.int .i64 0, .int .i64 0] 29)) (Lx.LexGives ((w.alloc (.cells #[.slice none 0 0, .string ⟨#[]⟩, .string ⟨#[]⟩] 24)).alloc (.cells #[.int .i64 0, .int .i64 0] 29)) L 0 0)) := Lib.hid (by have := Rf.rlex_gives S ((w.alloc (.cells #[.slice none 0 0, .string ⟨#[]⟩, .string ⟨#[]⟩] 24)).alloc (.cells #[.int .i64 0, .int .i64 0] 29)) hs; rw [hL, r1, r2] at this; exact this)
  have HN := Lib.hid (two_new w (.cells #[.slice none 0 0, .string ⟨#[]⟩, .string ⟨#[]⟩] 24) (.cells #[.int .i64 0, .int .i64 0] 29))
  obtain ⟨us', i1, g0, r4⟩ := bd_some r4
  obtain ⟨g1, r4⟩ := nd_some r4
  obtain ⟨m', j1, g2, r4⟩ := bd_some r4
  obtain ⟨g3, r4⟩ := nd_some r4
  have G0 := Lib.hid g0
  have G1 := Lib.hid g1
  have G2 := Lib.hid g2
  have G3 := Lib.hid g3
  have G4 := Lib.hid r4
  have HLEN := Lib.hid r3
  clear g0 g1 g2 g3 r4 r3 r1 r2 hL hs
  obtain ⟨i0, hi, hz⟩ := Option.map_eq_some_iff.1 infounits
  simp only [Prod.mk.injEq] at hz
  obtain ⟨hz0, hz1, hz2⟩ := hz
  go_enter Tryz.func14, Tryz.ntmps14
  go_wp2_with fail
  refine HC.out.mono ?_
  rintro e w1 ⟨v, rfl, ht, hb1⟩
  have HT := Lib.hid (Lr.TkAt.of_toks ht)
  obtain ⟨A, cc, rfl, t1, t2, -⟩ := ht
  unfold maxLen at t2
  have X1 := Lib.hid ((hb1.block _ (blk_lt HN.out.2.1)).trans HN.out.2.1)
  have Z1 := Lib.hid ((hb1.block _ (blk_lt HN.out.2.2)).trans HN.out.2.2)
  have HB1 : Hid (Below w.heap.size w w1) := Lib.hid (HN.out.1.trans (hb1.mono HN.out.1.size))
  have lx1 := blk_lt X1.out
  have lz1 := blk_lt Z1.out
  have hs1 := HB1.out.size
  clear hb1
  obtain ⟨wq, hwq⟩ : ∃ W, (w1.alloc (.cells #[.int .i64 0, .int .i64 0] 29)).alloc (.cells #[.slice A L.length cc, .int .i64 0, .int .i64 0, .int .i64 0] 88) = W := ⟨_, rfl⟩
  have N2 := two_new w1 (.cells #[.int .i64 0, .int .i64 0] 29) (.cells #[.slice A L.length cc, .int .i64 0, .int .i64 0, .int .i64 0] 88)
  rw [hwq] at N2
  have HBQ := Lib.hid N2.1
  have hzq : wq.heap.size = w1.heap.size + 2 := by rw [← hwq]; simp
  have HRQ : Hid (Ry wq (w1.heap.size + 1) L (.slice A L.length cc) 0) := Lib.hid ⟨N2.2.2, (HT.out.mv (fun g hg => N2.1.block g hg)).up (by omega), Nat.zero_le _, HLEN.out⟩
  have XQ := Lib.hid ((HBQ.out.block _ lx1).trans X1.out)
  have ZQ := Lib.hid ((HBQ.out.block _ lz1).trans Z1.out)
  have HWB : Hid (Below w.heap.size w wq) := Lib.hid (HB1.out.trans (HBQ.out.mono hs1))
  clear N2
  obtain ⟨w2, hw2⟩ : ∃ W, wq.alloc (.cells #[.slice none 0 0, .string ⟨#[]⟩, .string ⟨#[]⟩] 24) = W := ⟨_, rfl⟩
  have hb2 : Below wq.heap.size wq w2 := hw2 ▸ below_al wq _
  have P2 : Hid (w2.heap[w1.heap.size + 1 + 1]? = some (.cells #[.slice none 0 0, .string ⟨#[]⟩, .string ⟨#[]⟩] 24 (0, 0))) := Lib.hid (by rw [← hw2, show w1.heap.size + 1 + 1 = wq.heap.size by omega]; exact heap_alloc_new _ _)
  have HG2 : Hid (P wq w2 (w1.heap.size + 1) L (.slice A L.length cc) 0) := Lib.hid (P.of HRQ.out hb2)
  have hlt : w1.heap.size + 1 < wq.heap.size := by omega
  clear hb2
  have HW2 := Lib.hid hw2
  have HWQ := Lib.hid hwq
  clear hw2 hwq
  go_wp2
  rw [HWQ.out, HW2.out]
  go_loopg [] 201 (fun g wr => ∃ (i : Nat) (ov : Value) (acc : List Unt) (xs : List (List Value)), OList 49 8 UntV wr (w1.heap.size + 1 + 1 + 1) ov acc xs ∧ P wq wr (w1.heap.size + 1) L (.slice A L.length cc) i ∧ wr.heap[w1.heap.size + 1 + 1]? = some (.cells #[ov, .string ⟨#[]⟩, .string ⟨#[]⟩] 24 (0, 0)) ∧ unitsF L g acc i = some (us', i1))
  case atStart => exact ⟨0, _, [], [], OList.nil _ _, HG2.out, P2.out, G0.out⟩
  case round =>
    obtain ⟨i, ov, acc, xs, hol, hgr, hpb, hrow⟩ := hrel
    have HOLR := Lib.hid hol
    have HGR := Lib.hid hgr
    have HPBR := Lib.hid hpb
    obtain ⟨A0, c0, hv0, hn1, hn2⟩ := own_form hol.own
    subst hv0
    have hs0 := hgr.mv.size
    have hlp := blk_lt hpb
    cases gk with
    | zero => simp [unitsF] at hrow
    | succ gk =>
    simp only [unitsF] at hrow
    have HROW := Lib.hid hrow
    clear hol hgr hrow hpb
    obtain ⟨B1, hB1⟩ : ∃ B, isAt L i wNode = B := ⟨_, rfl⟩
    obtain ⟨B2, hB2⟩ : ∃ B, isAt L i wContract = B := ⟨_, rfl⟩
    have HI1 := Lib.hid (is_ok (s := wNode) rfl hB1 HGR.out.rd)
    have HI2 : Hid (∀ w', Ry w' (w1.heap.size + 1) L (.slice A L.length cc) i → Calls Tryz.prog 35 #[.pointer (some ⟨w1.heap.size + 1, 0, none⟩), .string (str wContract)] w' (fun e w'' => e = .returned (.bool B2) ∧ P w' w'' (w1.heap.size + 1) L (.slice A L.length cc) i)) := Lib.hid (fun w' h => is_ok rfl hB2 h)
    rw [hB1, hB2] at HROW
    clear hB1 hB2
    cases B1 with
    | true =>
      go_wp2_with fail
      refine HI1.out.mono ?_
      rintro e wB ⟨rfl, gx⟩
      have HGB := Lib.hid (HGR.out.trans gx)
      have stx := P.stay HGR.out.rd gx
      have HOLB := Lib.hid (HOLR.out.stay stx (by decide) (fun a x hx => Pg.UntV.stay stx ⟨by decide, by decide, by decide, by decide, by decide⟩ a x hx))
      have HPBB := Lib.hid (gx.blk HPBR.out (by omega))
      have hsB := gx.mv.size
      have hlB := blk_lt HPBB.out
      clear gx stx
      have hr0 := HROW.out
      simp only [Bool.true_or, Bool.or_true, Bool.false_or, ↓reduceIte] at hr0
      by_cases hac : 200 ≤ acc.length
      · rw [if_pos hac] at hr0; cases hr0
      rw [if_neg hac] at hr0
      obtain ⟨u, ju, hu1, hu2⟩ := bd_some hr0
      have HO : Hid (Calls Tryz.prog 37 #[.pointer (some ⟨w1.heap.size + 1, 0, none⟩)] wB.drew (UntP wB.drew (w1.heap.size + 1) L (.slice A L.length cc) ju u)) := Lib.hid (unit_ok (HGB.out.rd.keep (fun _ _ => rfl)) hu1)
      have HE := Lib.hid hu2
      have hac2 : acc.length < 200 := by omega
      clear hr0 hu1 hu2 hac
      have hpc0 : wB.cell? ⟨w1.heap.size + 1 + 1, 0, none⟩ = some (.slice A0 acc.length c0) := (cell_at HPBB.out 0).trans rfl
      go_wp2_with fail
      refine (room_ok hac2).mono ?_
      rintro e wdd ⟨rfl, hwd⟩
      subst hwd
      go_wp2_with fail
      go_region_law (first
          | (go_simp; go_at_call 37; (with_reducible refine HO.out.mono ?_); rintro e we ⟨iv, vv, qv, tv, rfl, hp9, hq9, hr9, ht9, hge⟩; have HGX := Lib.hid hge.undrew; have HGE := Lib.hid (HGB.out.trans HGX.out); have HPBE := Lib.hid (HGX.out.blk HPBB.out (by omega)); have hse := HGX.out.mv.size; have stx := P.stay HGB.out.rd HGX.out; have HOLE := Lib.hid (HOLB.out.stay stx (by decide) (fun a x hx => Pg.UntV.stay stx ⟨by decide, by decide, by decide, by decide, by decide⟩ a x hx)); clear hge stx; obtain ⟨A2, n2, c2, rfl⟩ := row_form hp9; obtain ⟨A4, n4, c4, rfl⟩ := row_form hq9; obtain ⟨A5, n5, c5, rfl⟩ := row_form hr9; obtain ⟨A6, n6, c6, rfl⟩ := row_form ht9; have HXV : Hid (UntV we u [.bool u.contract, .string (str u.name), .slice A2 n2 c2, .string (str u.out.name), .int .i64 u.out.ty, .slice A4 n4 c4, .slice A5 n5 c5, .slice A6 n6 c6]) := Lib.hid ⟨_, _, _, _, rfl, hp9, hq9, hr9, ht9⟩; clear hp9 hq9 hr9 ht9; have hpe0 : we.cell? ⟨w1.heap.size + 1 + 1, 0, none⟩ = some (.slice A0 acc.length c0) := (cell_at HPBE.out 0).trans rfl; have hlpe := blk_lt HPBE.out; have hne5 := own_ne HOLE.out.own)
          | (refine step_append_lies _ (by rfl) _ _ _ (by rfl) (w1.heap.size + 1 + 1 + 1) 49 i0 _ 8 144 Tryz.underlying22 hi hz0 hz1 hz2 rfl (by omega) (.slice A0 acc.length c0) acc.length xs.flatten (by rfl) (by exact HOLE.out.own.alloc _) ⟨we.heap.size, 0, none⟩ 1 1 [.bool u.contract, .string (str u.name), .slice A2 n2 c2, .string (str u.out.name), .int .i64 u.out.ty, .slice A4 n4 c4, .slice A5 n5 c5, .slice A6 n6 c6] (by rfl) (by rfl) (World.news_of_block (cs := #[.bool u.contract, .string (str u.name), .slice A2 n2 c2, .string (str u.out.name), .int .i64 u.out.ty, .slice A4 n4 c4, .slice A5 n5 c5, .slice A6 n6 c6]) (t := 49) (fr := (0, 0)) (heap_alloc_new _ _)) (by simp [Value.oneCell']) (by omega) (by unfold maxLen; omega) (by omega) (by simp; omega) (we.heap.size + 1) (by simp) ?_; intro g5 cap5 w5 hown5 hgrow5 hat5 hlt5; have HPB5 : Hid (w5.heap[w1.heap.size + 1 + 1]? = some (.cells #[.slice A0 acc.length c0, .string ⟨#[]⟩, .string ⟨#[]⟩] 24 (0, 0))) := Lib.hid ((hgrow5.block _ (by simp; omega) (fun e => hne5 _ e.symm rfl)).trans ((Below.heap_alloc _ _ _ hlpe).trans HPBE.out)); have hf5 : w5.frozen? ⟨w1.heap.size + 1 + 1, 0, none⟩ = false := free_at HPB5.out 0; have hc5 : w5.cell? ⟨w1.heap.size + 1 + 1, 0, none⟩ = some (.slice A0 acc.length c0) := (cell_at HPB5.out 0).trans rfl; have hl5 := blk_lt HPB5.out))
      all_goals
        have HOL5 := Lib.hid (HOLE.out.snoc HXV.out rfl (below_al we _) hown5 hgrow5 (fun st => Pg.UntV.stay st ⟨by decide, by decide, by decide, by decide, by decide⟩))
        have HG5 := Lib.hid (P.row HGE.out hlt (below_al we _) hgrow5 (fun g hg => by have := (HOLE.out.own.lt g hg).1; omega))
        have HPB6 : Hid (∀ v : Value, (w5.setCell ⟨w1.heap.size + 1 + 1, 0, none⟩ v).heap[w1.heap.size + 1 + 1]? = some (.cells #[v, .string ⟨#[]⟩, .string ⟨#[]⟩] 24 (0, 0))) := Lib.hid (fun v => set_at HPB5.out v rfl)
        have hne6 := own_ne HOL5.out.own
        have HOL6 : Hid (∀ v : Value, OList 49 8 UntV (w5.setCell ⟨w1.heap.size + 1 + 1, 0, none⟩ v) (w1.heap.size + 1 + 1 + 1) (.slice (some ⟨g5, 0, none⟩) (acc.length + 1) cap5) (acc ++ [u]) (xs ++ [[.bool u.contract, .string (str u.name), .slice A2 n2 c2, .string (str u.out.name), .int .i64 u.out.ty, .slice A4 n4 c4, .slice A5 n5 c5, .slice A6 n6 c6]])) := Lib.hid (fun v => ol_set HOL5.out HPB5.out hne6 (fun st => Pg.UntV.stay st ⟨by decide, by decide, by decide, by decide, by decide⟩))
        have HG6 : Hid (∀ v : Value, P wq (w5.setCell ⟨w1.heap.size + 1 + 1, 0, none⟩ v) (w1.heap.size + 1) L (.slice A L.length cc) ju) := Lib.hid (fun v => HG5.out.local (k := 0) (B := w1.heap.size + 1 + 1) (by omega) hlt v)
        clear hown5 hgrow5 hat5 hlt5 hpe0
        go_wp2
        go_roundg gk
        case measure => omega
        case rel => exact ⟨ju, _, acc ++ [u], xs ++ [[.bool u.contract, .string (str u.name), .slice A2 n2 c2, .string (str u.out.name), .int .i64 u.out.ty, .slice A4 n4 c4, .slice A5 n5 c5, .slice A6 n6 c6]], HOL6.out _, HG6.out _, HPB6.out _, HE.out⟩
    | false =>
      cases B2 with
      | true =>
        go_wp2_with fail
        refine HI1.out.mono ?_
        rintro e wB ⟨rfl, gx⟩
        have HGB := Lib.hid (HGR.out.trans gx)
        have stx := P.stay HGR.out.rd gx
        have HOLB := Lib.hid (HOLR.out.stay stx (by decide) (fun a x hx => Pg.UntV.stay stx ⟨by decide, by decide, by decide, by decide, by decide⟩ a x hx))
        have HPBB := Lib.hid (gx.blk HPBR.out (by omega))
        have hsB := gx.mv.size
        have hlB := blk_lt HPBB.out
        clear gx stx
        go_wp2_with fail
        refine (HI2.out _ HGB.out.rd).mono ?_
        rintro e wC ⟨rfl, gx⟩
        have HGC := Lib.hid (HGB.out.trans gx)
        have stx := P.stay HGB.out.rd gx
        have HOLC := Lib.hid (HOLB.out.stay stx (by decide) (fun a x hx => Pg.UntV.stay stx ⟨by decide, by decide, by decide, by decide, by decide⟩ a x hx))
        have HPBC := Lib.hid (gx.blk HPBB.out (by omega))
        have hsC := gx.mv.size
        have hlC := blk_lt HPBC.out
        clear gx stx
        have hr0 := HROW.out
        simp only [Bool.true_or, Bool.or_true, Bool.false_or, ↓reduceIte] at hr0
        by_cases hac : 200 ≤ acc.length
        · rw [if_pos hac] at hr0; cases hr0
        rw [if_neg hac] at hr0
        obtain ⟨u, ju, hu1, hu2⟩ := bd_some hr0
        have HO : Hid (Calls Tryz.prog 37 #[.pointer (some ⟨w1.heap.size + 1, 0, none⟩)] wC.drew (UntP wC.drew (w1.heap.size + 1) L (.slice A L.length cc) ju u)) := Lib.hid (unit_ok (HGC.out.rd.keep (fun _ _ => rfl)) hu1)
        have HE := Lib.hid hu2
        have hac2 : acc.length < 200 := by omega
        clear hr0 hu1 hu2 hac
        have hpc0 : wC.cell? ⟨w1.heap.size + 1 + 1, 0, none⟩ = some (.slice A0 acc.length c0) := (cell_at HPBC.out 0).trans rfl
        go_wp2_with fail
        refine (room_ok hac2).mono ?_
        rintro e wdd ⟨rfl, hwd⟩
        subst hwd
        go_wp2_with fail
        go_region_law (first
            | (go_simp; go_at_call 37; (with_reducible refine HO.out.mono ?_); rintro e we ⟨iv, vv, qv, tv, rfl, hp9, hq9, hr9, ht9, hge⟩; have HGX := Lib.hid hge.undrew; have HGE := Lib.hid (HGC.out.trans HGX.out); have HPBE := Lib.hid (HGX.out.blk HPBC.out (by omega)); have hse := HGX.out.mv.size; have stx := P.stay HGC.out.rd HGX.out; have HOLE := Lib.hid (HOLC.out.stay stx (by decide) (fun a x hx => Pg.UntV.stay stx ⟨by decide, by decide, by decide, by decide, by decide⟩ a x hx)); clear hge stx; obtain ⟨A2, n2, c2, rfl⟩ := row_form hp9; obtain ⟨A4, n4, c4, rfl⟩ := row_form hq9; obtain ⟨A5, n5, c5, rfl⟩ := row_form hr9; obtain ⟨A6, n6, c6, rfl⟩ := row_form ht9; have HXV : Hid (UntV we u [.bool u.contract, .string (str u.name), .slice A2 n2 c2, .string (str u.out.name), .int .i64 u.out.ty, .slice A4 n4 c4, .slice A5 n5 c5, .slice A6 n6 c6]) := Lib.hid ⟨_, _, _, _, rfl, hp9, hq9, hr9, ht9⟩; clear hp9 hq9 hr9 ht9; have hpe0 : we.cell? ⟨w1.heap.size + 1 + 1, 0, none⟩ = some (.slice A0 acc.length c0) := (cell_at HPBE.out 0).trans rfl; have hlpe := blk_lt HPBE.out; have hne5 := own_ne HOLE.out.own)
            | (refine step_append_lies _ (by rfl) _ _ _ (by rfl) (w1.heap.size + 1 + 1 + 1) 49 i0 _ 8 144 Tryz.underlying22 hi hz0 hz1 hz2 rfl (by omega) (.slice A0 acc.length c0) acc.length xs.flatten (by rfl) (by exact HOLE.out.own.alloc _) ⟨we.heap.size, 0, none⟩ 1 1 [.bool u.contract, .string (str u.name), .slice A2 n2 c2, .string (str u.out.name), .int .i64 u.out.ty, .slice A4 n4 c4, .slice A5 n5 c5, .slice A6 n6 c6] (by rfl) (by rfl) (World.news_of_block (cs := #[.bool u.contract, .string (str u.name), .slice A2 n2 c2, .string (str u.out.name), .int .i64 u.out.ty, .slice A4 n4 c4, .slice A5 n5 c5, .slice A6 n6 c6]) (t := 49) (fr := (0, 0)) (heap_alloc_new _ _)) (by simp [Value.oneCell']) (by omega) (by unfold maxLen; omega) (by omega) (by simp; omega) (we.heap.size + 1) (by simp) ?_; intro g5 cap5 w5 hown5 hgrow5 hat5 hlt5; have HPB5 : Hid (w5.heap[w1.heap.size + 1 + 1]? = some (.cells #[.slice A0 acc.length c0, .string ⟨#[]⟩, .string ⟨#[]⟩] 24 (0, 0))) := Lib.hid ((hgrow5.block _ (by simp; omega) (fun e => hne5 _ e.symm rfl)).trans ((Below.heap_alloc _ _ _ hlpe).trans HPBE.out)); have hf5 : w5.frozen? ⟨w1.heap.size + 1 + 1, 0, none⟩ = false := free_at HPB5.out 0; have hc5 : w5.cell? ⟨w1.heap.size + 1 + 1, 0, none⟩ = some (.slice A0 acc.length c0) := (cell_at HPB5.out 0).trans rfl; have hl5 := blk_lt HPB5.out))
        all_goals
          have HOL5 := Lib.hid (HOLE.out.snoc HXV.out rfl (below_al we _) hown5 hgrow5 (fun st => Pg.UntV.stay st ⟨by decide, by decide, by decide, by decide, by decide⟩))
          have HG5 := Lib.hid (P.row HGE.out hlt (below_al we _) hgrow5 (fun g hg => by have := (HOLE.out.own.lt g hg).1; omega))
          have HPB6 : Hid (∀ v : Value, (w5.setCell ⟨w1.heap.size + 1 + 1, 0, none⟩ v).heap[w1.heap.size + 1 + 1]? = some (.cells #[v, .string ⟨#[]⟩, .string ⟨#[]⟩] 24 (0, 0))) := Lib.hid (fun v => set_at HPB5.out v rfl)
          have hne6 := own_ne HOL5.out.own
          have HOL6 : Hid (∀ v : Value, OList 49 8 UntV (w5.setCell ⟨w1.heap.size + 1 + 1, 0, none⟩ v) (w1.heap.size + 1 + 1 + 1) (.slice (some ⟨g5, 0, none⟩) (acc.length + 1) cap5) (acc ++ [u]) (xs ++ [[.bool u.contract, .string (str u.name), .slice A2 n2 c2, .string (str u.out.name), .int .i64 u.out.ty, .slice A4 n4 c4, .slice A5 n5 c5, .slice A6 n6 c6]])) := Lib.hid (fun v => ol_set HOL5.out HPB5.out hne6 (fun st => Pg.UntV.stay st ⟨by decide, by decide, by decide, by decide, by decide⟩))
          have HG6 : Hid (∀ v : Value, P wq (w5.setCell ⟨w1.heap.size + 1 + 1, 0, none⟩ v) (w1.heap.size + 1) L (.slice A L.length cc) ju) := Lib.hid (fun v => HG5.out.local (k := 0) (B := w1.heap.size + 1 + 1) (by omega) hlt v)
          clear hown5 hgrow5 hat5 hlt5 hpe0
          go_wp2
          go_roundg gk
          case measure => omega
          case rel => exact ⟨ju, _, acc ++ [u], xs ++ [[.bool u.contract, .string (str u.name), .slice A2 n2 c2, .string (str u.out.name), .int .i64 u.out.ty, .slice A4 n4 c4, .slice A5 n5 c5, .slice A6 n6 c6]], HOL6.out _, HG6.out _, HPB6.out _, HE.out⟩
      | false =>
        have hr0 := HROW.out
        simp only [Bool.or_false, Bool.false_eq_true, ↓reduceIte, Option.some.injEq, Prod.mk.injEq] at hr0
        obtain ⟨ha, hi1⟩ := hr0
        subst ha
        subst hi1
        go_wp2_with fail
        refine HI1.out.mono ?_
        rintro e wB ⟨rfl, gx⟩
        have HGB := Lib.hid (HGR.out.trans gx)
        have stx := P.stay HGR.out.rd gx
        have HOLB := Lib.hid (HOLR.out.stay stx (by decide) (fun a x hx => Pg.UntV.stay stx ⟨by decide, by decide, by decide, by decide, by decide⟩ a x hx))
        have HPBB := Lib.hid (gx.blk HPBR.out (by omega))
        have hsB := gx.mv.size
        have hlB := blk_lt HPBB.out
        clear gx stx
        go_wp2_with fail
        refine (HI2.out _ HGB.out.rd).mono ?_
        rintro e wC ⟨rfl, gx⟩
        have HGC := Lib.hid (HGB.out.trans gx)
        have stx := P.stay HGB.out.rd gx
        have HOLC := Lib.hid (HOLB.out.stay stx (by decide) (fun a x hx => Pg.UntV.stay stx ⟨by decide, by decide, by decide, by decide, by decide⟩ a x hx))
        have HPBC := Lib.hid (gx.blk HPBB.out (by omega))
        have hsC := gx.mv.size
        have hlC := blk_lt HPBC.out
        clear gx stx
        have h4 := G4.out
        cases hF : isAt L (j1 + 1) [102, 97, 108, 108, 98, 97, 99, 107] with
        | true =>
          rw [hF, if_pos rfl] at h4
          obtain ⟨k', q1, g5, h4⟩ := bd_some h4
          obtain ⟨g6, h4⟩ := nd_some h4
          split at h4
          · rename_i hend
            simp only [Option.some.injEq, Prod.mk.injEq] at h4
            obtain ⟨e1, e2, e3⟩ := h4
            subst e1
            subst e2
            subst e3
            have HF := Lib.hid hF
            have G5 := Lib.hid g5
            have G6 := Lib.hid g6
            have HEND := Lib.hid hend
            clear hF g5 g6 hend
            go_wp2_with fail
            refine (need_ok (s := [109, 97, 105, 110]) rfl G1.out HGC.out.rd).mono ?_
            rintro e v1 ⟨rfl, gx⟩
            have HGv1 := Lib.hid (HGC.out.trans gx)
            have stx := P.stay HGC.out.rd gx
            have HOLv1 := Lib.hid (HOLC.out.stay stx (by decide) (fun a x hx => Pg.UntV.stay stx ⟨by decide, by decide, by decide, by decide, by decide⟩ a x hx))
            have HPBv1 := Lib.hid (gx.blk HPBC.out (by omega))
            have hsv1 := gx.mv.size
            have hlv1 := blk_lt HPBv1.out
            clear gx stx
            go_wp2_with fail
            refine (name_ok HGv1.out.rd G2.out).mono ?_
            rintro e v2 ⟨rfl, gx⟩
            have HGv2 := Lib.hid (HGv1.out.trans gx)
            have stx := P.stay HGv1.out.rd gx
            have HOLv2 := Lib.hid (HOLv1.out.stay stx (by decide) (fun a x hx => Pg.UntV.stay stx ⟨by decide, by decide, by decide, by decide, by decide⟩ a x hx))
            have HPBv2 := Lib.hid (gx.blk HPBv1.out (by omega))
            have hsv2 := gx.mv.size
            have hlv2 := blk_lt HPBv2.out
            clear gx stx
            have qv2 : v2.cell? ⟨w1.heap.size + 1 + 1, 1, none⟩ = some (.string ⟨#[]⟩) := (cell_at HPBv2.out 1).trans rfl
            have fv2 : v2.frozen? ⟨w1.heap.size + 1 + 1, 1, none⟩ = false := free_at HPBv2.out 1
            have hnev2 := own_ne HOLv2.out.own
            have HOLv2a := Lib.hid (ol_set (k := 1) (v := .string (str m')) HOLv2.out HPBv2.out hnev2 (fun st => Pg.UntV.stay st ⟨by decide, by decide, by decide, by decide, by decide⟩))
            have HGv2a := Lib.hid (HGv2.out.local (k := 1) (B := w1.heap.size + 1 + 1) (by omega) hlt (.string (str m')))
            have HPBv2a : Hid ((v2.setCell ⟨w1.heap.size + 1 + 1, 1, none⟩ (.string (str m'))).heap[w1.heap.size + 1 + 1]? = some (.cells #[.slice A0 acc.length c0, .string (str m'), .string ⟨#[]⟩] 24 (0, 0))) := Lib.hid (set_at HPBv2.out (.string (str m')) rfl)
            clear hnev2
            go_wp2_with fail
            refine (need_ok (s := [59]) rfl G3.out HGv2a.out.rd).mono ?_
            rintro e v3 ⟨rfl, gx⟩
            have HGv3 := Lib.hid (HGv2a.out.trans gx)
            have stx := P.stay HGv2a.out.rd gx
            have HOLv3 := Lib.hid (HOLv2a.out.stay stx (by decide) (fun a x hx => Pg.UntV.stay stx ⟨by decide, by decide, by decide, by decide, by decide⟩ a x hx))
            have HPBv3 := Lib.hid (gx.blk HPBv2a.out (by omega))
            have hsv3 := gx.mv.size
            have hlv3 := blk_lt HPBv3.out
            clear gx stx
            go_wp2_with fail
            refine (take_ok (s := [102, 97, 108, 108, 98, 97, 99, 107]) rfl HF.out HGv3.out.rd).mono ?_
            rintro e v4 ⟨rfl, gx⟩
            have HGv4 := Lib.hid (HGv3.out.trans gx)
            have stx := P.stay HGv3.out.rd gx
            have HOLv4 := Lib.hid (HOLv3.out.stay stx (by decide) (fun a x hx => Pg.UntV.stay stx ⟨by decide, by decide, by decide, by decide, by decide⟩ a x hx))
            have HPBv4 := Lib.hid (gx.blk HPBv3.out (by omega))
            have hsv4 := gx.mv.size
            have hlv4 := blk_lt HPBv4.out
            clear gx stx
            go_wp2_with fail
            refine (name_ok HGv4.out.rd G5.out).mono ?_
            rintro e v5 ⟨rfl, gx⟩
            have HGv5 := Lib.hid (HGv4.out.trans gx)
            have stx := P.stay HGv4.out.rd gx
            have HOLv5 := Lib.hid (HOLv4.out.stay stx (by decide) (fun a x hx => Pg.UntV.stay stx ⟨by decide, by decide, by decide, by decide, by decide⟩ a x hx))
            have HPBv5 := Lib.hid (gx.blk HPBv4.out (by omega))
            have hsv5 := gx.mv.size
            have hlv5 := blk_lt HPBv5.out
            clear gx stx
            have qv5 : v5.cell? ⟨w1.heap.size + 1 + 1, 2, none⟩ = some (.string ⟨#[]⟩) := (cell_at HPBv5.out 2).trans rfl
            have fv5 : v5.frozen? ⟨w1.heap.size + 1 + 1, 2, none⟩ = false := free_at HPBv5.out 2
            have hnev5 := own_ne HOLv5.out.own
            have HOLv5a := Lib.hid (ol_set (k := 2) (v := .string (str k')) HOLv5.out HPBv5.out hnev5 (fun st => Pg.UntV.stay st ⟨by decide, by decide, by decide, by decide, by decide⟩))
            have HGv5a := Lib.hid (HGv5.out.local (k := 2) (B := w1.heap.size + 1 + 1) (by omega) hlt (.string (str k')))
            have HPBv5a : Hid ((v5.setCell ⟨w1.heap.size + 1 + 1, 2, none⟩ (.string (str k'))).heap[w1.heap.size + 1 + 1]? = some (.cells #[.slice A0 acc.length c0, .string (str m'), .string (str k')] 24 (0, 0))) := Lib.hid (set_at HPBv5.out (.string (str k')) rfl)
            clear hnev5
            go_wp2_with fail
            refine (need_ok (s := [59]) rfl G6.out HGv5a.out.rd).mono ?_
            rintro e v6 ⟨rfl, gx⟩
            have HGv6 := Lib.hid (HGv5a.out.trans gx)
            have stx := P.stay HGv5a.out.rd gx
            have HOLv6 := Lib.hid (HOLv5a.out.stay stx (by decide) (fun a x hx => Pg.UntV.stay stx ⟨by decide, by decide, by decide, by decide, by decide⟩ a x hx))
            have HPBv6 := Lib.hid (gx.blk HPBv5a.out (by omega))
            have hsv6 := gx.mv.size
            have hlv6 := blk_lt HPBv6.out
            clear gx stx
            obtain ⟨nx, hnx⟩ : ∃ n, q1 + 1 = n := ⟨_, rfl⟩
            obtain ⟨-, k1, -, -, -⟩ := HGv6.out.rd.cells
            rw [hnx] at k1
            have k0 := HGv6.out.rd.cells.1
            have lrb := HGv6.out.rd.lt
            have HOK := Lib.hid (ok_quiet HGv6.out.rd)
            have d1 : decide ((nx : Int) < (L.length : Int)) = false := decide_eq_false (by have := HEND.out; omega)
            have d1' : decide (nx < L.length) = false := decide_eq_false (by have := HEND.out; omega)
            have hLL := HLEN.out
            go_wp2
            go_quiet ((go_at_call 41; exact Calls.quiet_of_same (HOK.out _)))
            go_wp2_with fail
            refine (ok_ok (HGv6.out.rd.keep (w' := v6.drewN nq) (fun _ _ => rfl))).mono ?_
            rintro e v9 ⟨rfl, rfl⟩
            have X9 : Hid ((v6.drewN nq).heap[w.heap.size]? = some (.cells #[.slice none 0 0, .string ⟨#[]⟩, .string ⟨#[]⟩] 24 (0, 0))) := Lib.hid (HGv6.out.blk XQ.out (by omega))
            have Z9 : Hid ((v6.drewN nq).heap[w.heap.size + 1]? = some (.cells #[.int .i64 0, .int .i64 0] 29 (0, 0))) := Lib.hid (HGv6.out.blk ZQ.out (by omega))
            have P9 : Hid ((v6.drewN nq).heap[w1.heap.size + 1 + 1]? = some (.cells #[.slice A0 acc.length c0, .string (str m'), .string (str k')] 24 (0, 0))) := Lib.hid HPBv6.out
            have st9 := Stay.below (P := fun t => t = 88) (Tr.below_drewN (Below.refl v6.heap.size v6) nq)
            have HU9 : Hid (RowR 49 8 UntV (v6.drewN nq) acc (.slice A0 acc.length c0)) := Lib.hid (HOLv6.out.row.stay st9 (by decide) (fun a x hx => Pg.UntV.stay st9 ⟨by decide, by decide, by decide, by decide, by decide⟩ a x hx))
            have HB9 : Hid (Below w.heap.size w (v6.drewN nq)) := Lib.hid (Tr.below_drewN (P.up0 HWB.out (by omega) HGv6.out) nq)
            clear k0 k1 lrb d1 d1' st9
            obtain ⟨V, hV⟩ : ∃ V, v6.drewN nq = V := ⟨_, rfl⟩
            rw [hV] at X9 Z9 P9 HU9 HB9
            rw [hV]
            clear hV
            have p0 : V.cell? ⟨w.heap.size, 0, none⟩ = some (.slice none 0 0) := (cell_at X9.out 0).trans rfl
            have g0 : V.frozen? ⟨w.heap.size, 0, none⟩ = false := free_at X9.out 0
            have s0 : V.cell? ⟨w1.heap.size + 1 + 1, 0, none⟩ = some (.slice A0 acc.length c0) := (cell_at P9.out 0).trans rfl
            have p1 : V.cell? ⟨w.heap.size, 1, none⟩ = some (.string ⟨#[]⟩) := (cell_at X9.out 1).trans rfl
            have g1 : V.frozen? ⟨w.heap.size, 1, none⟩ = false := free_at X9.out 1
            have s1 : V.cell? ⟨w1.heap.size + 1 + 1, 1, none⟩ = some (.string (str m')) := (cell_at P9.out 1).trans rfl
            have p2 : V.cell? ⟨w.heap.size, 2, none⟩ = some (.string ⟨#[]⟩) := (cell_at X9.out 2).trans rfl
            have g2 : V.frozen? ⟨w.heap.size, 2, none⟩ = false := free_at X9.out 2
            have s2 : V.cell? ⟨w1.heap.size + 1 + 1, 2, none⟩ = some (.string (str k')) := (cell_at P9.out 2).trans rfl
            have y0 : V.cell? ⟨w.heap.size + 1, 0, none⟩ = some (.int .i64 0) := (cell_at Z9.out 0).trans rfl
            have h0 : V.frozen? ⟨w.heap.size + 1, 0, none⟩ = false := free_at Z9.out 0
            have y1 : V.cell? ⟨w.heap.size + 1, 1, none⟩ = some (.int .i64 0) := (cell_at Z9.out 1).trans rfl
            have h1 : V.frozen? ⟨w.heap.size + 1, 1, none⟩ = false := free_at Z9.out 1
            have lx9 := blk_lt X9.out
            have lz9 := blk_lt Z9.out
            have lp9 := blk_lt P9.out
            go_wp2
            generalize hW : World.setCell _ ⟨w.heap.size + 1, 1, none⟩ _ = W6
            obtain ⟨hst, hbl, e0, e1, e2, e3, e4⟩ := fin5 X9.out Z9.out (by omega) hW
            clear p0 g0 s0 p1 g1 s1 p2 g2 s2 y0 y1 h0 h1 hW
            exact bodyPost_ret (v := .tuple #[.agg #[.slice A0 acc.length c0, .string (str m'), .string (str k')], .agg #[.int .i64 0, .int .i64 0]]) (by simp [results, Tryz.results14, go_sem, e0, e1, e2, e3, e4]) rfl ⟨_, rfl, HU9.out.stay hst (by decide) (fun a x hx => Pg.UntV.stay hst ⟨by decide, by decide, by decide, by decide, by decide⟩ a x hx), hbl w HB9.out (Nat.le_refl _) (by omega)⟩
          · cases h4
        | false =>
          rw [hF, if_neg (by decide)] at h4
          split at h4
          · rename_i hend
            simp only [Option.some.injEq, Prod.mk.injEq] at h4
            obtain ⟨e1, e2, e3⟩ := h4
            subst e1
            subst e2
            subst e3
            have HF := Lib.hid hF
            have HEND := Lib.hid hend
            clear hF hend
            go_wp2_with fail
            refine (need_ok (s := [109, 97, 105, 110]) rfl G1.out HGC.out.rd).mono ?_
            rintro e v1 ⟨rfl, gx⟩
            have HGv1 := Lib.hid (HGC.out.trans gx)
            have stx := P.stay HGC.out.rd gx
            have HOLv1 := Lib.hid (HOLC.out.stay stx (by decide) (fun a x hx => Pg.UntV.stay stx ⟨by decide, by decide, by decide, by decide, by decide⟩ a x hx))
            have HPBv1 := Lib.hid (gx.blk HPBC.out (by omega))
            have hsv1 := gx.mv.size
            have hlv1 := blk_lt HPBv1.out
            clear gx stx
            go_wp2_with fail
            refine (name_ok HGv1.out.rd G2.out).mono ?_
            rintro e v2 ⟨rfl, gx⟩
            have HGv2 := Lib.hid (HGv1.out.trans gx)
            have stx := P.stay HGv1.out.rd gx
            have HOLv2 := Lib.hid (HOLv1.out.stay stx (by decide) (fun a x hx => Pg.UntV.stay stx ⟨by decide, by decide, by decide, by decide, by decide⟩ a x hx))
            have HPBv2 := Lib.hid (gx.blk HPBv1.out (by omega))
            have hsv2 := gx.mv.size
            have hlv2 := blk_lt HPBv2.out
            clear gx stx
            have qv2 : v2.cell? ⟨w1.heap.size + 1 + 1, 1, none⟩ = some (.string ⟨#[]⟩) := (cell_at HPBv2.out 1).trans rfl
            have fv2 : v2.frozen? ⟨w1.heap.size + 1 + 1, 1, none⟩ = false := free_at HPBv2.out 1
            have hnev2 := own_ne HOLv2.out.own
            have HOLv2a := Lib.hid (ol_set (k := 1) (v := .string (str m')) HOLv2.out HPBv2.out hnev2 (fun st => Pg.UntV.stay st ⟨by decide, by decide, by decide, by decide, by decide⟩))
            have HGv2a := Lib.hid (HGv2.out.local (k := 1) (B := w1.heap.size + 1 + 1) (by omega) hlt (.string (str m')))
            have HPBv2a : Hid ((v2.setCell ⟨w1.heap.size + 1 + 1, 1, none⟩ (.string (str m'))).heap[w1.heap.size + 1 + 1]? = some (.cells #[.slice A0 acc.length c0, .string (str m'), .string ⟨#[]⟩] 24 (0, 0))) := Lib.hid (set_at HPBv2.out (.string (str m')) rfl)
            clear hnev2
            go_wp2_with fail
            refine (need_ok (s := [59]) rfl G3.out HGv2a.out.rd).mono ?_
            rintro e v3 ⟨rfl, gx⟩
            have HGv3 := Lib.hid (HGv2a.out.trans gx)
            have stx := P.stay HGv2a.out.rd gx
            have HOLv3 := Lib.hid (HOLv2a.out.stay stx (by decide) (fun a x hx => Pg.UntV.stay stx ⟨by decide, by decide, by decide, by decide, by decide⟩ a x hx))
            have HPBv3 := Lib.hid (gx.blk HPBv2a.out (by omega))
            have hsv3 := gx.mv.size
            have hlv3 := blk_lt HPBv3.out
            clear gx stx
            go_wp2_with fail
            refine (take_ok (s := [102, 97, 108, 108, 98, 97, 99, 107]) rfl HF.out HGv3.out.rd).mono ?_
            rintro e v4 ⟨rfl, gx⟩
            have HGv4 := Lib.hid (HGv3.out.trans gx)
            have stx := P.stay HGv3.out.rd gx
            have HOLv4 := Lib.hid (HOLv3.out.stay stx (by decide) (fun a x hx => Pg.UntV.stay stx ⟨by decide, by decide, by decide, by decide, by decide⟩ a x hx))
            have HPBv4 := Lib.hid (gx.blk HPBv3.out (by omega))
            have hsv4 := gx.mv.size
            have hlv4 := blk_lt HPBv4.out
            clear gx stx
            obtain ⟨nx, hnx⟩ : ∃ n, j1 + 1 = n := ⟨_, rfl⟩
            obtain ⟨-, k1, -, -, -⟩ := HGv4.out.rd.cells
            rw [hnx] at k1
            have k0 := HGv4.out.rd.cells.1
            have lrb := HGv4.out.rd.lt
            have HOK := Lib.hid (ok_quiet HGv4.out.rd)
            have d1 : decide ((nx : Int) < (L.length : Int)) = false := decide_eq_false (by have := HEND.out; omega)
            have d1' : decide (nx < L.length) = false := decide_eq_false (by have := HEND.out; omega)
            have hLL := HLEN.out
            go_wp2
            go_quiet ((go_at_call 41; exact Calls.quiet_of_same (HOK.out _)))
            go_wp2_with fail
            refine (ok_ok (HGv4.out.rd.keep (w' := v4.drewN nq) (fun _ _ => rfl))).mono ?_
            rintro e v9 ⟨rfl, rfl⟩
            have X9 : Hid ((v4.drewN nq).heap[w.heap.size]? = some (.cells #[.slice none 0 0, .string ⟨#[]⟩, .string ⟨#[]⟩] 24 (0, 0))) := Lib.hid (HGv4.out.blk XQ.out (by omega))
            have Z9 : Hid ((v4.drewN nq).heap[w.heap.size + 1]? = some (.cells #[.int .i64 0, .int .i64 0] 29 (0, 0))) := Lib.hid (HGv4.out.blk ZQ.out (by omega))
            have P9 : Hid ((v4.drewN nq).heap[w1.heap.size + 1 + 1]? = some (.cells #[.slice A0 acc.length c0, .string (str m'), .string ⟨#[]⟩] 24 (0, 0))) := Lib.hid HPBv4.out
            have st9 := Stay.below (P := fun t => t = 88) (Tr.below_drewN (Below.refl v4.heap.size v4) nq)
            have HU9 : Hid (RowR 49 8 UntV (v4.drewN nq) acc (.slice A0 acc.length c0)) := Lib.hid (HOLv4.out.row.stay st9 (by decide) (fun a x hx => Pg.UntV.stay st9 ⟨by decide, by decide, by decide, by decide, by decide⟩ a x hx))
            have HB9 : Hid (Below w.heap.size w (v4.drewN nq)) := Lib.hid (Tr.below_drewN (P.up0 HWB.out (by omega) HGv4.out) nq)
            clear k0 k1 lrb d1 d1' st9
            obtain ⟨V, hV⟩ : ∃ V, v4.drewN nq = V := ⟨_, rfl⟩
            rw [hV] at X9 Z9 P9 HU9 HB9
            rw [hV]
            clear hV
            have p0 : V.cell? ⟨w.heap.size, 0, none⟩ = some (.slice none 0 0) := (cell_at X9.out 0).trans rfl
            have g0 : V.frozen? ⟨w.heap.size, 0, none⟩ = false := free_at X9.out 0
            have s0 : V.cell? ⟨w1.heap.size + 1 + 1, 0, none⟩ = some (.slice A0 acc.length c0) := (cell_at P9.out 0).trans rfl
            have p1 : V.cell? ⟨w.heap.size, 1, none⟩ = some (.string ⟨#[]⟩) := (cell_at X9.out 1).trans rfl
            have g1 : V.frozen? ⟨w.heap.size, 1, none⟩ = false := free_at X9.out 1
            have s1 : V.cell? ⟨w1.heap.size + 1 + 1, 1, none⟩ = some (.string (str m')) := (cell_at P9.out 1).trans rfl
            have p2 : V.cell? ⟨w.heap.size, 2, none⟩ = some (.string ⟨#[]⟩) := (cell_at X9.out 2).trans rfl
            have g2 : V.frozen? ⟨w.heap.size, 2, none⟩ = false := free_at X9.out 2
            have s2 : V.cell? ⟨w1.heap.size + 1 + 1, 2, none⟩ = some (.string ⟨#[]⟩) := (cell_at P9.out 2).trans rfl
            have y0 : V.cell? ⟨w.heap.size + 1, 0, none⟩ = some (.int .i64 0) := (cell_at Z9.out 0).trans rfl
            have h0 : V.frozen? ⟨w.heap.size + 1, 0, none⟩ = false := free_at Z9.out 0
            have y1 : V.cell? ⟨w.heap.size + 1, 1, none⟩ = some (.int .i64 0) := (cell_at Z9.out 1).trans rfl
            have h1 : V.frozen? ⟨w.heap.size + 1, 1, none⟩ = false := free_at Z9.out 1
            have lx9 := blk_lt X9.out
            have lz9 := blk_lt Z9.out
            have lp9 := blk_lt P9.out
            go_wp2
            generalize hW : World.setCell _ ⟨w.heap.size + 1, 1, none⟩ _ = W6
            obtain ⟨hst, hbl, e0, e1, e2, e3, e4⟩ := fin5 X9.out Z9.out (by omega) hW
            clear p0 g0 s0 p1 g1 s1 p2 g2 s2 y0 y1 h0 h1 hW
            exact bodyPost_ret (v := .tuple #[.agg #[.slice A0 acc.length c0, .string (str m'), .string ⟨#[]⟩], .agg #[.int .i64 0, .int .i64 0]]) (by simp [results, Tryz.results14, go_sem, e0, e1, e2, e3, e4]) rfl ⟨_, rfl, HU9.out.stay hst (by decide) (fun a x hx => Pg.UntV.stay hst ⟨by decide, by decide, by decide, by decide, by decide⟩ a x hx), hbl w HB9.out (Nat.le_refl _) (by omega)⟩
          · cases h4
end Go.Proofs.YtobkcdkffcenbaaGreatDoor.Lp

