/- The method fromRight of a reader. Conditions: level's contract at less fuel; a reader lies in memory. -/
import Derived.Test.YtgohhnbdicdenaaGreatDoorPz09
namespace Go.Proofs.YtgohhnbdicdenaaGreatDoor.Ex
open Go.ChangeShapes Go.WideShapes Go.ChangeAt Go.RowKit
open Go.Proofs.YtgohhnbdicdenaaGreatDoor.Tr (str ret_bool ret_int Bytes Nd joinM roomM own_block)
set_option linter.unusedVariables false
set_option linter.unusedSimpArgs false

/-- The head of the first loop. -/
structure RAt (w : World) (b : Nat) (mv : Nat → Value) (n : Nat) (p : Pt) (r' : Rd) (g : Nat) (wr : World) (rr : Rd) (lv bv : Value) (L : List (Value × Pt)) (ops : List (Int × Bool)) (B7 : Nat) (s : Option (Int × Bool)) : Prop where
  run_ : run (g + 1) (.rl n (L.map Prod.snd) ops) rr = some (p, r')
  sign : rr.sign n = s
  base : RBase w b mv wr lv bv L ops (if s.isSome then rr.adv else rr)
  h7 : wr.heap[B7]? = some (.cells #[.int .i64 (s.getD (0, false)).1, .bool (s.getD (0, false)).2] 171 (0, 0))
  n7 : bv.ownBlock ≠ some B7
  b7 : w.heap.size < B7
  mu : ((L.map Prod.snd).map Pt.nodes).sum + ops.length ≤ rr.mu
  okr : OkR rr
theorem RAt.next {w w5 w6 : World} {b : Nat} {mv : Nat → Value} {n gk : Nat} {p : Pt} {r3 r' : Rd} {lv bv : Value} {L : List (Value × Pt)} {ops : List (Int × Bool)} {o : Obj} {s3 : Option (Int × Bool)} {u0 u1 : Value} (hb : RBase w b mv w5 lv bv L ops r3) (h1 : run (gk + 1) (.rl n (L.map Prod.snd) ops) r3 = some (p, r')) (h2 : r3.sign n = s3)
    (hlt : b < w.heap.size) (hg : (w5.alloc o).grownBy w6 (some b)) (hr : RdTo (w5.alloc o) w6 b mv (if s3.isSome then r3.adv else r3)) (h7 : w6.heap[w5.heap.size]? = some (.cells #[u0, u1] 171 (0, 0))) (hm : ((L.map Prod.snd).map Pt.nodes).sum + ops.length ≤ r3.mu) (hok : OkR r3) :
    RAt w b mv n p r' gk ((w6.setCell ⟨w5.heap.size, 0, none⟩ (.int .i64 (s3.getD (0, false)).1)).setCell ⟨w5.heap.size, 1, none⟩ (.bool (s3.getD (0, false)).2)) r3 lv bv L ops w5.heap.size s3 := by
  have z4 := lt_of_block hb.h4
  have hs6 := hg.size
  simp at hs6
  have k1 := setObj_heap (v := .int .i64 (s3.getD (0, false)).1) h7 (k := 0) (by simp)
  have k2 := setObj_heap (v := .bool (s3.getD (0, false)).2) k1 (k := 1) (by simp)
  have ho : ∀ g, g < w5.heap.size → g ≠ b → ((w6.setCell ⟨w5.heap.size, 0, none⟩ (.int .i64 (s3.getD (0, false)).1)).setCell ⟨w5.heap.size, 1, none⟩ (.bool (s3.getD (0, false)).2)).heap[g]? = w5.heap[g]? := fun g hg1 hg2 => by
    rw [Below.heap_setCell _ _ _ _ (by simp; omega), Below.heap_setCell _ _ _ _ (by simp; omega), hg.block g (by simp; omega) (fun e => hg2 (by injection e)), Below.heap_alloc _ _ _ hg1]
  refine ⟨h1, h2, hb.keep (by simp [World.setCell]; omega) (fun g h3 h4 => ho g h3 (by omega)) ((((hb.rd_.then_below (below_new w5 o)).trans hr).setLocal (by omega) hlt _).setLocal (by omega) hlt _) (fun x hx => ((((hb.pts x hx).below (below_new w5 o)).grown (hb.rd_.rd.below (below_new w5 o)) hg).set h7 (by decide) _).set k1 (by decide) _), by rw [k2]; simp,
    (fun e => by have := (hb.sgn.lt _ e).2; omega), by omega, hm, hok⟩
theorem rl_none {g n : Nat} {ps : List Pt} {ops : List (Int × Bool)} {p : Pt} {r1 r' : Rd} (h : run (g + 1) (.rl n ps ops) r1 = some (p, r')) (hs : r1.sign n = none) : p = foldR ps ops ∧ r' = r1 := by
  simp only [run, hs, Option.some.injEq, Prod.mk.injEq] at h
  exact ⟨h.1.symm, h.2.symm⟩
theorem PtW.two {w w1 : World} {x : Value × Pt} (h : PtW w x) (hb : Below w.heap.size w w1) : PtW w1 x := h.below hb
set_option maxRecDepth 100000 in
set_option maxHeartbeats 4000000 in
theorem right_any (f : Nat) (H : ∀ g, g ≤ f → LevOk g) (n : Nat) (hn1 : 1 ≤ n) (hn2 : n ≤ 2) (r r1 r' : Rd) (q p : Pt) (h1 : run f (.lev (n + 1)) r = some (q, r1)) (h2 : run f (.rl n [q] []) r1 = some (p, r')) (hok : OkR r) (w : World) (b : Nat) (mv : Nat → Value) (hr : RdAt w b mv r) :
    Calls Tryz.prog 151 #[.pointer (some ⟨b, 0, none⟩), .int .i64 (n : Int)] w (PartTo w b mv p r') := by
  have HH := Lib.hid H
  have H1 := Lib.hid h1
  have H2 := Lib.hid h2
  have HOK := Lib.hid hok
  have HR := Lib.hid hr
  have hlt := hr.lt
  obtain ⟨s1, o1, m1⟩ := run_step _ _ _ _ _ h1 hok.fine (by simp only [Task.pre]; omega)
  have hok1 := hok.step s1
  have HOK1 := Lib.hid hok1
  have HO1 := Lib.hid o1
  have hq1 : q.nodes ≤ r1.mu := by simp only [Task.base] at m1; omega
  have hm1 := hok1.mu
  obtain ⟨i0, hi, hz0, hz1, hz2⟩ := info_parts info84
  obtain ⟨i1, hi', hz0', hz1', hz2'⟩ := info_parts info64
  clear H h1 h2 hok hr s1 o1 m1 hok1
  go_enter Tryz.func151, Tryz.ntmps151
  go_wp2_with fail
  refine (HH.out f (Nat.le_refl _) (n + 1) r q r1 H1.out (by omega) (by omega) HOK.out _ b mv (HR.out.below (below_new w _))).mono ?_
  rintro e w1 ⟨ev, rfl, hpt, hrd⟩
  have HPT := Lib.hid hpt
  have hrd' := RdTo.below (below_new w _) hlt hrd
  have HRD := Lib.hid hrd'
  have HH4 := Lib.hid ((hrd.grown.block w.heap.size (by simp) (by simp; omega)).trans (heap_alloc_new w _))
  have hs1 := hrd.grown.size
  simp at hs1
  obtain ⟨⟨Ae, ce, hev, y1, y2, -⟩, -⟩ := hpt
  simp only at hev y1
  subst hev
  unfold maxLen at y2
  clear hrd hrd'
  obtain ⟨s, hs⟩ : ∃ s, r1.sign n = s := ⟨_, rfl⟩
  have HS := Lib.hid hs
  clear hs
  go_wp2_with fail
  refine (takeSign_s b mv r1 n s _ HS.out (HRD.out.rd.below (below_new w1 _)) HOK1.out.nx (by omega) (by omega)).mono ?_
  rintro e w2 ⟨rfl, hrd2⟩
  have hg2 := hrd2.grown
  have hsz2 := hg2.size
  simp at hsz2
  have hblk : ∀ g, g < w1.heap.size → g ≠ b → w2.heap[g]? = w1.heap[g]? := fun g h3 h4 => (hg2.block g (by simp; omega) (fun e => h4 (by injection e))).trans (Below.heap_alloc _ _ _ h3)
  have HB : Hid (RBase w b mv w2 (.slice (some ⟨w1.heap.size, 0, none⟩) 1 1) (.slice none 0 0) [(.slice Ae q.e.length ce, q)] [] (if s.isSome then r1.adv else r1)) := Lib.hid
    ⟨⟨by simp [ptsOf, ptCells], .inr ⟨w1.heap.size, 1, _, rfl, by omega, (hg2.block w1.heap.size (by simp) (fun e => by injection e; omega)).trans (heap_alloc_new w1 _), Nat.le_refl _, by unfold maxLen; omega, by simp, by simp [ptsOf, ptCells]⟩⟩,
      World.ownsRow_nil _ _ _ _,
      by intro x hx; simp at hx; subst hx; exact (HPT.out.below (below_new w1 _)).grown (HRD.out.rd.below (below_new w1 _)) hg2,
      by intro x hx; simp at hx; subst hx; exact HO1.out, by simp, rfl, (hblk w.heap.size (lt_of_block HH4.out) (by omega)).trans HH4.out,
      (HRD.out.then_below (below_new w1 _)).trans hrd2, by simp; omega⟩
  clear hg2 hblk hrd2
  cases f with
  | zero => have := H2.out; simp [run] at this
  | succ f =>
  go_wp2
  go_loopg [5, 6, 7, 8] f (fun g s5 s6 s7 s8 wr => ∃ (rr : Rd) (lv bv : Value) (L : List (Value × Pt)) (ops : List (Int × Bool)) (B7 : Nat) (s : Option (Int × Bool)), g ≤ f ∧ lv = s5 ∧ bv = s6 ∧ s7 = .pointer (some ⟨B7, 0, none⟩) ∧ s8 = .bool s.isSome ∧ RAt w b mv n p r' g wr rr lv bv L ops B7 s)
  case atStart =>
    refine ⟨r1, _, _, [(.slice Ae q.e.length ce, q)], [], w2.heap.size, s, Nat.le_refl _, rfl, rfl, rfl, rfl, ⟨H2.out, HS.out, ?_, heap_alloc_new _ _, by simp [Value.ownBlock], by omega, by simp; exact hq1, HOK1.out⟩⟩
    exact HB.out.keep (by simp) (fun g h1 _ => Below.heap_alloc _ _ _ h1) (HB.out.rd_.then_below (below_new w2 _)) (fun x hx => (HB.out.pts x hx).below (below_new w2 _))
  case round =>
    obtain ⟨rr, lv, bv, L, ops, B7, s', hgf, rfl, rfl, rfl, rfl, hat⟩ := hrel
    have HAT := Lib.hid hat
    have b7 := hat.b7
    have z7 := lt_of_block hat.h7
    have z4 := lt_of_block hat.base.h4
    have hnx := hat.okr.nx
    have hmu := hat.mu
    have hmur := hat.okr.mu
    have HLEN := Lib.hid hat.base.len
    have hlen2 : L.length ≤ 100002 := by have := HLEN.out; omega
    have hws := hat.base.rd_.grown.size
    have x7 := hat.h7
    cases s' with
    | none =>
      have HE := Lib.hid (rl_none HAT.out.run_ HAT.out.sign)
      have HBS : Hid (RBase w b mv wr lv bv L ops rr) := Lib.hid HAT.out.base
      clear x7 hat
      obtain ⟨Al, cl, rfl, l1, l2, l3⟩ := own_slice HBS.out.own
      obtain ⟨gl, rfl, hgl⟩ := l3 (by have := HLEN.out; omega)
      obtain ⟨Ab, cb, rfl, m1, m2, m3⟩ := own_slice HBS.out.sgn
      have hol : ops.length < L.length := by have := HLEN.out; omega
      have hops6 : ops.length ≤ 100001 := by omega
      obtain ⟨x, hx⟩ : ∃ x, L[ops.length]? = some x := ⟨_, List.getElem?_eq_getElem hol⟩
      obtain ⟨c0, c1, c2⟩ := HBS.out.part rfl hx
      have HX := Lib.hid hx
      have hxm := List.mem_of_getElem? hx
      have HXP := Lib.hid (HBS.out.pts x hxm)
      have HXF : Hid (foldR ((L.map Prod.snd).drop ops.length) (ops.drop ops.length) = x.2) := Lib.hid (foldR_last (by simp; exact HLEN.out) (by rw [List.getElem?_map, hx]; rfl))
      obtain ⟨xv, xp⟩ := x
      obtain ⟨⟨Ax, cx, hxv, u1, u2, -⟩, -⟩ := HXP.out
      simp only at hxv u1 c0 c1 c2
      subst hxv
      unfold maxLen at u2
      have HM3 := Lib.hid m3
      clear hx hxm l3 m3
      obtain ⟨B9, hB9⟩ : ∃ B9, wr.heap.size = B9 := ⟨_, rfl⟩
      have HB9 := Lib.hid hB9
      have hbb9 : w.heap.size < B9 := by omega
      clear hB9
      go_wp2
      rw [HB9.out]
      go_loopg [10] ops.length (fun g s10 wx => ∃ (i : Int) (ev : Value), s10 = .int .i64 i ∧ i = (g : Int) - 1 ∧ FAt w b mv B9 (.slice (some ⟨gl, 0, none⟩) L.length cl) (.slice Ab ops.length cb) L ops rr g ev wx)
      case atStart =>
        refine ⟨_, .slice Ax xp.e.length cx, rfl, by omega, ⟨?_, Nat.le_refl _, hbb9, ?_, ?_, ?_⟩⟩
        · exact HBS.out.keep (by simp) (fun g h1 _ => Below.heap_alloc _ _ _ h1) (HBS.out.rd_.then_below (below_new wr _)) (fun y hy => (HBS.out.pts y hy).below (below_new wr _))
        · intro e; simp only [Value.ownBlock, Option.some.injEq] at e; have := HB9.out; omega
        · rw [HXF.out, ← HB9.out]; exact heap_alloc_new _ _
        · rw [HXF.out]; exact HXP.out.below (below_new wr _)
      case round =>
        obtain ⟨i, ev, rfl, hi10, hf⟩ := hrel
        have HF := Lib.hid hf
        obtain ⟨⟨Ae', ce', hev, u3, u4, -⟩, -⟩ := hf.pt
        simp only at hev u3
        subst hev
        unfold maxLen at u4
        have y9 := hf.h9
        have z9 := lt_of_block y9
        have kle := hf.le
        have c90 : wr.cell? ⟨B9, 0, none⟩ = some (.slice Ae' (foldR ((L.map Prod.snd).drop gk) (ops.drop gk)).e.length ce') := (cell_at y9 0).trans rfl
        have c91 : wr.cell? ⟨B9, 1, none⟩ = some (.int .i64 ((foldR ((L.map Prod.snd).drop gk) (ops.drop gk)).nodes : Int)) := (cell_at y9 1).trans rfl
        have c92 : wr.cell? ⟨B9, 2, none⟩ = some (.int .i64 ((foldR ((L.map Prod.snd).drop gk) (ops.drop gk)).deep : Int)) := (cell_at y9 2).trans rfl
        have hfb := foldR_bound (ps := L.map Prod.snd) HF.out.base.ops_ gk
        have hndb := HF.out.base.nd
        clear y9 hf
        cases gk with
        | zero =>
          have hi1 : i = -1 := by omega
          subst hi1
          have y4 := HF.out.base.h4
          have c40 : wr.cell? ⟨w.heap.size, 0, none⟩ = some (.slice none 0 0) := (cell_at y4 0).trans rfl
          have c41 : wr.cell? ⟨w.heap.size, 1, none⟩ = some (.int .i64 0) := (cell_at y4 1).trans rfl
          have c42 : wr.cell? ⟨w.heap.size, 2, none⟩ = some (.int .i64 0) := (cell_at y4 2).trans rfl
          have f40 : wr.frozen? ⟨w.heap.size, 0, none⟩ = false := free_at y4 0
          have f41 : wr.frozen? ⟨w.heap.size, 1, none⟩ = false := free_at y4 1
          have f42 : wr.frozen? ⟨w.heap.size, 2, none⟩ = false := free_at y4 2
          have HFE : Hid (foldR ((L.map Prod.snd).drop 0) (ops.drop 0) = foldR (L.map Prod.snd) ops) := Lib.hid rfl
          obtain ⟨Z, hZ⟩ : ∃ Z, foldR ((L.map Prod.snd).drop 0) (ops.drop 0) = Z := ⟨_, rfl⟩
          have hzp : p = Z := HE.out.1.trans (HFE.out.symm.trans hZ)
          have HZP := Lib.hid hzp
          have HPZ : Hid (PtW wr (.slice Ae' Z.e.length ce', Z)) := Lib.hid (by rw [← hZ]; exact HF.out.pt)
          rw [hZ] at c90 c91 c92 u3
          clear y4 hZ hzp hi10 hfb
          go_wp2
          refine bodyPost_ret (v := .agg #[.slice Ae' Z.e.length ce', .int .i64 (Z.nodes : Int), .int .i64 (Z.deep : Int)]) ?_ rfl (PartTo.laid HZP.out HE.out.2 HF.out.base.rd_ hlt (Nat.le_refl _) HF.out.base.h4 HPZ.out)
          obtain ⟨k0, k1, k2⟩ := trip_cells (.slice Ae' Z.e.length ce') (.int .i64 (Z.nodes : Int)) (.int .i64 (Z.deep : Int)) HF.out.base.h4
          clear c90 c91 c92 c40 c41 c42 f40 f41 f42
          simp [results, Tryz.results151, go_sem, k0, k1, k2]
        | succ k =>
          have hi1 : i = (k : Int) := by omega
          subst hi1
          have hko : k < ops.length := by omega
          have hkl : k < L.length := by omega
          obtain ⟨y, hy⟩ : ∃ y, L[k]? = some y := ⟨_, List.getElem?_eq_getElem hkl⟩
          obtain ⟨s, hs⟩ : ∃ s, ops[k]? = some s := ⟨_, List.getElem?_eq_getElem hko⟩
          obtain ⟨gb, rfl, hgb⟩ := HM3.out (by omega)
          obtain ⟨a0, a1, a2⟩ := HF.out.base.part rfl hy
          obtain ⟨b0, b1⟩ := HF.out.base.sign_ rfl hs
          have HY := Lib.hid hy
          have HSS := Lib.hid hs
          have hym := List.mem_of_getElem? hy
          have HYP := Lib.hid (HF.out.base.pts y hym)
          have HYO := Lib.hid (HF.out.base.oks y hym)
          have hyb := part_bound hym
          have hso := HF.out.base.ops_ s (List.mem_of_getElem? hs)
          have HFO := Lib.hid (fold_ok (ops := ops) HF.out.base.oks (k + 1))
          have HFP := Lib.hid HF.out.pt
          obtain ⟨yv, yp⟩ := y
          obtain ⟨O, U⟩ := s
          obtain ⟨⟨Ay, cy, hyv, u5, u6, -⟩, -⟩ := HYP.out
          simp only at hyv u5 a0 a1 a2 b0 b1 hyb hso
          subst hyv
          unfold maxLen at u6
          have hkI : (0 : Int) ≤ (k : Int) := by omega
          have hkI2 : (k : Int) < (ops.length : Int) := by omega
          have hkI3 : (k : Int) < (L.length : Int) := by omega
          have hpo : Hid (FAt w b mv B9 _ _ L ops rr (k + 1) _ wr) := HF
          obtain ⟨Z, hZ⟩ : ∃ Z, foldR ((L.map Prod.snd).drop (k + 1)) (ops.drop (k + 1)) = Z := ⟨_, rfl⟩
          have HZ := Lib.hid hZ
          rw [hZ] at c90 c91 c92 u3 HFO HFP hfb
          clear hy hs hym hZ hi10
          have y9 := HF.out.h9
          have Y9 := Lib.hid y9
          clear y9
          go_upto_region 14 with fail
          go_region_with ((go_at_call 160; (with_reducible refine (sjoin_any (O, U) _ _ yp Z _ (by first | exact HYP.out.inn | exact HYP.out.drew.inn) (by first | exact HFP.out.inn | exact HFP.out.drew.inn) HYO.out HFO.out (by omega) (by exact hso)).mono ?_); rintro e w4 ⟨gv, rfl, hpt4, hb4⟩; have HPT4 := Lib.hid hpt4; obtain ⟨⟨Ag, cg, hgv, v1, v2, -⟩, -⟩ := hpt4; simp only at hgv v1; subst hgv; unfold maxLen at v2; have hb4' := below_undrew hb4; have y5 := (hb4'.block B9 z9).trans Y9.out; have e50 : w4.cell? ⟨B9, 0, none⟩ = _ := (cell_at y5 0).trans rfl; have e51 : w4.cell? ⟨B9, 1, none⟩ = _ := (cell_at y5 1).trans rfl; have e52 : w4.cell? ⟨B9, 2, none⟩ = _ := (cell_at y5 2).trans rfl; have g50 : w4.frozen? ⟨B9, 0, none⟩ = false := free_at y5 0; have g51 : w4.frozen? ⟨B9, 1, none⟩ = false := free_at y5 1; have g52 : w4.frozen? ⟨B9, 2, none⟩ = false := free_at y5 2; have HB4 := Lib.hid hb4'; clear y5 hb4 hb4'))
          all_goals go_wp2_with fail
          all_goals go_roundg k
          all_goals first | (case measure => omega) | skip
          all_goals
            have hnx := HF.out.next (gv := .slice Ag (sjoin (O, U) yp Z).e.length cg) hlt HY.out HSS.out HB4.out (by simp only [HZ.out]; exact HPT4.out)
            simp only [HZ.out] at hnx
            exact ⟨_, _, rfl, rfl, hnx⟩
    | some s' =>
      obtain ⟨O, U⟩ := s'
      have c70 : wr.cell? ⟨B7, 0, none⟩ = some (.int .i64 O) := (cell_at x7 0).trans rfl
      have c71 : wr.cell? ⟨B7, 1, none⟩ = some (.bool U) := (cell_at x7 1).trans rfl
      have hso := sign_ops HAT.out.sign
      have hadv := adv_step rr (sign_lt HAT.out.sign)
      obtain ⟨⟨q3, r3⟩, k1, k2⟩ : ∃ x : Pt × Rd, run gk (.lev (n + 1)) rr.adv = some x ∧ run gk (.rl n (L.map Prod.snd ++ [x.1]) (ops ++ [(O, U)])) x.2 = some (p, r') := by
        have h := HAT.out.run_
        simp only [run, HAT.out.sign] at h
        obtain ⟨x, ha, hb⟩ := bind_some h
        exact ⟨x, ha, hb⟩
      have HKA := Lib.hid k1
      have HKB := Lib.hid k2
      obtain ⟨st3, ok3, mu3⟩ := run_step _ _ _ _ _ k1 (hadv.fine HAT.out.okr.fine) (by simp only [Task.pre]; omega)
      have HOKA := Lib.hid (HAT.out.okr.step hadv)
      have HOK3 := Lib.hid ((HAT.out.okr.step hadv).step st3)
      have HO3 := Lib.hid ok3
      have hq3 : q3.nodes + rr.adv.mu ≤ r3.mu := by simpa [Task.base] using mu3
      have hm3 := HOK3.out.mu
      have hadm := adv_mu rr
      have HBS : Hid (RBase w b mv wr lv bv L ops rr.adv) := Lib.hid HAT.out.base
      clear hat x7 hadv k1 k2 st3 ok3 mu3
      go_wp2_with (at_builtin; refine wpList_append_own _ rfl (.tmp 29) (.tmp 31) 181 rfl (w.heap.size + 1) 171 i0 _ 2 16 Tryz.underlying181 hi hz0 hz1 hz2 rfl (by decide) bv ops.length (sgsOf ops) rfl (HBS.out.sgn.alloc _) ⟨wr.heap.size, 0, none⟩ 1 1 (sgCells (O, U)) rfl rfl ?newa ?onea ?lena ?byta ?basa ?_)
      case newa => first | exact (fun j u h => h) | exact news_new _ #[.int .i64 O, .bool U] _ (sgCells (O, U)) rfl rfl
      case onea => simp [sgCells, Value.oneCell']
      case lena => unfold maxLen; omega
      case byta => omega
      intro bv2 w3 hown3 hg3 _
      have HO3' := Lib.hid hown3
      have HG3 := Lib.hid hg3
      have hs3 := hg3.size
      simp at hs3
      have HR3 := Lib.hid ((HBS.out.rd_.then_below (below_new wr _)).rowed hg3 (fun k hk => by have := (HBS.out.sgn.lt k hk).1; omega) hlt)
      clear hown3 hg3 c70 c71
      go_wp2_with fail
      refine (lev_at (HH.out gk (by omega)) HKA.out (by omega) (by omega) (by omega) HOKA.out HR3.out.rd).mono ?_
      rintro e w4 ⟨fv, rfl, hpt4, hrd4⟩
      have HPT4 := Lib.hid hpt4
      have HR4 := Lib.hid hrd4
      have hs4 := hrd4.grown.size
      obtain ⟨⟨Af, cf, hfv, u1, u2, -⟩, -⟩ := hpt4
      simp only at hfv u1
      subst hfv
      unfold maxLen at u2
      have HL4 : Hid (w4.ownsRow (w.heap.size + 1) 167 3 lv L.length (ptsOf L)) := Lib.hid (own_block (own_block HBS.out.own (fun g hg => (HG3.out.block g (by have := (HBS.out.own.lt g hg).2; simp; omega) (fun e => by
          obtain ⟨cs, f', hc⟩ := own_type HBS.out.own g hg
          exact own_ne_type HBS.out.sgn hc (by decide) e.symm)).trans (Below.heap_alloc _ _ _ (HBS.out.own.lt g hg).2)))
        (fun g hg => HR4.out.grown.block g (by have := (HBS.out.own.lt g hg).2; omega) (fun e => by have := (HBS.out.own.lt g hg).1; injection e; omega)))
      clear hrd4
      go_wp2_with (at_builtin; refine wpList_append_own _ rfl (.tmp 33) (.tmp 38) 180 rfl (w.heap.size + 1) 167 i1 _ 3 40 Tryz.underlying180 hi' hz0' hz1' hz2' rfl (by decide) lv L.length (ptsOf L) rfl (HL4.out.alloc _) ⟨w4.heap.size, 0, none⟩ 1 1 (ptCells (.slice Af q3.e.length cf, q3)) rfl rfl ?newb ?oneb ?lenb ?bytb ?basb ?_)
      case newb => first | exact (fun j u h => h) | exact news_new _ #[.slice Af q3.e.length cf, .int .i64 (q3.nodes : Int), .int .i64 (q3.deep : Int)] _ (ptCells (.slice Af q3.e.length cf, q3)) rfl rfl
      case oneb => simp [ptCells, Value.oneCell']
      case lenb => unfold maxLen; omega
      case bytb => omega
      case basb => simp; omega
      intro lv2 w5 hown5 hg5 _
      have hs5 := hg5.size
      simp at hs5
      have HB5 := Lib.hid (HBS.out.step HG3.out HO3'.out HR4.out HPT4.out hg5 hown5 hlt HO3.out hso.2 (by simp only [List.map_append, List.map_cons, List.map_nil, List.sum_append, List.sum_cons, List.sum_nil, List.length_append, List.length_cons, List.length_nil]; omega))
      have y7 : w5.heap[B7]? = some (.cells #[.int .i64 O, .bool U] 171 (0, 0)) := by
        rw [hg5.block B7 (by simp; omega) (fun e => by
          have y4 : w4.heap[B7]? = some (.cells #[.int .i64 O, .bool U] 171 (0, 0)) := by
            rw [HR4.out.grown.block B7 (by omega) (fun e => by injection e; omega), HG3.out.block B7 (by simp; omega) (fun e => HAT.out.n7 e.symm), Below.heap_alloc _ _ _ z7]; exact HAT.out.h7
          exact own_ne_type HL4.out y4 (by decide) e.symm), Below.heap_alloc _ _ _ (by omega), HR4.out.grown.block B7 (by omega) (fun e => by injection e; omega), HG3.out.block B7 (by simp; omega) (fun e => HAT.out.n7 e.symm), Below.heap_alloc _ _ _ z7]
        exact HAT.out.h7
      have d70 : w5.cell? ⟨B7, 0, none⟩ = some (.int .i64 O) := (cell_at y7 0).trans rfl
      have d71 : w5.cell? ⟨B7, 1, none⟩ = some (.bool U) := (cell_at y7 1).trans rfl
      have z75 := lt_of_block y7
      clear hown5 hg5 y7
      cases gk with
      | zero => have := HKB.out; simp [run] at this
      | succ gk =>
      obtain ⟨s3, hsg⟩ : ∃ s3, r3.sign n = s3 := ⟨_, rfl⟩
      have HS3 := Lib.hid hsg
      clear hsg
      go_wp2_with fail
      refine (takeSign_s b mv r3 n s3 _ HS3.out (HB5.out.rd_.rd.below (below_new w5 _)) HOK3.out.nx (by omega) (by omega)).mono ?_
      rintro e w6 ⟨rfl, hrd6⟩
      have hg6 := hrd6.grown
      have hsz6 := hg6.size
      simp at hsz6
      have HG6 := Lib.hid hg6
      have HR6 := Lib.hid hrd6
      have t6 := (hg6.block w5.heap.size (by simp) (fun e => by injection e; omega)).trans (heap_alloc_new w5 _)
      have T6 := Lib.hid t6
      have e70 : w6.cell? ⟨w5.heap.size, 0, none⟩ = some (.int .i64 O) := (cell_at t6 0).trans rfl
      have e71 : w6.cell? ⟨w5.heap.size, 1, none⟩ = some (.bool U) := (cell_at t6 1).trans rfl
      have g70 : w6.frozen? ⟨w5.heap.size, 0, none⟩ = false := free_at t6 0
      have g71 : w6.frozen? ⟨w5.heap.size, 1, none⟩ = false := free_at t6 1
      clear t6 hg6 hrd6 d70 d71
      go_wp2
      go_roundg gk
      case measure => omega
      case rel => exact ⟨r3, lv2, bv2, L ++ [(.slice Af q3.e.length cf, q3)], ops ++ [(O, U)], w5.heap.size, s3, by omega, rfl, rfl, rfl, rfl, RAt.next HB5.out (by simpa using HKB.out) HS3.out hlt HG6.out HR6.out T6.out (by simp; simp at hmu; omega) HOK3.out⟩
end Go.Proofs.YtgohhnbdicdenaaGreatDoor.Ex

