/- Contracts of the document's reader of programs: Parse, of a source that is a program. Conditions: a reader lies in memory. -/
import Derived.Test.YtdebhngpgabglaaGreatRa10
import Derived.Test.YtdebhngpgabglaaGreatRa16
set_option linter.unusedVariables false
set_option linter.unusedSimpArgs false
namespace Go.Proofs.YtdebhngpgabglaaGreat.Rp
open Go.ChangeShapes Go.WideShapes Go.ChangeAt Go.RowKit
open Go.Proofs.YtdebhngpgabglaaGreat.Ex
open Go.Proofs.YtdebhngpgabglaaGreat.Tr (str ret_bool ret_int Bytes Nd)
open Go.Proofs.YtdebhngpgabglaaGreat.Pg
theorem info40_P0 : (Tryz.prog.info? 40).map (fun i => (i.zero, i.size, i.bytes)) = some (some (.agg #[.bool false, .string ⟨#[]⟩, .slice none 0 0, .string ⟨#[]⟩, .int .i64 0, .slice none 0 0, .slice none 0 0, .slice none 0 0]), 8, 144) := by kernel_rfl
set_option maxRecDepth 100000 in
set_option maxHeartbeats 8000000 in
theorem parse_ok0 (S : ByteArray) (w : World) (h : S.size ≤ maxLen) (l : List Tok) (hl : Lx.lexM S.toList = .ok l) (hln : l.length ≤ 20000) (us : List Unt) (m k : Bytes) (r1 r2 r3 r4 r5 r6 r7 : Rd) (g0 : unF rowMax [] ⟨l, 0, 0, 0, 0⟩ = (us, r1)) (g1 : (needQ wMain r1).2 = r2) (g2 : nameP r2 = (m, r3)) (g3 : (needQ sSemi r3).2 = r4) (g4 : takeQ wFallback r4 = (false, r5)) (gk : k = []) (gc : r5.code = 0) (gn : ¬ r5.next < r5.l.length) :
 Calls Tryz.prog 17 #[.string S] w (ParG w (⟨us, m, k⟩, 0, 0)) := by
 have HC : Hid (Calls Tryz.prog 28 #[.string S] ((w.alloc (.cells #[.slice none 0 0, .string ⟨#[]⟩, .string ⟨#[]⟩] 43)).alloc (.cells #[.int .i64 0, .int .i64 0] 46)) (Lx.LexGives ((w.alloc (.cells #[.slice none 0 0, .string ⟨#[]⟩, .string ⟨#[]⟩] 43)).alloc (.cells #[.int .i64 0, .int .i64 0] 46)) l 0 0)) := Lib.hid (by have := Rf.rlex_gives S ((w.alloc (.cells #[.slice none 0 0, .string ⟨#[]⟩, .string ⟨#[]⟩] 43)).alloc (.cells #[.int .i64 0, .int .i64 0] 46)) h; rw [hl] at this; exact this)
 have HOK := Lib.hid (Rf.okl_of hl hln)
 have HN := Lib.hid (two_new w (.cells #[.slice none 0 0, .string ⟨#[]⟩, .string ⟨#[]⟩] 43) (.cells #[.int .i64 0, .int .i64 0] 46))
 have G0 := Lib.hid g0
 have G1 := Lib.hid g1
 have G2 := Lib.hid g2
 have G3 := Lib.hid g3
 have G4 := Lib.hid g4
 have GC := Lib.hid gc
 have GN := Lib.hid gn
 subst gk
 clear g0 g1 g2 g3 g4 gc gn hl h
 obtain ⟨i0, hi, hz0, hz1, hz2⟩ := info_parts info40_P0
 go_enter Tryz.func17, Tryz.ntmps17
 go_wp2_with fail
 refine HC.out.mono ?_
 rintro e w1 ⟨v, rfl, ht, hb1⟩
 have HT := Lib.hid ht
 obtain ⟨A, cc, rfl, t1, t2, -⟩ := ht
 unfold maxLen at t2
 have X1 := Lib.hid ((hb1.block _ (lt_of_block HN.out.2.1)).trans HN.out.2.1)
 have Z1 := Lib.hid ((hb1.block _ (lt_of_block HN.out.2.2)).trans HN.out.2.2)
 have HB1 : Hid (Below w.heap.size w w1) := Lib.hid (HN.out.1.trans (hb1.mono HN.out.1.size))
 have lx1 := lt_of_block X1.out
 have lz1 := lt_of_block Z1.out
 have hs1 := HB1.out.size
 clear hb1
 obtain ⟨wq, hwq⟩ : ∃ W, (w1.alloc (.cells #[.int .i64 0, .int .i64 0] 46)).alloc (.cells #[.slice A l.length cc, .int .i64 0, .int .i64 0, .int .i64 0] 88) = W := ⟨_, rfl⟩
 have N2 := two_new w1 (.cells #[.int .i64 0, .int .i64 0] 46) (.cells #[.slice A l.length cc, .int .i64 0, .int .i64 0, .int .i64 0] 88)
 rw [hwq] at N2
 have HBQ := Lib.hid N2.1
 have hzq : wq.heap.size = w1.heap.size + 2 := by rw [← hwq]; simp
 have HRQ : Hid (RdIn wq (w1.heap.size + 1) ⟨l, 0, 0, 0, 0⟩) := Lib.hid ⟨l, _, 0, 0, 0, N2.2.2, toks_rp HT.out N2.1 (by omega), HOK.out.1, HOK.out.2, Nat.zero_le _, .inl ⟨rfl, rfl, rfl, rfl⟩⟩
 have XQ := Lib.hid ((HBQ.out.block _ lx1).trans X1.out)
 have ZQ := Lib.hid ((HBQ.out.block _ lz1).trans Z1.out)
 have HWB : Hid (Below w.heap.size w wq) := Lib.hid (HB1.out.trans (HBQ.out.mono hs1))
 clear N2
 obtain ⟨w2, hw2⟩ : ∃ W, wq.alloc (.cells #[.slice none 0 0, .string ⟨#[]⟩, .string ⟨#[]⟩] 43) = W := ⟨_, rfl⟩
 have hb2 : Below wq.heap.size wq w2 := hw2 ▸ below_new wq _
 have P2 : Hid (w2.heap[w1.heap.size + 1 + 1]? = some (.cells #[.slice none 0 0, .string ⟨#[]⟩, .string ⟨#[]⟩] 43 (0, 0))) := Lib.hid (hw2 ▸ new_blk (by omega))
 have HG2 : Hid (RdBy wq w2 (w1.heap.size + 1) ⟨l, 0, 0, 0, 0⟩) := Lib.hid (RdBy.of_below HRQ.out hb2)
 have hlt : w1.heap.size + 1 < wq.heap.size := by omega
 clear hb2
 have HW2 := Lib.hid hw2
 have HWQ := Lib.hid hwq
 clear hw2 hwq
 go_wp2
 rw [HWQ.out, HW2.out]
 go_loopg [] rowMax (fun g wr => ∃ (rr : Rd) (ov : Value) (acc : List Unt) (xs : List (List Value)), acc.length ≤ 201 ∧ 1 ≤ g ∧ (rr.code = 0 → acc.length ≤ 200 ∧ 202 ≤ acc.length + g) ∧ OList 40 8 UntV wr (w1.heap.size + 1 + 1 + 1) ov acc xs ∧ RdBy wq wr (w1.heap.size + 1) rr ∧ wr.heap[w1.heap.size + 1 + 1]? = some (.cells #[ov, .string ⟨#[]⟩, .string ⟨#[]⟩] 43 (0, 0)) ∧ unF g acc rr = (us, r1))
 case atStart => exact ⟨⟨l, 0, 0, 0, 0⟩, _, [], [], by simp, by simp [rowMax], fun _ => by simp [rowMax], OList.nil _ _, HG2.out, P2.out, G0.out⟩
 case round =>
  obtain ⟨rr, ov, acc, xs, ha, hg1, hag, hol, hgr, hpb, hrow⟩ := hrel
  have HOL := Lib.hid hol
  have HGR := Lib.hid hgr
  have HROW := Lib.hid hrow
  have HPB := Lib.hid hpb
  obtain ⟨A0, c0, hv0, hn1, hn2⟩ := own_form hol.own
  subst hv0
  have hs0 := hgr.grown.size
  have hlp := lt_of_block hpb
  clear hol hgr hrow hpb
  cases gk with
  | zero => omega
  | succ gk =>
  obtain ⟨B1, hB1⟩ : ∃ B, rr.isB wNode = B := ⟨_, rfl⟩
  obtain ⟨B2, hB2⟩ : ∃ B, rr.isB wContract = B := ⟨_, rfl⟩
  have HI1 := Lib.hid (is_lit (s := wNode) rfl HGR.out.rd hB1)
  have HI2 : Hid (∀ w', RdIn w' (w1.heap.size + 1) rr → Calls Tryz.prog 30 #[.pointer (some ⟨w1.heap.size + 1, 0, none⟩), .string (str wContract)] w' (fun e w'' => e = .returned (.bool B2) ∧ Below w'.heap.size w' w'')) := Lib.hid (fun w' h => is_lit rfl h hB2)
  have HATU := Lib.hid (show atUnitQ rr = (B1 || B2) by unfold atUnitQ; rw [hB1, hB2])
  have HIN : Hid ((B1 || B2) = true → rr.next < rr.l.length) := Lib.hid (fun hh => by
   rcases Bool.or_eq_true_iff.1 hh with h | h
   · exact isB_in (hB1.trans h)
   · exact isB_in (hB2.trans h))
  clear hB1 hB2
  by_cases hu : (B1 || B2) = true
  · have hc : rr.code = 0 := HGR.out.rd.alive (HIN.out hu)
    have hag' := hag hc
    obtain ⟨ra, k1⟩ : ∃ x, (roomQ acc.length rr).2 = x := ⟨_, rfl⟩
    have HK1 : Hid (∀ w', RdIn w' (w1.heap.size + 1) rr → Calls Tryz.prog 31 #[.pointer (some ⟨w1.heap.size + 1, 0, none⟩), .int .i64 (acc.length : Int)] w' (fun e w'' => e = .returned (.tuple #[]) ∧ RdBy w' w'' (w1.heap.size + 1) ra)) := Lib.hid (fun w' h => room_lit (n := acc.length) (by omega) h k1)
    obtain ⟨⟨u, rb⟩, k2⟩ : ∃ x, unitQ ra = x := ⟨_, rfl⟩
    have HO : Hid (∀ w', RdIn w' (w1.heap.size + 1) ra → Calls Tryz.prog 32 #[.pointer (some ⟨w1.heap.size + 1, 0, none⟩)] w' (UntG w' (w1.heap.size + 1) (u, rb))) := Lib.hid (fun w' h => by rw [← k2]; exact unit_any _ ra w' h)
    have HE : Hid (unF gk (acc ++ [u]) rb = (us, r1)) := Lib.hid ((unF_step (HATU.out.trans hu) k1 k2).symm.trans HROW.out)
    have HST : Hid (rb.code = 0 → acc.length < 200) := Lib.hid (fun h => room_code k1 (Classical.byContradiction fun hn => by
     have s1 := stick_unit ra hn
     rw [k2] at s1
     exact s1 h))
    clear k1 k2 hc hag
    cases B1 with
    | false =>
     cases B2 with
     | false => simp at hu
     | true =>
      clear hu
      go_wp2_with fail
      refine HI1.out.mono ?_
      rintro e wb ⟨rfl, hbB⟩
      have HGB := Lib.hid (HGR.out.then_below hbB)
      have HOLB := Lib.hid (HOL.out.stay (Stay.below (P := fun t => t = 88) hbB) (by decide) (fun a x hx => UntV.stay (Stay.below (P := fun t => t = 88) hbB) ⟨by decide, by decide, by decide, by decide, by decide⟩ a x hx))
      have HPBB := Lib.hid ((hbB.block _ hlp).trans HPB.out)
      have hsB := hbB.size
      clear hbB
      go_wp2_with fail
      refine (HI2.out wb HGB.out.rd).mono ?_
      rintro e wc ⟨rfl, hbC⟩
      have HGC := Lib.hid (HGB.out.then_below hbC)
      have HOLC := Lib.hid (HOLB.out.stay (Stay.below (P := fun t => t = 88) hbC) (by decide) (fun a x hx => UntV.stay (Stay.below (P := fun t => t = 88) hbC) ⟨by decide, by decide, by decide, by decide, by decide⟩ a x hx))
      have HPBC := Lib.hid ((hbC.block _ (lt_of_block HPBB.out)).trans HPBB.out)
      have hsC := hbC.size
      clear hbC
      have hpc0 : wc.cell? ⟨w1.heap.size + 1 + 1, 0, none⟩ = some (.slice A0 acc.length c0) := (cell_at HPBC.out 0).trans rfl
      have hlpc := lt_of_block HPBC.out
      go_wp2_with fail
      refine (HK1.out wc HGC.out.rd).mono ?_
      rintro e wd ⟨rfl, hgd⟩
      have HGD := Lib.hid (HGC.out.trans hgd)
      have HOLD := Lib.hid (HOLC.out.stay (RdBy.stay HGC.out.rd hgd) (by decide) (fun a x hx => UntV.stay (RdBy.stay HGC.out.rd hgd) ⟨by decide, by decide, by decide, by decide, by decide⟩ a x hx))
      have HPBD := Lib.hid (hgd.block HPBC.out (by omega))
      have hsd := hgd.grown.size
      clear hgd hpc0
      have hpd0 : wd.cell? ⟨w1.heap.size + 1 + 1, 0, none⟩ = some (.slice A0 acc.length c0) := (cell_at HPBD.out 0).trans rfl
      have hlpd := lt_of_block HPBD.out
      have HOU := Lib.hid (HO.out wd.drew HGD.out.rd.drew)
      go_wp2_with fail
      go_region_law (first
       | (go_simp; go_at_call 32; (with_reducible refine HOU.out.mono ?_); rintro e we ⟨iv, vv, qv, lv, rfl, hp9, hq9, hr9, ht9, hge⟩; have HGE := Lib.hid (HGD.out.trans (RdBy.undrew hge)); have HPBE := Lib.hid ((RdBy.undrew hge).block HPBD.out (by omega)); have hse := (RdBy.undrew hge).grown.size; have HOLE := Lib.hid (HOLD.out.stay (RdBy.stay HGD.out.rd (RdBy.undrew hge)) (by decide) (fun a x hx => UntV.stay (RdBy.stay HGD.out.rd (RdBy.undrew hge)) ⟨by decide, by decide, by decide, by decide, by decide⟩ a x hx)); clear hge; obtain ⟨A2, n2, c2, rfl, y1, y2⟩ := row_form hp9; obtain ⟨A4, n4, c4, rfl, y11, y12⟩ := row_form hq9; obtain ⟨A5, n5, c5, rfl, y13, y14⟩ := row_form hr9; obtain ⟨A6, n6, c6, rfl, y15, y16⟩ := row_form ht9; have HXV : Hid (UntV we u [.bool u.contract, .string (str u.name), .slice A2 n2 c2, .string (str u.out.name), .int .i64 u.out.ty, .slice A4 n4 c4, .slice A5 n5 c5, .slice A6 n6 c6]) := Lib.hid ⟨_, _, _, _, rfl, hp9, hq9, hr9, ht9⟩; clear hp9 hq9 hr9 ht9; have hpe0 : we.cell? ⟨w1.heap.size + 1 + 1, 0, none⟩ = some (.slice A0 acc.length c0) := (cell_at HPBE.out 0).trans rfl; have hlpe := lt_of_block HPBE.out; have hne5 := row_ne HOLE.out.own)
       | (refine step_append_lies _ (by rfl) _ _ _ (by rfl) (w1.heap.size + 1 + 1 + 1) 40 i0 _ 8 144 Tryz.underlying41 hi hz0 hz1 hz2 rfl (by omega) (.slice A0 acc.length c0) acc.length xs.flatten (by rfl) (by exact HOLE.out.own.alloc _) ⟨we.heap.size, 0, none⟩ 1 1 [.bool u.contract, .string (str u.name), .slice A2 n2 c2, .string (str u.out.name), .int .i64 u.out.ty, .slice A4 n4 c4, .slice A5 n5 c5, .slice A6 n6 c6] (by rfl) (by rfl) (World.news_of_block (cs := #[.bool u.contract, .string (str u.name), .slice A2 n2 c2, .string (str u.out.name), .int .i64 u.out.ty, .slice A4 n4 c4, .slice A5 n5 c5, .slice A6 n6 c6]) (t := 40) (fr := (0, 0)) (heap_alloc_new _ _)) (by simp [Value.oneCell']) (by omega) (by unfold maxLen; omega) (by omega) (by simp; omega) (we.heap.size + 1) (by simp) ?_; intro g5 cap5 w5 hown5 hgrow5 hat5 hlt5; have HPB5 : Hid (w5.heap[w1.heap.size + 1 + 1]? = some (.cells #[.slice A0 acc.length c0, .string ⟨#[]⟩, .string ⟨#[]⟩] 43 (0, 0))) := Lib.hid ((hgrow5.block _ (by simp; omega) (fun e => hne5 e.symm)).trans ((Below.heap_alloc _ _ _ hlpe).trans HPBE.out)); have hf5 : w5.frozen? ⟨w1.heap.size + 1 + 1, 0, none⟩ = false := free_at HPB5.out 0; have hc5 : w5.cell? ⟨w1.heap.size + 1 + 1, 0, none⟩ = some (.slice A0 acc.length c0) := (cell_at HPB5.out 0).trans rfl; have hl5 := lt_of_block HPB5.out))
      all_goals
       have HOL5 := Lib.hid (HOLE.out.snoc HXV.out rfl (below_new we _) hown5 hgrow5 (fun st => UntV.stay st ⟨by decide, by decide, by decide, by decide, by decide⟩))
       have HG5 := Lib.hid (RdBy.row HGE.out hlt (below_new we _) hgrow5 (fun g hg => by have := (HOLE.out.own.lt g hg).1; omega))
       obtain ⟨n5', hn5'⟩ : ∃ n, acc.length + 1 = n := ⟨_, rfl⟩
       have HPB6 : Hid (∀ v : Value, (w5.setCell ⟨w1.heap.size + 1 + 1, 0, none⟩ v).heap[w1.heap.size + 1 + 1]? = some (.cells #[v, .string ⟨#[]⟩, .string ⟨#[]⟩] 43 (0, 0))) := Lib.hid (fun v => by have z := setObj_heap (v := v) HPB5.out (k := 0) (by simp); simpa using z)
       have hne6 := row_ne HOL5.out.own
       have HOL6 : Hid (∀ v : Value, OList 40 8 UntV (w5.setCell ⟨w1.heap.size + 1 + 1, 0, none⟩ v) (w1.heap.size + 1 + 1 + 1) (.slice (some ⟨g5, 0, none⟩) (acc.length + 1) cap5) (acc ++ [u]) (xs ++ [[.bool u.contract, .string (str u.name), .slice A2 n2 c2, .string (str u.out.name), .int .i64 u.out.ty, .slice A4 n4 c4, .slice A5 n5 c5, .slice A6 n6 c6]])) := Lib.hid (fun v => HOL5.out.keep (fun g hg => set_ne (fun e => hne6 (by rw [hg, e]))) (fun a x hx => UntV.stay (stay_set (P := fun t => t = 43) (k := 0) HPB5.out rfl v) ⟨by decide, by decide, by decide, by decide, by decide⟩ a x hx))
       have HG6 : Hid (∀ v : Value, RdBy wq (w5.setCell ⟨w1.heap.size + 1 + 1, 0, none⟩ v) (w1.heap.size + 1) rb) := Lib.hid (fun v => HG5.out.setLocal (k := 0) (B := w1.heap.size + 1 + 1) (by omega) hlt v)
       clear hown5 hgrow5 hat5 hlt5 hpe0 hn5'
       go_wp2
       go_roundg gk
       case measure => omega
       case rel => exact ⟨rb, _, acc ++ [u], xs ++ [[.bool u.contract, .string (str u.name), .slice A2 n2 c2, .string (str u.out.name), .int .i64 u.out.ty, .slice A4 n4 c4, .slice A5 n5 c5, .slice A6 n6 c6]], by simp; omega, by omega, fun h => by have := HST.out h; simp; omega, HOL6.out _, HG6.out _, HPB6.out _, HE.out⟩
    | true =>
     cases B2 with
     | false =>
      clear hu
      go_wp2_with fail
      refine HI1.out.mono ?_
      rintro e wc ⟨rfl, hbC⟩
      have HGC := Lib.hid (HGR.out.then_below hbC)
      have HOLC := Lib.hid (HOL.out.stay (Stay.below (P := fun t => t = 88) hbC) (by decide) (fun a x hx => UntV.stay (Stay.below (P := fun t => t = 88) hbC) ⟨by decide, by decide, by decide, by decide, by decide⟩ a x hx))
      have HPBC := Lib.hid ((hbC.block _ hlp).trans HPB.out)
      have hsC := hbC.size
      clear hbC
      have hpc0 : wc.cell? ⟨w1.heap.size + 1 + 1, 0, none⟩ = some (.slice A0 acc.length c0) := (cell_at HPBC.out 0).trans rfl
      have hlpc := lt_of_block HPBC.out
      go_wp2_with fail
      refine (HK1.out wc HGC.out.rd).mono ?_
      rintro e wd ⟨rfl, hgd⟩
      have HGD := Lib.hid (HGC.out.trans hgd)
      have HOLD := Lib.hid (HOLC.out.stay (RdBy.stay HGC.out.rd hgd) (by decide) (fun a x hx => UntV.stay (RdBy.stay HGC.out.rd hgd) ⟨by decide, by decide, by decide, by decide, by decide⟩ a x hx))
      have HPBD := Lib.hid (hgd.block HPBC.out (by omega))
      have hsd := hgd.grown.size
      clear hgd hpc0
      have hpd0 : wd.cell? ⟨w1.heap.size + 1 + 1, 0, none⟩ = some (.slice A0 acc.length c0) := (cell_at HPBD.out 0).trans rfl
      have hlpd := lt_of_block HPBD.out
      have HOU := Lib.hid (HO.out wd.drew HGD.out.rd.drew)
      go_wp2_with fail
      go_region_law (first
       | (go_simp; go_at_call 32; (with_reducible refine HOU.out.mono ?_); rintro e we ⟨iv, vv, qv, lv, rfl, hp9, hq9, hr9, ht9, hge⟩; have HGE := Lib.hid (HGD.out.trans (RdBy.undrew hge)); have HPBE := Lib.hid ((RdBy.undrew hge).block HPBD.out (by omega)); have hse := (RdBy.undrew hge).grown.size; have HOLE := Lib.hid (HOLD.out.stay (RdBy.stay HGD.out.rd (RdBy.undrew hge)) (by decide) (fun a x hx => UntV.stay (RdBy.stay HGD.out.rd (RdBy.undrew hge)) ⟨by decide, by decide, by decide, by decide, by decide⟩ a x hx)); clear hge; obtain ⟨A2, n2, c2, rfl, y1, y2⟩ := row_form hp9; obtain ⟨A4, n4, c4, rfl, y11, y12⟩ := row_form hq9; obtain ⟨A5, n5, c5, rfl, y13, y14⟩ := row_form hr9; obtain ⟨A6, n6, c6, rfl, y15, y16⟩ := row_form ht9; have HXV : Hid (UntV we u [.bool u.contract, .string (str u.name), .slice A2 n2 c2, .string (str u.out.name), .int .i64 u.out.ty, .slice A4 n4 c4, .slice A5 n5 c5, .slice A6 n6 c6]) := Lib.hid ⟨_, _, _, _, rfl, hp9, hq9, hr9, ht9⟩; clear hp9 hq9 hr9 ht9; have hpe0 : we.cell? ⟨w1.heap.size + 1 + 1, 0, none⟩ = some (.slice A0 acc.length c0) := (cell_at HPBE.out 0).trans rfl; have hlpe := lt_of_block HPBE.out; have hne5 := row_ne HOLE.out.own)
       | (refine step_append_lies _ (by rfl) _ _ _ (by rfl) (w1.heap.size + 1 + 1 + 1) 40 i0 _ 8 144 Tryz.underlying41 hi hz0 hz1 hz2 rfl (by omega) (.slice A0 acc.length c0) acc.length xs.flatten (by rfl) (by exact HOLE.out.own.alloc _) ⟨we.heap.size, 0, none⟩ 1 1 [.bool u.contract, .string (str u.name), .slice A2 n2 c2, .string (str u.out.name), .int .i64 u.out.ty, .slice A4 n4 c4, .slice A5 n5 c5, .slice A6 n6 c6] (by rfl) (by rfl) (World.news_of_block (cs := #[.bool u.contract, .string (str u.name), .slice A2 n2 c2, .string (str u.out.name), .int .i64 u.out.ty, .slice A4 n4 c4, .slice A5 n5 c5, .slice A6 n6 c6]) (t := 40) (fr := (0, 0)) (heap_alloc_new _ _)) (by simp [Value.oneCell']) (by omega) (by unfold maxLen; omega) (by omega) (by simp; omega) (we.heap.size + 1) (by simp) ?_; intro g5 cap5 w5 hown5 hgrow5 hat5 hlt5; have HPB5 : Hid (w5.heap[w1.heap.size + 1 + 1]? = some (.cells #[.slice A0 acc.length c0, .string ⟨#[]⟩, .string ⟨#[]⟩] 43 (0, 0))) := Lib.hid ((hgrow5.block _ (by simp; omega) (fun e => hne5 e.symm)).trans ((Below.heap_alloc _ _ _ hlpe).trans HPBE.out)); have hf5 : w5.frozen? ⟨w1.heap.size + 1 + 1, 0, none⟩ = false := free_at HPB5.out 0; have hc5 : w5.cell? ⟨w1.heap.size + 1 + 1, 0, none⟩ = some (.slice A0 acc.length c0) := (cell_at HPB5.out 0).trans rfl; have hl5 := lt_of_block HPB5.out))
      all_goals
       have HOL5 := Lib.hid (HOLE.out.snoc HXV.out rfl (below_new we _) hown5 hgrow5 (fun st => UntV.stay st ⟨by decide, by decide, by decide, by decide, by decide⟩))
       have HG5 := Lib.hid (RdBy.row HGE.out hlt (below_new we _) hgrow5 (fun g hg => by have := (HOLE.out.own.lt g hg).1; omega))
       obtain ⟨n5', hn5'⟩ : ∃ n, acc.length + 1 = n := ⟨_, rfl⟩
       have HPB6 : Hid (∀ v : Value, (w5.setCell ⟨w1.heap.size + 1 + 1, 0, none⟩ v).heap[w1.heap.size + 1 + 1]? = some (.cells #[v, .string ⟨#[]⟩, .string ⟨#[]⟩] 43 (0, 0))) := Lib.hid (fun v => by have z := setObj_heap (v := v) HPB5.out (k := 0) (by simp); simpa using z)
       have hne6 := row_ne HOL5.out.own
       have HOL6 : Hid (∀ v : Value, OList 40 8 UntV (w5.setCell ⟨w1.heap.size + 1 + 1, 0, none⟩ v) (w1.heap.size + 1 + 1 + 1) (.slice (some ⟨g5, 0, none⟩) (acc.length + 1) cap5) (acc ++ [u]) (xs ++ [[.bool u.contract, .string (str u.name), .slice A2 n2 c2, .string (str u.out.name), .int .i64 u.out.ty, .slice A4 n4 c4, .slice A5 n5 c5, .slice A6 n6 c6]])) := Lib.hid (fun v => HOL5.out.keep (fun g hg => set_ne (fun e => hne6 (by rw [hg, e]))) (fun a x hx => UntV.stay (stay_set (P := fun t => t = 43) (k := 0) HPB5.out rfl v) ⟨by decide, by decide, by decide, by decide, by decide⟩ a x hx))
       have HG6 : Hid (∀ v : Value, RdBy wq (w5.setCell ⟨w1.heap.size + 1 + 1, 0, none⟩ v) (w1.heap.size + 1) rb) := Lib.hid (fun v => HG5.out.setLocal (k := 0) (B := w1.heap.size + 1 + 1) (by omega) hlt v)
       clear hown5 hgrow5 hat5 hlt5 hpe0 hn5'
       go_wp2
       go_roundg gk
       case measure => omega
       case rel => exact ⟨rb, _, acc ++ [u], xs ++ [[.bool u.contract, .string (str u.name), .slice A2 n2 c2, .string (str u.out.name), .int .i64 u.out.ty, .slice A4 n4 c4, .slice A5 n5 c5, .slice A6 n6 c6]], by simp; omega, by omega, fun h => by have := HST.out h; simp; omega, HOL6.out _, HG6.out _, HPB6.out _, HE.out⟩
     | true =>
      clear hu
      go_wp2_with fail
      refine HI1.out.mono ?_
      rintro e wc ⟨rfl, hbC⟩
      have HGC := Lib.hid (HGR.out.then_below hbC)
      have HOLC := Lib.hid (HOL.out.stay (Stay.below (P := fun t => t = 88) hbC) (by decide) (fun a x hx => UntV.stay (Stay.below (P := fun t => t = 88) hbC) ⟨by decide, by decide, by decide, by decide, by decide⟩ a x hx))
      have HPBC := Lib.hid ((hbC.block _ hlp).trans HPB.out)
      have hsC := hbC.size
      clear hbC
      have hpc0 : wc.cell? ⟨w1.heap.size + 1 + 1, 0, none⟩ = some (.slice A0 acc.length c0) := (cell_at HPBC.out 0).trans rfl
      have hlpc := lt_of_block HPBC.out
      go_wp2_with fail
      refine (HK1.out wc HGC.out.rd).mono ?_
      rintro e wd ⟨rfl, hgd⟩
      have HGD := Lib.hid (HGC.out.trans hgd)
      have HOLD := Lib.hid (HOLC.out.stay (RdBy.stay HGC.out.rd hgd) (by decide) (fun a x hx => UntV.stay (RdBy.stay HGC.out.rd hgd) ⟨by decide, by decide, by decide, by decide, by decide⟩ a x hx))
      have HPBD := Lib.hid (hgd.block HPBC.out (by omega))
      have hsd := hgd.grown.size
      clear hgd hpc0
      have hpd0 : wd.cell? ⟨w1.heap.size + 1 + 1, 0, none⟩ = some (.slice A0 acc.length c0) := (cell_at HPBD.out 0).trans rfl
      have hlpd := lt_of_block HPBD.out
      have HOU := Lib.hid (HO.out wd.drew HGD.out.rd.drew)
      go_wp2_with fail
      go_region_law (first
       | (go_simp; go_at_call 32; (with_reducible refine HOU.out.mono ?_); rintro e we ⟨iv, vv, qv, lv, rfl, hp9, hq9, hr9, ht9, hge⟩; have HGE := Lib.hid (HGD.out.trans (RdBy.undrew hge)); have HPBE := Lib.hid ((RdBy.undrew hge).block HPBD.out (by omega)); have hse := (RdBy.undrew hge).grown.size; have HOLE := Lib.hid (HOLD.out.stay (RdBy.stay HGD.out.rd (RdBy.undrew hge)) (by decide) (fun a x hx => UntV.stay (RdBy.stay HGD.out.rd (RdBy.undrew hge)) ⟨by decide, by decide, by decide, by decide, by decide⟩ a x hx)); clear hge; obtain ⟨A2, n2, c2, rfl, y1, y2⟩ := row_form hp9; obtain ⟨A4, n4, c4, rfl, y11, y12⟩ := row_form hq9; obtain ⟨A5, n5, c5, rfl, y13, y14⟩ := row_form hr9; obtain ⟨A6, n6, c6, rfl, y15, y16⟩ := row_form ht9; have HXV : Hid (UntV we u [.bool u.contract, .string (str u.name), .slice A2 n2 c2, .string (str u.out.name), .int .i64 u.out.ty, .slice A4 n4 c4, .slice A5 n5 c5, .slice A6 n6 c6]) := Lib.hid ⟨_, _, _, _, rfl, hp9, hq9, hr9, ht9⟩; clear hp9 hq9 hr9 ht9; have hpe0 : we.cell? ⟨w1.heap.size + 1 + 1, 0, none⟩ = some (.slice A0 acc.length c0) := (cell_at HPBE.out 0).trans rfl; have hlpe := lt_of_block HPBE.out; have hne5 := row_ne HOLE.out.own)
       | (refine step_append_lies _ (by rfl) _ _ _ (by rfl) (w1.heap.size + 1 + 1 + 1) 40 i0 _ 8 144 Tryz.underlying41 hi hz0 hz1 hz2 rfl (by omega) (.slice A0 acc.length c0) acc.length xs.flatten (by rfl) (by exact HOLE.out.own.alloc _) ⟨we.heap.size, 0, none⟩ 1 1 [.bool u.contract, .string (str u.name), .slice A2 n2 c2, .string (str u.out.name), .int .i64 u.out.ty, .slice A4 n4 c4, .slice A5 n5 c5, .slice A6 n6 c6] (by rfl) (by rfl) (World.news_of_block (cs := #[.bool u.contract, .string (str u.name), .slice A2 n2 c2, .string (str u.out.name), .int .i64 u.out.ty, .slice A4 n4 c4, .slice A5 n5 c5, .slice A6 n6 c6]) (t := 40) (fr := (0, 0)) (heap_alloc_new _ _)) (by simp [Value.oneCell']) (by omega) (by unfold maxLen; omega) (by omega) (by simp; omega) (we.heap.size + 1) (by simp) ?_; intro g5 cap5 w5 hown5 hgrow5 hat5 hlt5; have HPB5 : Hid (w5.heap[w1.heap.size + 1 + 1]? = some (.cells #[.slice A0 acc.length c0, .string ⟨#[]⟩, .string ⟨#[]⟩] 43 (0, 0))) := Lib.hid ((hgrow5.block _ (by simp; omega) (fun e => hne5 e.symm)).trans ((Below.heap_alloc _ _ _ hlpe).trans HPBE.out)); have hf5 : w5.frozen? ⟨w1.heap.size + 1 + 1, 0, none⟩ = false := free_at HPB5.out 0; have hc5 : w5.cell? ⟨w1.heap.size + 1 + 1, 0, none⟩ = some (.slice A0 acc.length c0) := (cell_at HPB5.out 0).trans rfl; have hl5 := lt_of_block HPB5.out))
      all_goals
       have HOL5 := Lib.hid (HOLE.out.snoc HXV.out rfl (below_new we _) hown5 hgrow5 (fun st => UntV.stay st ⟨by decide, by decide, by decide, by decide, by decide⟩))
       have HG5 := Lib.hid (RdBy.row HGE.out hlt (below_new we _) hgrow5 (fun g hg => by have := (HOLE.out.own.lt g hg).1; omega))
       obtain ⟨n5', hn5'⟩ : ∃ n, acc.length + 1 = n := ⟨_, rfl⟩
       have HPB6 : Hid (∀ v : Value, (w5.setCell ⟨w1.heap.size + 1 + 1, 0, none⟩ v).heap[w1.heap.size + 1 + 1]? = some (.cells #[v, .string ⟨#[]⟩, .string ⟨#[]⟩] 43 (0, 0))) := Lib.hid (fun v => by have z := setObj_heap (v := v) HPB5.out (k := 0) (by simp); simpa using z)
       have hne6 := row_ne HOL5.out.own
       have HOL6 : Hid (∀ v : Value, OList 40 8 UntV (w5.setCell ⟨w1.heap.size + 1 + 1, 0, none⟩ v) (w1.heap.size + 1 + 1 + 1) (.slice (some ⟨g5, 0, none⟩) (acc.length + 1) cap5) (acc ++ [u]) (xs ++ [[.bool u.contract, .string (str u.name), .slice A2 n2 c2, .string (str u.out.name), .int .i64 u.out.ty, .slice A4 n4 c4, .slice A5 n5 c5, .slice A6 n6 c6]])) := Lib.hid (fun v => HOL5.out.keep (fun g hg => set_ne (fun e => hne6 (by rw [hg, e]))) (fun a x hx => UntV.stay (stay_set (P := fun t => t = 43) (k := 0) HPB5.out rfl v) ⟨by decide, by decide, by decide, by decide, by decide⟩ a x hx))
       have HG6 : Hid (∀ v : Value, RdBy wq (w5.setCell ⟨w1.heap.size + 1 + 1, 0, none⟩ v) (w1.heap.size + 1) rb) := Lib.hid (fun v => HG5.out.setLocal (k := 0) (B := w1.heap.size + 1 + 1) (by omega) hlt v)
       clear hown5 hgrow5 hat5 hlt5 hpe0 hn5'
       go_wp2
       go_roundg gk
       case measure => omega
       case rel => exact ⟨rb, _, acc ++ [u], xs ++ [[.bool u.contract, .string (str u.name), .slice A2 n2 c2, .string (str u.out.name), .int .i64 u.out.ty, .slice A4 n4 c4, .slice A5 n5 c5, .slice A6 n6 c6]], by simp; omega, by omega, fun h => by have := HST.out h; simp; omega, HOL6.out _, HG6.out _, HPB6.out _, HE.out⟩
  · have hf : (B1 || B2) = false := by simpa using hu
    obtain ⟨rfl, rfl⟩ := Bool.or_eq_false_iff.1 hf
    have HE : Hid (acc = us ∧ rr = r1) := Lib.hid (by have z := (unF_stop (k := gk) (acc := acc) (HATU.out.trans hf)).symm.trans HROW.out; injection z with z1 z2; exact ⟨z1, z2⟩)
    clear hu hf hag
    go_wp2_with fail
    refine HI1.out.mono ?_
    rintro e wb ⟨rfl, hbB⟩
    have HGB := Lib.hid (HGR.out.then_below hbB)
    have HOLB := Lib.hid (HOL.out.stay (Stay.below (P := fun t => t = 88) hbB) (by decide) (fun a x hx => UntV.stay (Stay.below (P := fun t => t = 88) hbB) ⟨by decide, by decide, by decide, by decide, by decide⟩ a x hx))
    have HPBB := Lib.hid ((hbB.block _ hlp).trans HPB.out)
    have hsB := hbB.size
    clear hbB
    go_wp2_with fail
    refine (HI2.out wb HGB.out.rd).mono ?_
    rintro e wc ⟨rfl, hbC⟩
    have HGC := Lib.hid (HGB.out.then_below hbC)
    have HOLC := Lib.hid (HOLB.out.stay (Stay.below (P := fun t => t = 88) hbC) (by decide) (fun a x hx => UntV.stay (Stay.below (P := fun t => t = 88) hbC) ⟨by decide, by decide, by decide, by decide, by decide⟩ a x hx))
    have HPBC := Lib.hid ((hbC.block _ (lt_of_block HPBB.out)).trans HPBB.out)
    have hsC := hbC.size
    clear hbC
    obtain ⟨rfl, rfl⟩ := HE.out
    have HUC := Lib.hid HOLC.out.row
    go_wp2_with fail
    refine (need_lit (s := wMain) rfl HGC.out.rd G1.out).mono ?_
    rintro e v1 ⟨rfl, hg1⟩
    have HV1 := Lib.hid (HGC.out.trans hg1)
    have PV1 := Lib.hid (hg1.block HPBC.out (by omega))
    have HUV1 := Lib.hid (HUC.out.stay (RdBy.stay HGC.out.rd hg1) (by decide) (fun a x hx => UntV.stay (RdBy.stay HGC.out.rd hg1) ⟨by decide, by decide, by decide, by decide, by decide⟩ a x hx))
    have lv1 := lt_of_block PV1.out
    clear hg1 
    go_wp2_with fail
    refine (name_lit HV1.out.rd G2.out).mono ?_
    rintro e v2 ⟨rfl, hg2⟩
    have HV2 := Lib.hid (HV1.out.trans hg2)
    have PV2 := Lib.hid (hg2.block PV1.out (by omega))
    have HUV2 := Lib.hid (HUV1.out.stay (RdBy.stay HV1.out.rd hg2) (by decide) (fun a x hx => UntV.stay (RdBy.stay HV1.out.rd hg2) ⟨by decide, by decide, by decide, by decide, by decide⟩ a x hx))
    have lv2 := lt_of_block PV2.out
    clear hg2 
    have q2 : v2.cell? ⟨w1.heap.size + 1 + 1, 1, none⟩ = some (.string ⟨#[]⟩) := (cell_at PV2.out 1).trans rfl
    have f2 : v2.frozen? ⟨w1.heap.size + 1 + 1, 1, none⟩ = false := free_at PV2.out 1
    have PV2a : Hid ((v2.setCell ⟨w1.heap.size + 1 + 1, 1, none⟩ (.string (str m))).heap[w1.heap.size + 1 + 1]? = some (.cells #[.slice A0 acc.length c0, .string (str m), .string ⟨#[]⟩] 43 (0, 0))) := Lib.hid (by have z := setObj_heap (v := .string (str m)) PV2.out (k := 1) (by simp); simpa using z)
    have HV2a := Lib.hid (HV2.out.setLocal (k := 1) (B := w1.heap.size + 1 + 1) (by omega) hlt (.string (str m)))
    have HUV2a := Lib.hid (HUV2.out.stay (stay_set (P := fun t => t = 43) (k := 1) PV2.out rfl (.string (str m))) (by decide) (fun a x hx => UntV.stay (stay_set (P := fun t => t = 43) (k := 1) PV2.out rfl (.string (str m))) ⟨by decide, by decide, by decide, by decide, by decide⟩ a x hx))
    go_wp2_with fail
    refine (need_lit (s := sSemi) rfl HV2a.out.rd G3.out).mono ?_
    rintro e v3 ⟨rfl, hg3⟩
    have HV3 := Lib.hid (HV2a.out.trans hg3)
    have PV3 := Lib.hid (hg3.block PV2a.out (by omega))
    have HUV3 := Lib.hid (HUV2a.out.stay (RdBy.stay HV2a.out.rd hg3) (by decide) (fun a x hx => UntV.stay (RdBy.stay HV2a.out.rd hg3) ⟨by decide, by decide, by decide, by decide, by decide⟩ a x hx))
    have lv3 := lt_of_block PV3.out
    clear hg3 q2 f2
    go_wp2_with fail
    refine (take_lit (s := wFallback) rfl HV3.out.rd G4.out).mono ?_
    rintro e v4 ⟨rfl, hg4⟩
    have HV4 := Lib.hid (HV3.out.trans hg4)
    have PV4 := Lib.hid (hg4.block PV3.out (by omega))
    have HUV4 := Lib.hid (HUV3.out.stay (RdBy.stay HV3.out.rd hg4) (by decide) (fun a x hx => UntV.stay (RdBy.stay HV3.out.rd hg4) ⟨by decide, by decide, by decide, by decide, by decide⟩ a x hx))
    have lv4 := lt_of_block PV4.out
    clear hg4 
    obtain ⟨L, lv, i, c, a, hat⟩ := HV4.out.rd
    obtain ⟨z1, z2, z3, z4⟩ := hat.st.resolve_right (fun h => h.1 GC.out)
    obtain ⟨AA, c2, hlv, w1', w2', -⟩ := hat.tok
    subst hlv
    unfold maxLen at w2'
    have k0 : v4.cell? ⟨w1.heap.size + 1, 0, none⟩ = some (.slice AA L.length c2) := rp_cell hat.blk 0
    have k1 : v4.cell? ⟨w1.heap.size + 1, 1, none⟩ = some (.int .i64 (i : Int)) := rp_cell hat.blk 1
    have lrb : w1.heap.size + 1 < v4.heap.size := lt_of_block hat.blk
    have hLL := hat.okl.len
    have hii := hat.ile
    have d1 : decide ((i : Int) < (L.length : Int)) = false := decide_eq_false (by have := GN.out; rw [z3, ← z4] at this; omega)
    have d1' : decide (i < L.length) = false := decide_eq_false (by have := GN.out; rw [z3, ← z4] at this; omega)
    have HOK := Lib.hid (ok_quiet (B := true) HV4.out.rd (by rw [GC.out]; rfl))
    clear hat z1 z2 z3 z4
    go_wp2
    go_quiet ((go_at_call 36; exact Calls.quiet_of_same (HOK.out _)))
    go_wp2_with fail
    refine (ok_lit (B := true) (HV4.out.rd.drewN nq) (by rw [GC.out]; rfl)).mono ?_
    rintro e v9 ⟨rfl, rfl⟩
    have X9 : Hid ((v4.drewN nq).heap[w.heap.size]? = some (.cells #[.slice none 0 0, .string ⟨#[]⟩, .string ⟨#[]⟩] 43 (0, 0))) := Lib.hid (HV4.out.block XQ.out (by omega))
    have Z9 : Hid ((v4.drewN nq).heap[w.heap.size + 1]? = some (.cells #[.int .i64 0, .int .i64 0] 46 (0, 0))) := Lib.hid (HV4.out.block ZQ.out (by omega))
    have P9 : Hid ((v4.drewN nq).heap[w1.heap.size + 1 + 1]? = some (.cells #[.slice A0 acc.length c0, .string (str m), .string ⟨#[]⟩] 43 (0, 0))) := Lib.hid PV4.out
    have HU9 : Hid (RowR 40 8 UntV (v4.drewN nq) acc (.slice A0 acc.length c0)) := Lib.hid (HUV4.out.stay (Stay.below (P := fun t => t = 88) (Tr.below_drewN (Below.refl _ _) nq)) (by decide) (fun a x hx => UntV.stay (Stay.below (P := fun t => t = 88) (Tr.below_drewN (Below.refl _ _) nq)) ⟨by decide, by decide, by decide, by decide, by decide⟩ a x hx))
    have HB9 : Hid (Below w.heap.size w (v4.drewN nq)) := Lib.hid (below_by HWB.out (by omega) (HV4.out.then_below (Tr.below_drewN (Below.refl _ _) nq)))
    clear k0 k1 lrb d1 d1'
    obtain ⟨V, hV⟩ : ∃ V, v4.drewN nq = V := ⟨_, rfl⟩
    rw [hV] at X9 Z9 P9 HU9 HB9
    rw [hV]
    clear hV
    have p0 : V.cell? ⟨w.heap.size, 0, none⟩ = some (.slice none 0 0) := (cell_at X9.out 0).trans rfl
    have g0 : V.frozen? ⟨w.heap.size, 0, none⟩ = false := free_at X9.out 0
    have s0 : V.cell? ⟨w1.heap.size + 1 + 1, 0, none⟩ = some (.slice A0 acc.length c0) := (cell_at P9.out 0).trans rfl
    have p1 : V.cell? ⟨w.heap.size, 1, none⟩ = some (.string ⟨#[]⟩) := (cell_at X9.out 1).trans rfl
    have g1 : V.frozen? ⟨w.heap.size, 1, none⟩ = false := free_at X9.out 1
    have s1 : V.cell? ⟨w1.heap.size + 1 + 1, 1, none⟩ = some (.string (str m)) := (cell_at P9.out 1).trans rfl
    have p2 : V.cell? ⟨w.heap.size, 2, none⟩ = some (.string ⟨#[]⟩) := (cell_at X9.out 2).trans rfl
    have g2 : V.frozen? ⟨w.heap.size, 2, none⟩ = false := free_at X9.out 2
    have s2 : V.cell? ⟨w1.heap.size + 1 + 1, 2, none⟩ = some (.string ⟨#[]⟩) := (cell_at P9.out 2).trans rfl
    have y0 : V.cell? ⟨w.heap.size + 1, 0, none⟩ = some (.int .i64 0) := (cell_at Z9.out 0).trans rfl
    have h0 : V.frozen? ⟨w.heap.size + 1, 0, none⟩ = false := free_at Z9.out 0
    have y1 : V.cell? ⟨w.heap.size + 1, 1, none⟩ = some (.int .i64 0) := (cell_at Z9.out 1).trans rfl
    have h1 : V.frozen? ⟨w.heap.size + 1, 1, none⟩ = false := free_at Z9.out 1
    have lx9 := lt_of_block X9.out
    have lz9 := lt_of_block Z9.out
    have lp9 := lt_of_block P9.out
    go_wp2
    obtain ⟨zx, zz⟩ := laid5 X9.out Z9.out (by omega) (.slice A0 acc.length c0) (.string (str m)) (.string ⟨#[]⟩) (.int .i64 0) (.int .i64 0)
    have e0 := (cell_at zx 0).trans (show _ = some (.slice A0 acc.length c0) from rfl)
    have e1 := (cell_at zx 1).trans (show _ = some (.string (str m)) from rfl)
    have e2 := (cell_at zx 2).trans (show _ = some (.string ⟨#[]⟩) from rfl)
    have e3 := (cell_at zz 0).trans (show _ = some (.int .i64 0) from rfl)
    have e4 := (cell_at zz 1).trans (show _ = some (.int .i64 0) from rfl)
    clear p0 g0 s0 p1 g1 s1 p2 g2 s2 y0 y1 h0 h1
    have hst : Stay (fun t => t = 43 ∨ t = 46) V (((((V.setCell ⟨w.heap.size, 0, none⟩ (.slice A0 acc.length c0)).setCell ⟨w.heap.size, 1, none⟩ (.string (str m))).setCell ⟨w.heap.size, 2, none⟩ (.string ⟨#[]⟩)).setCell ⟨w.heap.size + 1, 0, none⟩ (.int .i64 0)).setCell ⟨w.heap.size + 1, 1, none⟩ (.int .i64 0)) := stay5n X9.out Z9.out _ _ _ _ _
    exact bodyPost_ret (v := .tuple #[.agg #[.slice A0 acc.length c0, .string (str m), .string ⟨#[]⟩], .agg #[.int .i64 0, .int .i64 0]]) (by simp [results, Tryz.results17, go_sem, e0, e1, e2, e3, e4]) rfl ⟨_, rfl, HU9.out.stay hst (by decide) (fun a x hx => UntV.stay hst ⟨by decide, by decide, by decide, by decide, by decide⟩ a x hx), below5n HB9.out (Nat.le_refl _) (by omega) _ _ _ _ _⟩
end Go.Proofs.YtdebhngpgabglaaGreat.Rp
