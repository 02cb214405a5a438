/- Contracts of the document's reader of programs: Parse, of a source that is a program. Conditions: a reader lies in memory. -/
import Derived.Test.YtlhcajhgbkgjbaaGreatDoorSa09
import Derived.Test.YtlhcajhgbkgjbaaGreatDoorSa16
import Derived.Test.YtlhcajhgbkgjbaaGreatDoorMb24
set_option linter.unusedVariables false
set_option linter.unusedSimpArgs false
namespace Go.Proofs.YtlhcajhgbkgjbaaGreatDoor.Rp
open Go.ChangeShapes Go.WideShapes Go.ChangeAt Go.RowKit
open Ex
open Tr (str ka1 ka6 Bytes Nd)
open Pg
theorem km6 : (Tryz.prog.info? 54).map (fun i => (i.zero, i.size, i.bytes)) = some (some (.agg #[.bool false, .string ⟨#[]⟩, .slice none 0 0, .string ⟨#[]⟩, .int .i64 0, .slice none 0 0, .slice none 0 0, .slice none 0 0]), 8, 144) := by kernel_rfl
set_option maxRecDepth 100000 in
set_option maxHeartbeats 8000000 in
theorem klp (S : ByteArray) (w : World) (h : S.size <= maxLen) (l : List Tok) (hl : Lx.lexM S.toList = .ok l) (hln : l.length <= 20000) (us : List Unt) (m k : Bytes) (r1 r2 r3 r4 r5 r6 r7 : Rd) (g0 : unF kaH [] ⟨l, 0, 0, 0, 0⟩ = (us, r1)) (g1 : (kaj kkB r1).2 = r2) (g2 : kbz r2 = (m, r3)) (g3 : (kaj kaM r3).2 = r4) (g4 : kau kd7 r4 = (false, r5)) (gk : k = []) (gc : r5.code = 0) (gn : ¬ r5.next < r5.l.length) :
 Calls Tryz.prog 19 #[.string S] w (ParG w (⟨us, m, k⟩, 0, 0)) := by
 have HC : Hid (Calls Tryz.prog 40 #[.string S] ((w.alloc (.cells #[.slice none 0 0, .string ⟨#[]⟩, .string ⟨#[]⟩] 28)).alloc (.cells #[.int .i64 0, .int .i64 0] 35)) (Lx.LexGives ((w.alloc (.cells #[.slice none 0 0, .string ⟨#[]⟩, .string ⟨#[]⟩] 28)).alloc (.cells #[.int .i64 0, .int .i64 0] 35)) l 0 0)) := Lib.hid (by have := Rf.rlex_gives S ((w.alloc (.cells #[.slice none 0 0, .string ⟨#[]⟩, .string ⟨#[]⟩] 28)).alloc (.cells #[.int .i64 0, .int .i64 0] 35)) h; rw [hl] at this; exact this)
 have HOK := Lib.hid (Rf.okl_of hl hln)
 have HN := Lib.hid (kdD w (.cells #[.slice none 0 0, .string ⟨#[]⟩, .string ⟨#[]⟩] 28) (.cells #[.int .i64 0, .int .i64 0] 35))
 have G0 := Lib.hid g0
 have G1 := Lib.hid g1
 have G2 := Lib.hid g2
 have G3 := Lib.hid g3
 have G4 := Lib.hid g4
 have GC := Lib.hid gc
 have GN := Lib.hid gn
 subst gk
 clear g0 g1 g2 g3 g4 gc gn hl h
 obtain ⟨i0, hi, hz0, hz1, hz2⟩ := info_parts km6
 go_enter Tryz.func19, Tryz.ntmps19
 go_wp2_with fail
 refine HC.out.mono ?_
 rintro e w1 ⟨v, rfl, ht, hb1⟩
 have HT := Lib.hid ht
 obtain ⟨A, cc, rfl, t1, t2, -⟩ := ht
 unfold maxLen at t2
 have X1 := Lib.hid ((hb1.block _ (lt_of_block HN.out.2.1)).trans HN.out.2.1)
 have Z1 := Lib.hid ((hb1.block _ (lt_of_block HN.out.2.2)).trans HN.out.2.2)
 have HB1 : Hid (Below w.heap.size w w1) := Lib.hid (HN.out.1.trans (hb1.mono HN.out.1.size))
 have lx1 := lt_of_block X1.out
 have lz1 := lt_of_block Z1.out
 have hs1 := HB1.out.size
 clear hb1
 obtain ⟨wq, hwq⟩ : ∃ W, (w1.alloc (.cells #[.int .i64 0, .int .i64 0] 35)).alloc (.cells #[.slice A l.length cc, .int .i64 0, .int .i64 0, .int .i64 0] 93) = W := ⟨_, rfl⟩
 have N2 := kdD w1 (.cells #[.int .i64 0, .int .i64 0] 35) (.cells #[.slice A l.length cc, .int .i64 0, .int .i64 0, .int .i64 0] 93)
 rw [hwq] at N2
 have HBQ := Lib.hid N2.1
 have hzq : wq.heap.size = w1.heap.size + 2 := by rw [<- hwq]; simp
 have HRQ : Hid (RdIn wq (w1.heap.size + 1) ⟨l, 0, 0, 0, 0⟩) := Lib.hid ⟨l, _, 0, 0, 0, N2.2.2, koK HT.out N2.1 (by omega), HOK.out.1, HOK.out.2, Nat.zero_le _, .inl ⟨rfl, rfl, rfl, rfl⟩⟩
 have XQ := Lib.hid ((HBQ.out.block _ lx1).trans X1.out)
 have ZQ := Lib.hid ((HBQ.out.block _ lz1).trans Z1.out)
 have HWB : Hid (Below w.heap.size w wq) := Lib.hid (HB1.out.trans (HBQ.out.mono hs1))
 clear N2
 obtain ⟨w2, hw2⟩ : ∃ W, wq.alloc (.cells #[.slice none 0 0, .string ⟨#[]⟩, .string ⟨#[]⟩] 28) = W := ⟨_, rfl⟩
 have hb2 : Below wq.heap.size wq w2 := hw2 ▸ below_new wq _
 have P2 : Hid (w2.heap[w1.heap.size + 1 + 1]? = some (.cells #[.slice none 0 0, .string ⟨#[]⟩, .string ⟨#[]⟩] 28 (0, 0))) := Lib.hid (hw2 ▸ kbo (by omega))
 have HG2 : Hid (RdBy wq w2 (w1.heap.size + 1) ⟨l, 0, 0, 0, 0⟩) := Lib.hid (RdBy.of_below HRQ.out hb2)
 have hlt : w1.heap.size + 1 < wq.heap.size := by omega
 clear hb2
 have HW2 := Lib.hid hw2
 have HWQ := Lib.hid hwq
 clear hw2 hwq
 go_wp2
 rw [HWQ.out, HW2.out]
 go_loopg [] kaH (fun g wr => ∃ (rr : Rd) (ov : Value) (acc : List Unt) (xs : List (List Value)), acc.length <= 201 /\ 1 <= g /\ (rr.code = 0 -> acc.length <= 200 /\ 202 <= acc.length + g) /\ OList 54 8 UntV wr (w1.heap.size + 1 + 1 + 1) ov acc xs /\ RdBy wq wr (w1.heap.size + 1) rr /\ wr.heap[w1.heap.size + 1 + 1]? = some (.cells #[ov, .string ⟨#[]⟩, .string ⟨#[]⟩] 28 (0, 0)) /\ unF g acc rr = (us, r1))
 case atStart => exact ⟨⟨l, 0, 0, 0, 0⟩, _, [], [], by simp, by simp [kaH], fun _ => by simp [kaH], OList.nil _ _, HG2.out, P2.out, G0.out⟩
 case round =>
  obtain ⟨rr, ov, acc, xs, ha, hg1, hag, hol, hgr, hpb, hrow⟩ := hrel
  have HOL := Lib.hid hol
  have HGR := Lib.hid hgr
  have HROW := Lib.hid hrow
  have HPB := Lib.hid hpb
  obtain ⟨A0, c0, hv0, hn1, hn2⟩ := kbC hol.own
  subst hv0
  have hs0 := hgr.grown.size
  have hlp := lt_of_block hpb
  clear hol hgr hrow hpb
  cases gk with
  | zero => omega
  | succ gk =>
  obtain ⟨B1, hB1⟩ : ∃ B, rr.isB kdU = B := ⟨_, rfl⟩
  obtain ⟨B2, hB2⟩ : ∃ B, rr.isB kai = B := ⟨_, rfl⟩
  have HI1 := Lib.hid (km4 (s := kdU) rfl HGR.out.rd hB1)
  have HI2 : Hid (∀ w', RdIn w' (w1.heap.size + 1) rr -> Calls Tryz.prog 41 #[.pointer (some ⟨w1.heap.size + 1, 0, none⟩), .string (str kai)] w' (fun e w'' => e = .returned (.bool B2) /\ Below w'.heap.size w' w'')) := Lib.hid (fun w' h => km4 rfl h hB2)
  have HATU := Lib.hid (show kdQ rr = (B1 || B2) by unfold kdQ; rw [hB1, hB2])
  have HIN : Hid ((B1 || B2) = true -> rr.next < rr.l.length) := Lib.hid (fun hh => by
   rcases Bool.or_eq_true_iff.1 hh with h | h
   · exact keE (hB1.trans h)
   · exact keE (hB2.trans h))
  clear hB1 hB2
  by_cases hu : (B1 || B2) = true
  · have hc : rr.code = 0 := HGR.out.rd.alive (HIN.out hu)
    have hag' := hag hc
    obtain ⟨ra, k1⟩ : ∃ x, (kby acc.length rr).2 = x := ⟨_, rfl⟩
    have HK1 : Hid (∀ w', RdIn w' (w1.heap.size + 1) rr -> Calls Tryz.prog 42 #[.pointer (some ⟨w1.heap.size + 1, 0, none⟩), .int .i64 (acc.length : Int)] w' (fun e w'' => e = .returned (.tuple #[]) /\ RdBy w' w'' (w1.heap.size + 1) ra)) := Lib.hid (fun w' h => kdo (n := acc.length) (by omega) h k1)
    obtain ⟨⟨u, rb⟩, k2⟩ : ∃ x, kgT ra = x := ⟨_, rfl⟩
    have HO : Hid (∀ w', RdIn w' (w1.heap.size + 1) ra -> Calls Tryz.prog 43 #[.pointer (some ⟨w1.heap.size + 1, 0, none⟩)] w' (UntG w' (w1.heap.size + 1) (u, rb))) := Lib.hid (fun w' h => by rw [<- k2]; exact kgc _ ra w' h)
    have HE : Hid (unF gk (acc ++ [u]) rb = (us, r1)) := Lib.hid ((kmI (HATU.out.trans hu) k1 k2).symm.trans HROW.out)
    have HST : Hid (rb.code = 0 -> acc.length < 200) := Lib.hid (fun h => kc0 k1 (Classical.byContradiction fun hn => by
     have s1 := kjJ ra hn
     rw [k2] at s1
     exact s1 h))
    clear k1 k2 hc hag
    cases B1 with
    | false =>
     cases B2 with
     | false => simp at hu
     | true =>
      clear hu
      go_wp2_with fail
      refine HI1.out.mono ?_
      rintro e wb ⟨rfl, hbB⟩
      have HGB := Lib.hid (HGR.out.then_below hbB)
      have HOLB := Lib.hid (HOL.out.stay (Stay.below (P := fun t => t = 93) hbB) (by decide) (fun a x hx => UntV.stay (Stay.below (P := fun t => t = 93) hbB) ⟨by decide, by decide, by decide, by decide, by decide⟩ a x hx))
      have HPBB := Lib.hid ((hbB.block _ hlp).trans HPB.out)
      have hsB := hbB.size
      clear hbB
      go_wp2_with fail
      refine (HI2.out wb HGB.out.rd).mono ?_
      rintro e wc ⟨rfl, hbC⟩
      have HGC := Lib.hid (HGB.out.then_below hbC)
      have HOLC := Lib.hid (HOLB.out.stay (Stay.below (P := fun t => t = 93) hbC) (by decide) (fun a x hx => UntV.stay (Stay.below (P := fun t => t = 93) hbC) ⟨by decide, by decide, by decide, by decide, by decide⟩ a x hx))
      have HPBC := Lib.hid ((hbC.block _ (lt_of_block HPBB.out)).trans HPBB.out)
      have hsC := hbC.size
      clear hbC
      have hpc0 : wc.cell? ⟨w1.heap.size + 1 + 1, 0, none⟩ = some (.slice A0 acc.length c0) := (ka0 HPBC.out 0).trans rfl
      have hlpc := lt_of_block HPBC.out
      go_wp2_with fail
      refine (HK1.out wc HGC.out.rd).mono ?_
      rintro e wd ⟨rfl, hgd⟩
      have HGD := Lib.hid (HGC.out.trans hgd)
      have HOLD := Lib.hid (HOLC.out.stay (RdBy.stay HGC.out.rd hgd) (by decide) (fun a x hx => UntV.stay (RdBy.stay HGC.out.rd hgd) ⟨by decide, by decide, by decide, by decide, by decide⟩ a x hx))
      have HPBD := Lib.hid (hgd.block HPBC.out (by omega))
      have hsd := hgd.grown.size
      clear hgd hpc0
      have hpd0 : wd.cell? ⟨w1.heap.size + 1 + 1, 0, none⟩ = some (.slice A0 acc.length c0) := (ka0 HPBD.out 0).trans rfl
      have hlpd := lt_of_block HPBD.out
      have HOU := Lib.hid (HO.out wd.drew HGD.out.rd.drew)
      go_wp2_with fail
      go_region_law (first
       | (go_simp; go_at_call 43; (with_reducible refine HOU.out.mono ?_); rintro e we ⟨iv, vv, qv, lv, rfl, hp9, hq9, hr9, ht9, hge⟩; have HGE := Lib.hid (HGD.out.trans (RdBy.undrew hge)); have HPBE := Lib.hid ((RdBy.undrew hge).block HPBD.out (by omega)); have hse := (RdBy.undrew hge).grown.size; have HOLE := Lib.hid (HOLD.out.stay (RdBy.stay HGD.out.rd (RdBy.undrew hge)) (by decide) (fun a x hx => UntV.stay (RdBy.stay HGD.out.rd (RdBy.undrew hge)) ⟨by decide, by decide, by decide, by decide, by decide⟩ a x hx)); clear hge; obtain ⟨A2, n2, c2, rfl, y1, y2⟩ := kan hp9; obtain ⟨A4, n4, c4, rfl, y11, y12⟩ := kan hq9; obtain ⟨A5, n5, c5, rfl, y13, y14⟩ := kan hr9; obtain ⟨A6, n6, c6, rfl, y15, y16⟩ := kan ht9; have HXV : Hid (UntV we u [.bool u.contract, .string (str u.name), .slice A2 n2 c2, .string (str u.out.name), .int .i64 u.out.ty, .slice A4 n4 c4, .slice A5 n5 c5, .slice A6 n6 c6]) := Lib.hid ⟨_, _, _, _, rfl, hp9, hq9, hr9, ht9⟩; clear hp9 hq9 hr9 ht9; have hpe0 : we.cell? ⟨w1.heap.size + 1 + 1, 0, none⟩ = some (.slice A0 acc.length c0) := (ka0 HPBE.out 0).trans rfl; have hlpe := lt_of_block HPBE.out; have hne5 := kfP HOLE.out.own)
       | (refine step_append_lies _ (by rfl) _ _ _ (by rfl) (w1.heap.size + 1 + 1 + 1) 54 i0 _ 8 144 Tryz.underlying25 hi hz0 hz1 hz2 rfl (by omega) (.slice A0 acc.length c0) acc.length xs.flatten (by rfl) (by exact HOLE.out.own.alloc _) ⟨we.heap.size, 0, none⟩ 1 1 [.bool u.contract, .string (str u.name), .slice A2 n2 c2, .string (str u.out.name), .int .i64 u.out.ty, .slice A4 n4 c4, .slice A5 n5 c5, .slice A6 n6 c6] (by rfl) (by rfl) (World.news_of_block (cs := #[.bool u.contract, .string (str u.name), .slice A2 n2 c2, .string (str u.out.name), .int .i64 u.out.ty, .slice A4 n4 c4, .slice A5 n5 c5, .slice A6 n6 c6]) (t := 54) (fr := (0, 0)) (heap_alloc_new _ _)) (by simp [Value.oneCell']) (by omega) (by unfold maxLen; omega) (by omega) (by simp; omega) (we.heap.size + 1) (by simp) ?_; intro g5 cap5 w5 hown5 hgrow5 hat5 hlt5; have HPB5 : Hid (w5.heap[w1.heap.size + 1 + 1]? = some (.cells #[.slice A0 acc.length c0, .string ⟨#[]⟩, .string ⟨#[]⟩] 28 (0, 0))) := Lib.hid ((hgrow5.block _ (by simp; omega) (fun e => hne5 e.symm)).trans ((Below.heap_alloc _ _ _ hlpe).trans HPBE.out)); have hf5 : w5.frozen? ⟨w1.heap.size + 1 + 1, 0, none⟩ = false := free_at HPB5.out 0; have hc5 : w5.cell? ⟨w1.heap.size + 1 + 1, 0, none⟩ = some (.slice A0 acc.length c0) := (ka0 HPB5.out 0).trans rfl; have hl5 := lt_of_block HPB5.out))
      all_goals
       have HOL5 := Lib.hid (HOLE.out.snoc HXV.out rfl (below_new we _) hown5 hgrow5 (fun st => UntV.stay st ⟨by decide, by decide, by decide, by decide, by decide⟩))
       have HG5 := Lib.hid (RdBy.row HGE.out hlt (below_new we _) hgrow5 (fun g hg => by have := (HOLE.out.own.lt g hg).1; omega))
       obtain ⟨n5', hn5'⟩ : ∃ n, acc.length + 1 = n := ⟨_, rfl⟩
       have HPB6 : Hid (∀ v : Value, (w5.setCell ⟨w1.heap.size + 1 + 1, 0, none⟩ v).heap[w1.heap.size + 1 + 1]? = some (.cells #[v, .string ⟨#[]⟩, .string ⟨#[]⟩] 28 (0, 0))) := Lib.hid (fun v => by have z := ka2 (v := v) HPB5.out (k := 0) (by simp); simpa using z)
       have hne6 := kfP HOL5.out.own
       have HOL6 : Hid (∀ v : Value, OList 54 8 UntV (w5.setCell ⟨w1.heap.size + 1 + 1, 0, none⟩ v) (w1.heap.size + 1 + 1 + 1) (.slice (some ⟨g5, 0, none⟩) (acc.length + 1) cap5) (acc ++ [u]) (xs ++ [[.bool u.contract, .string (str u.name), .slice A2 n2 c2, .string (str u.out.name), .int .i64 u.out.ty, .slice A4 n4 c4, .slice A5 n5 c5, .slice A6 n6 c6]])) := Lib.hid (fun v => HOL5.out.keep (fun g hg => kbO (fun e => hne6 (by rw [hg, e]))) (fun a x hx => UntV.stay (ka4 (P := fun t => t = 28) (k := 0) HPB5.out rfl v) ⟨by decide, by decide, by decide, by decide, by decide⟩ a x hx))
       have HG6 : Hid (∀ v : Value, RdBy wq (w5.setCell ⟨w1.heap.size + 1 + 1, 0, none⟩ v) (w1.heap.size + 1) rb) := Lib.hid (fun v => HG5.out.setLocal (k := 0) (B := w1.heap.size + 1 + 1) (by omega) hlt v)
       clear hown5 hgrow5 hat5 hlt5 hpe0 hn5'
       go_wp2
       go_roundg gk
       case measure => omega
       case rel => exact ⟨rb, _, acc ++ [u], xs ++ [[.bool u.contract, .string (str u.name), .slice A2 n2 c2, .string (str u.out.name), .int .i64 u.out.ty, .slice A4 n4 c4, .slice A5 n5 c5, .slice A6 n6 c6]], by simp; omega, by omega, fun h => by have := HST.out h; simp; omega, HOL6.out _, HG6.out _, HPB6.out _, HE.out⟩
    | true =>
     cases B2 with
     | false =>
      clear hu
      go_wp2_with fail
      refine HI1.out.mono ?_
      rintro e wc ⟨rfl, hbC⟩
      have HGC := Lib.hid (HGR.out.then_below hbC)
      have HOLC := Lib.hid (HOL.out.stay (Stay.below (P := fun t => t = 93) hbC) (by decide) (fun a x hx => UntV.stay (Stay.below (P := fun t => t = 93) hbC) ⟨by decide, by decide, by decide, by decide, by decide⟩ a x hx))
      have HPBC := Lib.hid ((hbC.block _ hlp).trans HPB.out)
      have hsC := hbC.size
      clear hbC
      have hpc0 : wc.cell? ⟨w1.heap.size + 1 + 1, 0, none⟩ = some (.slice A0 acc.length c0) := (ka0 HPBC.out 0).trans rfl
      have hlpc := lt_of_block HPBC.out
      go_wp2_with fail
      refine (HK1.out wc HGC.out.rd).mono ?_
      rintro e wd ⟨rfl, hgd⟩
      have HGD := Lib.hid (HGC.out.trans hgd)
      have HOLD := Lib.hid (HOLC.out.stay (RdBy.stay HGC.out.rd hgd) (by decide) (fun a x hx => UntV.stay (RdBy.stay HGC.out.rd hgd) ⟨by decide, by decide, by decide, by decide, by decide⟩ a x hx))
      have HPBD := Lib.hid (hgd.block HPBC.out (by omega))
      have hsd := hgd.grown.size
      clear hgd hpc0
      have hpd0 : wd.cell? ⟨w1.heap.size + 1 + 1, 0, none⟩ = some (.slice A0 acc.length c0) := (ka0 HPBD.out 0).trans rfl
      have hlpd := lt_of_block HPBD.out
      have HOU := Lib.hid (HO.out wd.drew HGD.out.rd.drew)
      go_wp2_with fail
      go_region_law (first
       | (go_simp; go_at_call 43; (with_reducible refine HOU.out.mono ?_); rintro e we ⟨iv, vv, qv, lv, rfl, hp9, hq9, hr9, ht9, hge⟩; have HGE := Lib.hid (HGD.out.trans (RdBy.undrew hge)); have HPBE := Lib.hid ((RdBy.undrew hge).block HPBD.out (by omega)); have hse := (RdBy.undrew hge).grown.size; have HOLE := Lib.hid (HOLD.out.stay (RdBy.stay HGD.out.rd (RdBy.undrew hge)) (by decide) (fun a x hx => UntV.stay (RdBy.stay HGD.out.rd (RdBy.undrew hge)) ⟨by decide, by decide, by decide, by decide, by decide⟩ a x hx)); clear hge; obtain ⟨A2, n2, c2, rfl, y1, y2⟩ := kan hp9; obtain ⟨A4, n4, c4, rfl, y11, y12⟩ := kan hq9; obtain ⟨A5, n5, c5, rfl, y13, y14⟩ := kan hr9; obtain ⟨A6, n6, c6, rfl, y15, y16⟩ := kan ht9; have HXV : Hid (UntV we u [.bool u.contract, .string (str u.name), .slice A2 n2 c2, .string (str u.out.name), .int .i64 u.out.ty, .slice A4 n4 c4, .slice A5 n5 c5, .slice A6 n6 c6]) := Lib.hid ⟨_, _, _, _, rfl, hp9, hq9, hr9, ht9⟩; clear hp9 hq9 hr9 ht9; have hpe0 : we.cell? ⟨w1.heap.size + 1 + 1, 0, none⟩ = some (.slice A0 acc.length c0) := (ka0 HPBE.out 0).trans rfl; have hlpe := lt_of_block HPBE.out; have hne5 := kfP HOLE.out.own)
       | (refine step_append_lies _ (by rfl) _ _ _ (by rfl) (w1.heap.size + 1 + 1 + 1) 54 i0 _ 8 144 Tryz.underlying25 hi hz0 hz1 hz2 rfl (by omega) (.slice A0 acc.length c0) acc.length xs.flatten (by rfl) (by exact HOLE.out.own.alloc _) ⟨we.heap.size, 0, none⟩ 1 1 [.bool u.contract, .string (str u.name), .slice A2 n2 c2, .string (str u.out.name), .int .i64 u.out.ty, .slice A4 n4 c4, .slice A5 n5 c5, .slice A6 n6 c6] (by rfl) (by rfl) (World.news_of_block (cs := #[.bool u.contract, .string (str u.name), .slice A2 n2 c2, .string (str u.out.name), .int .i64 u.out.ty, .slice A4 n4 c4, .slice A5 n5 c5, .slice A6 n6 c6]) (t := 54) (fr := (0, 0)) (heap_alloc_new _ _)) (by simp [Value.oneCell']) (by omega) (by unfold maxLen; omega) (by omega) (by simp; omega) (we.heap.size + 1) (by simp) ?_; intro g5 cap5 w5 hown5 hgrow5 hat5 hlt5; have HPB5 : Hid (w5.heap[w1.heap.size + 1 + 1]? = some (.cells #[.slice A0 acc.length c0, .string ⟨#[]⟩, .string ⟨#[]⟩] 28 (0, 0))) := Lib.hid ((hgrow5.block _ (by simp; omega) (fun e => hne5 e.symm)).trans ((Below.heap_alloc _ _ _ hlpe).trans HPBE.out)); have hf5 : w5.frozen? ⟨w1.heap.size + 1 + 1, 0, none⟩ = false := free_at HPB5.out 0; have hc5 : w5.cell? ⟨w1.heap.size + 1 + 1, 0, none⟩ = some (.slice A0 acc.length c0) := (ka0 HPB5.out 0).trans rfl; have hl5 := lt_of_block HPB5.out))
      all_goals
       have HOL5 := Lib.hid (HOLE.out.snoc HXV.out rfl (below_new we _) hown5 hgrow5 (fun st => UntV.stay st ⟨by decide, by decide, by decide, by decide, by decide⟩))
       have HG5 := Lib.hid (RdBy.row HGE.out hlt (below_new we _) hgrow5 (fun g hg => by have := (HOLE.out.own.lt g hg).1; omega))
       obtain ⟨n5', hn5'⟩ : ∃ n, acc.length + 1 = n := ⟨_, rfl⟩
       have HPB6 : Hid (∀ v : Value, (w5.setCell ⟨w1.heap.size + 1 + 1, 0, none⟩ v).heap[w1.heap.size + 1 + 1]? = some (.cells #[v, .string ⟨#[]⟩, .string ⟨#[]⟩] 28 (0, 0))) := Lib.hid (fun v => by have z := ka2 (v := v) HPB5.out (k := 0) (by simp); simpa using z)
       have hne6 := kfP HOL5.out.own
       have HOL6 : Hid (∀ v : Value, OList 54 8 UntV (w5.setCell ⟨w1.heap.size + 1 + 1, 0, none⟩ v) (w1.heap.size + 1 + 1 + 1) (.slice (some ⟨g5, 0, none⟩) (acc.length + 1) cap5) (acc ++ [u]) (xs ++ [[.bool u.contract, .string (str u.name), .slice A2 n2 c2, .string (str u.out.name), .int .i64 u.out.ty, .slice A4 n4 c4, .slice A5 n5 c5, .slice A6 n6 c6]])) := Lib.hid (fun v => HOL5.out.keep (fun g hg => kbO (fun e => hne6 (by rw [hg, e]))) (fun a x hx => UntV.stay (ka4 (P := fun t => t = 28) (k := 0) HPB5.out rfl v) ⟨by decide, by decide, by decide, by decide, by decide⟩ a x hx))
       have HG6 : Hid (∀ v : Value, RdBy wq (w5.setCell ⟨w1.heap.size + 1 + 1, 0, none⟩ v) (w1.heap.size + 1) rb) := Lib.hid (fun v => HG5.out.setLocal (k := 0) (B := w1.heap.size + 1 + 1) (by omega) hlt v)
       clear hown5 hgrow5 hat5 hlt5 hpe0 hn5'
       go_wp2
       go_roundg gk
       case measure => omega
       case rel => exact ⟨rb, _, acc ++ [u], xs ++ [[.bool u.contract, .string (str u.name), .slice A2 n2 c2, .string (str u.out.name), .int .i64 u.out.ty, .slice A4 n4 c4, .slice A5 n5 c5, .slice A6 n6 c6]], by simp; omega, by omega, fun h => by have := HST.out h; simp; omega, HOL6.out _, HG6.out _, HPB6.out _, HE.out⟩
     | true =>
      clear hu
      go_wp2_with fail
      refine HI1.out.mono ?_
      rintro e wc ⟨rfl, hbC⟩
      have HGC := Lib.hid (HGR.out.then_below hbC)
      have HOLC := Lib.hid (HOL.out.stay (Stay.below (P := fun t => t = 93) hbC) (by decide) (fun a x hx => UntV.stay (Stay.below (P := fun t => t = 93) hbC) ⟨by decide, by decide, by decide, by decide, by decide⟩ a x hx))
      have HPBC := Lib.hid ((hbC.block _ hlp).trans HPB.out)
      have hsC := hbC.size
      clear hbC
      have hpc0 : wc.cell? ⟨w1.heap.size + 1 + 1, 0, none⟩ = some (.slice A0 acc.length c0) := (ka0 HPBC.out 0).trans rfl
      have hlpc := lt_of_block HPBC.out
      go_wp2_with fail
      refine (HK1.out wc HGC.out.rd).mono ?_
      rintro e wd ⟨rfl, hgd⟩
      have HGD := Lib.hid (HGC.out.trans hgd)
      have HOLD := Lib.hid (HOLC.out.stay (RdBy.stay HGC.out.rd hgd) (by decide) (fun a x hx => UntV.stay (RdBy.stay HGC.out.rd hgd) ⟨by decide, by decide, by decide, by decide, by decide⟩ a x hx))
      have HPBD := Lib.hid (hgd.block HPBC.out (by omega))
      have hsd := hgd.grown.size
      clear hgd hpc0
      have hpd0 : wd.cell? ⟨w1.heap.size + 1 + 1, 0, none⟩ = some (.slice A0 acc.length c0) := (ka0 HPBD.out 0).trans rfl
      have hlpd := lt_of_block HPBD.out
      have HOU := Lib.hid (HO.out wd.drew HGD.out.rd.drew)
      go_wp2_with fail
      go_region_law (first
       | (go_simp; go_at_call 43; (with_reducible refine HOU.out.mono ?_); rintro e we ⟨iv, vv, qv, lv, rfl, hp9, hq9, hr9, ht9, hge⟩; have HGE := Lib.hid (HGD.out.trans (RdBy.undrew hge)); have HPBE := Lib.hid ((RdBy.undrew hge).block HPBD.out (by omega)); have hse := (RdBy.undrew hge).grown.size; have HOLE := Lib.hid (HOLD.out.stay (RdBy.stay HGD.out.rd (RdBy.undrew hge)) (by decide) (fun a x hx => UntV.stay (RdBy.stay HGD.out.rd (RdBy.undrew hge)) ⟨by decide, by decide, by decide, by decide, by decide⟩ a x hx)); clear hge; obtain ⟨A2, n2, c2, rfl, y1, y2⟩ := kan hp9; obtain ⟨A4, n4, c4, rfl, y11, y12⟩ := kan hq9; obtain ⟨A5, n5, c5, rfl, y13, y14⟩ := kan hr9; obtain ⟨A6, n6, c6, rfl, y15, y16⟩ := kan ht9; have HXV : Hid (UntV we u [.bool u.contract, .string (str u.name), .slice A2 n2 c2, .string (str u.out.name), .int .i64 u.out.ty, .slice A4 n4 c4, .slice A5 n5 c5, .slice A6 n6 c6]) := Lib.hid ⟨_, _, _, _, rfl, hp9, hq9, hr9, ht9⟩; clear hp9 hq9 hr9 ht9; have hpe0 : we.cell? ⟨w1.heap.size + 1 + 1, 0, none⟩ = some (.slice A0 acc.length c0) := (ka0 HPBE.out 0).trans rfl; have hlpe := lt_of_block HPBE.out; have hne5 := kfP HOLE.out.own)
       | (refine step_append_lies _ (by rfl) _ _ _ (by rfl) (w1.heap.size + 1 + 1 + 1) 54 i0 _ 8 144 Tryz.underlying25 hi hz0 hz1 hz2 rfl (by omega) (.slice A0 acc.length c0) acc.length xs.flatten (by rfl) (by exact HOLE.out.own.alloc _) ⟨we.heap.size, 0, none⟩ 1 1 [.bool u.contract, .string (str u.name), .slice A2 n2 c2, .string (str u.out.name), .int .i64 u.out.ty, .slice A4 n4 c4, .slice A5 n5 c5, .slice A6 n6 c6] (by rfl) (by rfl) (World.news_of_block (cs := #[.bool u.contract, .string (str u.name), .slice A2 n2 c2, .string (str u.out.name), .int .i64 u.out.ty, .slice A4 n4 c4, .slice A5 n5 c5, .slice A6 n6 c6]) (t := 54) (fr := (0, 0)) (heap_alloc_new _ _)) (by simp [Value.oneCell']) (by omega) (by unfold maxLen; omega) (by omega) (by simp; omega) (we.heap.size + 1) (by simp) ?_; intro g5 cap5 w5 hown5 hgrow5 hat5 hlt5; have HPB5 : Hid (w5.heap[w1.heap.size + 1 + 1]? = some (.cells #[.slice A0 acc.length c0, .string ⟨#[]⟩, .string ⟨#[]⟩] 28 (0, 0))) := Lib.hid ((hgrow5.block _ (by simp; omega) (fun e => hne5 e.symm)).trans ((Below.heap_alloc _ _ _ hlpe).trans HPBE.out)); have hf5 : w5.frozen? ⟨w1.heap.size + 1 + 1, 0, none⟩ = false := free_at HPB5.out 0; have hc5 : w5.cell? ⟨w1.heap.size + 1 + 1, 0, none⟩ = some (.slice A0 acc.length c0) := (ka0 HPB5.out 0).trans rfl; have hl5 := lt_of_block HPB5.out))
      all_goals
       have HOL5 := Lib.hid (HOLE.out.snoc HXV.out rfl (below_new we _) hown5 hgrow5 (fun st => UntV.stay st ⟨by decide, by decide, by decide, by decide, by decide⟩))
       have HG5 := Lib.hid (RdBy.row HGE.out hlt (below_new we _) hgrow5 (fun g hg => by have := (HOLE.out.own.lt g hg).1; omega))
       obtain ⟨n5', hn5'⟩ : ∃ n, acc.length + 1 = n := ⟨_, rfl⟩
       have HPB6 : Hid (∀ v : Value, (w5.setCell ⟨w1.heap.size + 1 + 1, 0, none⟩ v).heap[w1.heap.size + 1 + 1]? = some (.cells #[v, .string ⟨#[]⟩, .string ⟨#[]⟩] 28 (0, 0))) := Lib.hid (fun v => by have z := ka2 (v := v) HPB5.out (k := 0) (by simp); simpa using z)
       have hne6 := kfP HOL5.out.own
       have HOL6 : Hid (∀ v : Value, OList 54 8 UntV (w5.setCell ⟨w1.heap.size + 1 + 1, 0, none⟩ v) (w1.heap.size + 1 + 1 + 1) (.slice (some ⟨g5, 0, none⟩) (acc.length + 1) cap5) (acc ++ [u]) (xs ++ [[.bool u.contract, .string (str u.name), .slice A2 n2 c2, .string (str u.out.name), .int .i64 u.out.ty, .slice A4 n4 c4, .slice A5 n5 c5, .slice A6 n6 c6]])) := Lib.hid (fun v => HOL5.out.keep (fun g hg => kbO (fun e => hne6 (by rw [hg, e]))) (fun a x hx => UntV.stay (ka4 (P := fun t => t = 28) (k := 0) HPB5.out rfl v) ⟨by decide, by decide, by decide, by decide, by decide⟩ a x hx))
       have HG6 : Hid (∀ v : Value, RdBy wq (w5.setCell ⟨w1.heap.size + 1 + 1, 0, none⟩ v) (w1.heap.size + 1) rb) := Lib.hid (fun v => HG5.out.setLocal (k := 0) (B := w1.heap.size + 1 + 1) (by omega) hlt v)
       clear hown5 hgrow5 hat5 hlt5 hpe0 hn5'
       go_wp2
       go_roundg gk
       case measure => omega
       case rel => exact ⟨rb, _, acc ++ [u], xs ++ [[.bool u.contract, .string (str u.name), .slice A2 n2 c2, .string (str u.out.name), .int .i64 u.out.ty, .slice A4 n4 c4, .slice A5 n5 c5, .slice A6 n6 c6]], by simp; omega, by omega, fun h => by have := HST.out h; simp; omega, HOL6.out _, HG6.out _, HPB6.out _, HE.out⟩
  · have hf : (B1 || B2) = false := by simpa using hu
    obtain ⟨rfl, rfl⟩ := Bool.or_eq_false_iff.1 hf
    have HE : Hid (acc = us /\ rr = r1) := Lib.hid (by have z := (kmH (k := gk) (acc := acc) (HATU.out.trans hf)).symm.trans HROW.out; injection z with z1 z2; exact ⟨z1, z2⟩)
    clear hu hf hag
    go_wp2_with fail
    refine HI1.out.mono ?_
    rintro e wb ⟨rfl, hbB⟩
    have HGB := Lib.hid (HGR.out.then_below hbB)
    have HOLB := Lib.hid (HOL.out.stay (Stay.below (P := fun t => t = 93) hbB) (by decide) (fun a x hx => UntV.stay (Stay.below (P := fun t => t = 93) hbB) ⟨by decide, by decide, by decide, by decide, by decide⟩ a x hx))
    have HPBB := Lib.hid ((hbB.block _ hlp).trans HPB.out)
    have hsB := hbB.size
    clear hbB
    go_wp2_with fail
    refine (HI2.out wb HGB.out.rd).mono ?_
    rintro e wc ⟨rfl, hbC⟩
    have HGC := Lib.hid (HGB.out.then_below hbC)
    have HOLC := Lib.hid (HOLB.out.stay (Stay.below (P := fun t => t = 93) hbC) (by decide) (fun a x hx => UntV.stay (Stay.below (P := fun t => t = 93) hbC) ⟨by decide, by decide, by decide, by decide, by decide⟩ a x hx))
    have HPBC := Lib.hid ((hbC.block _ (lt_of_block HPBB.out)).trans HPBB.out)
    have hsC := hbC.size
    clear hbC
    obtain ⟨rfl, rfl⟩ := HE.out
    have HUC := Lib.hid HOLC.out.row
    go_wp2_with fail
    refine (kad (s := kkB) rfl HGC.out.rd G1.out).mono ?_
    rintro e v1 ⟨rfl, hg1⟩
    have HV1 := Lib.hid (HGC.out.trans hg1)
    have PV1 := Lib.hid (hg1.block HPBC.out (by omega))
    have HUV1 := Lib.hid (HUC.out.stay (RdBy.stay HGC.out.rd hg1) (by decide) (fun a x hx => UntV.stay (RdBy.stay HGC.out.rd hg1) ⟨by decide, by decide, by decide, by decide, by decide⟩ a x hx))
    have lv1 := lt_of_block PV1.out
    clear hg1
    go_wp2_with fail
    refine (kbW HV1.out.rd G2.out).mono ?_
    rintro e v2 ⟨rfl, hg2⟩
    have HV2 := Lib.hid (HV1.out.trans hg2)
    have PV2 := Lib.hid (hg2.block PV1.out (by omega))
    have HUV2 := Lib.hid (HUV1.out.stay (RdBy.stay HV1.out.rd hg2) (by decide) (fun a x hx => UntV.stay (RdBy.stay HV1.out.rd hg2) ⟨by decide, by decide, by decide, by decide, by decide⟩ a x hx))
    have lv2 := lt_of_block PV2.out
    clear hg2
    have q2 : v2.cell? ⟨w1.heap.size + 1 + 1, 1, none⟩ = some (.string ⟨#[]⟩) := (ka0 PV2.out 1).trans rfl
    have f2 : v2.frozen? ⟨w1.heap.size + 1 + 1, 1, none⟩ = false := free_at PV2.out 1
    have PV2a : Hid ((v2.setCell ⟨w1.heap.size + 1 + 1, 1, none⟩ (.string (str m))).heap[w1.heap.size + 1 + 1]? = some (.cells #[.slice A0 acc.length c0, .string (str m), .string ⟨#[]⟩] 28 (0, 0))) := Lib.hid (by have z := ka2 (v := .string (str m)) PV2.out (k := 1) (by simp); simpa using z)
    have HV2a := Lib.hid (HV2.out.setLocal (k := 1) (B := w1.heap.size + 1 + 1) (by omega) hlt (.string (str m)))
    have HUV2a := Lib.hid (HUV2.out.stay (ka4 (P := fun t => t = 28) (k := 1) PV2.out rfl (.string (str m))) (by decide) (fun a x hx => UntV.stay (ka4 (P := fun t => t = 28) (k := 1) PV2.out rfl (.string (str m))) ⟨by decide, by decide, by decide, by decide, by decide⟩ a x hx))
    go_wp2_with fail
    refine (kad (s := kaM) rfl HV2a.out.rd G3.out).mono ?_
    rintro e v3 ⟨rfl, hg3⟩
    have HV3 := Lib.hid (HV2a.out.trans hg3)
    have PV3 := Lib.hid (hg3.block PV2a.out (by omega))
    have HUV3 := Lib.hid (HUV2a.out.stay (RdBy.stay HV2a.out.rd hg3) (by decide) (fun a x hx => UntV.stay (RdBy.stay HV2a.out.rd hg3) ⟨by decide, by decide, by decide, by decide, by decide⟩ a x hx))
    have lv3 := lt_of_block PV3.out
    clear hg3 q2 f2
    go_wp2_with fail
    refine (kac (s := kd7) rfl HV3.out.rd G4.out).mono ?_
    rintro e v4 ⟨rfl, hg4⟩
    have HV4 := Lib.hid (HV3.out.trans hg4)
    have PV4 := Lib.hid (hg4.block PV3.out (by omega))
    have HUV4 := Lib.hid (HUV3.out.stay (RdBy.stay HV3.out.rd hg4) (by decide) (fun a x hx => UntV.stay (RdBy.stay HV3.out.rd hg4) ⟨by decide, by decide, by decide, by decide, by decide⟩ a x hx))
    have lv4 := lt_of_block PV4.out
    clear hg4
    obtain ⟨L, lv, i, c, a, hat⟩ := HV4.out.rd
    obtain ⟨z1, z2, z3, z4⟩ := hat.st.resolve_right (fun h => h.1 GC.out)
    obtain ⟨AA, c2, hlv, w1', w2', -⟩ := hat.tok
    subst hlv
    unfold maxLen at w2'
    have k0 : v4.cell? ⟨w1.heap.size + 1, 0, none⟩ = some (.slice AA L.length c2) := kaO hat.blk 0
    have k1 : v4.cell? ⟨w1.heap.size + 1, 1, none⟩ = some (.int .i64 (i : Int)) := kaO hat.blk 1
    have lrb : w1.heap.size + 1 < v4.heap.size := lt_of_block hat.blk
    have hLL := hat.okl.len
    have hii := hat.ile
    have d1 : decide ((i : Int) < (L.length : Int)) = false := decide_eq_false (by have := GN.out; rw [z3, <- z4] at this; omega)
    have d1' : decide (i < L.length) = false := decide_eq_false (by have := GN.out; rw [z3, <- z4] at this; omega)
    have HOK := Lib.hid (ke4 (B := true) HV4.out.rd (by rw [GC.out]; rfl))
    clear hat z1 z2 z3 z4
    go_wp2
    go_quiet ((go_at_call 47; exact Calls.quiet_of_same (HOK.out _)))
    go_wp2_with fail
    refine (kd5 (B := true) (HV4.out.rd.drewN nq) (by rw [GC.out]; rfl)).mono ?_
    rintro e v9 ⟨rfl, rfl⟩
    have X9 : Hid ((v4.drewN nq).heap[w.heap.size]? = some (.cells #[.slice none 0 0, .string ⟨#[]⟩, .string ⟨#[]⟩] 28 (0, 0))) := Lib.hid (HV4.out.block XQ.out (by omega))
    have Z9 : Hid ((v4.drewN nq).heap[w.heap.size + 1]? = some (.cells #[.int .i64 0, .int .i64 0] 35 (0, 0))) := Lib.hid (HV4.out.block ZQ.out (by omega))
    have P9 : Hid ((v4.drewN nq).heap[w1.heap.size + 1 + 1]? = some (.cells #[.slice A0 acc.length c0, .string (str m), .string ⟨#[]⟩] 28 (0, 0))) := Lib.hid PV4.out
    have HU9 : Hid (RowR 54 8 UntV (v4.drewN nq) acc (.slice A0 acc.length c0)) := Lib.hid (HUV4.out.stay (Stay.below (P := fun t => t = 93) (Tr.below_drewN (Below.refl _ _) nq)) (by decide) (fun a x hx => UntV.stay (Stay.below (P := fun t => t = 93) (Tr.below_drewN (Below.refl _ _) nq)) ⟨by decide, by decide, by decide, by decide, by decide⟩ a x hx))
    have HB9 : Hid (Below w.heap.size w (v4.drewN nq)) := Lib.hid (kog HWB.out (by omega) (HV4.out.then_below (Tr.below_drewN (Below.refl _ _) nq)))
    clear k0 k1 lrb d1 d1'
    obtain ⟨V, hV⟩ : ∃ V, v4.drewN nq = V := ⟨_, rfl⟩
    rw [hV] at X9 Z9 P9 HU9 HB9
    rw [hV]
    clear hV
    have p0 : V.cell? ⟨w.heap.size, 0, none⟩ = some (.slice none 0 0) := (ka0 X9.out 0).trans rfl
    have g0 : V.frozen? ⟨w.heap.size, 0, none⟩ = false := free_at X9.out 0
    have s0 : V.cell? ⟨w1.heap.size + 1 + 1, 0, none⟩ = some (.slice A0 acc.length c0) := (ka0 P9.out 0).trans rfl
    have p1 : V.cell? ⟨w.heap.size, 1, none⟩ = some (.string ⟨#[]⟩) := (ka0 X9.out 1).trans rfl
    have g1 : V.frozen? ⟨w.heap.size, 1, none⟩ = false := free_at X9.out 1
    have s1 : V.cell? ⟨w1.heap.size + 1 + 1, 1, none⟩ = some (.string (str m)) := (ka0 P9.out 1).trans rfl
    have p2 : V.cell? ⟨w.heap.size, 2, none⟩ = some (.string ⟨#[]⟩) := (ka0 X9.out 2).trans rfl
    have g2 : V.frozen? ⟨w.heap.size, 2, none⟩ = false := free_at X9.out 2
    have s2 : V.cell? ⟨w1.heap.size + 1 + 1, 2, none⟩ = some (.string ⟨#[]⟩) := (ka0 P9.out 2).trans rfl
    have y0 : V.cell? ⟨w.heap.size + 1, 0, none⟩ = some (.int .i64 0) := (ka0 Z9.out 0).trans rfl
    have h0 : V.frozen? ⟨w.heap.size + 1, 0, none⟩ = false := free_at Z9.out 0
    have y1 : V.cell? ⟨w.heap.size + 1, 1, none⟩ = some (.int .i64 0) := (ka0 Z9.out 1).trans rfl
    have h1 : V.frozen? ⟨w.heap.size + 1, 1, none⟩ = false := free_at Z9.out 1
    have lx9 := lt_of_block X9.out
    have lz9 := lt_of_block Z9.out
    have lp9 := lt_of_block P9.out
    go_wp2
    obtain ⟨zx, zz⟩ := kqI X9.out Z9.out (by omega) (.slice A0 acc.length c0) (.string (str m)) (.string ⟨#[]⟩) (.int .i64 0) (.int .i64 0)
    have e0 := (ka0 zx 0).trans (show _ = some (.slice A0 acc.length c0) from rfl)
    have e1 := (ka0 zx 1).trans (show _ = some (.string (str m)) from rfl)
    have e2 := (ka0 zx 2).trans (show _ = some (.string ⟨#[]⟩) from rfl)
    have e3 := (ka0 zz 0).trans (show _ = some (.int .i64 0) from rfl)
    have e4 := (ka0 zz 1).trans (show _ = some (.int .i64 0) from rfl)
    clear p0 g0 s0 p1 g1 s1 p2 g2 s2 y0 y1 h0 h1
    have hst : Stay (fun t => t = 28 ∨ t = 35) V (((((V.setCell ⟨w.heap.size, 0, none⟩ (.slice A0 acc.length c0)).setCell ⟨w.heap.size, 1, none⟩ (.string (str m))).setCell ⟨w.heap.size, 2, none⟩ (.string ⟨#[]⟩)).setCell ⟨w.heap.size + 1, 0, none⟩ (.int .i64 0)).setCell ⟨w.heap.size + 1, 1, none⟩ (.int .i64 0)) := kq5 X9.out Z9.out _ _ _ _ _
    exact bodyPost_ret (v := .tuple #[.agg #[.slice A0 acc.length c0, .string (str m), .string ⟨#[]⟩], .agg #[.int .i64 0, .int .i64 0]]) (by simp [results, Tryz.results19, go_sem, e0, e1, e2, e3, e4]) rfl ⟨_, rfl, HU9.out.stay hst (by decide) (fun a x hx => UntV.stay hst ⟨by decide, by decide, by decide, by decide, by decide⟩ a x hx), kpC HB9.out (Nat.le_refl _) (by omega) _ _ _ _ _⟩
end Go.Proofs.YtlhcajhgbkgjbaaGreatDoor.Rp

/- The function live of the statements of layer types: its sources, what they are of. Conditions: none. -/
namespace Go.Proofs.YtlhcajhgbkgjbaaGreatDoor.Ty
open Go.ChangeShapes Go.WideShapes Go.ChangeAt Go.RowKit
open Ex Pg Rp
open Tr (str ka1 ka6 Bytes Nd Nodes T Lab Short)
def s1 : Bytes := [102, 40, 97, 44, 32, 111, 110, 99, 101, 32, 98, 41, 32, 43, 32, 112, 114, 101, 32, 97]
def s2 : Bytes := [97, 32, 60, 32, 116, 114, 117, 101]
def s3 : Bytes := [102, 40, 98, 44, 32, 97, 41]
def s4 : Bytes := [102, 40, 97, 41]
def s5 : Bytes := [120]
def s6 : Bytes := [110, 111, 100, 101, 32, 102, 40, 97, 58, 105, 110, 116, 41, 32, 114, 101, 116, 117, 114, 110, 115, 40, 99, 58, 98, 111, 111, 108, 41, 32, 108, 101, 116, 32, 99, 61, 97, 59, 32, 116, 101, 108, 32, 109, 97, 105, 110, 32, 102, 59]
def tA : T := .l0 ⟨3, 0, [97]⟩
def tB : T := .l0 ⟨3, 0, [98]⟩
def t1 : T := .l2 ⟨14, 0, []⟩ (.l1 ⟨27, 0, [102]⟩ (.l2 ⟨28, 0, []⟩ (.l1 ⟨28, 0, []⟩ tA) (.l1 ⟨22, 0, []⟩ tB))) (.l1 ⟨21, 0, []⟩ tA)
def t2 : T := .l2 ⟨12, 0, []⟩ tA (.l0 ⟨2, 1, []⟩)
def t3 : T := .l1 ⟨27, 0, [102]⟩ (.l2 ⟨28, 0, []⟩ (.l1 ⟨28, 0, []⟩ tB) tA)
def t4 : T := .l1 ⟨27, 0, [102]⟩ (.l1 ⟨28, 0, []⟩ tA)
def t5 : T := .l0 ⟨3, 0, [120]⟩
theorem kqG : kch s1 = (t1.flat 0, 0, 0) := by decide +kernel
theorem kqF : kch s2 = (t2.flat 0, 0, 0) := by decide +kernel
theorem kqE : kch s3 = (t3.flat 0, 0, 0) := by decide +kernel
theorem kqD : kch s4 = (t4.flat 0, 0, 0) := by decide +kernel
theorem kqC : kch s5 = (t5.flat 0, 0, 0) := by decide +kernel
def lL : List Prm := [⟨[97], 2⟩, ⟨[98], 1⟩]
def uL : List Unt := [⟨false, [102], lL, ⟨[99], 2⟩, [], [], []⟩]
abbrev eL : Env := kcp lL uL
theorem kdn (E : Env) (t : T) (hok : t.okB = true) (hr : t.lab.op ≠ 28) (hs : t.size <= 5000) (hd : t.depth <= 40) : tyM E (t.flat 0) = ansY (tyT E t) := by
 unfold tyM; rw [if_pos (Tr.may_yes (Tr.may_flat t hok hr hs hd)), Tr.root_flat t hok]; cases tyT E t <;> rfl
theorem ty1' : tyM eL (t1.flat 0) = (2, 0) := by rw [kdn eL t1 (by decide) (by decide) (by decide) (by decide)]; rfl
theorem ty2' : tyM eL (t2.flat 0) = (0, 10) := by rw [kdn eL t2 (by decide) (by decide) (by decide) (by decide)]; rfl
theorem ty3' : tyM eL (t3.flat 0) = (0, 10) := by rw [kdn eL t3 (by decide) (by decide) (by decide) (by decide)]; rfl
theorem ty4' : tyM eL (t4.flat 0) = (0, 14) := by rw [kdn eL t4 (by decide) (by decide) (by decide) (by decide)]; rfl
theorem ty5' : tyM eL (t5.flat 0) = (0, 8) := by rw [kdn eL t5 (by decide) (by decide) (by decide) (by decide)]; rfl
theorem ty0' : tyM eL [] = (0, 1) := klx eL (Tr.may_no (fun h => absurd h.pos (by simp)))
def rd6 : Rd := ⟨(Lx.lexM s6).toks, 0, 0, 0, 0⟩
def a1 := unF kaH [] rd6
def a2 : Rd := (kaj kkB a1.2).2
def a3 := kbz a2
def a4 : Rd := (kaj kaM a3.2).2
def a5 := kau kd7 a4
def u6 : Unt := ⟨false, [102], [⟨[97], 2⟩], ⟨[99], 1⟩, [], [⟨[99], tA.flat 0⟩], []⟩
theorem k6a : a1.1 = [u6] := by decide +kernel
theorem k6b : a3.1 = [102] /\ a5.1 = false /\ a5.2.code = 0 /\ ¬ a5.2.next < a5.2.l.length := by decide +kernel
theorem k6n : (Lx.lexM s6).toks.length = 22 := by decide +kernel
theorem lex6 : Lx.lexM s6 = .ok (Lx.lexM s6).toks := by
 cases h : Lx.lexM s6 with
 | ok l => rfl
 | bad c a => have := k6n; rw [h] at this; cases this
theorem kqp : kdA 0 noN [u6] = (10, 0) := by
 have hq : eqnM ⟨strOf (kaT u6), noN⟩ ⟨[99], tA.flat 0⟩ = 10 := by
  show isM ⟨strOf (kaT u6), noN⟩ (tA.flat 0) 1 = 10
  unfold isM
  rw [kdn _ tA (by decide) (by decide) (by decide) (by decide)]
  rfl
 have h : kgd noN u6 = 10 := by
  unfold kgd
  rw [if_neg (by show ¬ ((0 : Int) ≠ 0); decide)]
  show kfE ⟨strOf (kaT u6), noN⟩ [⟨[99], tA.flat 0⟩] = 10
  unfold kfE; rw [hq]; rfl
 unfold kdA; rw [h]; rfl
theorem kp1 {S : ByteArray} {s : Bytes} {x : List Nd × Int × Int} {w : World} (hS : S = str s) (t : kch s = x) (hn : s.length <= 1000000) (hl : ∀ l, Lx.lexM s = .ok l -> l.length <= 20000) : Calls Tryz.prog 39 #[.string S] w (kdB w x) := by
 subst hS
 have h := Rf.rread_any (str s) w (by rw [Tr.str_size]; unfold maxLen; omega) (by rw [Tr.str_toList]; exact hl)
 rw [Tr.str_toList, t] at h; exact h
theorem kkX {s : Bytes} (h : (Lx.lexM s).toks.length <= 20000) : ∀ l, Lx.lexM s = .ok l -> l.length <= 20000 := fun l hl => by rw [hl] at h; exact h
theorem sh1 : (Lx.lexM s1).toks.length <= 20000 := by decide +kernel
theorem sh2 : (Lx.lexM s2).toks.length <= 20000 := by decide +kernel
theorem sh3 : (Lx.lexM s3).toks.length <= 20000 := by decide +kernel
theorem sh4 : (Lx.lexM s4).toks.length <= 20000 := by decide +kernel
theorem sh5 : (Lx.lexM s5).toks.length <= 20000 := by decide +kernel
theorem kgm {α β : Type} (x : α × β) : x = (x.1, x.2) := rfl
theorem g60 : unF kaH [] ⟨(Lx.lexM s6).toks, 0, 0, 0, 0⟩ = (a1.1, a1.2) := kgm a1
theorem g61 : (kaj kkB a1.2).2 = a2 := by unfold a2; rfl
theorem g62 : kbz a2 = (a3.1, a3.2) := kgm a3
theorem g63 : (kaj kaM a3.2).2 = a4 := by unfold a4; rfl
theorem g64 : kau kd7 a4 = (false, a5.2) := (kgm a5).trans (by rw [k6b.2.1])
theorem kqa (w : World) (S : ByteArray) (hS : S = str s6) : Calls Tryz.prog 19 #[.string S] w (ParG w (⟨[u6], [102], []⟩, 0, 0)) := by
 subst hS
 have hl : Lx.lexM (str s6).toList = .ok (Lx.lexM s6).toks := by rw [Tr.str_toList]; exact lex6
 have h := klp (str s6) w (by rw [Tr.str_size]; exact Nat.le_trans (show s6.length <= 1000 by decide) (by unfold maxLen; omega)) (Lx.lexM s6).toks hl (by rw [k6n]; omega) a1.1 a3.1 [] a1.2 a2 a3.2 a4 a5.2 a5.2 a5.2 g60 g61 g62 g63 g64 rfl k6b.2.2.1 k6b.2.2.2
 rw [k6a, k6b.1] at h
 exact h
theorem kfO {e : List Nd} (h : (e.all fun x => decide (x.name.length <= 1000)) = true) : Short e := fun x hx => by
 have := List.all_eq_true.1 h x hx
 simp at this
 unfold maxLen; omega
set_option maxHeartbeats 1600000 in
theorem klK {S : ByteArray} {s : Bytes} {l : List Nd} {w : World} (hS : S = str s) (t : kch s = (l, 0, 0)) (hn : s.length <= 1000000) (hl : ∀ l, Lx.lexM s = .ok l -> l.length <= 20000) :
 Calls Tryz.prog 18 #[.string S] w (fun e w' => ∃ v, e = .returned v /\ Nodes w' v l /\ Below w.heap.size w w') := by
 have HC := Lib.hid (kp1 (w := w) hS t hn hl)
 clear hS t
 go_enter Tryz.func18, Tryz.ntmps18
 go_wp2_with fail
 refine HC.out.mono ?_
 rintro e w1 ⟨v1, rfl, hp1, hb1⟩
 have HP := Lib.hid (hp1.below (below_new w1 (.cells #[.int .i64 0, .int .i64 0] 35)))
 have HB := Lib.hid (hb1.trans ((below_new w1 (.cells #[.int .i64 0, .int .i64 0] 35)).mono hb1.size))
 obtain ⟨A1, n1, c1, rfl, y1, y2⟩ := kcy hp1
 clear hp1 hb1
 go_wp2
 go_ret
 exact ⟨_, rfl, HP.out.1, HB.out⟩
end Go.Proofs.YtlhcajhgbkgjbaaGreatDoor.Ty

