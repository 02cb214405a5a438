/- Contracts of the document's reader of programs: items. Conditions: a reader lies in memory. -/
import Derived.Test.YtdebhngpgabglaaGreatRa12
import Derived.Test.YtdebhngpgabglaaGreatRa09
import Derived.Test.YtdebhngpgabglaaGreatRa10
set_option linter.unusedVariables false
set_option linter.unusedSimpArgs false
namespace Go.Proofs.YtdebhngpgabglaaGreat.Rp
open Go.ChangeShapes Go.WideShapes Go.ChangeAt Go.RowKit
open Go.Proofs.YtdebhngpgabglaaGreat.Ex
open Go.Proofs.YtdebhngpgabglaaGreat.Tr (str ret_bool ret_int Bytes Nd)
open Go.Proofs.YtdebhngpgabglaaGreat.Pg
theorem info129_items : (Tryz.prog.info? 129).map (fun i => (i.zero, i.size, i.bytes)) = some (some (.agg #[.int .i64 0, .string ⟨#[]⟩, .int .i64 0, .slice none 0 0, .slice none 0 0, .slice none 0 0]), 6, 104) := by kernel_rfl
set_option maxRecDepth 100000 in
set_option maxHeartbeats 8000000 in
theorem items_any (b : Nat) (r : Rd) (w : World) (hr : RdIn w b r) : Calls Tryz.prog 52 #[.pointer (some ⟨b, 0, none⟩)] w (RowG 129 6 ItmV w b (itemsQ r)) := by
 have HR := Lib.hid hr
 have hlt := hr.lt
 obtain ⟨i0, hi, hz0, hz1, hz2⟩ := info_parts info129_items
 obtain ⟨⟨l, re⟩, hX⟩ : ∃ X, itF rowMax [] r = X := ⟨_, rfl⟩
 obtain ⟨rz, hz⟩ : ∃ x, (needQ wEnd re).2 = x := ⟨_, rfl⟩
 have hX' : itemsQ r = (l, rz) := by unfold itemsQ; rw [pb hX, pu hz]; rfl
 obtain ⟨X, hXX⟩ : ∃ X, ((l, re) : List Itm × Rd) = X := ⟨_, rfl⟩
 have HE0 : Hid (itF rowMax [] r = X) := Lib.hid (hX.trans hXX)
 have HXX := Lib.hid hXX
 have HZ := Lib.hid hz
 rw [hX']
 clear hX hX' hXX hz hr
 go_enter Tryz.func52, Tryz.ntmps52
 go_wp2
 go_loopg [3] rowMax (fun g s3 wr => ∃ (rr : Rd) (ov : Value) (acc : List (Itm)) (xs : List (List Value)), ov = s3 ∧ acc.length ≤ 201 ∧ 1 ≤ g ∧ (rr.code = 0 → acc.length ≤ 200 ∧ 202 ≤ acc.length + g) ∧ OList 129 6 ItmV wr w.heap.size ov acc xs ∧ RdBy w wr b rr ∧ itF g acc rr = X)
 case atStart => exact ⟨r, _, [], [], rfl, by simp, by simp [rowMax], fun _ => by simp [rowMax], OList.nil _ _, (RdBy.refl HR.out), HE0.out⟩
 case round =>
  obtain ⟨rr, ov, acc, xs, hov, ha, hg1, hag, hol, hgr, hrow⟩ := hrel
  subst hov
  have HOL := Lib.hid hol
  have HGR := Lib.hid hgr
  have HROW := Lib.hid hrow
  obtain ⟨A0, c0, hv0, hn1, hn2⟩ := own_form hol.own
  subst hv0
  have hs0 := hgr.grown.size
  clear hol hgr hrow
  cases gk with
  | zero => omega
  | succ gk =>
  obtain ⟨B, hB⟩ : ∃ B, decide (kindQ rr ≠ 0) = B := ⟨_, rfl⟩
  have HB := Lib.hid (begins_lit HGR.out.rd hB)
  cases B with
  | false =>
   have hk : kindQ rr = 0 := by simpa using hB
   have HE : Hid ((acc, rr) = X) := Lib.hid ((itF_stop hk).symm.trans HROW.out)
   clear hk hB
   go_wp2_with fail
   refine HB.out.mono ?_
   rintro e w1 ⟨rfl, hb1⟩
   have HG1 := Lib.hid (HGR.out.then_below hb1)
   have HOL1 := Lib.hid (HOL.out.stay (Stay.below (P := fun t => t = 88) hb1) (by decide) (fun a x hx => ItmV.stay (Stay.below (P := fun t => t = 88) hb1) (by decide) (by decide) a x hx))
   clear hb1
   obtain ⟨rfl, rfl⟩ : l = acc ∧ re = rr := by have z := HXX.out.trans HE.out.symm; injection z with z1 z2; exact ⟨z1, z2⟩
   go_wp2_with fail
   refine (need_lit (s := wEnd) rfl HG1.out.rd HZ.out).mono ?_
   rintro e w2 ⟨rfl, hg2⟩
   have HG2 := Lib.hid (HG1.out.trans hg2)
   have HOL2 := Lib.hid (HOL1.out.stay (RdBy.stay HG1.out.rd hg2) (by decide) (fun a x hx => ItmV.stay (RdBy.stay HG1.out.rd hg2) (by decide) (by decide) a x hx))
   clear hg2
   go_wp2
   go_ret
   exact ⟨_, rfl, HOL2.out.row, HG2.out⟩
  | true =>
  have hk : kindQ rr ≠ 0 := by simpa using hB
  have hc : rr.code = 0 := HGR.out.rd.alive (kind_in hk)
  have hag' := hag hc
  obtain ⟨r1, k1⟩ : ∃ x, (roomQ acc.length rr).2 = x := ⟨_, rfl⟩
  have HK1 : Hid (∀ w', RdIn w' b rr → Calls Tryz.prog 31 #[.pointer (some ⟨b, 0, none⟩), .int .i64 (acc.length : Int)] w' (fun e w'' => e = .returned (.tuple #[]) ∧ RdBy w' w'' b r1)) := Lib.hid (fun w' h => room_lit (n := acc.length) (by omega) h k1)
  obtain ⟨⟨x, r2⟩, k2⟩ : ∃ x, itemQ r1 = x := ⟨_, rfl⟩
  have HO : Hid (∀ w', RdIn w' b r1 → Calls Tryz.prog 73 #[.pointer (some ⟨b, 0, none⟩)] w' (ItmO w' b (x, r2))) := Lib.hid (fun w' h => by rw [← k2]; exact item_any b r1 w' h)
  have HE : Hid (itF gk (acc ++ x.toList) r2 = X) := Lib.hid ((itF_step hk k1 k2).symm.trans HROW.out)
  have HST : Hid (r2.code = 0 → acc.length < 200) := Lib.hid (fun h => room_code k1 (Classical.byContradiction fun hn => by
   have s1 := stick_item r1 hn
   rw [k2] at s1
   exact s1 h))
  have HSN : Hid (x ≠ none → acc.length < 200) := Lib.hid (fun h => room_code k1 (Classical.byContradiction fun hn => h (by
   have := item_dead (room_in HGR.out.rd k1) hn
   rw [k2] at this; exact this)))
  have HSX : Hid (x = none → r2.code ≠ 0) := Lib.hid (fun hx hc2 => by
   have h1 : r1.code = 0 := Classical.byContradiction fun hn => by
    have s1 := stick_item r1 hn
    rw [k2] at s1
    exact s1 hc2
   have h2 := room_code k1 h1
   have h3 : rr = r1 := by rw [← k1]; unfold roomQ; simp only; rw [if_neg (by omega)]
   have h4 : (itemQ rr).1 ≠ none := by unfold itemQ; rw [if_neg hk]; unfold pBind pPure; simp
   rw [h3, k2] at h4
   exact h4 hx)
  clear k1 k2 hc hk hB hag
  go_wp2_with fail
  refine HB.out.mono ?_
  rintro e w0 ⟨rfl, hb0⟩
  have HG0 := Lib.hid (HGR.out.then_below hb0)
  have hsb := hb0.size
  have HOL0 := Lib.hid (HOL.out.stay (Stay.below (P := fun t => t = 88) hb0) (by decide) (fun a x hx => ItmV.stay (Stay.below (P := fun t => t = 88) hb0) (by decide) (by decide) a x hx))
  clear hb0
  go_wp2_with fail
  refine (HK1.out w0 HG0.out.rd).mono ?_
  rintro e w1 ⟨rfl, hg1⟩
  have HG1 := Lib.hid (HG0.out.trans hg1)
  have hs1 := hg1.grown.size
  have HOL1 := Lib.hid (HOL0.out.stay (RdBy.stay HG0.out.rd hg1) (by decide) (fun a x hx => ItmV.stay (RdBy.stay HG0.out.rd hg1) (by decide) (by decide) a x hx))
  clear hg1
  go_wp2_with fail
  refine (HO.out w1 HG1.out.rd).mono ?_
  rintro e w2 ⟨i, ev, fv, av, hx, rfl, hp, hq, hl, hg2⟩
  have HG2 := Lib.hid (HG1.out.trans hg2)
  have hs2 := hg2.grown.size
  have HOL2 := Lib.hid (HOL1.out.stay (RdBy.stay HG1.out.rd hg2) (by decide) (fun a x hx => ItmV.stay (RdBy.stay HG1.out.rd hg2) (by decide) (by decide) a x hx))
  clear hg2
  obtain ⟨A2, n2, c2, rfl, y1, y2⟩ := pt_form hp
  obtain ⟨A4, n4, c4, rfl, y11, y12⟩ := pt_form hq
  obtain ⟨A5, n5, c5, rfl, y13, y14⟩ := row_form hl
  have HXV : Hid (ItmV w2 i [.int .i64 i.kind, .string (str i.name), .int .i64 i.ty, .slice A2 n2 c2, .slice A4 n4 c4, .slice A5 n5 c5]) := Lib.hid ⟨_, _, _, rfl, hp, hq, hl⟩
  have HX := Lib.hid hx
  clear hp hq hl hx
  obtain ⟨wx, hwx⟩ : ∃ W, w2.alloc (.cells #[.int .i64 i.kind, .string (str i.name), .int .i64 i.ty, .slice A2 n2 c2, .slice A4 n4 c4, .slice A5 n5 c5] 129) = W := ⟨_, rfl⟩
  have hbx : Below w2.heap.size w2 wx := hwx ▸ below_new w2 _
  have HGX := Lib.hid (HG2.out.then_below hbx)
  have HOLX := Lib.hid (HOL2.out.stay (Stay.below (P := fun t => t = 88) hbx) (by decide) (fun a x hx => ItmV.stay (Stay.below (P := fun t => t = 88) hbx) (by decide) (by decide) a x hx))
  have HXVX := Lib.hid (ItmV.stay (Stay.below (P := fun t => t = 88) hbx) (by decide) (by decide) _ _ HXV.out)
  have hsx := hbx.size
  have hIX : wx.heap[w2.heap.size]? = some (.cells #[.int .i64 i.kind, .string (str i.name), .int .i64 i.ty, .slice A2 n2 c2, .slice A4 n4 c4, .slice A5 n5 c5] 129 (0, 0)) := hwx ▸ heap_alloc_new w2 _
  have HIX := Lib.hid hIX
  clear hIX
  clear hbx
  cases x with
  | none =>
   have HE1 : Hid (itF gk (acc ++ ([] : List Itm)) r2 = X) := Lib.hid HE.out
   go_wp2
   go_roundg gk
   case measure => omega
   case rel => exact ⟨r2, _, acc, xs, rfl, by omega, by omega, fun h => absurd h (HSX.out (by simp)), HOLX.out, HGX.out, by have := HE1.out; rw [List.append_nil] at this; exact this⟩
  | some j =>
  obtain rfl := HX.out j rfl
  have ha2 := HSN.out (by simp)
  have q0 : wx.cell? ⟨w2.heap.size, 0, none⟩ = some (.int .i64 j.kind) := (cell_at HIX.out 0).trans rfl
  have q1 : wx.cell? ⟨w2.heap.size, 1, none⟩ = some (.string (str j.name)) := (cell_at HIX.out 1).trans rfl
  have q2 : wx.cell? ⟨w2.heap.size, 2, none⟩ = some (.int .i64 j.ty) := (cell_at HIX.out 2).trans rfl
  have q3 : wx.cell? ⟨w2.heap.size, 3, none⟩ = some (.slice A2 n2 c2) := (cell_at HIX.out 3).trans rfl
  have q4 : wx.cell? ⟨w2.heap.size, 4, none⟩ = some (.slice A4 n4 c4) := (cell_at HIX.out 4).trans rfl
  have q5 : wx.cell? ⟨w2.heap.size, 5, none⟩ = some (.slice A5 n5 c5) := (cell_at HIX.out 5).trans rfl
  have lqx := lt_of_block HIX.out
  go_wp2_with (at_builtin; refine wpList_append_own _ rfl (.tmp 18) (.tmp 20) 38 rfl w.heap.size 129 i0 _ 6 104 Tryz.underlying38 hi hz0 hz1 hz2 rfl (by decide) _ acc.length xs.flatten rfl (HOLX.out.own.alloc _) ⟨wx.heap.size, 0, none⟩ 1 1 [.int .i64 j.kind, .string (str j.name), .int .i64 j.ty, .slice A2 n2 c2, .slice A4 n4 c4, .slice A5 n5 c5] rfl rfl ?a1 ?b1 ?c1 ?d1 ?e1 ?_)
  case a1 => exact news_new _ _ _ _ rfl rfl
  case b1 => simp [Value.oneCell']
  case c1 => unfold maxLen; omega
  case d1 => omega
  case e1 => simp; omega
  intro v3 w3 hown3 hg3 _
  have HOL3 := Lib.hid (HOLX.out.snoc HXVX.out rfl (below_new wx _) hown3 hg3 (fun st => ItmV.stay st (by decide) (by decide)))
  have HGR3 := Lib.hid (RdBy.row HGX.out hlt (below_new wx _) hg3 (fun g hg => (HOLX.out.own.lt g hg).1))
  obtain ⟨A3, c3, hv3, y3, y4⟩ := own_form hown3
  subst hv3
  clear hown3 hg3
  go_wp2
  go_roundg gk
  case measure => omega
  case rel => exact ⟨r2, _, acc ++ [j], xs ++ [[.int .i64 j.kind, .string (str j.name), .int .i64 j.ty, .slice A2 n2 c2, .slice A4 n4 c4, .slice A5 n5 c5]], rfl, by simp; omega, by omega, fun h => by have := HST.out h; simp; omega, HOL3.out, HGR3.out, HE.out⟩
end Go.Proofs.YtdebhngpgabglaaGreat.Rp
/- Contracts of the document's reader of programs: a contract. Conditions: a reader lies in memory. -/
namespace Go.Proofs.YtdebhngpgabglaaGreat.Rp
open Go.ChangeShapes Go.WideShapes Go.ChangeAt Go.RowKit
open Go.Proofs.YtdebhngpgabglaaGreat.Ex
open Go.Proofs.YtdebhngpgabglaaGreat.Tr (str ret_bool ret_int Bytes Nd)
open Go.Proofs.YtdebhngpgabglaaGreat.Pg
set_option maxRecDepth 100000 in
set_option maxHeartbeats 8000000 in
theorem unit_contract (b : Nat) (r : Rd) (w : World) (hr : RdIn w b r) (n : Bytes) (i : List Prm) (l : List Itm) (r0 r1 r2 r3 : Rd) (X : Unt × Rd) (h0 : takeQ wContract r = (true, r0)) (h1 : nameP r0 = (n, r1)) (h2 : inQ sSemi paramQ r1 = (i, r2)) (h3 : itemsQ r2 = (l, r3)) (he : ((⟨true, n, i, ⟨[], 0⟩, [], [], l⟩ : Unt), r3) = X) : Calls Tryz.prog 32 #[.pointer (some ⟨b, 0, none⟩)] w (UntG w b X) := by
 have HR := Lib.hid hr
 have hlt := hr.lt
 have HE := Lib.hid he
 have H0 := Lib.hid h0
 have H1 := Lib.hid h1
 have HC2 : Hid (∀ w', RdIn w' b r1 → Calls Tryz.prog 51 #[.pointer (some ⟨b, 0, none⟩)] w' (RowG 37 2 PrmV w' b (i, r2))) := Lib.hid (fun w' h => by rw [← h2]; exact inputs_any b r1 w' h)
 have HC3 : Hid (∀ w', RdIn w' b r2 → Calls Tryz.prog 52 #[.pointer (some ⟨b, 0, none⟩)] w' (RowG 129 6 ItmV w' b (l, r3))) := Lib.hid (fun w' h => by rw [← h3]; exact items_any b r2 w' h)
 clear h0 h1 h2 h3 he hr
 have hBW : Below w.heap.size w ((w.alloc (.cells #[.bool false, .string ⟨#[]⟩, .slice none 0 0, .string ⟨#[]⟩, .int .i64 0, .slice none 0 0, .slice none 0 0, .slice none 0 0] 40)).alloc (.cells #[.bool false, .string ⟨#[]⟩, .slice none 0 0, .string ⟨#[]⟩, .int .i64 0, .slice none 0 0, .slice none 0 0, .slice none 0 0] 40)) := (below_new w _).alloc (below_new w _).size _
 have X0 : Hid (((w.alloc (.cells #[.bool false, .string ⟨#[]⟩, .slice none 0 0, .string ⟨#[]⟩, .int .i64 0, .slice none 0 0, .slice none 0 0, .slice none 0 0] 40)).alloc (.cells #[.bool false, .string ⟨#[]⟩, .slice none 0 0, .string ⟨#[]⟩, .int .i64 0, .slice none 0 0, .slice none 0 0, .slice none 0 0] 40)).heap[w.heap.size]? = some (.cells #[.bool false, .string ⟨#[]⟩, .slice none 0 0, .string ⟨#[]⟩, .int .i64 0, .slice none 0 0, .slice none 0 0, .slice none 0 0] 40 (0, 0))) := Lib.hid (stayA (heap_alloc_new w _))
 have Y0 : Hid (((w.alloc (.cells #[.bool false, .string ⟨#[]⟩, .slice none 0 0, .string ⟨#[]⟩, .int .i64 0, .slice none 0 0, .slice none 0 0, .slice none 0 0] 40)).alloc (.cells #[.bool false, .string ⟨#[]⟩, .slice none 0 0, .string ⟨#[]⟩, .int .i64 0, .slice none 0 0, .slice none 0 0, .slice none 0 0] 40)).heap[w.heap.size + 1]? = some (.cells #[.bool false, .string ⟨#[]⟩, .slice none 0 0, .string ⟨#[]⟩, .int .i64 0, .slice none 0 0, .slice none 0 0, .slice none 0 0] 40 (0, 0))) := Lib.hid (new_blk (by simp))
 have HG0 := Lib.hid (RdBy.of_below HR.out hBW)
 have hne : w.heap.size ≠ w.heap.size + 1 := by omega
 clear hBW
 go_enter Tryz.func32, Tryz.ntmps32
 go_wp2_with fail
 refine (take_lit (s := wContract) rfl HG0.out.rd H0.out).mono ?_
 rintro e w1 ⟨rfl, hg1⟩
 have HG1 := Lib.hid (HG0.out.trans hg1)
 have x1 := hg1.block X0.out (by omega)
 have y1 := hg1.block Y0.out (by omega)
 have X1 := Lib.hid x1
 have Y1 := Lib.hid y1
 have lx1 := lt_of_block x1
 have ly1 := lt_of_block y1
 clear hg1 x1 y1 
 have q1_0 : w1.cell? ⟨w.heap.size + 1, 0, none⟩ = some (.bool false) := (cell_at Y1.out 0).trans rfl
 have k1_0 : w1.frozen? ⟨w.heap.size + 1, 0, none⟩ = false := free_at Y1.out 0
 have Y1a : Hid ((w1.setCell ⟨w.heap.size + 1, 0, none⟩ (.bool true)).heap[w.heap.size + 1]? = some (.cells #[.bool true, .string ⟨#[]⟩, .slice none 0 0, .string ⟨#[]⟩, .int .i64 0, .slice none 0 0, .slice none 0 0, .slice none 0 0] 40 (0, 0))) := Lib.hid (by have z := setObj_heap (v := .bool true) Y1.out (k := 0) (by simp); simpa using z)
 have X1a := Lib.hid (set_other (k := 0) (v := .bool true) X1.out hne)
 have HG1a := Lib.hid (HG1.out.setLocal (k := 0) (B := w.heap.size + 1) (by omega) hlt (.bool true))
 go_wp2_with fail
 refine (name_lit HG1a.out.rd H1.out).mono ?_
 rintro e w2 ⟨rfl, hg2⟩
 have HG2 := Lib.hid (HG1a.out.trans hg2)
 have x2 := hg2.block X1a.out (by omega)
 have y2 := hg2.block Y1a.out (by omega)
 have X2 := Lib.hid x2
 have Y2 := Lib.hid y2
 have lx2 := lt_of_block x2
 have ly2 := lt_of_block y2
 clear hg2 x2 y2 
 clear q1_0 k1_0
 have q2_1 : w2.cell? ⟨w.heap.size + 1, 1, none⟩ = some (.string ⟨#[]⟩) := (cell_at Y2.out 1).trans rfl
 have k2_1 : w2.frozen? ⟨w.heap.size + 1, 1, none⟩ = false := free_at Y2.out 1
 have Y2a : Hid ((w2.setCell ⟨w.heap.size + 1, 1, none⟩ (.string (str n))).heap[w.heap.size + 1]? = some (.cells #[.bool true, .string (str n), .slice none 0 0, .string ⟨#[]⟩, .int .i64 0, .slice none 0 0, .slice none 0 0, .slice none 0 0] 40 (0, 0))) := Lib.hid (by have z := setObj_heap (v := .string (str n)) Y2.out (k := 1) (by simp); simpa using z)
 have X2a := Lib.hid (set_other (k := 1) (v := .string (str n)) X2.out hne)
 have HG2a := Lib.hid (HG2.out.setLocal (k := 1) (B := w.heap.size + 1) (by omega) hlt (.string (str n)))
 go_wp2_with fail
 refine (HC2.out _ HG2a.out.rd).mono ?_
 rintro e w3 ⟨iv, rfl, hl3, hg3⟩
 have HG3 := Lib.hid (HG2a.out.trans hg3)
 have x3 := hg3.block X2a.out (by omega)
 have y3 := hg3.block Y2a.out (by omega)
 have X3 := Lib.hid x3
 have Y3 := Lib.hid y3
 have lx3 := lt_of_block x3
 have ly3 := lt_of_block y3
 obtain ⟨A1, n1, c1, rfl, u1, v1⟩ := row_form hl3
 have F1_3 := Lib.hid hl3
 clear hg3 x3 y3 hl3
 clear q2_1 k2_1
 have q3_2 : w3.cell? ⟨w.heap.size + 1, 2, none⟩ = some (.slice none 0 0) := (cell_at Y3.out 2).trans rfl
 have k3_2 : w3.frozen? ⟨w.heap.size + 1, 2, none⟩ = false := free_at Y3.out 2
 have Y3a : Hid ((w3.setCell ⟨w.heap.size + 1, 2, none⟩ (.slice A1 n1 c1)).heap[w.heap.size + 1]? = some (.cells #[.bool true, .string (str n), .slice A1 n1 c1, .string ⟨#[]⟩, .int .i64 0, .slice none 0 0, .slice none 0 0, .slice none 0 0] 40 (0, 0))) := Lib.hid (by have z := setObj_heap (v := .slice A1 n1 c1) Y3.out (k := 2) (by simp); simpa using z)
 have X3a := Lib.hid (set_other (k := 2) (v := .slice A1 n1 c1) X3.out hne)
 have HG3a := Lib.hid (HG3.out.setLocal (k := 2) (B := w.heap.size + 1) (by omega) hlt (.slice A1 n1 c1))
 have F1_3a := Lib.hid (F1_3.out.stay (stay_set (P := fun t => t = 40) (k := 2) Y3.out rfl (.slice A1 n1 c1)) (by decide) (fun a x hx => PrmV.stay (stay_set (P := fun t => t = 40) (k := 2) Y3.out rfl (.slice A1 n1 c1)) a x hx))
 go_wp2_with fail
 refine (HC3.out _ HG3a.out.rd).mono ?_
 rintro e w4 ⟨lv, rfl, hl4, hg4⟩
 have HG4 := Lib.hid (HG3a.out.trans hg4)
 have x4 := hg4.block X3a.out (by omega)
 have y4 := hg4.block Y3a.out (by omega)
 have X4 := Lib.hid x4
 have Y4 := Lib.hid y4
 have lx4 := lt_of_block x4
 have ly4 := lt_of_block y4
 have F1_4 := Lib.hid (F1_3a.out.stay (RdBy.stay HG3a.out.rd hg4) (by decide) (fun a x hx => PrmV.stay (RdBy.stay HG3a.out.rd hg4) a x hx))
 obtain ⟨A2, n2, c2, rfl, u2, v2⟩ := row_form hl4
 have F2_4 := Lib.hid hl4
 clear hg4 x4 y4 hl4
 clear q3_2 k3_2
 have q4_7 : w4.cell? ⟨w.heap.size + 1, 7, none⟩ = some (.slice none 0 0) := (cell_at Y4.out 7).trans rfl
 have k4_7 : w4.frozen? ⟨w.heap.size + 1, 7, none⟩ = false := free_at Y4.out 7
 have Y4a : Hid ((w4.setCell ⟨w.heap.size + 1, 7, none⟩ (.slice A2 n2 c2)).heap[w.heap.size + 1]? = some (.cells #[.bool true, .string (str n), .slice A1 n1 c1, .string ⟨#[]⟩, .int .i64 0, .slice none 0 0, .slice none 0 0, .slice A2 n2 c2] 40 (0, 0))) := Lib.hid (by have z := setObj_heap (v := .slice A2 n2 c2) Y4.out (k := 7) (by simp); simpa using z)
 have X4a := Lib.hid (set_other (k := 7) (v := .slice A2 n2 c2) X4.out hne)
 have HG4a := Lib.hid (HG4.out.setLocal (k := 7) (B := w.heap.size + 1) (by omega) hlt (.slice A2 n2 c2))
 have F1_4a := Lib.hid (F1_4.out.stay (stay_set (P := fun t => t = 40) (k := 7) Y4.out rfl (.slice A2 n2 c2)) (by decide) (fun a x hx => PrmV.stay (stay_set (P := fun t => t = 40) (k := 7) Y4.out rfl (.slice A2 n2 c2)) a x hx))
 have F2_4a := Lib.hid (F2_4.out.stay (stay_set (P := fun t => t = 40) (k := 7) Y4.out rfl (.slice A2 n2 c2)) (by decide) (fun a x hx => ItmV.stay (stay_set (P := fun t => t = 40) (k := 7) Y4.out rfl (.slice A2 n2 c2)) (by decide) (by decide) a x hx))
 have q4_0 : w4.cell? ⟨w.heap.size + 1, 0, none⟩ = some (.bool true) := (cell_at Y4.out 0).trans rfl
 have p0 : w4.cell? ⟨w.heap.size, 0, none⟩ = some (.bool false) := (cell_at X4.out 0).trans rfl
 have g0 : w4.frozen? ⟨w.heap.size, 0, none⟩ = false := free_at X4.out 0
 have q4_1 : w4.cell? ⟨w.heap.size + 1, 1, none⟩ = some (.string (str n)) := (cell_at Y4.out 1).trans rfl
 have p1 : w4.cell? ⟨w.heap.size, 1, none⟩ = some (.string ⟨#[]⟩) := (cell_at X4.out 1).trans rfl
 have g1 : w4.frozen? ⟨w.heap.size, 1, none⟩ = false := free_at X4.out 1
 have q4_2 : w4.cell? ⟨w.heap.size + 1, 2, none⟩ = some (.slice A1 n1 c1) := (cell_at Y4.out 2).trans rfl
 have p2 : w4.cell? ⟨w.heap.size, 2, none⟩ = some (.slice none 0 0) := (cell_at X4.out 2).trans rfl
 have g2 : w4.frozen? ⟨w.heap.size, 2, none⟩ = false := free_at X4.out 2
 have q4_3 : w4.cell? ⟨w.heap.size + 1, 3, none⟩ = some (.string ⟨#[]⟩) := (cell_at Y4.out 3).trans rfl
 have p3 : w4.cell? ⟨w.heap.size, 3, none⟩ = some (.string ⟨#[]⟩) := (cell_at X4.out 3).trans rfl
 have g3 : w4.frozen? ⟨w.heap.size, 3, none⟩ = false := free_at X4.out 3
 have q4_4 : w4.cell? ⟨w.heap.size + 1, 4, none⟩ = some (.int .i64 0) := (cell_at Y4.out 4).trans rfl
 have p4 : w4.cell? ⟨w.heap.size, 4, none⟩ = some (.int .i64 0) := (cell_at X4.out 4).trans rfl
 have g4 : w4.frozen? ⟨w.heap.size, 4, none⟩ = false := free_at X4.out 4
 have q4_5 : w4.cell? ⟨w.heap.size + 1, 5, none⟩ = some (.slice none 0 0) := (cell_at Y4.out 5).trans rfl
 have p5 : w4.cell? ⟨w.heap.size, 5, none⟩ = some (.slice none 0 0) := (cell_at X4.out 5).trans rfl
 have g5 : w4.frozen? ⟨w.heap.size, 5, none⟩ = false := free_at X4.out 5
 have q4_6 : w4.cell? ⟨w.heap.size + 1, 6, none⟩ = some (.slice none 0 0) := (cell_at Y4.out 6).trans rfl
 have p6 : w4.cell? ⟨w.heap.size, 6, none⟩ = some (.slice none 0 0) := (cell_at X4.out 6).trans rfl
 have g6 : w4.frozen? ⟨w.heap.size, 6, none⟩ = false := free_at X4.out 6
 have p7 : w4.cell? ⟨w.heap.size, 7, none⟩ = some (.slice none 0 0) := (cell_at X4.out 7).trans rfl
 have g7 : w4.frozen? ⟨w.heap.size, 7, none⟩ = false := free_at X4.out 7
 go_wp2
 have Z := blk8 X4a.out (.bool true) (.string (str n)) (.slice A1 n1 c1) (.string ⟨#[]⟩) (.int .i64 0) (.slice none 0 0) (.slice none 0 0) (.slice A2 n2 c2)
 have hsz : (w4.setCell ⟨w.heap.size + 1, 7, none⟩ (.slice A2 n2 c2)).heap.size ≤ (((((((((w4.setCell ⟨w.heap.size + 1, 7, none⟩ (.slice A2 n2 c2)).setCell ⟨w.heap.size, 0, none⟩ (.bool true)).setCell ⟨w.heap.size, 1, none⟩ (.string (str n))).setCell ⟨w.heap.size, 2, none⟩ (.slice A1 n1 c1)).setCell ⟨w.heap.size, 3, none⟩ (.string ⟨#[]⟩)).setCell ⟨w.heap.size, 4, none⟩ (.int .i64 0)).setCell ⟨w.heap.size, 5, none⟩ (.slice none 0 0)).setCell ⟨w.heap.size, 6, none⟩ (.slice none 0 0)).setCell ⟨w.heap.size, 7, none⟩ (.slice A2 n2 c2)).heap.size := by simp [World.setCell]
 have hst : Stay (fun t => t = 40) (w4.setCell ⟨w.heap.size + 1, 7, none⟩ (.slice A2 n2 c2)) (((((((((w4.setCell ⟨w.heap.size + 1, 7, none⟩ (.slice A2 n2 c2)).setCell ⟨w.heap.size, 0, none⟩ (.bool true)).setCell ⟨w.heap.size, 1, none⟩ (.string (str n))).setCell ⟨w.heap.size, 2, none⟩ (.slice A1 n1 c1)).setCell ⟨w.heap.size, 3, none⟩ (.string ⟨#[]⟩)).setCell ⟨w.heap.size, 4, none⟩ (.int .i64 0)).setCell ⟨w.heap.size, 5, none⟩ (.slice none 0 0)).setCell ⟨w.heap.size, 6, none⟩ (.slice none 0 0)).setCell ⟨w.heap.size, 7, none⟩ (.slice A2 n2 c2)) := stay_sets X4a.out rfl hsz (fun g hg => by simp only [set_ne hg])
 have z0 := (cell_at Z 0).trans (show _ = some (.bool true) from rfl)
 have z1 := (cell_at Z 1).trans (show _ = some (.string (str n)) from rfl)
 have z2 := (cell_at Z 2).trans (show _ = some (.slice A1 n1 c1) from rfl)
 have z3 := (cell_at Z 3).trans (show _ = some (.string ⟨#[]⟩) from rfl)
 have z4 := (cell_at Z 4).trans (show _ = some (.int .i64 0) from rfl)
 have z5 := (cell_at Z 5).trans (show _ = some (.slice none 0 0) from rfl)
 have z6 := (cell_at Z 6).trans (show _ = some (.slice none 0 0) from rfl)
 have z7 := (cell_at Z 7).trans (show _ = some (.slice A2 n2 c2) from rfl)
 clear p0 g0 p1 g1 p2 g2 p3 g3 p4 g4 p5 g5 p6 g6 p7 g7 q4_7 k4_7 q4_0 q4_1 q4_2 q4_3 q4_4 q4_5 q4_6
 exact bodyPost_ret (v := .agg #[.bool true, .string (str n), .slice A1 n1 c1, .string ⟨#[]⟩, .int .i64 0, .slice none 0 0, .slice none 0 0, .slice A2 n2 c2]) (by simp [results, Tryz.results32, go_sem, z0, z1, z2, z3, z4, z5, z6, z7]) rfl (UntG.of HE.out (F1_4a.out.stay hst (by decide) (fun a x hx => PrmV.stay hst a x hx)) (RowR.nil _ _ _ _) (RowR.nil _ _ _ _) (F2_4a.out.stay hst (by decide) (fun a x hx => ItmV.stay hst (by decide) (by decide) a x hx)) ((((((((HG4a.out.setLocal (by omega) hlt _).setLocal (by omega) hlt _).setLocal (by omega) hlt _).setLocal (by omega) hlt _).setLocal (by omega) hlt _).setLocal (by omega) hlt _).setLocal (by omega) hlt _).setLocal (by omega) hlt _))
end Go.Proofs.YtdebhngpgabglaaGreat.Rp
/- Contracts of the document's reader of programs: streams behind var. Conditions: a reader lies in memory. -/
namespace Go.Proofs.YtdebhngpgabglaaGreat.Rp
open Go.ChangeShapes Go.WideShapes Go.ChangeAt Go.RowKit
open Go.Proofs.YtdebhngpgabglaaGreat.Ex
open Go.Proofs.YtdebhngpgabglaaGreat.Tr (str ret_bool ret_int Bytes Nd)
open Go.Proofs.YtdebhngpgabglaaGreat.Pg
theorem info37_vars : (Tryz.prog.info? 37).map (fun i => (i.zero, i.size, i.bytes)) = some (some (.agg #[.string ⟨#[]⟩, .int .i64 0]), 2, 24) := by kernel_rfl
set_option maxRecDepth 100000 in
set_option maxHeartbeats 8000000 in
theorem vars_any (b : Nat) (r : Rd) (w : World) (hr : RdIn w b r) : Calls Tryz.prog 54 #[.pointer (some ⟨b, 0, none⟩)] w (RowG 37 2 PrmV w b (varQ r)) := by
 have HR := Lib.hid hr
 have hlt := hr.lt
 obtain ⟨i0, hi, hz0, hz1, hz2⟩ := info_parts info37_vars
 obtain ⟨X, hX⟩ : ∃ X, varQ r = X := ⟨_, rfl⟩
 have HE0 : Hid (varF rowMax [] r = X) := Lib.hid hX
 rw [hX]
 clear hX hr
 go_enter Tryz.func54, Tryz.ntmps54
 go_wp2
 go_loopg [3] rowMax (fun g s3 wr => ∃ (rr : Rd) (ov : Value) (acc : List (Prm)) (xs : List (List Value)), ov = s3 ∧ acc.length ≤ 201 ∧ 1 ≤ g ∧ (rr.code = 0 → acc.length ≤ 200 ∧ 202 ≤ acc.length + g) ∧ OList 37 2 PrmV wr w.heap.size ov acc xs ∧ RdBy w wr b rr ∧ varF g acc rr = X)
 case atStart => exact ⟨r, _, [], [], rfl, by simp, by simp [rowMax], fun _ => by simp [rowMax], OList.nil _ _, (RdBy.refl HR.out), HE0.out⟩
 case round =>
  obtain ⟨rr, ov, acc, xs, hov, ha, hg1, hag, hol, hgr, hrow⟩ := hrel
  subst hov
  have HOL := Lib.hid hol
  have HGR := Lib.hid hgr
  have HROW := Lib.hid hrow
  obtain ⟨A0, c0, hv0, hn1, hn2⟩ := own_form hol.own
  subst hv0
  have hs0 := hgr.grown.size
  clear hol hgr hrow
  cases gk with
  | zero => omega
  | succ gk =>
  by_cases hc : rr.code = 0
  rotate_left
  · have HE : Hid (([], rr) = X) := Lib.hid ((varF_dead hc).symm.trans HROW.out)
    have HOK := Lib.hid (ok_lit (B := false) HGR.out.rd (by simpa using hc))
    clear hc
    go_wp2_with fail
    refine HOK.out.mono ?_
    rintro e w1 ⟨rfl, rfl⟩
    go_wp2
    go_ret
    exact RowG.of HE.out (RowR.nil _ _ _ _) HGR.out
  have hag' := hag hc
  have HOK := Lib.hid (ok_lit (B := true) HGR.out.rd (by rw [hc]; rfl))
  clear hag
  obtain ⟨r1, k1⟩ : ∃ x, (roomQ acc.length rr).2 = x := ⟨_, rfl⟩
  have HK1 := Lib.hid (room_lit (n := acc.length) (by omega) HGR.out.rd k1)
  obtain ⟨⟨a, r2⟩, k2⟩ : ∃ x, paramQ r1 = x := ⟨_, rfl⟩
  have HO : Hid (∀ w', RdIn w' b r1 → Calls Tryz.prog 53 #[.pointer (some ⟨b, 0, none⟩)] w' (PrmG w' b (a, r2))) := Lib.hid (fun w' h => by rw [← k2]; exact param_any b r1 w' h)
  obtain ⟨r3, k3⟩ : ∃ x, (needQ sSemi r2).2 = x := ⟨_, rfl⟩
  obtain ⟨B, k4⟩ : ∃ x, atNameB r3 = x := ⟨_, rfl⟩
  have HST : Hid (r3.code = 0 → acc.length < 200) := Lib.hid (fun h => room_code k1 (Classical.byContradiction fun hn => by
   have s1 := stick_param r1 hn
   rw [k2] at s1
   have s3 := stick_need sSemi r2 s1
   rw [k3] at s3
   exact s3 h))
  have HE : Hid ((if B then varF gk (acc ++ [a]) r3 else (acc ++ [a], r3)) = X) := Lib.hid ((varF_step hc k1 k2 k3 k4).symm.trans HROW.out)
  have K3 := Lib.hid k3
  have K4 := Lib.hid k4
  clear k1 k2 k3 k4 hc
  go_wp2_with fail
  refine HOK.out.mono ?_
  rintro e w0 ⟨rfl, rfl⟩
  go_wp2_with fail
  refine HK1.out.mono ?_
  rintro e w1 ⟨rfl, hg1⟩
  have HG1 := Lib.hid hg1
  have hs1 := hg1.grown.size
  have HOL1 := Lib.hid (HOL.out.stay (RdBy.stay HGR.out.rd hg1) (by decide) (fun a x hx => PrmV.stay (RdBy.stay HGR.out.rd hg1) a x hx))
  clear hg1
  go_wp2_with fail
  refine (HO.out w1 HG1.out.rd).mono ?_
  rintro e w2 ⟨rfl, hg2⟩
  have HG2 := Lib.hid hg2
  have hs2 := hg2.grown.size
  have HOL2 := Lib.hid (HOL1.out.stay (RdBy.stay HG1.out.rd hg2) (by decide) (fun a x hx => PrmV.stay (RdBy.stay HG1.out.rd hg2) a x hx))
  clear hg2
  have HXV : Hid (PrmV w2 a [.string (str a.name), .int .i64 a.ty]) := Lib.hid rfl
  go_wp2_with (at_builtin; refine wpList_append_own _ rfl (.tmp 10) (.tmp 13) 35 rfl w.heap.size 37 i0 _ 2 24 Tryz.underlying35 hi hz0 hz1 hz2 rfl (by decide) _ acc.length xs.flatten rfl (HOL2.out.own.alloc _) ⟨w2.heap.size, 0, none⟩ 1 1 [.string (str a.name), .int .i64 a.ty] rfl rfl ?a1 ?b1 ?c1 ?d1 ?e1 ?_)
  case a1 => first | exact (fun j u h => h) | exact news_new _ #[.string (str a.name), .int .i64 a.ty] _ [.string (str a.name), .int .i64 a.ty] rfl rfl
  case b1 => simp [Value.oneCell']
  case c1 => unfold maxLen; omega
  case d1 => omega
  case e1 => simp; omega
  intro v3 w3 hown3 hg3 _
  have HOL3 := Lib.hid (HOL2.out.snoc HXV.out rfl (below_new w2 _) hown3 hg3 (fun st => PrmV.stay st))
  have HGR3 := Lib.hid (RdBy.row ((HGR.out.trans HG1.out).trans HG2.out) hlt (below_new w2 _) hg3 (fun g hg => (HOL2.out.own.lt g hg).1))
  obtain ⟨A3, c3, hv3, y3, y4⟩ := own_form hown3
  subst hv3
  clear hown3 hg3
  go_wp2_with fail
  refine (need_lit (s := sSemi) rfl HGR3.out.rd K3.out).mono ?_
  rintro e w4 ⟨rfl, hg4⟩
  have HGR4 := Lib.hid (HGR3.out.trans hg4)
  have HOL4 := Lib.hid (HOL3.out.stay (RdBy.stay HGR3.out.rd hg4) (by decide) (fun a x hx => PrmV.stay (RdBy.stay HGR3.out.rd hg4) a x hx))
  clear hg4
  go_wp2_with fail
  refine (named_lit HGR4.out.rd K4.out).mono ?_
  rintro e w5 ⟨rfl, hb5⟩
  have HGR5 := Lib.hid (HGR4.out.then_below hb5)
  have HOL5 := Lib.hid (HOL4.out.stay (Stay.below (P := fun t => t = 88) hb5) (by decide) (fun a x hx => PrmV.stay (Stay.below (P := fun t => t = 88) hb5) a x hx))
  clear hb5
  cases B with
  | false =>
   have HE1 : Hid ((acc ++ [a], r3) = X) := Lib.hid HE.out
   go_wp2
   go_ret
   exact RowG.of HE1.out HOL5.out.row HGR5.out
  | true =>
   have HE1 : Hid (varF gk (acc ++ [a]) r3 = X) := Lib.hid HE.out
   go_wp2
   go_roundg gk
   case measure => omega
   case rel => exact ⟨r3, _, acc ++ [a], xs ++ [[.string (str a.name), .int .i64 a.ty]], rfl, by simp; omega, by omega, fun h => by have := HST.out h; simp; omega, HOL5.out, HGR5.out, HE1.out⟩
end Go.Proofs.YtdebhngpgabglaaGreat.Rp
/- Contracts of the document's reader of programs: equations. Conditions: a reader lies in memory. -/
namespace Go.Proofs.YtdebhngpgabglaaGreat.Rp
open Go.ChangeShapes Go.WideShapes Go.ChangeAt Go.RowKit
open Go.Proofs.YtdebhngpgabglaaGreat.Ex
open Go.Proofs.YtdebhngpgabglaaGreat.Tr (str ret_bool ret_int Bytes Nd)
open Go.Proofs.YtdebhngpgabglaaGreat.Pg
theorem info52_eqs : (Tryz.prog.info? 52).map (fun i => (i.zero, i.size, i.bytes)) = some (some (.agg #[.string ⟨#[]⟩, .slice none 0 0]), 2, 40) := by kernel_rfl
set_option maxRecDepth 100000 in
set_option maxHeartbeats 8000000 in
theorem eqs_any (b : Nat) (r : Rd) (w : World) (hr : RdIn w b r) : Calls Tryz.prog 55 #[.pointer (some ⟨b, 0, none⟩)] w (RowG 52 2 EqnV w b (eqsQ r)) := by
 have HR := Lib.hid hr
 have hlt := hr.lt
 obtain ⟨i0, hi, hz0, hz1, hz2⟩ := info_parts info52_eqs
 obtain ⟨⟨l, re⟩, hX⟩ : ∃ X, eqF rowMax [] r = X := ⟨_, rfl⟩
 obtain ⟨rz, hz⟩ : ∃ x, (needQ wTel re).2 = x := ⟨_, rfl⟩
 have hX' : eqsQ r = (l, rz) := by unfold eqsQ; rw [pb hX, pu hz]; rfl
 obtain ⟨X, hXX⟩ : ∃ X, ((l, re) : List Eqn × Rd) = X := ⟨_, rfl⟩
 have HE0 : Hid (eqF rowMax [] r = X) := Lib.hid (hX.trans hXX)
 have HXX := Lib.hid hXX
 have HZ := Lib.hid hz
 rw [hX']
 clear hX hX' hXX hz hr
 go_enter Tryz.func55, Tryz.ntmps55
 go_wp2
 go_loopg [3] rowMax (fun g s3 wr => ∃ (rr : Rd) (ov : Value) (acc : List (Eqn)) (xs : List (List Value)), ov = s3 ∧ acc.length ≤ 201 ∧ 1 ≤ g ∧ (rr.code = 0 → acc.length ≤ 200 ∧ 202 ≤ acc.length + g) ∧ OList 52 2 EqnV wr w.heap.size ov acc xs ∧ RdBy w wr b rr ∧ eqF g acc rr = X)
 case atStart => exact ⟨r, _, [], [], rfl, by simp, by simp [rowMax], fun _ => by simp [rowMax], OList.nil _ _, (RdBy.refl HR.out), HE0.out⟩
 case round =>
  obtain ⟨rr, ov, acc, xs, hov, ha, hg1, hag, hol, hgr, hrow⟩ := hrel
  subst hov
  have HOL := Lib.hid hol
  have HGR := Lib.hid hgr
  have HROW := Lib.hid hrow
  obtain ⟨A0, c0, hv0, hn1, hn2⟩ := own_form hol.own
  subst hv0
  have hs0 := hgr.grown.size
  clear hol hgr hrow
  cases gk with
  | zero => omega
  | succ gk =>
  obtain ⟨B, hB⟩ : ∃ B, atNameB rr = B := ⟨_, rfl⟩
  have HB := Lib.hid (named_lit HGR.out.rd hB)
  cases B with
  | false =>
   have HE : Hid ((acc, rr) = X) := Lib.hid ((eqF_stop hB).symm.trans HROW.out)
   clear hB
   go_wp2_with fail
   refine HB.out.mono ?_
   rintro e w1 ⟨rfl, hb1⟩
   have HG1 := Lib.hid (HGR.out.then_below hb1)
   have HOL1 := Lib.hid (HOL.out.stay (Stay.below (P := fun t => t = 88) hb1) (by decide) (fun a x hx => EqnV.stay (Stay.below (P := fun t => t = 88) hb1) (by decide) a x hx))
   clear hb1
   obtain ⟨rfl, rfl⟩ : l = acc ∧ re = rr := by have z := HXX.out.trans HE.out.symm; injection z with z1 z2; exact ⟨z1, z2⟩
   go_wp2_with fail
   refine (need_lit (s := wTel) rfl HG1.out.rd HZ.out).mono ?_
   rintro e w2 ⟨rfl, hg2⟩
   have HG2 := Lib.hid (HG1.out.trans hg2)
   have HOL2 := Lib.hid (HOL1.out.stay (RdBy.stay HG1.out.rd hg2) (by decide) (fun a x hx => EqnV.stay (RdBy.stay HG1.out.rd hg2) (by decide) a x hx))
   clear hg2
   go_wp2
   go_ret
   exact ⟨_, rfl, HOL2.out.row, HG2.out⟩
  | true =>
  have hin : rr.next < rr.l.length := by unfold atNameB at hB; simp at hB; exact hB.1
  have hc : rr.code = 0 := HGR.out.rd.alive hin
  have hag' := hag hc
  obtain ⟨r1, k1⟩ : ∃ x, (roomQ acc.length rr).2 = x := ⟨_, rfl⟩
  obtain ⟨⟨n, r2⟩, k2⟩ : ∃ x, nameP r1 = x := ⟨_, rfl⟩
  obtain ⟨r3, k3⟩ : ∃ x, (needQ sEq r2).2 = x := ⟨_, rfl⟩
  obtain ⟨⟨E, r4⟩, k4⟩ : ∃ x, exprQ r3 = x := ⟨_, rfl⟩
  obtain ⟨r5, k5⟩ : ∃ x, (needQ sSemi r4).2 = x := ⟨_, rfl⟩
  have HO : Hid (∀ w', RdIn w' b r3 → Calls Tryz.prog 74 #[.pointer (some ⟨b, 0, none⟩)] w' (ExpG w' b (E, r4))) := Lib.hid (fun w' h => by rw [← k4]; exact expr_any b r3 w' h)
  have HE : Hid (eqF gk (acc ++ [⟨n, E⟩]) r5 = X) := Lib.hid ((eqF_step hB k1 k2 k3 k4 k5).symm.trans HROW.out)
  have HST : Hid (r5.code = 0 → acc.length < 200) := Lib.hid (fun h => room_code k1 (Classical.byContradiction fun hn => by
   have s1 := stick_name r1 hn
   rw [k2] at s1
   have s2 := stick_need sEq r2 s1
   rw [k3] at s2
   have s3 := stick_expr r3 s2
   rw [k4] at s3
   have s4 := stick_need sSemi r4 s3
   rw [k5] at s4
   exact s4 h))
  have K1 := Lib.hid k1
  have K2 := Lib.hid k2
  have K3 := Lib.hid k3
  have K5 := Lib.hid k5
  clear k1 k2 k3 k4 k5 hc hB hag hin
  go_wp2_with fail
  refine HB.out.mono ?_
  rintro e w0 ⟨rfl, hb0⟩
  have HG0 := Lib.hid (HGR.out.then_below hb0)
  have hsb := hb0.size
  have HOL0 := Lib.hid (HOL.out.stay (Stay.below (P := fun t => t = 88) hb0) (by decide) (fun a x hx => EqnV.stay (Stay.below (P := fun t => t = 88) hb0) (by decide) a x hx))
  clear hb0
  go_wp2_with fail
  refine (room_lit (n := acc.length) (by omega) HG0.out.rd K1.out).mono ?_
  rintro e w1 ⟨rfl, hg1⟩
  have HG1 := Lib.hid (HG0.out.trans hg1)
  have hs1 := hg1.grown.size
  have HOL1 := Lib.hid (HOL0.out.stay (RdBy.stay HG0.out.rd hg1) (by decide) (fun a x hx => EqnV.stay (RdBy.stay HG0.out.rd hg1) (by decide) a x hx))
  clear hg1
  go_wp2_with fail
  refine (name_lit HG1.out.rd K2.out).mono ?_
  rintro e w2 ⟨rfl, hg2⟩
  have HG2 := Lib.hid (HG1.out.trans hg2)
  have hs2 := hg2.grown.size
  have HOL2 := Lib.hid (HOL1.out.stay (RdBy.stay HG1.out.rd hg2) (by decide) (fun a x hx => EqnV.stay (RdBy.stay HG1.out.rd hg2) (by decide) a x hx))
  clear hg2
  have HG2a := Lib.hid (HG2.out.then_below (below_new w2 (.cells #[.string (str n), .slice none 0 0] 52)))
  have hQ2 := heap_alloc_new w2 (.cells #[.string (str n), .slice none 0 0] 52)
  have HQ2 := Lib.hid hQ2
  have HOL2a := Lib.hid (HOL2.out.stay (Stay.below (P := fun t => t = 88) (below_new w2 (.cells #[.string (str n), .slice none 0 0] 52))) (by decide) (fun a x hx => EqnV.stay (Stay.below (P := fun t => t = 88) (below_new w2 (.cells #[.string (str n), .slice none 0 0] 52))) (by decide) a x hx))
  clear hQ2
  have hbb : b < w2.heap.size := HG2.out.rd.lt
  go_wp2_with fail
  refine (need_lit (s := sEq) rfl HG2a.out.rd K3.out).mono ?_
  rintro e w3 ⟨rfl, hg3⟩
  have HG3 := Lib.hid (HG2a.out.trans hg3)
  have HOL3 := Lib.hid (HOL2a.out.stay (RdBy.stay HG2a.out.rd hg3) (by decide) (fun a x hx => EqnV.stay (RdBy.stay HG2a.out.rd hg3) (by decide) a x hx))
  have HQ3 := Lib.hid (hg3.block HQ2.out (by omega))
  clear hg3
  go_wp2_with fail
  refine (HO.out w3 HG3.out.rd).mono ?_
  rintro e w4 ⟨ev, rfl, hp4, hg4⟩
  have HG4 := Lib.hid (HG3.out.trans hg4)
  have HOL4 := Lib.hid (HOL3.out.stay (RdBy.stay HG3.out.rd hg4) (by decide) (fun a x hx => EqnV.stay (RdBy.stay HG3.out.rd hg4) (by decide) a x hx))
  have HQ4 := Lib.hid (hg4.block HQ3.out (by omega))
  obtain ⟨A2, n2, c2, rfl, y1, y2⟩ := pt_form hp4
  have HP4 := Lib.hid hp4
  clear hg4 hp4
  have q1 : w4.cell? ⟨w2.heap.size, 1, none⟩ = some (.slice none 0 0) := (cell_at HQ4.out 1).trans rfl
  have f1 : w4.frozen? ⟨w2.heap.size, 1, none⟩ = false := free_at HQ4.out 1
  have lq4 := lt_of_block HQ4.out
  have HQ4a : Hid ((w4.setCell ⟨w2.heap.size, 1, none⟩ (.slice A2 n2 c2)).heap[w2.heap.size]? = some (.cells #[.string (str n), .slice A2 n2 c2] 52 (0, 0))) := Lib.hid (by have z := setObj_heap (v := .slice A2 n2 c2) HQ4.out (k := 1) (by simp); simpa using z)
  have HG4a := Lib.hid (HG4.out.setLocal (k := 1) (B := w2.heap.size) (by omega) hlt (.slice A2 n2 c2))
  have hst4 : ∀ g, g ≠ w2.heap.size → (w4.setCell ⟨w2.heap.size, 1, none⟩ (.slice A2 n2 c2)).heap[g]? = w4.heap[g]? := fun g hg => set_ne hg
  have HOL4a := Lib.hid (HOL4.out.keep (w' := w4.setCell ⟨w2.heap.size, 1, none⟩ (.slice A2 n2 c2)) (fun g hg => hst4 g (by
   intro e
   subst e
   have z := HOL2.out.own.lt _ hg
   omega)) (fun a x hx => EqnV.stay (P := fun t => t = 52) (stay_set (P := fun t => t = 52) HQ4.out rfl _) (by decide) a x hx))
  have HP4a := Lib.hid ((stay_set (P := fun t => t = 52) (k := 1) HQ4.out rfl (.slice A2 n2 c2)).pt (by decide) HP4.out)
  clear hst4
  go_wp2_with fail
  refine (need_lit (s := sSemi) rfl HG4a.out.rd K5.out).mono ?_
  rintro e w5 ⟨rfl, hg5⟩
  have HG5 := Lib.hid (HG4a.out.trans hg5)
  have HOL5 := Lib.hid (HOL4a.out.stay (RdBy.stay HG4a.out.rd hg5) (by decide) (fun a x hx => EqnV.stay (RdBy.stay HG4a.out.rd hg5) (by decide) a x hx))
  have HQ5 := Lib.hid (hg5.block HQ4a.out (by omega))
  have HP5 := Lib.hid ((RdBy.stay HG4a.out.rd hg5).pt (by decide) HP4a.out)
  clear hg5 q1 f1
  have HXV : Hid (EqnV w5 ⟨n, E⟩ [.string (str n), .slice A2 n2 c2]) := Lib.hid ⟨_, rfl, HP5.out⟩
  have q50 : w5.cell? ⟨w2.heap.size, 0, none⟩ = some (.string (str n)) := (cell_at HQ5.out 0).trans rfl
  have q51 : w5.cell? ⟨w2.heap.size, 1, none⟩ = some (.slice A2 n2 c2) := (cell_at HQ5.out 1).trans rfl
  have lq5 := lt_of_block HQ5.out
  go_wp2_with (at_builtin; refine wpList_append_own _ rfl (.tmp 21) (.tmp 23) 29 rfl w.heap.size 52 i0 _ 2 40 Tryz.underlying29 hi hz0 hz1 hz2 rfl (by decide) _ acc.length xs.flatten rfl (HOL5.out.own.alloc _) ⟨w5.heap.size, 0, none⟩ 1 1 [.string (str n), .slice A2 n2 c2] rfl rfl ?a1 ?b1 ?c1 ?d1 ?e1 ?_)
  case a1 => first | exact (fun j u h => h) | exact news_new _ #[.string (str n), .slice A2 n2 c2] _ [.string (str n), .slice A2 n2 c2] rfl rfl
  case b1 => simp [Value.oneCell']
  case c1 => unfold maxLen; omega
  case d1 => omega
  case e1 => simp; omega
  intro v3 w3 hown3 hg3 _
  have HOL3 := Lib.hid (HOL5.out.snoc HXV.out rfl (below_new w5 _) hown3 hg3 (fun st => EqnV.stay st (by decide)))
  have HGR3 := Lib.hid (RdBy.row (HG5.out) hlt (below_new w5 _) hg3 (fun g hg => (HOL5.out.own.lt g hg).1))
  obtain ⟨A3, c3, hv3, y3, y4⟩ := own_form hown3
  subst hv3
  clear hown3 hg3
  go_wp2
  go_roundg gk
  case measure => omega
  case rel => exact ⟨r5, _, acc ++ [⟨n, E⟩], xs ++ [[.string (str n), .slice A2 n2 c2]], rfl, by simp; omega, by omega, fun h => by have := HST.out h; simp; omega, HOL3.out, HGR3.out, HE.out⟩
end Go.Proofs.YtdebhngpgabglaaGreat.Rp
