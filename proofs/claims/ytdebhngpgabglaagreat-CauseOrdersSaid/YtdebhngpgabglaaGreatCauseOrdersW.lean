/- CauseOrders: the walk. Conditions: none. -/
import Derived.Test.YtdebhngpgabglaaGreatCdE
import Derived.Test.YtdebhngpgabglaaGreatRa18
import Derived.Deep.RegionHeld3
set_option linter.unusedVariables false
set_option linter.unusedSimpArgs false
namespace Go.Proofs.YtdebhngpgabglaaGreat.causeOrders
open Go.ChangeShapes Go.WideShapes Go.ChangeAt Go.RowKit Go.Proofs.YtdebhngpgabglaaGreat.Tr
open Go.Proofs.YtdebhngpgabglaaGreat.Ca
open Go.Proofs.YtdebhngpgabglaaGreat.Pg (Eqn)
def unC (v : Value) : List Value := [.bool false, .string ⟨#[]⟩, .slice none 0 0, .string ⟨#[]⟩, .int .i64 0, .slice none 0 0, v, .slice none 0 0]
theorem uns_two (w : World) (v1 v2 : Value) (l m : List Eqn) (h1 : EqsAt w v1 l) (h2 : EqsAt w v2 m) (k1 : l.length ≤ 4000) (k2 : m.length ≤ 4000) (w1 : World)
 (hw : w.alloc (.cells #[.bool false, .string ⟨#[]⟩, .slice none 0 0, .string ⟨#[]⟩, .int .i64 0, .slice none 0 0, v1, .slice none 0 0, .bool false, .string ⟨#[]⟩, .slice none 0 0, .string ⟨#[]⟩, .int .i64 0, .slice none 0 0, v2, .slice none 0 0] 40) = w1) :
 UnsAt w1 (.slice (some ⟨w.heap.size, 0, none⟩) 2 2) [l, m] := by
 have hb : Below w.heap.size w w1 := hw ▸ below_new _ _
 have hn : w1.heap[w.heap.size]? = some (.cells #[.bool false, .string ⟨#[]⟩, .slice none 0 0, .string ⟨#[]⟩, .int .i64 0, .slice none 0 0, v1, .slice none 0 0, .bool false, .string ⟨#[]⟩, .slice none 0 0, .string ⟨#[]⟩, .int .i64 0, .slice none 0 0, v2, .slice none 0 0] 40 (0, 0)) := hw ▸ heap_alloc_new _ _
 refine ⟨_, 2, rfl, by simp, by unfold maxLen; omega, fun i u hi => ?_⟩
 match i, hi with
 | 0, hi =>
  cases hi
  refine ⟨_, 0, false, ⟨#[]⟩, .slice none 0 0, ⟨#[]⟩, 0, .slice none 0 0, v1, .slice none 0 0, rfl, lt_of_block hn, ?_, ?_, ?_, ?_, ?_, ?_, ?_, ?_, ⟨none, 0, 0, rfl⟩, ⟨none, 0, 0, rfl⟩, ⟨none, 0, 0, rfl⟩, h1.below hb, k1⟩ <;> (unfold World.cell?; rw [hn]; rfl)
 | 1, hi =>
  cases hi
  refine ⟨_, 0, false, ⟨#[]⟩, .slice none 0 0, ⟨#[]⟩, 0, .slice none 0 0, v2, .slice none 0 0, rfl, lt_of_block hn, ?_, ?_, ?_, ?_, ?_, ?_, ?_, ?_, ⟨none, 0, 0, rfl⟩, ⟨none, 0, 0, rfl⟩, ⟨none, 0, 0, rfl⟩, h2.below hb, k2⟩ <;> (unfold World.cell?; rw [hn]; rfl)
 | i + 2, hi => simp at hi
def ordE (o : Option (List Nat)) : Int := if o = none then 12 else 0
def ordL (o : Option (List Nat)) : List Int := natI (o.getD [])
theorem ord_form {w w' : World} {o : Option (List Nat)} {e : Ending} (h : OrdPost w o e w') : ∃ v, e = .returned (.tuple #[v, .int .i64 (ordE o)]) ∧ Ints w' v (ordL o) ∧ Below w.heap.size w w' := by
 obtain ⟨hb, h⟩ := h
 cases o with
 | none => exact ⟨_, h, ⟨none, 0, rfl, by simp [ordL, natI], by unfold maxLen; omega, fun i x hi => by simp [ordL, natI] at hi⟩, hb⟩
 | some o =>
  obtain ⟨v, e, ho⟩ := h
  have hl : (natI o).length = o.length := by unfold natI; simp
  exact ⟨v, e, Ints.of_own (by rw [← hl] at ho; exact ho), hb⟩
attribute [local go_sem ↓] Lx.eql_fault Lx.guard_fault
set_option maxRecDepth 100000 in
set_option maxHeartbeats 16000000 in
theorem walk (w : World) (va : Value) (l : List Eqn) (ha : Op.RowN 2 Op.EqnN w l va) (vb : Value) (m : List Eqn) (hb : Op.RowN 2 Op.EqnN w m vb) : Calls Tryz.prog 4 #[va, vb] w fun r w' => r = .returned (.bool true) ∧ Below w.heap.size w w' := by
 have HA := Lib.hid (EqsAt.of_rowN ha)
 have HB := Lib.hid (EqsAt.of_rowN hb)
 obtain ⟨A, n1, c1, rfl⟩ : IsS va := by obtain ⟨A, c, rfl, -⟩ := ha; exact ⟨_, _, _, rfl⟩
 obtain ⟨B, n2, c2, rfl⟩ : IsS vb := by obtain ⟨A, c, rfl, -⟩ := hb; exact ⟨_, _, _, rfl⟩
 clear ha hb
 go_enter Tryz.func4, Tryz.ntmps4
 go_wp2_with fail
 refine (few_any _ l w HA.out).mono ?_
 rintro r wf ⟨b1, rfl, hl40, hwf⟩
 subst hwf
 cases b1 with
 | false =>
  go_wp2_with fail
  refine (live_any _).mono ?_
  rintro r w9 ⟨rfl, hb9⟩
  go_wp2
  go_ret
  exact ⟨rfl, hb9⟩
 | true =>
  have hl40 := hl40 rfl
  go_wp2_with fail
  refine (few_any _ m w HB.out).mono ?_
  rintro r wf ⟨b2, rfl, hm40, hwf⟩
  subst hwf
  cases b2 with
  | false =>
   go_wp2_with fail
   refine (live_any _).mono ?_
   rintro r w9 ⟨rfl, hb9⟩
   go_wp2
   go_ret
   exact ⟨rfl, hb9⟩
  | true =>
   have hm40 := hm40 rfl
   have HL := Lib.hid (show l.length ≤ 4000 by omega)
   have HM := Lib.hid (show m.length ≤ 4000 by omega)
   clear hl40 hm40
   obtain ⟨Q, hQ⟩ : ∃ z, orderM (qsOf l) = z := ⟨_, rfl⟩
   have HO := Lib.hid (order_any _ l w HA.out HL.out)
   rw [hQ] at HO
   go_wp2_with fail
   refine HO.out.mono ?_
   rintro r w1 ho1
   obtain ⟨x1, rfl, hi1, hb1⟩ := ord_form ho1
   obtain ⟨eo, heo⟩ : ∃ z, ordE Q = z := ⟨_, rfl⟩
   rw [heo]
   have HI1 := Lib.hid hi1
   have HB1 := Lib.hid hb1
   have HR := Lib.hid (rorder_any _ l w1 (HA.out.below hb1) HL.out)
   rw [hQ] at HR
   clear ho1 hi1 hb1 HO
   go_wp2_with fail
   refine HR.out.mono ?_
   rintro r w2 ho2
   obtain ⟨x2, rfl, hi2, hb2⟩ := ord_form ho2
   rw [heo]
   have HB2 := Lib.hid (HB1.out.trans (hb2.mono HB1.out.size))
   obtain ⟨w3, hw3⟩ : ∃ W, w2.alloc (.cells #[.bool false, .string ⟨#[]⟩, .slice none 0 0, .string ⟨#[]⟩, .int .i64 0, .slice none 0 0, .slice A n1 c1, .slice none 0 0, .bool false, .string ⟨#[]⟩, .slice none 0 0, .string ⟨#[]⟩, .int .i64 0, .slice none 0 0, .slice B n2 c2, .slice none 0 0] 40) = W := ⟨_, rfl⟩
   have hb3 : Below w2.heap.size w2 w3 := hw3 ▸ below_new _ _
   have HU3 := Lib.hid (uns_two w2 _ _ l m (HA.out.below HB2.out) (HB.out.below HB2.out) HL.out HM.out w3 hw3)
   obtain ⟨w4, hw4⟩ : ∃ W, w3.alloc (.cells #[.slice (some ⟨w2.heap.size, 0, none⟩) 2 2, .string ⟨#[]⟩, .string ⟨#[]⟩] 43) = W := ⟨_, rfl⟩
   have hb4 : Below w3.heap.size w3 w4 := hw4 ▸ below_new _ _
   have HI1' := Lib.hid (((HI1.out.below hb2 (Nat.le_refl _)).below hb3 (Nat.le_refl _)).below hb4 (Nat.le_refl _))
   have HI2' := Lib.hid ((hi2.below hb3 (Nat.le_refl _)).below hb4 (Nat.le_refl _))
   have HB4 := Lib.hid ((HB2.out.trans (hb3.mono HB2.out.size)).trans (hb4.mono (HB2.out.trans (hb3.mono HB2.out.size)).size))
   have HU4 := Lib.hid (HU3.out.below hb4)
   have hX : w4.heap[w3.heap.size]? = some (.cells #[.slice (some ⟨w2.heap.size, 0, none⟩) 2 2, .string ⟨#[]⟩, .string ⟨#[]⟩] 43 (0, 0)) := hw4 ▸ heap_alloc_new _ _
   have HX := Lib.hid hX
   have hs3 : w3.heap.size = w2.heap.size + 1 := by rw [← hw3]; simp
   have HW3 := Lib.hid hw3
   have HW4 := Lib.hid hw4
   obtain ⟨R, hR⟩ : ∃ z, checkM 0 [l, m] = z := ⟨_, rfl⟩
   obtain ⟨r1, r2⟩ := R
   have HRR := Lib.hid hR
   have hff : Lx.faultB r1 r1 r2 r2 = true := by unfold Lx.faultB; simp
   have HSC : Hid (∀ W, Below w4.heap.size w4 W → W.cell? ⟨w2.heap.size + 1, 0, none⟩ = some (.slice (some ⟨w2.heap.size, 0, none⟩) 2 2) ∧ W.cell? ⟨w2.heap.size + 1, 1, none⟩ = some (.string ⟨#[]⟩) ∧ W.cell? ⟨w2.heap.size + 1, 2, none⟩ = some (.string ⟨#[]⟩)) := Lib.hid (fun W hW => by
    have h1 := (hW.block _ (lt_of_block HX.out)).trans HX.out
    rw [hs3] at h1
    refine ⟨?_, ?_, ?_⟩ <;> simp [World.cell?, h1])
   have HIN : Hid (∀ W, Below w4.heap.size w4 W → Calls Tryz.prog 12 #[x1, x2] W (fun e w' => e = .returned (.bool true) ∧ (w'.cell? ⟨w2.heap.size + 1, 0, none⟩ = some (.slice (some ⟨w2.heap.size, 0, none⟩) 2 2) ∧ w'.cell? ⟨w2.heap.size + 1, 1, none⟩ = some (.string ⟨#[]⟩) ∧ w'.cell? ⟨w2.heap.size + 1, 2, none⟩ = some (.string ⟨#[]⟩)) ∧ Below w4.heap.size w4 w')) := Lib.hid (fun W hW => by
    refine (ints_any x1 x2 _ _ W (HI1'.out.below hW (Nat.le_refl _)) (HI2'.out.below hW (Nat.le_refl _))).mono ?_
    rintro e w' ⟨rfl, n, rfl⟩
    have hb := Tr.below_drewN hW n
    exact ⟨by rw [decide_eq_true rfl], HSC.out _ hb, hb⟩)
   have HK1 : Hid (∀ W, Below w4.heap.size w4 W → Calls Tryz.prog 13 #[.agg #[.slice (some ⟨w2.heap.size, 0, none⟩) 2 2, .string ⟨#[]⟩, .string ⟨#[]⟩]] W (fun e w' => e = .returned (.agg #[.int .i64 r1, .int .i64 r2]) ∧ (w'.cell? ⟨w2.heap.size + 1, 0, none⟩ = some (.slice (some ⟨w2.heap.size, 0, none⟩) 2 2) ∧ w'.cell? ⟨w2.heap.size + 1, 1, none⟩ = some (.string ⟨#[]⟩) ∧ w'.cell? ⟨w2.heap.size + 1, 2, none⟩ = some (.string ⟨#[]⟩)) ∧ Below w4.heap.size w4 w')) := Lib.hid (fun W hW => by
    have h1 := check_any [l, m] _ ⟨#[]⟩ ⟨#[]⟩ W (HU4.out.below hW)
    rw [HRR.out] at h1
    refine h1.mono ?_
    rintro e w' ⟨rfl, hb⟩
    have hb2 := hW.trans (hb.mono hW.size)
    exact ⟨rfl, HSC.out _ hb2, hb2⟩)
   have HK2 : Hid (∀ W, Below w4.heap.size w4 W → Calls Tryz.prog 14 #[.agg #[.slice (some ⟨w2.heap.size, 0, none⟩) 2 2, .string ⟨#[]⟩, .string ⟨#[]⟩]] W (fun e w' => e = .returned (.agg #[.int .i64 r1, .int .i64 r2]) ∧ (w'.cell? ⟨w2.heap.size + 1, 0, none⟩ = some (.slice (some ⟨w2.heap.size, 0, none⟩) 2 2) ∧ w'.cell? ⟨w2.heap.size + 1, 1, none⟩ = some (.string ⟨#[]⟩) ∧ w'.cell? ⟨w2.heap.size + 1, 2, none⟩ = some (.string ⟨#[]⟩)) ∧ Below w4.heap.size w4 w')) := Lib.hid (fun W hW => by
    have h1 := rcheck_any [l, m] _ ⟨#[]⟩ ⟨#[]⟩ W (HU4.out.below hW)
    rw [HRR.out] at h1
    refine h1.mono ?_
    rintro e w' ⟨rfl, hb⟩
    have hb2 := hW.trans (hb.mono hW.size)
    exact ⟨rfl, HSC.out _ hb2, hb2⟩)
   have HLV : Hid (∀ W, Below w4.heap.size w4 W → Calls Tryz.prog 5 #[] W (fun e w' => e = .returned (.bool true) ∧ (w'.cell? ⟨w2.heap.size + 1, 0, none⟩ = some (.slice (some ⟨w2.heap.size, 0, none⟩) 2 2) ∧ w'.cell? ⟨w2.heap.size + 1, 1, none⟩ = some (.string ⟨#[]⟩) ∧ w'.cell? ⟨w2.heap.size + 1, 2, none⟩ = some (.string ⟨#[]⟩)) ∧ Below w4.heap.size w4 w')) := Lib.hid (fun W hW => by
    refine (live_any W).mono ?_
    rintro e w' ⟨rfl, hb⟩
    have hb2 := hW.trans (hb.mono hW.size)
    exact ⟨rfl, HSC.out _ hb2, hb2⟩)
   have HBZ : Hid (Below w4.heap.size w4 w4) := Lib.hid (Below.refl _ _)
   obtain ⟨z0, z1, z2⟩ := HSC.out w4 HBZ.out
   clear hi2 hb2 hb3 hb4 hX hw3 hw4 HR ho2 hR heo hQ HI1 HU3
   go_wp2_with fail
   rw [HW3.out, HW4.out]
   go_region_held3 (fun W => W.cell? ⟨w2.heap.size + 1, 0, none⟩ = some (.slice (some ⟨w2.heap.size, 0, none⟩) 2 2) ∧ W.cell? ⟨w2.heap.size + 1, 1, none⟩ = some (.string ⟨#[]⟩) ∧ W.cell? ⟨w2.heap.size + 1, 2, none⟩ = some (.string ⟨#[]⟩))
    (first | go_keep | exact ⟨z0, z1, z2⟩ | exact p5 | exact p6 | exact p7 | exact p8)
    (first
     | (go_at_call 5; with_reducible refine (HLV.out _ (by first | exact HB7.out | exact HB7.out.drew)).mono ?_; rintro r w8 ⟨rfl, p8, hb8⟩; have HB8 := Lib.hid hb8; clear hb8)
     | (go_at_call 14; with_reducible refine (HK2.out _ (by first | exact HB6.out | exact HB6.out.drew)).mono ?_; rintro r w7 ⟨rfl, p7, hb7⟩; have HB7 := Lib.hid hb7; clear hb7)
     | (go_at_call 13; with_reducible refine (HK1.out _ (by first | exact HB5.out | exact HB5.out.drew)).mono ?_; rintro r w6 ⟨rfl, p6, hb6⟩; have HB6 := Lib.hid hb6; clear hb6)
     | (go_at_call 12; with_reducible refine (HIN.out _ (by first | exact HBZ.out | exact HBZ.out.drew)).mono ?_; rintro r w5 ⟨rfl, p5, hb5⟩; have HB5 := Lib.hid hb5; clear hb5))
   all_goals
    go_wp2
    go_ret
    exact ⟨rfl, HB4.out.trans (HB8.out.mono HB4.out.size)⟩
end Go.Proofs.YtdebhngpgabglaaGreat.causeOrders
