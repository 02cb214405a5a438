/- TypesCheck: the walk. Conditions: none. -/
import Derived.Test.YtobkcdkffcenbaaGreatDoorSa16
import Derived.Test.YtobkcdkffcenbaaGreatDoorSa19
import Derived.Deep.RegionHeld3
set_option linter.unusedVariables false
set_option linter.unusedSimpArgs false
namespace Go.Proofs.YtobkcdkffcenbaaGreatDoor.typesCheck
open Go.ChangeShapes Go.WideShapes Go.ChangeAt Go.RowKit Go.Proofs.YtobkcdkffcenbaaGreatDoor.Tr
open Go.Proofs.YtobkcdkffcenbaaGreatDoor.Pg (Prm Unt)
open Go.Proofs.YtobkcdkffcenbaaGreatDoor.Ty
attribute [local go_sem ↓] Lx.eql_fault Lx.guard_fault
set_option maxRecDepth 100000 in
set_option maxHeartbeats 8000000 in
theorem walk (w : World) (hT : ShAt w) (uv : Value) (us : List Unt) (m b : Bytes) (hu : Op.RowN 8 Op.UntN w us uv) :
    Calls Tryz.prog 3 #[.agg #[uv, .string (str m), .string (str b)]] w fun r w' => r = .returned (.bool true) ∧ Below w.heap.size w w' := by
  obtain ⟨A, c, rfl, h1, h2, -⟩ := Op.rown_form hu
  unfold maxLen at h2
  obtain ⟨w1, hw1⟩ : ∃ W, w.alloc (.cells #[.slice A us.length c, .string (str m), .string (str b)] 24) = W := ⟨_, rfl⟩
  have hb1 : Below w.heap.size w w1 := hw1 ▸ below_new w _
  have hX : w1.heap[w.heap.size]? = some (.cells #[.slice A us.length c, .string (str m), .string (str b)] 24 (0, 0)) := hw1 ▸ heap_alloc_new w _
  have HB1 := Lib.hid hb1
  have lx := lt_of_block hX
  have HUO : Hid (Op.RowN 8 Op.UntN w1 us (.slice A us.length c)) := Lib.hid (hu.below hb1 (Op.UntN.below hb1))
  have hu' := Ow.row_of (S := Ow.UntN) hu (fun a x h => Ow.unt_of a x h)
  have HU : Hid (∀ W, Below w1.heap.size w1 W → Ow.RowN 8 Ow.UntN W us (.slice A us.length c)) := Lib.hid (fun W h => hu'.below (hb1.trans (h.mono hb1.size)) (Ow.UntN.below (hb1.trans (h.mono hb1.size))))
  have HT : Hid (∀ W, Below w1.heap.size w1 W → ShAt W) := Lib.hid (fun W h => hT.below (hb1.trans (h.mono hb1.size)) hT.1)
  have HX : Hid (∀ W, Below w1.heap.size w1 W → W.cell? ⟨w.heap.size, 0, none⟩ = some (.slice A us.length c) ∧ W.cell? ⟨w.heap.size, 1, none⟩ = some (.string (str m)) ∧ W.cell? ⟨w.heap.size, 2, none⟩ = some (.string (str b)) ∧ w.heap.size < W.heap.size) :=
    Lib.hid (fun W h => ⟨(h.cell (p := ⟨w.heap.size, 0, none⟩) lx).trans ((cells_at hX 0).trans rfl), (h.cell (p := ⟨w.heap.size, 1, none⟩) lx).trans ((cells_at hX 1).trans rfl), (h.cell (p := ⟨w.heap.size, 2, none⟩) lx).trans ((cells_at hX 2).trans rfl), by have := h.size; omega⟩)
  have hs1 := hb1.size
  have HW1 := Lib.hid hw1
  obtain ⟨⟨p, q⟩, hpq⟩ : ∃ x, checkM 0 noN us = x := ⟨_, rfl⟩
  have HPQ := Lib.hid hpq
  have hff : Lx.faultB p p q q = true := by unfold Lx.faultB; simp
  clear hpq hb1 hX hu hu' hw1 hT
  go_enter Tryz.func3, Tryz.ntmps3
  go_wp2_with fail
  rw [HW1.out]
  refine (In.small_any us _ m b w1 HUO.out).mono ?_
  rintro r w2 ⟨B, rfl, hb2, hsm⟩
  have HB2 := Lib.hid hb2
  have HSM := Lib.hid hsm
  obtain ⟨p0, p1, p2, lp⟩ := HX.out w2 hb2
  have hs2 := hb2.size
  have HL : Hid (∀ W, Below w1.heap.size w1 W → Calls Tryz.prog 6 #[] W (fun e W' => e = .returned (.bool true) ∧ Below w1.heap.size w1 W')) := Lib.hid (fun W h => (live_any W (HT.out W h)).mono (fun e W' ⟨h2, h3⟩ => ⟨h2, h.trans (h3.mono h.size)⟩))
  clear hb2 hsm
  cases B with
  | false =>
    go_wp2_with fail
    refine (HL.out _ HB2.out).mono ?_
    rintro r w9 ⟨rfl, hb9⟩
    go_wp2
    go_ret
    exact ⟨rfl, HB1.out.trans (hb9.mono hs1)⟩
  | true =>
    have HC : Hid (∀ W, Below w1.heap.size w1 W → Calls Tryz.prog 7 #[.agg #[.slice A us.length c, .string (str m), .string (str b)]] W (fun e W' => e = .returned (.agg #[.int .i64 p, .int .i64 q]) ∧ Below w1.heap.size w1 W')) := Lib.hid (fun W h => by
      have h1 := check_any us _ m b W (HT.out W h) (HU.out W h) (fun u hm => by have := HSM.out rfl u hm; exact ⟨by have := this.2.2.2.1; omega, by have := this.2.2.2.2; omega, by have := this.2.1; omega⟩)
      rw [HPQ.out] at h1
      exact h1.mono (fun e W' ⟨h2, h3⟩ => ⟨h2, h.trans (h3.mono h.size)⟩))
    have HD : Hid (∀ W, Below w1.heap.size w1 W → Calls Tryz.prog 8 #[.agg #[.slice A us.length c, .string (str m), .string (str b)]] W (fun e W' => e = .returned (.agg #[.int .i64 p, .int .i64 q]) ∧ Below w1.heap.size w1 W')) := Lib.hid (fun W h => by
      have h1 := rcheck_any us _ m b W (HU.out W h) (fun u hm => by have := HSM.out rfl u hm; exact ⟨by have := this.2.2.2.1; omega, by have := this.2.2.2.2; omega, by have := this.2.1; omega⟩)
      rw [HPQ.out] at h1
      exact h1.mono (fun e W' ⟨h2, h3⟩ => ⟨h2, h.trans (h3.mono h.size)⟩))
    go_wp2_with fail
    go_region_held3 (fun W => W.cell? ⟨w.heap.size, 0, none⟩ = some (.slice A us.length c) ∧ W.cell? ⟨w.heap.size, 1, none⟩ = some (.string (str m)) ∧ W.cell? ⟨w.heap.size, 2, none⟩ = some (.string (str b)))
      (first | go_keep | exact ⟨p0, p1, p2⟩ | exact ⟨p3, p4, p5⟩ | exact ⟨p6, p7, p8⟩ | exact ⟨(HX.out _ HB9.out).1, (HX.out _ HB9.out).2.1, (HX.out _ HB9.out).2.2.1⟩)
      (first
        | (go_at_call 7; refine (HC.out _ (by first | exact HB2.out | exact Tr.below_drewN HB2.out _ | exact Tr.below_drewN (n := 1) HB2.out _)).mono ?_; rintro r w3 ⟨rfl, hb3⟩; have HB3 := Lib.hid hb3; obtain ⟨p3, p4, p5, lp3⟩ := HX.out w3 hb3; clear hb3)
        | (go_at_call 8; refine (HD.out _ HB3.out).mono ?_; rintro r w4 ⟨rfl, hb4⟩; have HB4 := Lib.hid hb4; obtain ⟨p6, p7, p8, lp4⟩ := HX.out w4 hb4; clear hb4)
        | (go_at_call 6; refine (HL.out _ HB4.out).mono ?_; rintro r w9 ⟨rfl, hb9⟩; have HB9 := Lib.hid hb9; clear hb9))
    all_goals
      go_wp2
      go_ret
      exact ⟨rfl, HB1.out.trans (HB9.out.mono hs1)⟩
end Go.Proofs.YtobkcdkffcenbaaGreatDoor.typesCheck
