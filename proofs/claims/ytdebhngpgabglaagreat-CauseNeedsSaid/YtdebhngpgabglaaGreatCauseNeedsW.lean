/- CauseNeeds: the walk. Conditions: none. -/
import Derived.Test.YtdebhngpgabglaaGreatCdB
import Derived.Test.YtdebhngpgabglaaGreatRa18
set_option linter.unusedVariables false
set_option linter.unusedSimpArgs false
namespace Go.Proofs.YtdebhngpgabglaaGreat.Tr
open Go.ChangeShapes Go.WideShapes Go.ChangeAt Go.RowKit
section
set_option maxRecDepth 100000
variable {H : Type} {enc : TypeId × Value → H} {w : World} {base : Nat} {spare : Nat → Bool} {held : Bool}
theorem open_nodes {r : Reach} {b0 : Nat} {v : Value} {d : DataW H} {p : List MemPlace} (hv : Value.okWide Tryz.prog w r b0 23 v) (h : DataW.Trod enc Tryz.prog w base spare held 23 v d p) : ∃ l, Nodes w v l ∧ Short l ∧ ∀ c, v = .slice none 0 c → c = 0 := by
 obtain ⟨a0, len, cap, rfl⟩ := okWide_slice Tryz.underlying23 hv
 obtain ⟨fuel, hf⟩ := h
 obtain ⟨u, l, hcs, h1, h2, h3⟩ := trod_nodes Tryz.underlying23 hf
 simp [Value.cells] at hcs
 subst hcs
 exact ⟨l, h1, h2, h3⟩
end
end Go.Proofs.YtdebhngpgabglaaGreat.Tr
namespace Go.Proofs.YtdebhngpgabglaaGreat.causeNeeds
open Go.ChangeShapes Go.WideShapes Go.ChangeAt Go.RowKit Go.Proofs.YtdebhngpgabglaaGreat.Tr
open Go.Proofs.YtdebhngpgabglaaGreat.Ca
set_option maxRecDepth 100000 in
set_option maxHeartbeats 8000000 in
theorem walk (w : World) (va : Value) (a : List Nd) (ha : Nodes w va a) (sa : Short a) : Calls Tryz.prog 3 #[va] w fun r w' => r = .returned (.bool true) ∧ Below w.heap.size w w' := by
 have HA := Lib.hid ha
 have HSA := Lib.hid sa
 obtain ⟨A, c, rfl, h1, h2, -⟩ := ha
 unfold maxLen at h2
 clear sa
 by_cases hla : 300 < a.length
 · have hd : decide ((300 : Int) < (a.length : Int)) = true := decide_eq_true (by omega)
   go_enter Tryz.func3, Tryz.ntmps3
   go_wp2_with fail
   refine (live_any _).mono ?_
   rintro r w9 ⟨rfl, hb9⟩
   go_wp2
   go_ret
   exact ⟨rfl, hb9⟩
 have hda : decide ((300 : Int) < (a.length : Int)) = false := decide_eq_false (by omega)
 go_enter Tryz.func3, Tryz.ntmps3
 go_wp2_with fail
 refine (needs_any _ a w HA.out HSA.out).mono ?_
 rintro r w1 ⟨v1, rfl, o1, b1⟩
 have HO1 := Lib.hid o1
 have HB1 := Lib.hid b1
 clear o1 b1
 go_wp2_with fail
 refine (rneeds_any _ a w1 (HA.out.below HB1.out (Nat.le_refl _))).mono ?_
 rintro r w2 ⟨v2, rfl, o2, b2⟩
 have HS1 := Lib.hid (Strs.of_own (own_below HO1.out b2))
 have HS2 := Lib.hid (Strs.of_own o2)
 have HB2 := Lib.hid (HB1.out.trans (b2.mono HB1.out.size))
 have HT := Lib.hid (texts_any v1 v2 _ _ w2 HS1.out HS2.out)
 rw [decide_eq_true rfl] at HT
 clear o2 b2
 go_wp2_with fail
 refine HT.out.mono ?_
 rintro r w3 ⟨rfl, n3, rfl⟩
 have HB3 : Hid (Below w.heap.size w (w2.drewN n3)) := Lib.hid (HB2.out.trans ⟨rfl, rfl, rfl, Nat.le_refl _, fun _ _ => rfl⟩)
 go_wp2_with fail
 refine (live_any _).mono ?_
 rintro r w9 ⟨rfl, hb9⟩
 have HB9 := Lib.hid (HB3.out.trans (hb9.mono HB3.out.size))
 clear hb9
 go_wp2
 go_ret
 exact ⟨rfl, HB9.out⟩
end Go.Proofs.YtdebhngpgabglaaGreat.causeNeeds
