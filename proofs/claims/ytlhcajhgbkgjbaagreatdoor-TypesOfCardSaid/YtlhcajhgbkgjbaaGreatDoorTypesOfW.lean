/- TypesOf: the walk. Conditions: none. -/
import Derived.Test.YtlhcajhgbkgjbaaGreatDoorSa18
import Derived.Test.YtlhcajhgbkgjbaaGreatDoorSa04
import Derived.Test.YtlhcajhgbkgjbaaGreatDoorSa20
set_option linter.unusedVariables false
set_option linter.unusedSimpArgs false
namespace Go.Proofs.YtlhcajhgbkgjbaaGreatDoor.typesOf
open Go.ChangeShapes Go.WideShapes Go.ChangeAt Go.RowKit Tr
open Pg (Prm Unt)
open Go.Proofs.YtlhcajhgbkgjbaaGreatDoor.Ty
set_option maxRecDepth 100000 in
set_option maxHeartbeats 8000000 in
theorem walk (w : World) (hT : ShAt w) (v : Value) (e : List Nd) (hv : Nodes w v e) (hs : Short e) (pv : Value) (l : List Prm) (hp : Ow.RowN 2 Ow.PrmN w l pv) (uv : Value) (us : List Unt) (hu : Op.RowN 8 Op.UntN w us uv) :
 Calls Tryz.prog 3 #[v, pv, uv] w fun r w' => r = .returned (.bool true) /\ Below w.heap.size w w' := by
 have hu' := Ow.row_of (S := Ow.UntN) hu (fun a x h => Ow.unt_of a x h)
 have HV := Lib.hid hv
 have HO : Hid (∀ (W : World) (v' : Value) (e' : List Nd) (x : Int × Int), Below w.heap.size w W -> Nodes W v' e' -> Short e' -> tyM (kcp l us) e' = x -> Calls Tryz.prog 9 #[v', pv, uv] W (fun r W' => r = .returned (.tuple #[.int .i64 x.1, .int .i64 x.2]) /\ Below w.heap.size w W')) := Lib.hid (fun W v' e' x h hv' hs' hx => by
  have := koz v' pv uv e' l us W (hT.below h hT.1) hv' hs' (hp.below h (Ow.PrmN.below h)) (hu'.below h (Ow.UntN.below h))
  rw [hx] at this
  exact this.mono (fun r W' hh => ⟨hh.1, h.trans (hh.2.mono h.size)⟩))
 have HL : Hid (∀ W, Below w.heap.size w W -> Calls Tryz.prog 8 #[] W (fun r W' => r = .returned (.bool true) /\ Below w.heap.size w W')) := Lib.hid (fun W h => (knJ W (hT.below h hT.1)).mono (fun r W' hh => ⟨hh.1, h.trans (hh.2.mono h.size)⟩))
 have HSH := Lib.hid hs
 obtain ⟨A, c, rfl, h1, h2, hA⟩ := hv
 have HA := Lib.hid hA
 obtain ⟨Ap, cp, rfl, p1, p2, -⟩ := Ow.rown_form hp
 obtain ⟨Au, cu, rfl, u1, u2, -⟩ := Op.rown_form hu
 have HSM : Hid (Calls Tryz.prog 7 #[.agg #[.slice Au us.length cu, .string ⟨#[]⟩, .string ⟨#[]⟩]] w (In.SmallPost w us)) := Lib.hid (In.small_any us _ [] [] w hu)
 unfold maxLen at h2 p2 u2
 have HP := Lib.hid hp
 have HU := Lib.hid hu'
 clear hA hp hu hu' hs
 by_cases hf : (e.length : Int) <= 300
 rotate_left
 · have hd : decide ((300 : Int) < (e.length : Int)) = true := decide_eq_true (by omega)
   have hd' : decide (300 < e.length) = true := decide_eq_true (by omega)
   go_enter Tryz.func3, Tryz.ntmps3
   go_wp2_with fail
   refine (HL.out _ (Below.refl _ _)).mono ?_
   rintro r w9 ⟨rfl, hb9⟩
   have HB9 := Lib.hid hb9
   clear hb9
   go_wp2
   go_ret
   exact ⟨rfl, HB9.out⟩
 have hd : decide ((300 : Int) < (e.length : Int)) = false := decide_eq_false (by omega)
 have hd' : decide (300 < e.length) = false := decide_eq_false (by omega)
 have hn : e.length <= 300 := by omega
 clear hf
 by_cases hf : (l.length : Int) <= 60
 rotate_left
 · have hd : decide ((60 : Int) < (l.length : Int)) = true := decide_eq_true (by omega)
   have hd' : decide (60 < l.length) = true := decide_eq_true (by omega)
   go_enter Tryz.func3, Tryz.ntmps3
   go_wp2_with fail
   refine (HL.out _ (Below.refl _ _)).mono ?_
   rintro r w9 ⟨rfl, hb9⟩
   have HB9 := Lib.hid hb9
   clear hb9
   go_wp2
   go_ret
   exact ⟨rfl, HB9.out⟩
 have hdl : decide ((60 : Int) < (l.length : Int)) = false := decide_eq_false (by omega)
 have hdl' : decide (60 < l.length) = false := decide_eq_false (by omega)
 clear hf
 obtain ⟨⟨t, f⟩, htf⟩ : ∃ y, tyM (kcp l us) e = y := ⟨_, rfl⟩
 have HTF := Lib.hid htf
 have HD : Hid (∀ W, Below w.heap.size w W -> Calls Tryz.prog 10 #[.slice A e.length c, .slice Ap l.length cp, .slice Au us.length cu] W (fun r W' => r = .returned (.tuple #[.int .i64 t, .int .i64 f]) /\ Below w.heap.size w W')) := Lib.hid (fun W h => by
  have := kp2 _ _ _ e l us W (HP.out.below h (Ow.PrmN.below h)) (HU.out.below h (Ow.UntN.below h)) (HV.out.below h (Nat.le_refl _)) HSH.out
  rw [HTF.out] at this
  exact this.mono (fun r W' hh => ⟨hh.1, h.trans (hh.2.mono h.size)⟩))
 clear htf
 go_enter Tryz.func3, Tryz.ntmps3
 go_wp2_with fail
 refine HSM.out.mono ?_
 rintro r w1 ⟨B, rfl, hb1, hsm⟩
 have HB1 := Lib.hid hb1
 clear hb1 hsm
 cases B with
 | false =>
  go_wp2_with fail
  refine (HL.out _ HB1.out).mono ?_
  rintro r w9 ⟨rfl, hb9⟩
  have HB9 := Lib.hid hb9
  clear hb9
  go_wp2
  go_ret
  exact ⟨rfl, HB9.out⟩
 | true =>
  go_wp2_with fail
  refine (HO.out w1 _ e _ HB1.out (HV.out.below HB1.out (Nat.le_refl _)) HSH.out HTF.out).mono ?_
  rintro r w2 ⟨rfl, hb2⟩
  have HB2 := Lib.hid hb2
  clear hb2
  go_wp2_with fail
  refine (HD.out w2 HB2.out).mono ?_
  rintro r w3 ⟨rfl, hb3⟩
  have HB3 := Lib.hid hb3
  clear hb3
  have e1 : (t == t) = true := by simp
  have e2 : (f == f) = true := by simp
  go_wp2_with fail
  refine (HL.out _ HB3.out).mono ?_
  rintro r w9 ⟨rfl, hb9⟩
  have HB9 := Lib.hid hb9
  clear hb9
  go_wp2
  go_ret
  exact ⟨rfl, HB9.out⟩
end Go.Proofs.YtlhcajhgbkgjbaaGreatDoor.typesOf
