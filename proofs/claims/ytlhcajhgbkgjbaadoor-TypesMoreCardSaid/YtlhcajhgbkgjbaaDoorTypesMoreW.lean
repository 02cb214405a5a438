/- TypesMore: the walk. Conditions: none. -/
import Derived.Test.YtlhcajhgbkgjbaaDoorRa18
import Derived.Test.YtlhcajhgbkgjbaaDoorRa04
set_option linter.unusedVariables false
set_option linter.unusedSimpArgs false
namespace Go.Proofs.YtlhcajhgbkgjbaaDoor.typesMore
open Go.ChangeShapes Go.WideShapes Go.ChangeAt Go.RowKit Tr
open Pg (Prm Unt)
open Go.Proofs.YtlhcajhgbkgjbaaDoor.Ty
set_option maxRecDepth 100000 in
set_option maxHeartbeats 8000000 in
theorem walk (w : World) (hT : ShAt w) (v : Value) (e : List Nd) (hv : Nodes w v e) (hs : Short e) (lv : Value) (l : List Prm) (hl : Ow.RowN 2 Ow.PrmN w l lv) (mv : Value) (m : List Prm) (hm : Ow.RowN 2 Ow.PrmN w m mv) :
    Calls Tryd.prog 3 #[v, lv, mv] w fun r w' => r = .returned (.bool true) /\ Below w.heap.size w w' := by
  have HL : Hid (∀ W, Below w.heap.size w W -> Calls Tryd.prog 5 #[] W (fun r W' => r = .returned (.bool true) /\ Below w.heap.size w W')) := Lib.hid (fun W h => (kjp W (hT.below h hT.1)).mono (fun r W' hh => ⟨hh.1, h.trans (hh.2.mono h.size)⟩))
  have HO : Hid (∀ (W : World) (pv : Value) (p : List Prm) (x : Int × Int), Below w.heap.size w W -> Ow.RowN 2 Ow.PrmN W p pv -> tyM (kcG p []) e = x -> Calls Tryd.prog 6 #[v, pv, .slice none 0 0] W (fun r W' => r = .returned (.tuple #[.int .i64 x.1, .int .i64 x.2]) /\ Below w.heap.size w W')) := Lib.hid (fun W pv p x h hp hx => by
    have := Of_no v pv e p W (hT.below h hT.1) (hv.below h (Nat.le_refl _)) hs hp
    rw [hx] at this
    exact this.mono (fun r W' hh => ⟨hh.1, h.trans (hh.2.mono h.size)⟩))
  have HRL := Lib.hid hl
  have HRM := Lib.hid hm
  obtain ⟨A, c, rfl, h1, h2, -⟩ := hv
  obtain ⟨Al, cl, rfl, l1, l2, -⟩ := Ow.rown_form hl
  obtain ⟨Am, cm, rfl, m1, m2, -⟩ := Ow.rown_form hm
  unfold maxLen at h2 l2 m2
  clear hl hm hs hT
  by_cases hf : (e.length : Int) <= 200
  rotate_left
  · have hd : decide ((200 : Int) < (e.length : Int)) = true := decide_eq_true (by omega)
    have hd' : decide (200 < e.length) = true := decide_eq_true (by omega)
    go_enter Tryd.func3, Tryd.ntmps3
    go_wp2_with fail
    refine (HL.out _ (Below.refl _ _)).mono ?_
    rintro r w9 ⟨rfl, hb9⟩
    have HB9 := Lib.hid hb9
    clear hb9
    go_wp2
    go_ret
    exact ⟨rfl, HB9.out⟩
  have hd1 : decide ((200 : Int) < (e.length : Int)) = false := decide_eq_false (by omega)
  have hd1' : decide (200 < e.length) = false := decide_eq_false (by omega)
  have hn1 : e.length <= 200 := by omega
  clear hf
  by_cases hf : (l.length : Int) <= 30
  rotate_left
  · have hd : decide ((30 : Int) < (l.length : Int)) = true := decide_eq_true (by omega)
    have hd' : decide (30 < l.length) = true := decide_eq_true (by omega)
    go_enter Tryd.func3, Tryd.ntmps3
    go_wp2_with fail
    refine (HL.out _ (Below.refl _ _)).mono ?_
    rintro r w9 ⟨rfl, hb9⟩
    have HB9 := Lib.hid hb9
    clear hb9
    go_wp2
    go_ret
    exact ⟨rfl, HB9.out⟩
  have hd2 : decide ((30 : Int) < (l.length : Int)) = false := decide_eq_false (by omega)
  have hd2' : decide (30 < l.length) = false := decide_eq_false (by omega)
  have hn2 : l.length <= 30 := by omega
  clear hf
  by_cases hf : (m.length : Int) <= 30
  rotate_left
  · have hd : decide ((30 : Int) < (m.length : Int)) = true := decide_eq_true (by omega)
    have hd' : decide (30 < m.length) = true := decide_eq_true (by omega)
    go_enter Tryd.func3, Tryd.ntmps3
    go_wp2_with fail
    refine (HL.out _ (Below.refl _ _)).mono ?_
    rintro r w9 ⟨rfl, hb9⟩
    have HB9 := Lib.hid hb9
    clear hb9
    go_wp2
    go_ret
    exact ⟨rfl, HB9.out⟩
  have hd3 : decide ((30 : Int) < (m.length : Int)) = false := decide_eq_false (by omega)
  have hd3' : decide (30 < m.length) = false := decide_eq_false (by omega)
  have hn3 : m.length <= 30 := by omega
  clear hf
  obtain ⟨⟨t, f⟩, htf⟩ : ∃ y, tyM (kcG l []) e = y := ⟨_, rfl⟩
  have HTF := Lib.hid htf
  obtain ⟨⟨x, g⟩, hxg⟩ : ∃ y, tyM (kcG (l ++ m) []) e = y := ⟨_, rfl⟩
  have HXG := Lib.hid hxg
  have HEQ : Hid (f = 0 -> x = t /\ g = 0) := Lib.hid (fun h => by
    have := tyM_more l m [] e (by rw [htf]; exact h)
    rw [htf, hxg] at this
    injection this with h1 h2
    exact ⟨h1, h2.trans h⟩)
  have hown0 : w.ownsRow w.heap.size 35 2 (.slice none 0 0) ([] : List Prm).length (kb1 []) := World.ownsRow_nil _ _ _ _
  clear htf hxg
  go_enter Tryd.func3, Tryd.ntmps3
  go_wp2_with fail
  refine (HO.out w _ l _ (Below.refl _ _) HRL.out HTF.out).mono ?_
  rintro r w1 ⟨rfl, hb1⟩
  have HB1 := Lib.hid hb1
  have HR1 := Lib.hid (HRL.out.below hb1 (Ow.PrmN.below hb1))
  have HM1 := Lib.hid (HRM.out.below hb1 (Ow.PrmN.below hb1))
  have HOWN : Hid (w1.ownsRow w1.heap.size 35 2 (.slice none 0 0) ([] : List Prm).length (kb1 [])) := Lib.hid (World.ownsRow_nil _ _ _ _)
  clear hb1 hown0
  go_wp2_with (at_builtin; refine kfi rfl (.tmp 32) (.tmp 33) rfl w1.heap.size _ [] l Al cl rfl HOWN.out rfl HR1.out (by simp; omega) (Nat.le_refl _) ?_)
  intro v2 w2 ho2 hb2
  have HO2 : Hid (w2.ownsRow w1.heap.size 35 2 v2 l.length (kb1 l)) := Lib.hid (by simpa using ho2)
  have HB12 := Lib.hid hb2
  have HM2 := Lib.hid (HM1.out.below hb2 (Ow.PrmN.below hb2))
  have hs2 := hb2.size
  clear ho2 hb2
  rcases HO2.out.2 with ⟨rfl, -⟩ | ⟨g2, c2, cur2, rfl, -⟩
  all_goals
    go_wp2_with (at_builtin; refine kfi rfl (.tmp 35) (.tmp 36) rfl w1.heap.size _ l m Am cm rfl HO2.out rfl HM2.out (by omega) hs2 ?_)
    intro v3 w3 ho3 hb3
    have HB3 : Hid (Below w.heap.size w w3) := Lib.hid (HB1.out.trans ((HB12.out.trans hb3).mono HB1.out.size))
    have HSH : Hid (∀ p ∈ l ++ m, p.name.length <= maxLen) := Lib.hid (fun p hp => by
      rcases List.mem_append.1 hp with h | h
      · exact kcQ HRL.out p h
      · exact kcQ HRM.out p h)
    have HC := Lib.hid (HO.out w3 v3 (l ++ m) _ HB3.out (kj9 (by rw [List.length_append]; exact ho3) HSH.out) HXG.out)
    rcases ho3.2 with ⟨rfl, -⟩ | ⟨g3, c3, cur3, rfl, -⟩
    all_goals
      clear ho3 hb3
      go_wp2_with fail
      refine HC.out.mono ?_
      rintro r w4 ⟨rfl, hb4⟩
      have HB4 := Lib.hid hb4
      clear hb4
      by_cases hf0 : f = 0
      · obtain ⟨hxt, hg0⟩ := HEQ.out hf0
        subst hf0 hg0 hxt
        have htt : (x == x) = true := by simp
        go_wp2_with fail
        refine (HL.out _ HB4.out).mono ?_
        rintro r w9 ⟨rfl, hb9⟩
        have HB9 := Lib.hid hb9
        clear hb9
        go_wp2
        go_ret
        exact ⟨rfl, HB9.out⟩
      · have hfb : (f != 0) = true := by simpa using hf0
        by_cases hg0 : g = 0
        · subst hg0
          clear hf0
          go_wp2_with fail
          refine (HL.out _ HB4.out).mono ?_
          rintro r w9 ⟨rfl, hb9⟩
          have HB9 := Lib.hid hb9
          clear hb9
          go_wp2
          go_ret
          exact ⟨rfl, HB9.out⟩
        · have hgb : (g == 0) = false := by simpa using hg0
          clear hf0 hg0
          go_wp2_with fail
          refine (HL.out _ HB4.out).mono ?_
          rintro r w9 ⟨rfl, hb9⟩
          have HB9 := Lib.hid hb9
          clear hb9
          go_wp2
          go_ret
          exact ⟨rfl, HB9.out⟩
end Go.Proofs.YtlhcajhgbkgjbaaDoor.typesMore
