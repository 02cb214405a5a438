/- TypesPick: the walk. Conditions: none. -/
import Derived.Test.YtlhcajhgbkgjbaaDoorRa18
import Derived.Test.YtlhcajhgbkgjbaaDoorRa04
import Derived.Test.YtlhcajhgbkgjbaaDoorRa19
set_option linter.unusedVariables false
set_option linter.unusedSimpArgs false
namespace Go.Proofs.YtlhcajhgbkgjbaaDoor.typesPick
open Go.ChangeShapes Go.WideShapes Go.ChangeAt Go.RowKit Tr
open Pg (Prm Unt)
open Go.Proofs.YtlhcajhgbkgjbaaDoor.Ty
set_option maxRecDepth 100000 in
set_option maxHeartbeats 8000000 in
theorem walk (w : World) (hT : ShAt w) (v : Value) (a : List Nd) (hv : Nodes w v a) (hsa : Short a) (u : Value) (b : List Nd) (hu : Nodes w u b) (hsb : Short b) (lv : Value) (l : List Prm) (hl : Ow.RowN 2 Ow.PrmN w l lv) :
    Calls Tryd.prog 4 #[v, u, lv] w fun r w' => r = .returned (.bool true) /\ Below w.heap.size w w' := by
  have HL : Hid (∀ W, Below w.heap.size w W -> Calls Tryd.prog 5 #[] W (fun r W' => r = .returned (.bool true) /\ Below w.heap.size w W')) := Lib.hid (fun W h => (kjp W (hT.below h hT.1)).mono (fun r W' hh => ⟨hh.1, h.trans (hh.2.mono h.size)⟩))
  have HO : Hid (∀ (W : World) (ev : Value) (e : List Nd) (x : Int × Int), Below w.heap.size w W -> Nodes W ev e -> Short e -> tyM (kcG l []) e = x -> Calls Tryd.prog 6 #[ev, lv, .slice none 0 0] W (fun r W' => r = .returned (.tuple #[.int .i64 x.1, .int .i64 x.2]) /\ Below W.heap.size W W')) := Lib.hid (fun W ev e x h hv' hs' hx => by
    have := Of_no ev lv e l W (hT.below h hT.1) hv' hs' (hl.below h (Ow.PrmN.below h))
    rw [hx] at this
    exact this)
  have HV := Lib.hid hv
  have HU := Lib.hid hu
  have HSA := Lib.hid hsa
  have HSB := Lib.hid hsb
  obtain ⟨A, c, rfl, h1, h2, -⟩ := hv
  obtain ⟨C, d, rfl, h3, h4, -⟩ := hu
  obtain ⟨Al, cl, rfl, l1, l2, -⟩ := Ow.rown_form hl
  unfold maxLen at h2 h4 l2
  clear hl hsa hsb hT
  by_cases hf : (a.length : Int) <= 100
  rotate_left
  · have hd : decide ((100 : Int) < (a.length : Int)) = true := decide_eq_true (by omega)
    have hd' : decide (100 < a.length) = true := decide_eq_true (by omega)
    go_enter Tryd.func4, Tryd.ntmps4
    go_wp2_with fail
    refine (HL.out _ (Below.refl _ _)).mono ?_
    rintro r w9 ⟨rfl, hb9⟩
    have HB9 := Lib.hid hb9
    clear hb9
    go_wp2
    go_ret
    exact ⟨rfl, HB9.out⟩
  have hd1 : decide ((100 : Int) < (a.length : Int)) = false := decide_eq_false (by omega)
  have hd1' : decide (100 < a.length) = false := decide_eq_false (by omega)
  have hn1 : a.length <= 100 := by omega
  clear hf
  by_cases hf : (b.length : Int) <= 100
  rotate_left
  · have hd : decide ((100 : Int) < (b.length : Int)) = true := decide_eq_true (by omega)
    have hd' : decide (100 < b.length) = true := decide_eq_true (by omega)
    go_enter Tryd.func4, Tryd.ntmps4
    go_wp2_with fail
    refine (HL.out _ (Below.refl _ _)).mono ?_
    rintro r w9 ⟨rfl, hb9⟩
    have HB9 := Lib.hid hb9
    clear hb9
    go_wp2
    go_ret
    exact ⟨rfl, HB9.out⟩
  have hd2 : decide ((100 : Int) < (b.length : Int)) = false := decide_eq_false (by omega)
  have hd2' : decide (100 < b.length) = false := decide_eq_false (by omega)
  have hn2 : b.length <= 100 := by omega
  clear hf
  by_cases hf : (l.length : Int) <= 30
  rotate_left
  · have hd : decide ((30 : Int) < (l.length : Int)) = true := decide_eq_true (by omega)
    have hd' : decide (30 < l.length) = true := decide_eq_true (by omega)
    go_enter Tryd.func4, Tryd.ntmps4
    go_wp2_with fail
    refine (HL.out _ (Below.refl _ _)).mono ?_
    rintro r w9 ⟨rfl, hb9⟩
    have HB9 := Lib.hid hb9
    clear hb9
    go_wp2
    go_ret
    exact ⟨rfl, HB9.out⟩
  have hd3 : decide ((30 : Int) < (l.length : Int)) = false := decide_eq_false (by omega)
  have hd3' : decide (30 < l.length) = false := decide_eq_false (by omega)
  have hn3 : l.length <= 30 := by omega
  clear hf
  have HJ1 : Hid (∀ W, Below w.heap.size w W -> Calls Tryd.prog 7 #[.int .i64 19, .int .i64 0, .string ⟨#[]⟩, .slice (some ⟨W.heap.size, 0, none⟩) 2 2] (W.alloc (.cells #[.slice A a.length c, .slice C b.length d] 23)) (fun r W' => ∃ v, r = .returned v /\ Nodes W' v (kaa 19 0 [] [a, b]) /\ Below W.heap.size W W')) := Lib.hid (fun W h =>
    (rjoin_all _ [a, b] 19 0 [] _ (Rf.parts_two (HV.out.below h (Nat.le_refl _)) (HU.out.below h (Nat.le_refl _))) (by simp [kar]; omega)).mono (fun r W' ⟨v, k1, k2, k3⟩ => ⟨v, k1, Nodes.of_own k2, (below_new W _).trans (k3.mono (by simp))⟩))
  have HJ2 : Hid (∀ W, Calls Tryd.prog 7 #[.int .i64 2, .int .i64 1, .string ⟨#[]⟩, .slice none 0 0] W (fun r W' => ∃ v, r = .returned v /\ Nodes W' v yesM /\ Below W.heap.size W W')) := Lib.hid (fun W =>
    (rjoin_all _ [] 2 1 [] W (kbP W) (by simp [kar])).mono (fun r W' ⟨v, k1, k2, k3⟩ => ⟨v, k1, Nodes.of_own k2, k3⟩))
  have HJ3 : Hid (∀ W yv, Below w.heap.size w W -> Nodes W yv yesM -> Calls Tryd.prog 7 #[.int .i64 26, .int .i64 0, .string ⟨#[]⟩, .slice (some ⟨W.heap.size, 0, none⟩) 3 3] (W.alloc (.cells #[yv, .slice A a.length c, .slice C b.length d] 23)) (fun r W' => ∃ v, r = .returned v /\ Nodes W' v (kaa 26 0 [] [yesM, a, b]) /\ Below W.heap.size W W')) := Lib.hid (fun W yv h hy =>
    (rjoin_all _ [yesM, a, b] 26 0 [] _ (Rf.parts_three hy (HV.out.below h (Nat.le_refl _)) (HU.out.below h (Nat.le_refl _))) (by simp [kar, yes_len]; omega)).mono (fun r W' ⟨v, k1, k2, k3⟩ => ⟨v, k1, Nodes.of_own k2, (below_new W _).trans (k3.mono (by simp))⟩))
  obtain ⟨B1, hB1⟩ : ∃ B, mayB a = B := ⟨_, rfl⟩
  obtain ⟨B2, hB2⟩ : ∃ B, mayB b = B := ⟨_, rfl⟩
  obtain ⟨B3, hB3⟩ : ∃ B, mayB (kaa 19 0 [] [a, b]) = B := ⟨_, rfl⟩
  obtain ⟨B4, hB4⟩ : ∃ B, mayB (kaa 26 0 [] [yesM, a, b]) = B := ⟨_, rfl⟩
  have HM1 := Lib.hid hB1
  have HM2 := Lib.hid hB2
  have HM3 := Lib.hid hB3
  have HM4 := Lib.hid hB4
  clear hB1 hB2 hB3 hB4
  obtain ⟨JE, hJE⟩ : ∃ J, kaa 19 0 [] [a, b] = J := ⟨_, rfl⟩
  obtain ⟨JI, hJI⟩ : ∃ J, kaa 26 0 [] [yesM, a, b] = J := ⟨_, rfl⟩
  have HJE := Lib.hid hJE
  have HJI := Lib.hid hJI
  rw [hJE] at HJ1 HM3
  rw [hJI] at HJ3 HM4
  clear hJE hJI
  go_enter Tryd.func4, Tryd.ntmps4
  go_wp2_with fail
  refine (HJ1.out w (Below.refl _ _)).mono ?_
  rintro r w1 ⟨ev, rfl, hn1, hb1⟩
  have HB1 := Lib.hid hb1
  have HE1 := Lib.hid hn1
  obtain ⟨A1, c1, rfl, -⟩ := hn1
  clear hb1
  go_wp2_with fail
  refine (HJ2.out w1).mono ?_
  rintro r w2 ⟨yv, rfl, hn2, hb2⟩
  have HB2 : Hid (Below w.heap.size w w2) := Lib.hid (HB1.out.trans (hb2.mono HB1.out.size))
  have HE2 := Lib.hid (HE1.out.below hb2 (Nat.le_refl _))
  have hJ3 := HJ3.out w2 yv HB2.out hn2
  obtain ⟨A2, c2, rfl, -⟩ := hn2
  have HC3 := Lib.hid hJ3
  clear hb2 hJ3
  go_wp2_with fail
  refine HC3.out.mono ?_
  rintro r w3 ⟨iv, rfl, hn3, hb3⟩
  have HB3 : Hid (Below w.heap.size w w3) := Lib.hid (HB2.out.trans (hb3.mono HB2.out.size))
  have HE3 := Lib.hid (HE2.out.below hb3 (Nat.le_refl _))
  have HI3 := Lib.hid hn3
  obtain ⟨A3, c3, rfl, -⟩ := hn3
  clear hb3
  go_wp2_with fail
  refine (keB _ a _ w3 (HV.out.below HB3.out (Nat.le_refl _)) HM1.out).mono ?_
  rintro r w4 ⟨rfl, hb4⟩
  have HB4 : Hid (Below w.heap.size w w4) := Lib.hid (HB3.out.trans (hb4.mono HB3.out.size))
  have HE4 := Lib.hid (HE3.out.below hb4 (Nat.le_refl _))
  have HI4 := Lib.hid (HI3.out.below hb4 (Nat.le_refl _))
  clear hb4
  cases B1 with
  | false =>
    go_wp2_with fail
    refine (HL.out _ HB4.out).mono ?_
    rintro r w9 ⟨rfl, hb9⟩
    have HB9 := Lib.hid hb9
    clear hb9
    go_wp2
    go_ret
    exact ⟨rfl, HB9.out⟩
  | true =>
    go_wp2_with fail
    refine (keB _ b _ w4 (HU.out.below HB4.out (Nat.le_refl _)) HM2.out).mono ?_
    rintro r w5 ⟨rfl, hb5⟩
    have HB5 : Hid (Below w.heap.size w w5) := Lib.hid (HB4.out.trans (hb5.mono HB4.out.size))
    have HE5 := Lib.hid (HE4.out.below hb5 (Nat.le_refl _))
    have HI5 := Lib.hid (HI4.out.below hb5 (Nat.le_refl _))
    clear hb5
    cases B2 with
    | false =>
      go_wp2_with fail
      refine (HL.out _ HB5.out).mono ?_
      rintro r w9 ⟨rfl, hb9⟩
      have HB9 := Lib.hid hb9
      clear hb9
      go_wp2
      go_ret
      exact ⟨rfl, HB9.out⟩
    | true =>
      go_wp2_with fail
      refine (keB _ JE _ w5 (HE5.out) HM3.out).mono ?_
      rintro r w6 ⟨rfl, hb6⟩
      have HB6 : Hid (Below w.heap.size w w6) := Lib.hid (HB5.out.trans (hb6.mono HB5.out.size))
      have HE6 := Lib.hid (HE5.out.below hb6 (Nat.le_refl _))
      have HI6 := Lib.hid (HI5.out.below hb6 (Nat.le_refl _))
      clear hb6
      cases B3 with
      | false =>
        go_wp2_with fail
        refine (HL.out _ HB6.out).mono ?_
        rintro r w9 ⟨rfl, hb9⟩
        have HB9 := Lib.hid hb9
        clear hb9
        go_wp2
        go_ret
        exact ⟨rfl, HB9.out⟩
      | true =>
        go_wp2_with fail
        refine (keB _ JI _ w6 (HI6.out) HM4.out).mono ?_
        rintro r w7 ⟨rfl, hb7⟩
        have HB7 : Hid (Below w.heap.size w w7) := Lib.hid (HB6.out.trans (hb7.mono HB6.out.size))
        have HE7 := Lib.hid (HE6.out.below hb7 (Nat.le_refl _))
        have HI7 := Lib.hid (HI6.out.below hb7 (Nat.le_refl _))
        clear hb7
        cases B4 with
        | false =>
          go_wp2_with fail
          refine (HL.out _ HB7.out).mono ?_
          rintro r w9 ⟨rfl, hb9⟩
          have HB9 := Lib.hid hb9
          clear hb9
          go_wp2
          go_ret
          exact ⟨rfl, HB9.out⟩
        | true =>
          have ha := kfF HM1.out
          have hb := kfF HM2.out
          have hje : Tr.May (kaa 19 0 [] [a, b]) := by rw [HJE.out]; exact kfF HM3.out
          have hji : Tr.May (kaa 26 0 [] [yesM, a, b]) := by rw [HJI.out]; exact kfF HM4.out
          have PA := pick_arrow (kcG l []) ha hb hje
          have PI := pick_if (kcG l []) yes_may ha hb ⟨2, 1, []⟩ rfl yes_root hji
          have HSE : Hid (Short JE) := Lib.hid (by rw [<- HJE.out]; exact short_two ha hb HSA.out HSB.out)
          have HSI : Hid (Short JI) := Lib.hid (by rw [<- HJI.out]; exact short_if ha hb HSA.out HSB.out)
          rw [HJE.out] at PA
          rw [HJI.out] at PI
          obtain ⟨⟨x, f⟩, hxf⟩ : ∃ q, tyM (kcG l []) a = q := ⟨_, rfl⟩
          obtain ⟨⟨y, g⟩, hyg⟩ : ∃ q, tyM (kcG l []) b = q := ⟨_, rfl⟩
          obtain ⟨⟨z, h⟩, hzh⟩ : ∃ q, tyM (kcG l []) JE = q := ⟨_, rfl⟩
          obtain ⟨⟨s, j⟩, hsj⟩ : ∃ q, tyM (kcG l []) JI = q := ⟨_, rfl⟩
          rw [hxf, hyg, hzh] at PA
          rw [hxf, hyg, hsj] at PI
          have H1 := Lib.hid hxf
          have H2 := Lib.hid hyg
          have H3 := Lib.hid hzh
          have H4 := Lib.hid hsj
          simp only at PA PI
          have HPA := Lib.hid PA
          have HPI := Lib.hid PI
          clear ha hb hje hji PA PI hxf hyg hzh hsj
          go_wp2_with fail
          refine (HO.out w7 _ a _ HB7.out (HV.out.below HB7.out (Nat.le_refl _)) (HSA.out) H1.out).mono ?_
          rintro r w8 ⟨rfl, hb8⟩
          have HB8 : Hid (Below w.heap.size w w8) := Lib.hid (HB7.out.trans (hb8.mono HB7.out.size))
          have HE8 := Lib.hid (HE7.out.below hb8 (Nat.le_refl _))
          have HI8 := Lib.hid (HI7.out.below hb8 (Nat.le_refl _))
          clear hb8
          go_wp2_with fail
          refine (HO.out w8 _ b _ HB8.out (HU.out.below HB8.out (Nat.le_refl _)) (HSB.out) H2.out).mono ?_
          rintro r w9 ⟨rfl, hb9⟩
          have HB9 : Hid (Below w.heap.size w w9) := Lib.hid (HB8.out.trans (hb9.mono HB8.out.size))
          have HE9 := Lib.hid (HE8.out.below hb9 (Nat.le_refl _))
          have HI9 := Lib.hid (HI8.out.below hb9 (Nat.le_refl _))
          clear hb9
          go_wp2_with fail
          refine (HO.out w9 _ JE _ HB9.out (HE9.out) (HSE.out) H3.out).mono ?_
          rintro r w10 ⟨rfl, hb10⟩
          have HB10 : Hid (Below w.heap.size w w10) := Lib.hid (HB9.out.trans (hb10.mono HB9.out.size))
          have HE10 := Lib.hid (HE9.out.below hb10 (Nat.le_refl _))
          have HI10 := Lib.hid (HI9.out.below hb10 (Nat.le_refl _))
          clear hb10
          go_wp2_with fail
          refine (HO.out w10 _ JI _ HB10.out (HI10.out) (HSI.out) H4.out).mono ?_
          rintro r w11 ⟨rfl, hb11⟩
          have HB11 : Hid (Below w.heap.size w w11) := Lib.hid (HB10.out.trans (hb11.mono HB10.out.size))
          have HE11 := Lib.hid (HE10.out.below hb11 (Nat.le_refl _))
          have HI11 := Lib.hid (HI10.out.below hb11 (Nat.le_refl _))
          clear hb11
          by_cases hf0 : f = 0
          · subst hf0
            by_cases hg0 : g = 0
            · subst hg0
              by_cases hxy : x = y
              · subst hxy
                have hh0 : h = 0 := HPA.out.1.2 ⟨rfl, rfl, rfl⟩
                have hj0 : j = 0 := HPI.out.1.2 ⟨rfl, rfl, rfl⟩
                have hzx : z = x := HPA.out.2 hh0
                have hsx : s = x := HPI.out.2 hj0
                subst hh0 hj0 hzx hsx
                have hss : (s == s) = true := by simp
                go_wp2_with fail
                refine (HL.out _ HB11.out).mono ?_
                rintro r w9 ⟨rfl, hb9⟩
                have HB9 := Lib.hid hb9
                clear hb9
                go_wp2
                go_ret
                exact ⟨rfl, HB9.out⟩
              · have hxyb : (x == y) = false := by simpa using hxy
                have HN : Hid (¬ ((0 : Int) = 0 /\ (0 : Int) = 0 /\ x = y)) := Lib.hid (fun q => hxy q.2.2)
                have hh0 : h ≠ 0 := fun hz => HN.out (HPA.out.1.1 hz)
                have hj0 : j ≠ 0 := fun hz => HN.out (HPI.out.1.1 hz)
                have hhb : (h != 0) = true := by simpa using hh0
                have hjb : (j != 0) = true := by simpa using hj0
                clear hh0 hj0
                clear hxy
                go_wp2_with fail
                refine (HL.out _ HB11.out).mono ?_
                rintro r w9 ⟨rfl, hb9⟩
                have HB9 := Lib.hid hb9
                clear hb9
                go_wp2
                go_ret
                exact ⟨rfl, HB9.out⟩
            · have hgb : (g == 0) = false := by simpa using hg0
              have HN : Hid (¬ ((0 : Int) = 0 /\ g = 0 /\ x = y)) := Lib.hid (fun q => hg0 q.2.1)
              have hh0 : h ≠ 0 := fun hz => HN.out (HPA.out.1.1 hz)
              have hj0 : j ≠ 0 := fun hz => HN.out (HPI.out.1.1 hz)
              have hhb : (h != 0) = true := by simpa using hh0
              have hjb : (j != 0) = true := by simpa using hj0
              clear hh0 hj0
              clear hg0
              go_wp2_with fail
              refine (HL.out _ HB11.out).mono ?_
              rintro r w9 ⟨rfl, hb9⟩
              have HB9 := Lib.hid hb9
              clear hb9
              go_wp2
              go_ret
              exact ⟨rfl, HB9.out⟩
          · have hfb : (f == 0) = false := by simpa using hf0
            have HN : Hid (¬ (f = 0 /\ g = 0 /\ x = y)) := Lib.hid (fun q => hf0 q.1)
            have hh0 : h ≠ 0 := fun hz => HN.out (HPA.out.1.1 hz)
            have hj0 : j ≠ 0 := fun hz => HN.out (HPI.out.1.1 hz)
            have hhb : (h != 0) = true := by simpa using hh0
            have hjb : (j != 0) = true := by simpa using hj0
            clear hh0 hj0
            clear hf0
            go_wp2_with fail
            refine (HL.out _ HB11.out).mono ?_
            rintro r w9 ⟨rfl, hb9⟩
            have HB9 := Lib.hid hb9
            clear hb9
            go_wp2
            go_ret
            exact ⟨rfl, HB9.out⟩
end Go.Proofs.YtlhcajhgbkgjbaaDoor.typesPick
