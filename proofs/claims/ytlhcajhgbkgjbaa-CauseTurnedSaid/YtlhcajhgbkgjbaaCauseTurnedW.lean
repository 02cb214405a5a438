/- CauseTurned: the walk. Conditions: none. -/
import Derived.Test.YtlhcajhgbkgjbaaRa19
set_option linter.unusedVariables false
set_option linter.unusedSimpArgs false
namespace Go.Proofs.Ytlhcajhgbkgjbaa.causeTurned
open Go.ChangeShapes Go.WideShapes Go.ChangeAt Go.RowKit Go.Proofs.Ytlhcajhgbkgjbaa.Tr
open Go.Proofs.Ytlhcajhgbkgjbaa.Ca
open Go.Proofs.Ytlhcajhgbkgjbaa.Pg (Eqn)
set_option linter.unusedVariables false
set_option linter.unusedSimpArgs false

theorem live_end {w w1 : World} (h : Below w.heap.size w w1) : Calls Try.prog 8 #[] w1 (fun e w' => e = .returned (.bool true) ∧ Below w.heap.size w w') :=
  (live_any w1).mono (fun e w' ⟨he, hb⟩ => ⟨he, h.trans (hb.mono h.size)⟩)
set_option maxRecDepth 100000 in
set_option maxHeartbeats 8000000 in
theorem walk (w : World) (v : Value) (l : List Eqn) (hr : Op.RowN 2 Op.EqnN w l v) (n : Int) : Calls Try.prog 4 #[v, .int .i64 n] w fun r w' => r = .returned (.bool true) ∧ Below w.heap.size w w' := by
  have hv := EqsAt.of_rowN hr
  have HV := Lib.hid hv
  obtain ⟨A, c, rfl, h1, h2, h3⟩ := hv
  unfold maxLen at h2
  have HSH : Hid (∀ q ∈ l, q.name.length ≤ maxLen ∧ Short q.e) := Lib.hid (fun q hq => by
    obtain ⟨i, hi, e⟩ := List.mem_iff_getElem.1 hq
    obtain ⟨_, _, _, _, _, _, _, _, q1, q2⟩ := h3 i q (by rw [List.getElem?_eq_getElem hi, e])
    exact ⟨q1, q2⟩)
  obtain ⟨j0, hj, hy0, hy1, hy2⟩ := info_parts infoEqn
  clear hr h3
  by_cases hneg : n < 0
  · have hd : decide (n < 0) = true := decide_eq_true hneg
    go_enter Try.func4, Try.ntmps4
    go_wp2_with fail
    refine (few_any _ l w HV.out).mono ?_
    rintro r w1 ⟨b, rfl, hb40, rfl⟩
    cases b with
    | false =>
      go_wp2_with fail
      refine (live_any _).mono ?_
      rintro r w9 ⟨rfl, hb9⟩
      go_wp2
      go_ret
      exact ⟨rfl, hb9⟩
    | true =>
      go_wp2_with fail
      refine (live_any _).mono ?_
      rintro r w9 ⟨rfl, hb9⟩
      go_wp2
      go_ret
      exact ⟨rfl, hb9⟩
  obtain ⟨m, rfl⟩ := Int.eq_ofNat_of_zero_le (show 0 ≤ n by omega)
  have hdn : ¬ ((m : Int) < 0) := hneg
  by_cases hbig : l.length < m
  · have hd : decide ((l.length : Int) < (m : Int)) = true := decide_eq_true (by omega)
    go_enter Try.func4, Try.ntmps4
    go_wp2_with fail
    refine (few_any _ l w HV.out).mono ?_
    rintro r w1 ⟨b, rfl, hb40, rfl⟩
    cases b with
    | false =>
      go_wp2_with fail
      refine (live_any _).mono ?_
      rintro r w9 ⟨rfl, hb9⟩
      go_wp2
      go_ret
      exact ⟨rfl, hb9⟩
    | true =>
      go_wp2_with fail
      refine (live_any _).mono ?_
      rintro r w9 ⟨rfl, hb9⟩
      go_wp2
      go_ret
      exact ⟨rfl, hb9⟩
  have hd : decide ((l.length : Int) < (m : Int)) = false := decide_eq_false (by omega)
  have hml : m ≤ l.length := by omega
  obtain ⟨z, hz⟩ : ∃ z, errO (orderM (qsOf l)) = z := ⟨_, rfl⟩
  have HZ := Lib.hid hz
  have HZR := Lib.hid ((errO_rev l).trans hz)
  have hz2 : z = 0 ∨ z = 12 := by rw [← hz]; exact errO_two _
  obtain ⟨y, hy⟩ : ∃ y, errO (orderM (qsOf (l.take m))) = y := ⟨_, rfl⟩
  have HY := Lib.hid hy
  have HYZ : Hid (z = 0 → y = 0) := Lib.hid (fun e => by rw [← hy]; exact errO_take l m hml (by rw [hz]; exact e))
  clear hz hy hbig hneg
  go_enter Try.func4, Try.ntmps4
  go_wp2_with fail
  refine (few_any _ l w HV.out).mono ?_
  rintro r w1 ⟨b, rfl, hb40, rfl⟩
  cases b with
  | false =>
    go_wp2_with fail
    refine (live_any _).mono ?_
    rintro r w9 ⟨rfl, hb9⟩
    go_wp2
    go_ret
    exact ⟨rfl, hb9⟩
  | true =>
    have hl40 := hb40 rfl
    clear hb40
    go_wp2_with fail
    refine (ord_err HV.out (by omega) HZ.out).mono ?_
    rintro r w2 ⟨Ao, no, co, rfl, hb2⟩
    have HB2 := Lib.hid hb2
    have HV2 := Lib.hid (HV.out.below hb2)
    clear hb2
    go_wp2
    go_loopw [7, 8] (fun tv vi wr => ∃ (k : Nat) (xs : List Value) (A n c : _), k ≤ l.length ∧ tv = .slice A n c ∧ vi = .int .i64 ((l.length : Int) - 1 - (k : Int)) ∧ TurnR w2 wr (.slice A n c) l k xs) (fun _ vi _ => (intOf vi + 1).toNat)
    case atStart => exact ⟨0, [], none, 0, 0, Nat.zero_le _, rfl, by simp, ⟨World.ownsRow_nil _ _ _ _, fun j q h => by omega, Below.refl _ _⟩⟩
    case round =>
      obtain ⟨k, xs, A7, n7, c7, hk, rfl, rfl, ht⟩ := hrel
      have HT := Lib.hid ht
      have hbr := ht.below.size
      by_cases hkl : k < l.length
      · obtain ⟨p, hp⟩ : ∃ p, l.length - 1 - k = p := ⟨_, rfl⟩
        have hpi : (l.length : Int) - 1 - (k : Int) = (p : Int) := by omega
        have hpl : p < l.length := by omega
        obtain ⟨q, hq⟩ : ∃ q, l[p]? = some q := ⟨_, List.getElem?_eq_getElem hpl⟩
        obtain ⟨gq, oq, ev, rfl, g1, g2, g3, g4, g5, g6⟩ := eqs_at (HV2.out.below ht.below) hq
        obtain ⟨gq', oq', ev', e', f1, f2, f3, f4, -, -⟩ := eqs_at HV2.out hq
        simp only [Option.some.injEq, Addr.mk.injEq, and_true] at e'
        obtain ⟨rfl, rfl⟩ := e'
        have hevv : ev' = ev := by
          have := (ht.below.cell (p := ⟨gq, oq + p * 2 + 1, none⟩) f1).trans f3
          rw [g3] at this; injection this with this; exact this.symm
        subst hevv
        have HEV := Lib.hid f4
        obtain ⟨Ae, ce, rfl, z1, z2, -⟩ := f4
        have HQ : Hid (l[l.length - 1 - k]? = some q) := Lib.hid (by rw [hp]; exact hq)
        have HPI := Lib.hid hpi
        rw [hpi]
        have hgz : p ≤ 1000 := by omega
        clear ht hq g4 g6 f2 f3 f1 hp hpi
        go_wp2_with (at_builtin; refine wpList_append_own _ rfl (.tmp 39) (.tmp 44) 22 rfl w2.heap.size 34 j0 (.agg #[.string ⟨#[]⟩, .slice none 0 0]) 2 40 Try.underlying22 hj hy0 hy1 hy2 rfl (by decide) _ _ _ rfl (HT.out.own.alloc _) ⟨wr.heap.size, 0, none⟩ 1 1 [.string (str q.name), .slice Ae q.e.length ce] rfl rfl ?a1 ?b1 ?c1 ?d1 ?e1 ?_)
        case a1 => exact World.news_of_block (cs := #[.string (str q.name), .slice Ae q.e.length ce]) (t := 34) (fr := (0, 0)) (heap_alloc_new _ _)
        case b1 => intro u hu; simp at hu; rcases hu with rfl | rfl <;> rfl
        case c1 => unfold maxLen; omega
        case d1 => omega
        case e1 => simp; omega
        intro v' w3 hown3 hgrow3 _
        have HT3 := Lib.hid (HT.out.next HQ.out HEV.out hown3 hgrow3)
        obtain ⟨A8, c8, rfl⟩ : ∃ A c, v' = .slice A (k + 1) c := by
          obtain ⟨-, h1 | ⟨g, cap, cur, e, -⟩⟩ := hown3
          · omega
          · exact ⟨_, _, e⟩
        have hwp := HPI.out
        clear hown3 hgrow3
        go_wp2
        refine ⟨⟨k + 1, _, A8, k + 1, c8, by omega, rfl, by first | rfl | (congr 1; omega), HT3.out⟩, by simp [intOf] <;> omega⟩
      · obtain rfl : k = l.length := by omega
        have HER := Lib.hid (ht.all HSH.out)
        have HB3 := Lib.hid (HB2.out.trans (ht.below.mono HB2.out.size))
        have HV3 := Lib.hid (HV2.out.below ht.below)
        have hm1 : (l.length : Int) - 1 - (l.length : Int) = -1 := by omega
        rw [hm1]
        clear ht hm1
        go_wp2_with fail
        refine (ord_err HER.out (by rw [List.length_reverse]; omega) HZR.out).mono ?_
        rintro r w4 ⟨Ap, np, cp, rfl, hb4⟩
        have HB4 := Lib.hid (HB3.out.trans (hb4.mono HB3.out.size))
        have HV4 := Lib.hid ((HV3.out.below hb4).take hml)
        clear hb4
        go_wp2_with fail
        refine (ord_err HV4.out (by rw [List.length_take]; omega) HY.out).mono ?_
        rintro r w5 ⟨Aq, nq, cq, rfl, hb5⟩
        have HB5 := Lib.hid (HB4.out.trans (hb5.mono HB4.out.size))
        clear hb5
        rcases hz2 with rfl | rfl
        · obtain rfl : y = 0 := HYZ.out rfl
          go_wp2_with fail
          refine (live_end HB5.out).mono ?_
          rintro r w9 ⟨rfl, hb9⟩
          go_wp2
          go_ret
          exact ⟨rfl, hb9⟩
        · go_wp2_with fail
          refine (live_end HB5.out).mono ?_
          rintro r w9 ⟨rfl, hb9⟩
          go_wp2
          go_ret
          exact ⟨rfl, hb9⟩
end Go.Proofs.Ytlhcajhgbkgjbaa.causeTurned
