/- CauseFree: the walk. Conditions: none. -/
import Derived.Test.YtlhcajhgbkgjbaaRa18
set_option linter.unusedVariables false
set_option linter.unusedSimpArgs false
namespace Go.Proofs.Ytlhcajhgbkgjbaa.causeFree
open Go.ChangeShapes Go.WideShapes Go.ChangeAt Go.RowKit Go.Proofs.Ytlhcajhgbkgjbaa.Tr
open Go.Proofs.Ytlhcajhgbkgjbaa.Ca
open Go.Proofs.Ytlhcajhgbkgjbaa.Pg (Eqn)
set_option maxRecDepth 100000 in
set_option maxHeartbeats 8000000 in
theorem walk (w : World) (v : Value) (l : List Eqn) (hr : Op.RowN 2 Op.EqnN w l v) : Calls Try.prog 6 #[v] w fun r w' => r = .returned (.bool true) ∧ Below w.heap.size w w' := by
  have hv := EqsAt.of_rowN hr
  have HV := Lib.hid hv
  obtain ⟨A, c, rfl, h1, h2, -⟩ := hv
  unfold maxLen at h2
  clear hr
  go_enter Try.func6, Try.ntmps6
  go_wp2_with fail
  refine (few_any _ l w HV.out).mono ?_
  rintro r w1 ⟨b, rfl, hb40, rfl⟩
  cases b with
  | false =>
    go_wp2_with fail
    refine (live_any _).mono ?_
    rintro r w9 ⟨rfl, hb9⟩
    go_wp2
    go_ret
    exact ⟨rfl, hb9⟩
  | true =>
    have hl40 := hb40 rfl
    have HQL := Lib.hid (qs_len l)
    clear hb40
    go_wp2
    go_loopw [3] (fun vi wr => ∃ i : Nat, i ≤ l.length ∧ vi = .int .i64 (i : Int) ∧ Below w.heap.size w wr ∧ ∀ i', i' < i → ∀ s ∈ ndQ (qsOf l) i', ∀ j, j < l.length → nmQ (qsOf l) j ≠ s) (fun vi _ => l.length - (intOf vi).toNat)
    case atStart => exact ⟨0, Nat.zero_le _, rfl, Below.refl _ _, fun i' h => by omega⟩
    case round =>
      obtain ⟨i, hi, rfl, hb, hno⟩ := hrel
      have HB := Lib.hid hb
      have HNO := Lib.hid hno
      have HVR := Lib.hid (HV.out.below hb)
      clear hb hno
      by_cases hlt : i < l.length
      · obtain ⟨q, hqk⟩ : ∃ q, l[i]? = some q := ⟨_, List.getElem?_eq_getElem hlt⟩
        obtain ⟨gq, oq, ev, rfl, g1, g2, g3, g4, g5, g6⟩ := eqs_at HVR.out hqk
        have HND := Lib.hid (qs_at hqk).2
        have HEV := Lib.hid g4
        have HSH := Lib.hid g6
        obtain ⟨Ae, ce, rfl, z1, z2, -⟩ := g4
        clear hqk g6
        go_wp2_with fail
        refine (needs_any _ q.e _ HEV.out HSH.out).mono ?_
        rintro r w2 ⟨nv, rfl, hno2, hb2⟩
        have HB2 := Lib.hid (HB.out.trans (hb2.mono HB.out.size))
        have HS2 := Lib.hid (Strs.of_own hno2)
        have hlen := needs_len q.e
        obtain ⟨An, cn, rfl, n1, n2, -⟩ := HS2.out
        unfold maxLen at n2
        clear hno2 hb2
        go_wp2
        go_loopw [5] (fun vk wr => ∃ k : Nat, k ≤ (needsM q.e).length ∧ vk = .int .i64 (k : Int) ∧ Below w.heap.size w wr ∧ Below w2.heap.size w2 wr ∧ ∀ k', k' < k → ∀ s, (needsM q.e)[k']? = some s → ∀ j, j < l.length → nmQ (qsOf l) j ≠ s) (fun vk _ => (needsM q.e).length - (intOf vk).toNat)
        case atStart => exact ⟨0, Nat.zero_le _, rfl, HB2.out, Below.refl _ _, fun k' h => by omega⟩
        case round =>
          obtain ⟨k, hk, rfl, hb, hbw, hno⟩ := hrel
          have HB3 := Lib.hid hb
          have HBW := Lib.hid hbw
          have HNK := Lib.hid hno
          clear hb hbw hno
          by_cases hkl : k < (needsM q.e).length
          · obtain ⟨s, hs⟩ : ∃ s, (needsM q.e)[k]? = some s := ⟨_, List.getElem?_eq_getElem hkl⟩
            have HS := Lib.hid hs
            clear hs
            go_wp2
            go_loopw [6] (fun vj wr => ∃ j : Nat, j ≤ l.length ∧ vj = .int .i64 (j : Int) ∧ Below w.heap.size w wr ∧ Below w2.heap.size w2 wr ∧ ∀ j', j' < j → nmQ (qsOf l) j' ≠ s) (fun vj _ => l.length - (intOf vj).toNat)
            case atStart => exact ⟨0, Nat.zero_le _, rfl, HB3.out, HBW.out, fun j' h => by omega⟩
            case round =>
              obtain ⟨j, hj, rfl, hb, hbw, hno⟩ := hrel
              have HB4 := Lib.hid hb
              have HBW4 := Lib.hid hbw
              have HNJ := Lib.hid hno
              by_cases hjl : j < l.length
              · obtain ⟨q2, hq2⟩ : ∃ q, l[j]? = some q := ⟨_, List.getElem?_eq_getElem hjl⟩
                obtain ⟨gj, oj, ej, ej0, d1, d2, -, -, d5, -⟩ := eqs_at (HV.out.below hb) hq2
                simp only [Option.some.injEq, Addr.mk.injEq, and_true] at ej0
                obtain ⟨rfl, rfl⟩ := ej0
                obtain ⟨A4, c4, e4, -, -, hA4⟩ := HS2.out.below hbw (Nat.le_refl _)
                simp only [Value.slice.injEq, true_and] at e4
                obtain ⟨rfl, rfl⟩ := e4
                obtain ⟨g4, o4, rfl, hg4, d0⟩ := hA4 k s HS.out
                have hnm := (qs_at hq2).1
                obtain ⟨be, hbe⟩ : ∃ b, (q2.name == s) = b := ⟨_, rfl⟩
                have hse : ((str q2.name).toList == (str s).toList) = be := by rw [str_beq]; exact hbe
                have HNM := Lib.hid hnm
                have HBE := Lib.hid hbe
                clear hb hbw hno hq2 hA4 hnm hbe
                cases be with
                | true =>
                  go_wp2_with fail
                  go_region
                  all_goals
                    go_wp2_with fail
                    refine (live_any _).mono ?_
                    rintro r w9 ⟨rfl, hb9⟩
                    go_wp2
                    go_ret
                    exact ⟨rfl, HB4.out.drew.trans (hb9.mono (by have := HB4.out.size; simp; omega))⟩
                | false =>
                  have HN2 : Hid (∀ j', j' < j + 1 → nmQ (qsOf l) j' ≠ s) := Lib.hid (fun j' hj' => by
                    by_cases e : j' = j
                    · subst e; rw [HNM.out]; have := HBE.out; simpa using this
                    · exact HNJ.out j' (by omega))
                  go_wp2_with fail
                  go_region
                  all_goals
                    go_wp2
                    exact ⟨⟨j + 1, by omega, by go_num, HB4.out.drew, HBW4.out.drew, HN2.out⟩, by simp [intOf]; omega⟩
              · have HN3 : Hid (∀ k', k' < k + 1 → ∀ s, (needsM q.e)[k']? = some s → ∀ j, j < l.length → nmQ (qsOf l) j ≠ s) := Lib.hid (fun k' hk' s' hs' j' hj' => by
                  by_cases e : k' = k
                  · subst e
                    rw [HS.out] at hs'; injection hs' with hs'; subst hs'
                    exact hno j' (by omega)
                  · exact HNK.out k' (by omega) s' hs' j' hj')
                clear hb hbw hno
                go_wp2
                exact ⟨⟨k + 1, by omega, by go_num, HB4.out, HBW4.out, HN3.out⟩, by simp [intOf]; omega⟩
          · have HN4 : Hid (∀ i', i' < i + 1 → ∀ s ∈ ndQ (qsOf l) i', ∀ j, j < l.length → nmQ (qsOf l) j ≠ s) := Lib.hid (fun i' hi' s hs j hj => by
              by_cases e : i' = i
              · subst e
                rw [HND.out] at hs
                obtain ⟨k', hk', ek⟩ := List.mem_iff_getElem.1 hs
                exact HNK.out k' (by omega) s (by rw [List.getElem?_eq_getElem hk', ek]) j hj
              · exact HNO.out i' (by omega) s hs j hj)
            go_wp2
            exact ⟨⟨i + 1, by omega, by go_num, HB3.out, HN4.out⟩, by simp [intOf]; omega⟩
      · have HRE : Hid (orderM (qsOf l) = some (List.range l.length)) := Lib.hid (by
          have := order_free (qsOf l) (fun i' hi' s hs j hj => HNO.out i' (by rw [HQL.out] at hi'; omega) s hs j (by rw [HQL.out] at hj; exact hj))
          rw [HQL.out] at this; exact this)
        go_wp2_with fail
        refine (ord_lit HVR.out (by omega) HRE.out).mono ?_
        rintro r w3 ⟨hb3, ov, rfl, ho3⟩
        have HB3 := Lib.hid (HB.out.trans (hb3.mono HB.out.size))
        have hol : (natI (List.range l.length)).length = l.length := by unfold natI; simp
        rw [List.length_range] at ho3
        have HO3 := Lib.hid (Ints.of_own (l := natI (List.range l.length)) (by rw [hol]; exact ho3))
        obtain ⟨Ao, co, rfl, o1, o2, -⟩ := HO3.out
        rw [hol] at o1
        have HOL := Lib.hid hol
        rw [hol] at HO3
        unfold maxLen at o2
        clear hb3 ho3
        rw [HOL.out]
        clear hol
        go_wp2
        go_loopw [9] (fun vk wr => ∃ k : Nat, k ≤ l.length ∧ vk = .int .i64 (k : Int) ∧ wr = w3) (fun vk _ => l.length - (intOf vk).toNat)
        case atStart => exact ⟨0, Nat.zero_le _, rfl, rfl⟩
        case round =>
          obtain ⟨k, hk, rfl, rfl⟩ := hrel
          by_cases hkl : k < l.length
          · obtain ⟨A4, c4, e4, -, -, hA4⟩ := HO3.out
            simp only [Value.slice.injEq] at e4
            obtain ⟨rfl, -, rfl⟩ := e4
            obtain ⟨g4, o4, rfl, hg4, d0⟩ := hA4 k (k : Int) (by unfold natI; rw [List.getElem?_map, List.getElem?_range hkl]; rfl)
            have hne : ((k : Int) != (k : Int)) = false := by simp
            clear hA4
            go_wp2
            exact ⟨⟨k + 1, by omega, by go_num, by first | rfl | trivial⟩, by simp [intOf]; omega⟩
          · have hkk : k = l.length := by omega
            subst hkk
            go_wp2_with fail
            refine (live_any _).mono ?_
            rintro r w9 ⟨rfl, hb9⟩
            go_wp2
            go_ret
            exact ⟨rfl, HB3.out.trans (hb9.mono HB3.out.size)⟩
end Go.Proofs.Ytlhcajhgbkgjbaa.causeFree
