/- CauseBehind: the walk. Conditions: none. -/
import Derived.Test.YtlhcajhgbkgjbaaRa19
set_option linter.unusedVariables false
set_option linter.unusedSimpArgs false
namespace Go.Proofs.Ytlhcajhgbkgjbaa.causeBehind
open Go.ChangeShapes Go.WideShapes Go.ChangeAt Go.RowKit Go.Proofs.Ytlhcajhgbkgjbaa.Tr
open Go.Proofs.Ytlhcajhgbkgjbaa.Ca
open Go.Proofs.Ytlhcajhgbkgjbaa.Pg (Eqn)
set_option linter.unusedVariables false
set_option linter.unusedSimpArgs false

/-- Where numbers stand, as far as they are told: one more than the place, or 0. -/
def plL (N : Nat) (o : List Nat) : Nat → List Int
  | 0 => List.replicate N 0
  | m + 1 => (plL N o m).set (o.getD m 0) ((m : Int) + 1)
theorem pl_len (N : Nat) (o : List Nat) : ∀ m, (plL N o m).length = N := by
  intro m
  induction m with
  | zero => simp [plL]
  | succ m ih => simp [plL, ih]
theorem pl_get {N : Nat} {o : List Nat} (hn : o.Nodup) (ho : ∀ j ∈ o, j < N) : ∀ m, m ≤ o.length → ∀ j, j < N → ∃ x : Int, (plL N o m)[j]? = some x ∧ ((∃ k, k < m ∧ o[k]? = some j ∧ x = (k : Int) + 1) ∨ (x = 0 ∧ ∀ k, k < m → o[k]? ≠ some j)) := by
  intro m
  induction m with
  | zero => intro _ j hj; exact ⟨0, by simp [plL, hj], .inr ⟨rfl, fun k hk => by omega⟩⟩
  | succ m ih =>
    intro hm j hj
    obtain ⟨x, h1, h2⟩ := ih (by omega) j hj
    obtain ⟨a, ha⟩ : ∃ a, o[m]? = some a := ⟨_, List.getElem?_eq_getElem (by omega)⟩
    have hg : o.getD m 0 = a := by simp [List.getD, ha]
    have haN := ho a (List.mem_of_getElem? ha)
    show ∃ x, ((plL N o m).set (o.getD m 0) ((m : Int) + 1))[j]? = some x ∧ _
    rw [hg, List.getElem?_set, pl_len]
    by_cases e : a = j
    · subst e
      exact ⟨(m : Int) + 1, by rw [if_pos rfl, if_pos haN], .inl ⟨m, by omega, ha, rfl⟩⟩
    · refine ⟨x, by rw [if_neg e]; exact h1, ?_⟩
      rcases h2 with ⟨k, hk, hok, hx⟩ | ⟨hx, hno⟩
      · exact .inl ⟨k, by omega, hok, hx⟩
      · refine .inr ⟨hx, fun k hk => ?_⟩
        by_cases ek : k = m
        · subst ek; rw [ha]; intro e2; injection e2 with e2; exact e e2
        · exact hno k (by omega)
/-- Where all are told. -/
theorem pl_all {Q : Qs} {o : List Nat} (h : orderM Q = some o) {i : Nat} (hi : i < Q.length) : ∃ k : Nat, (plL Q.length o Q.length)[i]? = some ((k : Int) + 1) ∧ o[k]? = some i := by
  obtain ⟨hv, hl⟩ := order_valid h
  obtain ⟨x, h1, h2⟩ := pl_get hv.nodup hv.lt Q.length (by omega) i hi
  rcases h2 with ⟨k, hk, hok, hx⟩ | ⟨hx, hno⟩
  · exact ⟨k, by rw [h1, hx], hok⟩
  · obtain ⟨k, hk, e⟩ := List.mem_iff_getElem.1 (full_mem hv.nodup hv.lt (by omega) i hi)
    exact absurd (by rw [List.getElem?_eq_getElem hk, e]) (hno k (by omega))
theorem pl_behind {Q : Qs} {o : List Nat} (h : orderM Q = some o) {i j : Nat} {s : Bytes} (hi : i < Q.length) (hj : j < Q.length) (hs : s ∈ ndQ Q i) (hn : nmQ Q j = s) : ∃ a b : Nat, (plL Q.length o Q.length)[i]? = some ((a : Int) + 1) ∧ (plL Q.length o Q.length)[j]? = some ((b : Int) + 1) ∧ b < a := by
  obtain ⟨hv, hl⟩ := order_valid h
  obtain ⟨a, h1, h2⟩ := pl_all h hi
  obtain ⟨b, h3, h4⟩ := pl_all h hj
  refine ⟨a, b, h1, h3, ?_⟩
  have hm := hv.behind a i h2 s hs j hj hn
  obtain ⟨c, hc, e⟩ := List.mem_iff_getElem.1 hm
  have hca : c < a := by simp at hc; omega
  have : o[c]? = some j := by rw [← e, List.getElem_take]; exact List.getElem?_eq_getElem _
  have := nodup_get hv.nodup this h4
  omega
set_option maxRecDepth 100000 in
set_option maxHeartbeats 8000000 in
theorem walk (w : World) (v : Value) (l : List Eqn) (hr : Op.RowN 2 Op.EqnN w l v) : Calls Try.prog 3 #[v] w fun r w' => r = .returned (.bool true) ∧ Below w.heap.size w w' := by
  have hv := EqsAt.of_rowN hr
  have HV := Lib.hid hv
  obtain ⟨A, c, rfl, h1, h2, -⟩ := hv
  unfold maxLen at h2
  obtain ⟨j0, hjj, hy0, hy1, hy2⟩ := info_parts info3
  clear hr
  go_enter Try.func3, Try.ntmps3
  go_wp2_with fail
  refine (few_any _ l w HV.out).mono ?_
  rintro r w1 ⟨b, rfl, hb40, rfl⟩
  cases b with
  | false =>
    go_wp2_with fail
    refine (live_any _).mono ?_
    rintro r w9 ⟨rfl, hb9⟩
    go_wp2
    go_ret
    exact ⟨rfl, hb9⟩
  | true =>
    have hl40 := hb40 rfl
    have HQL := Lib.hid (qs_len l)
    clear hb40
    obtain ⟨O, hO⟩ : ∃ O, orderM (qsOf l) = O := ⟨_, rfl⟩
    have HO := Lib.hid hO
    clear hO
    cases O with
    | none =>
      go_wp2_with fail
      refine (ord_lit HV.out (by omega) HO.out).mono ?_
      rintro r w2 ⟨hb2, he⟩
      have he : r = .returned (.tuple #[.slice none 0 0, .int .i64 12]) := he
      subst he
      have HB2 := Lib.hid hb2
      clear hb2
      go_wp2_with fail
      refine (live_any _).mono ?_
      rintro r w9 ⟨rfl, hb9⟩
      go_wp2
      go_ret
      exact ⟨rfl, HB2.out.trans (hb9.mono HB2.out.size)⟩
    | some o =>
      have HVD := Lib.hid (order_valid HO.out)
      have hol : o.length = l.length := by rw [HVD.out.2, HQL.out]
      go_wp2_with fail
      refine (ord_lit HV.out (by omega) HO.out).mono ?_
      rintro r w2 ⟨hb2, ov, rfl, ho2⟩
      have HB2 := Lib.hid hb2
      have hnl : (natI o).length = l.length := by unfold natI; rw [List.length_map]; exact hol
      have hI2 := Ints.of_own (l := natI o) (by rw [hnl, ← hol]; exact ho2)
      obtain ⟨Ao, co, rfl, o1, o2, -⟩ := hI2
      have HI2 := Lib.hid (Ints.of_own (l := natI o) (by rw [hnl, ← hol]; exact ho2))
      rw [hnl] at HI2 o1
      unfold maxLen at o2
      rw [hnl]
      have hne0 : ((l.length : Int) != (l.length : Int)) = false := by simp
      clear hb2 ho2 hnl hol
      go_wp2_with (at_make; refine wpList_make_full _ rfl _ _ 25 rfl w2.heap.size 3 j0 _ 1 Try.underlying25 hjj hy0 hy1 _ _ _ _ l.length rfl rfl rfl rfl (by rw [hy2]; omega) (by unfold maxLen; omega) (Nat.le_refl _) ?_)
      intro w3 hown hgrow
      have hb3 : Below w2.heap.size w2 w3 := (Below.refl _ _).grown hgrow (Nat.le_refl _) (fun k hk => by simp at hk)
      have HP0 : Hid (w3.ownsRow w2.heap.size 3 1 (.slice (some ⟨w2.heap.size, 0, none⟩) l.length l.length) l.length (intsOf (plL l.length o 0))) := Lib.hid (by
        show w3.ownsRow _ _ _ _ _ (intsOf (List.replicate l.length 0))
        rw [← made_ints]; exact hown)
      have HB3 := Lib.hid hb3
      clear hown hgrow hb3
      go_wp2
      go_loopw [6] (fun vi wr => ∃ m : Nat, m ≤ l.length ∧ vi = .int .i64 (m : Int) ∧ wr.ownsRow w2.heap.size 3 1 (.slice (some ⟨w2.heap.size, 0, none⟩) l.length l.length) l.length (intsOf (plL l.length o m)) ∧ Below w2.heap.size w2 wr) (fun vi _ => l.length - (intOf vi).toNat)
      case atStart => exact ⟨0, Nat.zero_le _, rfl, HP0.out, HB3.out⟩
      case round =>
        obtain ⟨m, hm, rfl, hown, hb⟩ := hrel
        have HB4 := Lib.hid hb
        have HOW := Lib.hid hown
        have hgl := (hown.lt _ rfl).2
        by_cases hml : m < l.length
        · obtain ⟨j, hj⟩ : ∃ j, o[m]? = some j := ⟨_, List.getElem?_eq_getElem (by rw [HVD.out.2, HQL.out]; exact hml)⟩
          have hjl : j < l.length := by have := HVD.out.1.lt j (List.mem_of_getElem? hj); rw [HQL.out] at this; exact this
          obtain ⟨A4, c4, e4, -, -, hA4⟩ := HI2.out.below hb (Nat.le_refl _)
          simp only [Value.slice.injEq] at e4
          obtain ⟨rfl, -, rfl⟩ := e4
          obtain ⟨g4, o4, rfl, hg4, d0⟩ := hA4 m (j : Int) (by unfold natI; rw [List.getElem?_map, hj]; rfl)
          have hg2 : g4 < w2.heap.size := by
            obtain ⟨A5, c5, e5, -, -, hA5⟩ := HI2.out
            simp only [Value.slice.injEq] at e5
            obtain ⟨e5, -, -⟩ := e5
            obtain ⟨g5, o5, e6, hg5, -⟩ := hA5 m (j : Int) (by unfold natI; rw [List.getElem?_map, hj]; rfl)
            rw [← e5] at e6
            simp only [Option.some.injEq, Addr.mk.injEq] at e6
            rw [e6.1]; exact hg5
          have hp0 : (plL l.length o m)[j]? = some 0 := by
            obtain ⟨x, h1, h2⟩ := pl_get HVD.out.1.nodup (fun j hj => by have := HVD.out.1.lt j hj; rw [HQL.out] at this; exact this) m (by rw [HVD.out.2, HQL.out]; exact hm) j hjl
            rcases h2 with ⟨k, hk, hok, hx⟩ | ⟨hx, hno⟩
            · have := nodup_get HVD.out.1.nodup hok hj; omega
            · rw [h1, hx]
          have cj := (hown.cellAt j (by omega)).trans (intsOf_get _ j _ hp0)
          have fj := hown.frozenAt j
          have hdn : ¬ ((l.length : Int) ≤ (j : Int)) := by omega
          have hgne : g4 ≠ w2.heap.size := by omega
          have HN : Hid ((wr.setCell ⟨w2.heap.size, j, none⟩ (.int .i64 ((m : Int) + 1))).ownsRow w2.heap.size 3 1 (.slice (some ⟨w2.heap.size, 0, none⟩) l.length l.length) l.length (intsOf (plL l.length o (m + 1)))) := Lib.hid (by
            show World.ownsRow _ _ _ _ _ _ (intsOf ((plL l.length o m).set (o.getD m 0) ((m : Int) + 1)))
            rw [show o.getD m 0 = j by simp [List.getD, hj], intsOf_set]
            exact (hown.stored j (.int .i64 ((m : Int) + 1))).1)
          clear hown hb hj hA4 hp0
          go_wp2
          exact ⟨⟨m + 1, by omega, by go_num, HN.out, HB4.out.setCell (p := ⟨w2.heap.size, j, none⟩) (Nat.le_refl _) _⟩, by simp [intOf]; omega⟩
        · obtain rfl : m = l.length := by omega
          obtain ⟨wP, hwP⟩ : ∃ W, W = wr := ⟨_, rfl⟩
          subst hwP
          have HBW := Lib.hid (HB2.out.trans (HB4.out.mono HB2.out.size))
          clear hown hb
          go_wp2
          go_loopw [7] (fun vi wr => ∃ i : Nat, i ≤ l.length ∧ vi = .int .i64 (i : Int) ∧ Below wP.heap.size wP wr) (fun vi _ => l.length - (intOf vi).toNat)
          case atStart => exact ⟨0, Nat.zero_le _, rfl, Below.refl _ _⟩
          case round =>
            obtain ⟨i, hi, rfl, hb⟩ := hrel
            have HB5 := Lib.hid hb
            have HB5w := Lib.hid (HBW.out.trans (hb.mono HBW.out.size))
            have HV5 := Lib.hid (HV.out.below HB5w.out)
            clear hb
            by_cases hil : i < l.length
            · obtain ⟨q, hqk⟩ : ∃ q, l[i]? = some q := ⟨_, List.getElem?_eq_getElem hil⟩
              obtain ⟨gq, oq, ev, rfl, g1, g2, g3, g4, g5, g6⟩ := eqs_at HV5.out hqk
              have HND := Lib.hid (qs_at hqk).2
              have HEV := Lib.hid g4
              have HSH := Lib.hid g6
              obtain ⟨Ae, ce, rfl, z1, z2, -⟩ := g4
              clear hqk g6
              go_wp2_with fail
              refine (needs_any _ q.e _ HEV.out HSH.out).mono ?_
              rintro r w6 ⟨nv, rfl, hno2, hb6⟩
              have HB6 := Lib.hid (HB5.out.trans (hb6.mono HB5.out.size))
              have HS6 := Lib.hid (Strs.of_own hno2)
              have hlen := needs_len q.e
              obtain ⟨An, cn, rfl, n1, n2, -⟩ := HS6.out
              unfold maxLen at n2
              clear hno2 hb6
              go_wp2
              go_loopw [9] (fun vk wr => ∃ k : Nat, k ≤ (needsM q.e).length ∧ vk = .int .i64 (k : Int) ∧ Below wP.heap.size wP wr ∧ Below w6.heap.size w6 wr) (fun vk _ => (needsM q.e).length - (intOf vk).toNat)
              case atStart => exact ⟨0, Nat.zero_le _, rfl, HB6.out, Below.refl _ _⟩
              case round =>
                obtain ⟨k, hk, rfl, hb, hbw⟩ := hrel
                have HB7 := Lib.hid hb
                have HBW7 := Lib.hid hbw
                clear hb hbw
                by_cases hkl : k < (needsM q.e).length
                · obtain ⟨s, hs⟩ : ∃ s, (needsM q.e)[k]? = some s := ⟨_, List.getElem?_eq_getElem hkl⟩
                  have HS := Lib.hid hs
                  have HSM : Hid (s ∈ ndQ (qsOf l) i) := Lib.hid (by rw [HND.out]; exact List.mem_of_getElem? hs)
                  clear hs
                  go_wp2
                  go_loopw [10] (fun vj wr => ∃ j : Nat, j ≤ l.length ∧ vj = .int .i64 (j : Int) ∧ Below wP.heap.size wP wr ∧ Below w6.heap.size w6 wr) (fun vj _ => l.length - (intOf vj).toNat)
                  case atStart => exact ⟨0, Nat.zero_le _, rfl, HB7.out, HBW7.out⟩
                  case round =>
                    obtain ⟨j, hj, rfl, hb, hbw⟩ := hrel
                    have HB8 := Lib.hid hb
                    have HBW8 := Lib.hid hbw
                    by_cases hjl : j < l.length
                    · obtain ⟨q2, hq2⟩ : ∃ q, l[j]? = some q := ⟨_, List.getElem?_eq_getElem hjl⟩
                      obtain ⟨gj, oj, ej, ej0, d1, d2, -, -, d5, -⟩ := eqs_at (HV.out.below (HBW.out.trans (hb.mono HBW.out.size))) hq2
                      simp only [Option.some.injEq, Addr.mk.injEq, and_true] at ej0
                      obtain ⟨rfl, rfl⟩ := ej0
                      obtain ⟨A4, c4, e4, -, -, hA4⟩ := HS6.out.below hbw (Nat.le_refl _)
                      simp only [Value.slice.injEq, true_and] at e4
                      obtain ⟨rfl, rfl⟩ := e4
                      obtain ⟨g4, o4, rfl, hg4, d0⟩ := hA4 k s HS.out
                      have hnm := (qs_at hq2).1
                      have hown := own_below HOW.out hb
                      have hgl8 := (hown.lt _ rfl).2
                      obtain ⟨be, hbe⟩ : ∃ b, (q2.name == s) = b := ⟨_, rfl⟩
                      have hse : ((str q2.name).toList == (str s).toList) = be := by rw [str_beq]; exact hbe
                      cases be with
                      | true =>
                        have hsn : nmQ (qsOf l) j = s := by rw [hnm]; simpa using hbe
                        obtain ⟨a, b, p1, p2, p3⟩ := pl_behind HO.out (by rw [HQL.out]; exact hil) (by rw [HQL.out]; exact hjl) HSM.out hsn
                        rw [HQL.out] at p1 p2
                        have ci := (hown.cellAt i (by omega)).trans (intsOf_get _ i _ p1)
                        have cj := (hown.cellAt j (by omega)).trans (intsOf_get _ j _ p2)
                        have hdp : ¬ ((a : Int) + 1 ≤ (b : Int) + 1) := by omega
                        have hdq : ¬ ((a : Int) ≤ (b : Int)) := by omega
                        have hdr : ¬ (a ≤ b) := by omega
                        clear hb hbw hq2 hA4 hnm hbe hown p1 p2 p3 hsn
                        go_wp2_with fail
                        go_region
                        all_goals
                          go_wp2
                          exact ⟨⟨j + 1, by omega, by go_num, HB8.out.drew, HBW8.out.drew⟩, by simp [intOf]; omega⟩
                      | false =>
                        clear hb hbw hq2 hA4 hnm hbe hown
                        go_wp2_with fail
                        go_region
                        all_goals
                          go_wp2
                          exact ⟨⟨j + 1, by omega, by go_num, HB8.out.drew, HBW8.out.drew⟩, by simp [intOf]; omega⟩
                    · clear hb hbw
                      go_wp2
                      exact ⟨⟨k + 1, by omega, by go_num, HB8.out, HBW8.out⟩, by simp [intOf]; omega⟩
                · go_wp2
                  exact ⟨⟨i + 1, by omega, by go_num, HB7.out⟩, by simp [intOf]; omega⟩
            · go_wp2_with fail
              refine (live_any _).mono ?_
              rintro r w9 ⟨rfl, hb9⟩
              go_wp2
              go_ret
              exact ⟨rfl, HB5w.out.trans (hb9.mono HB5w.out.size)⟩
end Go.Proofs.Ytlhcajhgbkgjbaa.causeBehind
