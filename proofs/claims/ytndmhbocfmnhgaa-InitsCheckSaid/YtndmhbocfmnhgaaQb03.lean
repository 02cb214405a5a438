/- The program's Of for layer inits returns what the plain function returns. Conditions: the slice is read as a list of nodes. -/
import Derived.Test.YtndmhbocfmnhgaaQb02
import Derived.Test.YtndmhbocfmnhgaaPq17
namespace Go.Proofs.Ytndmhbocfmnhgaa.In
open Go.ChangeShapes Go.WideShapes Go.ChangeAt Go.RowKit Go.Proofs.Ytndmhbocfmnhgaa.Tr
set_option linter.unusedVariables false
set_option linter.unusedSimpArgs false

abbrev ndC (x : Nd) : Array Value := #[.int .i64 x.op, .int .i64 x.a, .int .i64 x.b, .int .i64 x.c, .int .i64 x.n, .string (str x.name)]
theorem one_int {w : World} {G : Nat} (hG : w.heap.size = G) (q : Int) : Ints (w.alloc (.cells #[.int .i64 q] 3)) (.slice (some ⟨G, 0, none⟩) 1 1) [q] := by
  subst hG
  refine ⟨some ⟨w.heap.size, 0, none⟩, 1, rfl, by simp, by unfold maxLen; omega, fun i x hx => ?_⟩
  match i, hx with
  | 0, hx =>
    simp at hx; subst hx
    exact ⟨w.heap.size, 0, rfl, by simp, by unfold World.cell?; rw [heap_alloc_new]; rfl⟩
  | i + 1, hx => simp at hx
theorem may_ok (v : Value) (e : List Nd) (b : Bool) (w : World) (hv : Nodes w v e) (h : mayB e = b) : Calls Try.prog 22 #[v] w fun r w' => r = .returned (.bool b) ∧ Below w.heap.size w w' := by rw [← h]; exact may_any v e w hv
set_option maxRecDepth 100000 in
set_option maxHeartbeats 16000000 in
theorem of_any (v : Value) (e : List Nd) (w : World) (hv : Nodes w v e) : Calls Try.prog 10 #[v] w (NodePost w (ofM e)) := by
  have HV := Lib.hid hv
  obtain ⟨A, c, rfl, h1, h2, hA⟩ := hv
  unfold maxLen at h2
  have hmf : ∀ (fn : Fn) (first cap : Array Value) (w : World), (Instr.makeFunc fn first cap).run Try.prog w = .ok (.func fn first cap) w := fun _ _ _ _ => rfl
  obtain ⟨i0, hi, hz0, hz1, hz2⟩ := info_parts info3
  obtain ⟨B, hB⟩ : ∃ B, mayB e = B := ⟨_, rfl⟩
  have HM := Lib.hid hB
  clear hA hB
  cases B with
  | false =>
    have HE := Lib.hid (ofM_not HM.out)
    rw [HE.out]
    go_enter Try.func10, Try.ntmps10
    go_wp2_with fail
    refine (may_ok _ e false _ HV.out HM.out).mono ?_
    rintro r w1 ⟨rfl, hb1⟩
    have HB1 := Lib.hid hb1
    clear hb1
    go_wp2
    go_ret2
    exact ⟨rfl, HB1.out⟩
  | true =>
    have hmay := may_of HM.out
    have hn := hmay.le
    have hp := hmay.pos
    have HAH := Lib.hid hmay.ahead
    clear hmay
    obtain ⟨R, hR⟩ : ∃ R, ofM e = R := ⟨_, rfl⟩
    have HR := Lib.hid hR
    rw [hR]
    clear hR
    go_enter Try.func10, Try.ntmps10
    go_wp2_with fail
    refine (may_ok _ e true _ HV.out HM.out).mono ?_
    rintro r w1 ⟨rfl, hb1⟩
    have HB1 := Lib.hid hb1
    have HV1 := Lib.hid (HV.out.below hb1 (Nat.le_refl _))
    clear hb1
    go_wp2_with (at_make; refine wpList_make_full _ rfl _ _ 48 rfl w1.heap.size 3 i0 _ 1 Try.underlying48 hi hz0 hz1 _ _ _ _ e.length rfl rfl rfl rfl (by rw [hz2]; omega) (by unfold maxLen; omega) (Nat.le_refl _) ?_)
    intro w2 hown hgrow
    have hb2 : Below w1.heap.size w1 w2 := (Below.refl _ _).grown hgrow (Nat.le_refl _) (fun k hk => by simp at hk)
    have hown0 : w2.ownsRow w1.heap.size 3 1 (.slice (some ⟨w1.heap.size, 0, none⟩) e.length e.length) e.length (intsOf (List.replicate e.length 0)) := by
      rw [← made_ints]; exact hown
    have hz : w1.heap.size < w2.heap.size := (hown0.lt _ rfl).2
    have N3 := Lib.hid (show Below w2.heap.size w2 ((w2.alloc (.cells #[.slice (some ⟨w1.heap.size, 0, none⟩) e.length e.length] 48)).alloc (.cells #[.bool false] 4)) from ((Below.refl _ _).alloc (Nat.le_refl _) _).alloc (by simp) _)
    have HS3 : Hid (InS e w1 ((w2.alloc (.cells #[.slice (some ⟨w1.heap.size, 0, none⟩) e.length e.length] 48)).alloc (.cells #[.bool false] 4)) w1.heap.size w2.heap.size (w2.heap.size + 1) (List.replicate e.length 0) false) := Lib.hid
      ⟨own_below hown0 N3.out, by rw [Below.heap_alloc _ _ _ (by simp)]; exact heap_alloc_new _ _, Ex.new_blk (by simp), hb2.trans (N3.out.mono hb2.size), Nat.le_refl _, by omega, by omega, by omega, by omega⟩
    obtain ⟨FB, hFB⟩ : ∃ FB, w2.heap.size = FB := ⟨_, rfl⟩
    clear hown hgrow hown0 hb2 N3
    go_wp2
    rw [hFB] at HS3
    go_loopw [20] (fun i wr => ∃ (k : Nat) (L : List Int) (E : Bool), k ≤ e.length ∧ i = .int .i64 k ∧ InS e w1 wr w1.heap.size FB (FB + 1) L E ∧ Rel e k L E) (fun i _ => e.length - (intOf i).toNat)
    case atStart => exact ⟨0, _, false, Nat.zero_le _, rfl, HS3.out, Rel.start e⟩
    case round =>
      obtain ⟨k, L, E, hk, rfl, his, hrl⟩ := hrel
      have HIS := Lib.hid his
      have HRL := Lib.hid hrl
      have hLl := hrl.len
      by_cases hlt : k < e.length
      · obtain ⟨x, hx⟩ : ∃ x, e[k]? = some x := ⟨_, List.getElem?_eq_getElem hlt⟩
        have HX := Lib.hid hx
        have HK := Lib.hid (HAH.out k x hx)
        obtain ⟨A', c', hv', -, -, hA'⟩ := HV1.out.below his.low (Nat.le_refl _)
        simp only [Value.slice.injEq, true_and] at hv'
        obtain ⟨rfl, rfl⟩ := hv'
        obtain ⟨g, o, rfl, hg, a0, a1, a2, a3, a4, a5⟩ := hA' k x hx
        have hIN := Lib.hid (his.below (below_new wr (.cells (ndC x) 40)))
        have hNB := Lib.hid (heap_alloc_new wr (.cells (ndC x) 40))
        have hEl := lt_of_block his.eb
        have hFl := lt_of_block his.fb
        have hBl := (his.own.lt _ rfl).2
        clear his hrl hx hA'
        by_cases h21 : x.op = 21
        · have hkk : kidsM x = [x.a] := kids_unary x (by rw [h21]; decide)
          have hxa := HK.out x.a (by rw [hkk]; simp)
          obtain ⟨op, a, b, cc, n, nm⟩ := x
          simp only at h21 hkk hxa
          subst h21
          have HI2 := Lib.hid (hIN.out.below (below_new (wr.alloc (.cells (ndC ⟨21, a, b, cc, n, nm⟩) 40)) (.cells #[.int .i64 a] 3)))
          have HC := Lib.hid (HI2.out.call hLl (by unfold maxLen; omega) (one_int (w := wr.alloc (.cells (ndC ⟨21, a, b, cc, n, nm⟩) 40)) (G := wr.heap.size + 1) (by simp) a) (by simp) (fun q hq => by simp at hq; subst hq; exact ⟨hxa.1, by omega⟩) (fun g o n c e => by simp at e; omega))
          have HN := Lib.hid (rel_21 HAH.out HX.out HRL.out rfl)
          simp only [hkk] at HN
          go_wp2_with fail
          refine HC.out.mono ?_
          rintro r w3 ⟨rfl, his3, hg3⟩
          have HI3 := Lib.hid (his3.set k hlt 1)
          have c3 : w3.cell? ⟨FB, 0, none⟩ = some (.slice (some ⟨w1.heap.size, 0, none⟩) e.length e.length) := by simp [World.cell?, his3.fb]
          have c1 := (his3.own.cellAt k (by omega)).trans (intsOf_get _ k _ (HRL.out.rest k (Nat.le_refl _) hlt))
          have f1 := his3.own.frozenAt k
          clear his3 hg3
          go_wp2
          refine ⟨⟨k + 1, _, _, by omega, by go_num, HI3.out, HN.out⟩, by simp [intOf]; omega⟩
        have b21 : (x.op == 21) = false := by simpa using h21
        by_cases h19 : x.op = 19
        · have hkk : kidsM x = [x.a, x.b] := kidsM_bin x (by rw [h19]; decide)
          have hxa := HK.out x.a (by rw [hkk]; simp)
          obtain ⟨op, a, b, cc, n, nm⟩ := x
          simp only at h19 hkk hxa
          subst h19
          have HI2 := Lib.hid (hIN.out.below (below_new (wr.alloc (.cells (ndC ⟨19, a, b, cc, n, nm⟩) 40)) (.cells #[.int .i64 a] 3)))
          have HC := Lib.hid (HI2.out.call hLl (by unfold maxLen; omega) (one_int (w := wr.alloc (.cells (ndC ⟨19, a, b, cc, n, nm⟩) 40)) (G := wr.heap.size + 1) (by simp) a) (by simp) (fun q hq => by simp at hq; subst hq; exact ⟨hxa.1, by omega⟩) (fun g o n c e => by simp at e; omega))
          have HN := Lib.hid (rel_19 HAH.out HX.out HRL.out rfl)
          go_wp2_with fail
          refine HC.out.mono ?_
          rintro r w3 ⟨rfl, his3, hg3⟩
          have HI3 := Lib.hid his3
          clear his3 hg3
          go_wp2
          refine ⟨⟨k + 1, _, _, by omega, by go_num, HI3.out, HN.out⟩, by simp [intOf]; omega⟩
        have b19 : (x.op == 19) = false := by simpa using h19
        have HKC := Lib.hid (kids_any x (wr.alloc (.cells (ndC x) 40)))
        have hKl : (kidsM x).length ≤ 3 := kids_small x
        obtain ⟨KL, hKL⟩ : ∃ K, kidsM x = K := ⟨_, rfl⟩
        by_cases hall : allB x.op = true
        · have HN := Lib.hid (rel_all HAH.out HX.out HRL.out h21 h19 hall)
          rw [hKL] at HK HN HKC hKl
          have hops : x.op = 27 ∨ x.op = 20 ∨ x.op = 22 ∨ x.op = 23 ∨ x.op = 24 ∨ x.op = 25 := by unfold allB at hall; simp at hall; omega
          obtain ⟨op, a, b, cc, n, nm⟩ := x
          simp only at hops
          clear h21 h19 hall b21 b19
          rcases hops with rfl | rfl | rfl | rfl | rfl | rfl
          all_goals
            go_wp2_with fail
            refine HKC.out.mono ?_
            rintro r w3 ⟨kv, rfl, hok, hb3⟩
            have HI3 := Lib.hid (hIN.out.below hb3)
            have hkE : ∀ g o n c, kv = .slice (some ⟨g, o, none⟩) n c → g ≠ FB + 1 := fun g o n c e => by
              have := hok.lt g (by rw [e]; rfl)
              simp at this; omega
            have HC := Lib.hid (HI3.out.call hLl (by unfold maxLen; omega) (Ints.of_own hok) (by omega) (fun q hq => ⟨(HK.out q hq).1, by have := HK.out q hq; omega⟩) hkE)
            obtain ⟨A2, c2, rfl, -, -, -⟩ := Ints.of_own hok
            clear hok hb3 hkE
            go_wp2_with fail
            refine HC.out.mono ?_
            rintro r w4 ⟨rfl, his4, hg4⟩
            have HI4 := Lib.hid his4
            clear his4 hg4
            go_wp2
            refine ⟨⟨k + 1, _, _, by omega, by go_num, HI4.out, HN.out⟩, by simp [intOf]; omega⟩
        · have hall' : allB x.op = false := by simpa using hall
          have HN := Lib.hid (rel_else HAH.out HX.out HRL.out h21 h19 hall')
          rw [hKL] at HK HN HKC hKl
          unfold allB at hall'
          simp only [Bool.or_eq_false_iff] at hall'
          obtain ⟨⟨⟨⟨⟨b20, b22⟩, b23⟩, b24⟩, b25⟩, b27⟩ := hall'
          clear h21 h19 hall hKL
          go_wp2_with fail
          refine HKC.out.mono ?_
          rintro r w3 ⟨kv, rfl, hok, hb3⟩
          have HI3 := Lib.hid (hIN.out.below hb3)
          obtain ⟨A2, c2, rfl, y1, y2, hA2⟩ := Ints.of_own hok
          have HA2 := Lib.hid hA2
          have HKO := Lib.hid (show ∀ g2 o2, A2 = some ⟨g2, o2, none⟩ → w1.heap.size ≠ g2 from fun g2 o2 h => by subst h; have := hok.lt g2 rfl; simp at this; omega)
          have hs0 : L.set k (mxL L KL 0) = L := by
            have := HRL.out.rest k (Nat.le_refl _) hlt
            apply List.ext_getElem? ; intro i
            by_cases hi : k = i
            · subst hi; rw [List.getElem?_set_self (by rw [hLl]; exact hlt), this]; rfl
            · rw [List.getElem?_set_ne hi]
          have HS0 := Lib.hid hs0
          clear hok hA2 hb3 hs0
          unfold maxLen at y2
          go_wp2
          go_loopw [30] (fun c wq => ∃ j : Nat, j ≤ KL.length ∧ c = .int .i64 j ∧ InS e w1 wq w1.heap.size FB (FB + 1) (L.set k (mxL L KL j)) E ∧ w3.heap.size ≤ wq.heap.size ∧ Hid (∀ p : Addr, p.block ≠ w1.heap.size → wq.cell? p = w3.cell? p)) (fun c _ => KL.length - (intOf c).toNat)
          case atStart => exact ⟨0, Nat.zero_le _, rfl, by rw [HS0.out]; exact HI3.out, Nat.le_refl _, fun _ _ => rfl⟩
          case round =>
            obtain ⟨j, hj, rfl, his4, hz4, hk4⟩ := hrel
            have HI4 := Lib.hid his4
            have c3 : wr.cell? ⟨FB, 0, none⟩ = some (.slice (some ⟨w1.heap.size, 0, none⟩) e.length e.length) := by simp [World.cell?, his4.fb]
            have hlen4 : (L.set k (mxL L KL j)).length = e.length := by rw [List.length_set]; exact hLl
            by_cases hlj : j < KL.length
            · obtain ⟨q, hq⟩ : ∃ q, KL[j]? = some q := ⟨_, List.getElem?_eq_getElem hlj⟩
              obtain ⟨g2, o2, rfl, hg2, d0'⟩ := HA2.out j q hq
              have hgb := HKO.out g2 o2 rfl
              have d0 := (hk4.out ⟨g2, o2 + j, none⟩ (by simp; omega)).trans d0'
              have hg2' : g2 < wr.heap.size := by omega
              have hqk := HK.out q (List.mem_of_getElem? hq)
              have HNX := Lib.hid (mxL_next (L := L) hq)
              obtain ⟨m, rfl⟩ := Int.eq_ofNat_of_zero_le hqk.1
              have hmk : m < k := by omega
              have hml : m < e.length := by omega
              obtain ⟨vm, hvm⟩ : ∃ vm, L[m]? = some vm := ⟨_, List.getElem?_eq_getElem (by omega)⟩
              have hgd : L.getD m 0 = vm := by simp [List.getD, hvm]
              simp only [Int.toNat_natCast] at HNX
              rw [hgd] at HNX
              have c1 := (his4.own.cellAt k (by omega)).trans (intsOf_get _ k (mxL L KL j) (by rw [List.getElem?_set_self (by rw [hLl]; exact hlt)]))
              have f1 := his4.own.frozenAt k
              have c2 := (his4.own.cellAt m (by omega)).trans (intsOf_get _ m vm (by rw [List.getElem?_set_ne (by omega)]; exact hvm))
              obtain ⟨dj, hdj⟩ : ∃ dj, mxL L KL j = dj := ⟨_, rfl⟩
              have HI5 := Lib.hid (his4.set k hlt (if dj < vm then vm else dj))
              rw [List.set_set] at HI5
              rw [hdj] at c1 HNX
              have HKW := Lib.hid hk4.out
              clear his4 hq hvm hgd hdj d0' hk4
              go_wp2
              go_region
              go_wp2
              refine ⟨⟨j + 1, by omega, by go_num, ?_, by simpa [World.setCell] using hz4, fun p hp => ?_⟩, by simp [intOf]; omega⟩
              · rw [HNX.out]
                exact HI5.out.below (Tr.below_drewN (n := 1) (Below.refl _ _))
              · exact (World.cell?_setCell_other _ _ _ _ (fun h => hp (by rw [← h]))).trans (HKW.out p hp)
            · have hjl : j = KL.length := by omega
              subst hjl
              clear his4 hk4
              go_wp2
              refine ⟨⟨k + 1, _, E, by omega, by go_num, HI4.out, HN.out⟩, by simp [intOf]; omega⟩
      · have hkl : k = e.length := by omega
        subst hkl
        have c3 : wr.cell? ⟨FB, 0, none⟩ = some (.slice (some ⟨w1.heap.size, 0, none⟩) e.length e.length) := by simp [World.cell?, his.fb]
        have c4 : wr.cell? ⟨FB + 1, 0, none⟩ = some (.bool E) := by simp [World.cell?, his.eb]
        cases E with
        | true =>
          have HE : Hid (R = (0, 11)) := Lib.hid (by rw [← HR.out]; exact ofM_bad HM.out (Nat.le_refl _) hrl)
          clear his hrl
          go_wp2
          go_ret2
          exact ⟨ret2 HE.out, HB1.out.trans (HIS.out.low.mono HB1.out.size)⟩
        | false =>
          obtain ⟨u, hu⟩ : ∃ u, L[e.length - 1]? = some u := ⟨_, List.getElem?_eq_getElem (by omega)⟩
          have c1 := (his.own.cellAt (e.length - 1) (by omega)).trans (intsOf_get _ _ _ hu)
          have HE : Hid (R = (u, 0)) := Lib.hid (by rw [← HR.out]; exact ofM_good HM.out hrl hu)
          have e2 : (e.length : Int) - 1 = ((e.length - 1 : Nat) : Int) := by omega
          clear his hrl hu
          go_wp2
          go_ret2
          exact ⟨ret2 HE.out, HB1.out.trans (HIS.out.low.mono HB1.out.size)⟩
end Go.Proofs.Ytndmhbocfmnhgaa.In

