/- SchedBehind: the walk. Conditions: none. -/
import Derived.Test.YtlilpdflnjepeaaNtLv
import Derived.Test.YtlilpdflnjepeaaNtE
namespace Go.Proofs.Ytlilpdflnjepeaa.Nt
open Go.ChangeShapes Go.WideShapes Go.ChangeAt Go.RowKit Go.Proofs.Ytlilpdflnjepeaa.Tr
set_option linter.unusedVariables false
set_option linter.unusedSimpArgs false

/-- The places, from one, of the first m that are taken. -/
def plM (o : List Nat) (n m : Nat) : List Int := (List.range n).map fun j => if j ∈ o.take m then (newOf o j : Int) + 1 else 0
theorem pl_len (o : List Nat) (n m : Nat) : (plM o n m).length = n := by unfold plM; simp
theorem pl_zero (o : List Nat) (n : Nat) : plM o n 0 = List.replicate n 0 := by
  unfold plM
  refine List.ext_getElem? (fun j => ?_)
  rw [List.getElem?_map, List.getElem?_replicate]
  by_cases hj : j < n
  · rw [List.getElem?_range hj, if_pos hj]; simp
  · rw [List.getElem?_eq_none (by simpa using hj), if_neg hj]; rfl
theorem new_at {o : List Nat} {m j : Nat} (hnd : o.Nodup) (hj : o[m]? = some j) : newOf o j = m := by
  have hm := List.mem_of_getElem? hj
  have h1 := List.idxOf_lt_length_of_mem hm
  have e : o[o.idxOf j]? = some j := by rw [List.getElem?_eq_getElem h1, List.getElem_idxOf]
  exact nodup_get hnd (x := j) e hj
theorem pl_set {o : List Nat} {n m j : Nat} (hnd : o.Nodup) (hj : o[m]? = some j) : (plM o n m).set j ((m : Int) + 1) = plM o n (m + 1) := by
  refine List.ext_getElem? (fun k => ?_)
  rw [List.getElem?_set, pl_len]
  unfold plM
  rw [List.getElem?_map, List.getElem?_map]
  by_cases hk : k < n
  · rw [List.getElem?_range hk]
    by_cases e : j = k
    · subst e
      have hn : newOf o j = m := new_at hnd hj
      rw [if_pos rfl, if_pos hk]
      simp [List.take_add_one, hj, hn]
    · rw [if_neg e]
      have : (k ∈ o.take (m + 1)) ↔ k ∈ o.take m := by
        rw [List.take_add_one, hj, List.mem_append]; simp; exact fun h => absurd h.symm e
      simp only [Option.map_some, this]
  · rw [List.getElem?_eq_none (by simpa using hk)]
    by_cases e : j = k
    · rw [if_pos e, if_neg (by omega)]; rfl
    · rw [if_neg e]; rfl
theorem pl_get {o : List Nat} {n j : Nat} (hj : j < n) (hm : j ∈ o) : (plM o n o.length)[j]? = some ((newOf o j : Int) + 1) := by
  unfold plM
  rw [List.getElem?_map, List.getElem?_range hj, List.take_length]; simp [hm]
theorem pl_new {o : List Nat} {n m j : Nat} (hnd : o.Nodup) (hjn : j < n) (hj : o[m]? = some j) : (plM o n m)[j]? = some 0 := by
  unfold plM
  rw [List.getElem?_map, List.getElem?_range hjn]
  have : j ∉ o.take m := fun h => by
    obtain ⟨p, hp, e⟩ := List.mem_iff_getElem.1 h
    rw [List.length_take] at hp
    rw [List.getElem_take] at e
    have hp2 : o[p]? = some j := by rw [List.getElem?_eq_getElem (by omega)]; congr 1
    have h1 := new_at hnd hp2
    have h2 := new_at hnd hj
    omega
  simp [this]
/-- What an operator needs stands ahead of it. -/
theorem ahead {N : Net} (h : checkN N = 0) {i : Nat} (hi : i < N.ops.length) {y : Int} (hy : y ∈ needI (opAt N i)) : ∃ j : Nat, y = (j : Int) ∧ j < N.ops.length ∧ newOf (orderN N) j < newOf (orderN N) i := by
  have hf := need_flds (may_at (check_ok.1 h).1 hi) y hy
  obtain ⟨j, rfl⟩ : ∃ j : Nat, y = (j : Int) := ⟨y.toNat, by omega⟩
  refine ⟨j, rfl, by omega, ?_⟩
  obtain ⟨m, hm⟩ := List.getElem?_of_mem (order_mem h hi)
  have hnd := (taken_valid (grN N)).nodup
  have hb := (taken_valid (grN N)).behind m i hm j (List.mem_map.2 ⟨_, hy, by simp⟩)
  obtain ⟨p, hp, e⟩ := List.mem_iff_getElem.1 hb
  rw [List.length_take] at hp
  rw [List.getElem_take] at e
  have hp2 : p < (orderN N).length := by show p < (takenG (grN N)).length; omega
  have h1 : (orderN N)[p]? = some j := by rw [List.getElem?_eq_getElem hp2]; congr 1
  have e1 : newOf (orderN N) j = p := new_at hnd h1
  have e2 : newOf (orderN N) i = m := new_at hnd hm
  omega
theorem first_is {N : Net} (h0 : 0 < N.ops.length) (hn : needI (opAt N 0) = []) : newOf (orderN N) 0 = 0 := by
  obtain ⟨r, hr⟩ := order_zero h0 (by unfold ndN; rw [hn]; rfl)
  unfold newOf
  rw [hr]; simp
set_option maxRecDepth 100000 in
set_option maxHeartbeats 8000000 in
theorem behind_walk (w : World) (ov rv iv : Value) (N : Net) (h : NetR w ov rv iv N) : Calls Try.prog 6 #[.agg #[ov, rv, iv]] w (fun e w' => e = .returned (.bool true) ∧ Below w.heap.size w w') := by
  obtain ⟨i0, hi0, hz0, hz1, hz2⟩ := info_parts info3
  have HH := Lib.hid h
  obtain ⟨A, c, rfl, z1, z2⟩ := h.1.form
  obtain ⟨A2, c2, rfl, z3, z4⟩ := ints_form h.2.1
  obtain ⟨A3, c3, rfl, z5, z6⟩ := ints_form h.2.2
  obtain ⟨n, hn⟩ : ∃ n, N.ops.length = n := ⟨_, rfl⟩
  obtain ⟨nr, hnr⟩ : ∃ n, N.roots.length = n := ⟨_, rfl⟩
  obtain ⟨ni, hni⟩ : ∃ n, N.ins.length = n := ⟨_, rfl⟩
  rw [hn, hnr, hni] at HH ⊢
  rw [hn] at z1
  rw [hnr] at z3
  rw [hni] at z5
  have HN := Lib.hid hn
  have HNR := Lib.hid hnr
  have HNI := Lib.hid hni
  unfold maxLen at z2 z4 z6
  obtain ⟨x, hx⟩ : ∃ W, w.alloc (.cells #[.slice A n c, .slice A2 nr c2, .slice A3 ni c3] 25) = W := ⟨_, rfl⟩
  have HX := Lib.hid hx
  have HBX : Hid (Below w.heap.size w x) := Lib.hid (by rw [← hx]; exact below_new _ _)
  have HXX : Hid (NetBox x w.heap.size 25 (.slice A n c) (.slice A2 nr c2) (.slice A3 ni c3)) := Lib.hid (by rw [← hx]; exact box_new _ _ _ _ _)
  have HNX := Lib.hid (HH.out.below HBX.out (Nat.le_refl _))
  obtain ⟨p0, p1, p2⟩ := HXX.out.ats
  clear h hx hn hnr hni
  go_enter Try.func6, Try.ntmps6
  go_wp2_with fail
  rw [HX.out]
  refine (dsmall_any x _ _ _ N HNX.out).mono ?_
  rintro e w1 ⟨b, rfl, hb300, hb1⟩
  have HB1 := Lib.hid hb1
  clear hb1
  cases b with
  | false =>
    clear hb300
    go_wp2_with fail
    refine (live_any _).mono ?_
    rintro e w9 ⟨rfl, hb9⟩
    go_wp2
    go_ret
    exact ⟨rfl, HBX.out.trans ((HB1.out.trans (hb9.mono HB1.out.size)).mono HBX.out.size)⟩
  | true =>
    obtain ⟨n3, r3, i3⟩ := hb300 rfl
    rw [HN.out] at n3
    rw [HNR.out] at r3
    rw [HNI.out] at i3
    have HN1 := Lib.hid (HNX.out.below HB1.out (Nat.le_refl _))
    have HX1 := Lib.hid (HXX.out.below HB1.out HXX.out.lt)
    obtain ⟨q0, q1, q2⟩ := HX1.out.ats
    clear hb300 p0 p1 p2
    go_wp2_with fail
    refine (own_any w1 _ _ _ N HN1.out (by rw [HN.out]; omega)).mono ?_
    rintro e w2 ⟨ov2, rfl, ho2, hb2⟩
    have HB2 : Hid (Below x.heap.size x w2) := Lib.hid (HB1.out.trans (hb2.mono HB1.out.size))
    have HN2 : Hid (NetR w2 ov2 (.slice A2 nr c2) (.slice A3 ni c3) N) := Lib.hid ⟨ho2, HN1.out.2.1.below hb2 (Nat.le_refl _), HN1.out.2.2.below hb2 (Nat.le_refl _)⟩
    clear ho2 hb2
    go_wp2_with fail
    refine (sorder_any w2 _ _ _ N HN2.out (by rw [HN.out]; omega) (by rw [HNI.out]; omega)).mono ?_
    obtain ⟨C, hC⟩ : ∃ C, checkN N = C := ⟨_, rfl⟩
    have HC := Lib.hid hC
    rintro e w3 ⟨hb3, ⟨hc, rfl⟩ | ⟨hc, v, rfl, ho⟩⟩
    · have HB3 : Hid (Below x.heap.size x w3) := Lib.hid (HB2.out.trans (hb3.mono HB2.out.size))
      rw [hC] at hc ⊢
      have hne : (C != 0) = true := by simpa using hc
      clear hb3 hC
      go_wp2_with fail
      refine (live_any _).mono ?_
      rintro e w9 ⟨rfl, hb9⟩
      go_wp2
      go_ret
      exact ⟨rfl, HBX.out.trans ((HB3.out.trans (hb9.mono HB3.out.size)).mono HBX.out.size)⟩
    · have HB3 : Hid (Below x.heap.size x w3) := Lib.hid (HB2.out.trans (hb3.mono HB2.out.size))
      have HCN := Lib.hid hc
      have HOL : Hid ((orderN N).length = n) := Lib.hid ((order_len hc).trans HN.out)
      rw [HOL.out] at ho
      have HV : Hid (Ints w3 v (natI (orderN N))) := Lib.hid (Ints.of_own (b := w2.heap.size) (by rw [show (natI (orderN N)).length = n by unfold natI; simp; exact HOL.out]; exact ho))
      obtain ⟨oA, oc, rfl, ol1, ol2⟩ : ∃ A c, v = .slice A n c ∧ n ≤ c ∧ c ≤ maxLen := by
        obtain ⟨A, c, e, h1, h2⟩ := ints_form HV.out
        rw [show (natI (orderN N)).length = n by unfold natI; simp; exact HOL.out] at e h1
        exact ⟨A, c, e, h1, h2⟩
      unfold maxLen at ol2
      have HX3 := Lib.hid (HXX.out.below HB3.out HXX.out.lt)
      obtain ⟨t0, t1, t2⟩ := HX3.out.ats
      have hmk := run_make_row' (P := Try.prog) 23 3 (.int .i64 0) 8 Try.underlying23 info3 rfl .i64 .i64 n (by omega) (by omega)
      have HT0 : Hid (∀ W, W = w3.alloc (.cells (madeCells #[.int .i64 0] n) 3) → W.ownsRow w3.heap.size 3 1 (.slice (some ⟨w3.heap.size, 0, none⟩) n n) n (intsOf (plM (orderN N) n 0)) ∧ Below w3.heap.size w3 W) := Lib.hid (fun W hW => by
        have := heap_alloc_new w3 (.cells (madeCells #[.int .i64 0] n) 3)
        rw [← hW] at this
        refine ⟨own_at (xs := intsOf (plM (orderN N) n 0)) ?_ (Nat.le_refl _) (by unfold intsOf; rw [List.length_map, pl_len]) (by unfold maxLen; omega), by rw [hW]; exact below_new _ _⟩
        rw [pl_zero, ← made_row]; exact this)
      have HON : Hid (∀ m j, (orderN N)[m]? = some j → j < n) := Lib.hid (fun m j hj => by rw [← HN.out]; exact order_lt (List.mem_of_getElem? hj))
      have hs3 : x.heap.size ≤ w3.heap.size := HB3.out.size
      clear hb3 hC hc ho q0 q1 q2
      go_wp2_with fail
      go_loopw [6] (fun vi wr => ∃ i : Nat, i ≤ n ∧ vi = .int .i64 (i : Int) ∧ wr.ownsRow w3.heap.size 3 1 (.slice (some ⟨w3.heap.size, 0, none⟩) n n) n (intsOf (plM (orderN N) n i)) ∧ Below w3.heap.size w3 wr) (fun vi _ => n - (intOf vi).toNat)
      case atStart => exact ⟨0, Nat.zero_le _, rfl, (HT0.out _ rfl).1, (HT0.out _ rfl).2⟩
      case round =>
        obtain ⟨i, hi, rfl, ht, hb⟩ := hrel
        have HT := Lib.hid ht
        have HB := Lib.hid hb
        obtain ⟨y0, y1, y2⟩ := (HX3.out.below hb HX3.out.lt).ats
        clear ht hb
        by_cases hin : i < n
        · obtain ⟨j, hj⟩ : ∃ j, (orderN N)[i]? = some j := ⟨_, List.getElem?_eq_getElem (by rw [HOL.out]; exact hin)⟩
          have hjn := HON.out i j hj
          have hj2 : (natI (orderN N))[i]? = some (j : Int) := by unfold natI; rw [List.getElem?_map, hj]; rfl
          obtain ⟨g, o, rfl, hg, e0⟩ := ints_at (HV.out.below HB.out (Nat.le_refl _)) hj2
          have hnd := (taken_valid (grN N)).nodup
          have ct := (HT.out.cellAt j (by omega)).trans (intsOf_get _ j _ (pl_new hnd hjn hj))
          have ft := HT.out.frozenAt j
          have hst := (HT.out.stored j (.int .i64 ((i : Int) + 1))).1
          rw [← intsOf_set, pl_set (o := orderN N) hnd hj] at hst
          have HST := Lib.hid hst
          have HBS : Hid (Below w3.heap.size w3 (wr.setCell ⟨w3.heap.size, j, none⟩ (.int .i64 ((i : Int) + 1)))) := Lib.hid (HB.out.setCell (p := ⟨w3.heap.size, j, none⟩) (Nat.le_refl _) _)
          have hjz : ¬ ((j : Int) < 0) := by omega
          have hjz2 : ¬ ((n : Int) ≤ (j : Int)) := by omega
          clear hj hj2 hst hnd
          go_wp2_with fail
          exact ⟨⟨i + 1, by omega, by go_num, HST.out, HBS.out⟩, by simp [intOf]; omega⟩
        · have hie : i = n := by omega
          subst hie
          have HP : Hid (Ints wr (.slice (some ⟨w3.heap.size, 0, none⟩) i i) (plM (orderN N) i i)) := Lib.hid (Ints.of_own (b := w3.heap.size) (by rw [pl_len]; exact HT.out))
          have HBr : Hid (Below x.heap.size x wr) := Lib.hid (HB3.out.trans (HB.out.mono hs3))
          clear y0 y1 y2
          obtain ⟨wm, hwm⟩ : ∃ W, W = wr := ⟨_, rfl⟩
          subst hwm
          go_wp2_with fail
          go_loopw [7] (fun vi wr => ∃ k : Nat, k ≤ i ∧ vi = .int .i64 (k : Int) ∧ Below wm.heap.size wm wr) (fun vi _ => i - (intOf vi).toNat)
          case atStart => exact ⟨0, Nat.zero_le _, rfl, Below.refl _ _⟩
          case round =>
            obtain ⟨k, hk, rfl, hb⟩ := hrel
            have HBk := Lib.hid hb
            have HBxk : Hid (Below x.heap.size x wr) := Lib.hid (HBr.out.trans (hb.mono HBr.out.size))
            obtain ⟨y0, y1, y2⟩ := (HXX.out.below HBxk.out HXX.out.lt).ats
            clear hb
            by_cases hki : k < i
            · have hxx := op_get (N := N) (i := k) (by rw [HN.out]; exact hki)
              obtain ⟨g2, o2, rfl, hg2, d0, d1, d2, d3, d4⟩ := (HNX.out.below HBxk.out (Nat.le_refl _)).1.at hxx
              have HOP := Lib.hid (dOpds_any wr (opAt N k) (may_flds (may_at (check_ok.1 HCN.out).1 (by rw [HN.out]; exact hki))).1)
              have HAH : Hid (∀ y ∈ needI (opAt N k), ∃ j : Nat, y = (j : Int) ∧ j < i ∧ newOf (orderN N) j < newOf (orderN N) k) := Lib.hid (fun y hy => by
                have := ahead HCN.out (by rw [HN.out]; exact hki) hy
                rw [HN.out] at this; exact this)
              have HPK : Hid (∀ j, j < i → (plM (orderN N) i i)[j]? = some ((newOf (orderN N) j : Int) + 1)) := Lib.hid (fun j hj => by
                have := pl_get (o := orderN N) hj (order_mem HCN.out (by rw [HN.out]; exact hj))
                rw [HOL.out] at this; exact this)
              have HFI : Hid (k = 0 → needI (opAt N k) = [] → newOf (orderN N) k = 0) := Lib.hid (fun h0 hn => by
                subst h0
                exact first_is (by rw [HN.out]; exact hki) hn)
              obtain ⟨L, hL⟩ : ∃ L, needI (opAt N k) = L := ⟨_, rfl⟩
              unfold NeedPost at HOP
              rw [hL] at HOP HAH HFI
              obtain ⟨xx, hxx2⟩ : ∃ x, opAt N k = x := ⟨_, rfl⟩
              rw [hxx2] at d0 d1 d2 d3 d4 HOP
              obtain ⟨xo, xa, xb, xc, xn⟩ := xx
              dsimp only at d0 d1 d2 d3 d4
              unfold opV at HOP
              dsimp only at HOP
              clear hxx hL hxx2
              go_wp2_with fail
              refine HOP.out.mono ?_
              rintro e w5 ⟨vl, rfl, hil, hb5, -⟩
              have HIL := Lib.hid hil
              have HB5 : Hid (Below wm.heap.size wm w5) := Lib.hid (HBk.out.trans (hb5.mono HBk.out.size))
              obtain ⟨lA, lc, rfl, l1, l2⟩ := ints_form hil
              obtain ⟨nl, hnl⟩ : ∃ m, L.length = m := ⟨_, rfl⟩
              have HNL := Lib.hid hnl
              rw [hnl] at HIL l1 ⊢
              unfold maxLen at l2
              clear hil hb5 hnl y0 y1 y2 d0 d1 d2 d3 d4
              go_wp2_with fail
              go_loopw [9] (fun vq wr => ∃ q : Nat, q ≤ nl ∧ vq = .int .i64 (q : Int) ∧ ∃ m, wr = w5.drewN m) (fun vq _ => nl - (intOf vq).toNat)
              case atStart => exact ⟨0, Nat.zero_le _, rfl, 0, rfl⟩
              case round =>
                obtain ⟨q, hq, rfl, m, hwr⟩ := hrel
                have HBQ : Hid (Below wm.heap.size wm wr) := Lib.hid (by rw [hwr]; exact below_drewN HB5.out m)
                have HILq : Hid (Ints wr (.slice lA nl lc) L) := Lib.hid (by rw [hwr]; exact HIL.out.drewN m)
                have HPq := Lib.hid (HP.out.below HBQ.out (Nat.le_refl _))
                obtain ⟨g3, o3, eg3, -, ek⟩ := ints_at HPq.out (HPK.out k hki)
                simp only [Option.some.injEq, Addr.mk.injEq, and_true] at eg3
                obtain ⟨rfl, rfl⟩ := eg3
                rw [Nat.zero_add] at ek
                obtain ⟨pk, hpk⟩ : ∃ p, newOf (orderN N) k = p := ⟨_, rfl⟩
                rw [hpk] at ek
                by_cases hql : q < nl
                · obtain ⟨y, hy⟩ : ∃ y, L[q]? = some y := ⟨_, List.getElem?_eq_getElem (by rw [HNL.out]; exact hql)⟩
                  obtain ⟨j, rfl, hji, hjk⟩ := HAH.out y (List.mem_of_getElem? hy)
                  obtain ⟨g4, o4, rfl, hg4, el⟩ := ints_at HILq.out hy
                  obtain ⟨g5, o5, eg5, -, ej⟩ := ints_at HPq.out (HPK.out j hji)
                  simp only [Option.some.injEq, Addr.mk.injEq, and_true] at eg5
                  obtain ⟨rfl, rfl⟩ := eg5
                  rw [Nat.zero_add] at ej
                  rw [hpk] at hjk
                  obtain ⟨pj, hpj⟩ : ∃ p, newOf (orderN N) j = p := ⟨_, rfl⟩
                  rw [hpj] at ej hjk
                  have hle : ¬ ((pk : Int) + 1 ≤ (pj : Int) + 1) := by omega
                  have HWR : Hid (∃ m, wr = w5.drewN m) := Lib.hid ⟨m, hwr⟩
                  clear hy hpk hpj hwr
                  go_wp2_with fail
                  go_quiet (fail)
                  go_wp2_with fail
                  exact ⟨⟨q + 1, by omega, by go_num, by
                    obtain ⟨m, hm⟩ := HWR.out
                    rw [hm]; exact ⟨_, World.drewN_drewN _ _ _⟩⟩, by simp [intOf]; omega⟩
                · have hqe : q = nl := by omega
                  subst hqe
                  clear hwr
                  by_cases hk0 : k = 0
                  · subst hk0
                    by_cases hq0 : q = 0
                    · subst hq0
                      have hp0 : pk = 0 := by rw [← hpk]; exact HFI.out rfl (List.length_eq_zero_iff.1 HNL.out)
                      subst hp0
                      clear hpk
                      simp only [Int.natCast_zero, Int.zero_add] at ek
                      go_wp2_with fail
                      exact ⟨⟨1, by omega, rfl, HBQ.out⟩, by simp [intOf]; omega⟩
                    · clear hpk
                      go_wp2_with fail
                      exact ⟨⟨1, by omega, rfl, HBQ.out⟩, by simp [intOf]; omega⟩
                  · clear hpk
                    go_wp2_with fail
                    exact ⟨⟨k + 1, by omega, by go_num, HBQ.out⟩, by simp [intOf]; omega⟩
            · have hke : k = i := by omega
              subst hke
              go_wp2_with fail
              refine (live_any _).mono ?_
              rintro e w9 ⟨rfl, hb9⟩
              go_wp2
              go_ret
              exact ⟨rfl, HBX.out.trans ((HBxk.out.trans (hb9.mono HBxk.out.size)).mono HBX.out.size)⟩
end Go.Proofs.Ytlilpdflnjepeaa.Nt
