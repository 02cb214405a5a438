/- The function Join puts expressions together under an operator. Conditions: the slices are read as lists; what is put together is not too long. -/
import Derived.Test.YtmggedjolocgdaaTreeCa
namespace Go.Proofs.Ytmggedjolocgdaa.Tr
open Go.ChangeShapes Go.WideShapes Go.ChangeAt Go.RowKit
set_option linter.unusedVariables false
set_option linter.unusedSimpArgs false

/-- The nodes of the parts, one behind the other, and where each one's last node stands. -/
def layStep (s : List Nd × List Int) (p : List Nd) : List Nd × List Int := (behindM s.1 p, s.2 ++ [((behindM s.1 p).length : Int) - 1])
def layF (ls : List (List Nd)) : List Nd × List Int := ls.foldl layStep ([], [])
theorem layF_next (ls : List (List Nd)) (k : Nat) (p : List Nd) (h : ls[k]? = some p) : layF (ls.take (k + 1)) = layStep (layF (ls.take k)) p := by
  unfold layF; rw [List.take_add_one, h, show (some p).toList = [p] from rfl, List.foldl_append]; rfl
theorem layF_lens (ls : List (List Nd)) : (layF ls).1.length = (ls.map List.length).sum ∧ (layF ls).2.length = ls.length := by
  have key : ∀ (ls : List (List Nd)) (s : List Nd × List Int), (ls.foldl layStep s).1.length = s.1.length + (ls.map List.length).sum ∧ (ls.foldl layStep s).2.length = s.2.length + ls.length := by
    intro ls
    induction ls with
    | nil => intro s; simp
    | cons p r ih =>
      intro s
      rw [List.foldl_cons]
      obtain ⟨h1, h2⟩ := ih (layStep s p)
      rw [h1, h2]
      unfold layStep
      rw [behind_len]
      simp; omega
  have := key ls ([], [])
  unfold layF; simpa using this
/-- How many nodes parts have, with one more for each. -/
def roomM (ls : List (List Nd)) : Nat := (ls.map (fun p => p.length + 1)).sum
theorem room_sum (ls : List (List Nd)) : roomM ls = (ls.map List.length).sum + ls.length := by
  unfold roomM
  induction ls with
  | nil => rfl
  | cons p r ih => rw [List.map_cons, List.sum_cons, ih, List.map_cons, List.sum_cons, List.length_cons]; omega
theorem sum_take (ls : List (List Nd)) (k : Nat) : ((ls.take k).map List.length).sum ≤ (ls.map List.length).sum := by
  conv => rhs; rw [← List.take_append_drop k ls]
  rw [List.map_append, List.sum_append]; omega
theorem sum_next (ls : List (List Nd)) (k : Nat) (p : List Nd) (h : ls[k]? = some p) : ((ls.take (k + 1)).map List.length).sum = ((ls.take k).map List.length).sum + p.length := by
  rw [List.take_add_one, h, show (some p).toList = [p] from rfl, List.map_append, List.sum_append]; simp
/-- How many nodes the first parts have. -/
def sumM (ls : List (List Nd)) (k : Nat) : Nat := ((ls.take k).map List.length).sum
theorem sumM_zero (ls : List (List Nd)) : sumM ls 0 = 0 := by simp [sumM]
theorem sumM_le (ls : List (List Nd)) (k : Nat) : sumM ls k + ls.length ≤ roomM ls := by rw [room_sum]; have := sum_take ls k; unfold sumM; omega
theorem sumM_next (ls : List (List Nd)) (k : Nat) (p : List Nd) (h : ls[k]? = some p) : sumM ls (k + 1) = sumM ls k + p.length := sum_next ls k p h
/-- What is put together. -/
def joinM (o n : Int) (s : Bytes) (ls : List (List Nd)) : List Nd :=
  if ls.any List.isEmpty then [] else if o = 28 then [] else if o = 27 then callM [] n s ls
  else if (kidsM (overM o n s [])).length = ls.length then (layF ls).1 ++ [overM o n s (layF ls).2] else []
theorem any_empty (ls : List (List Nd)) (k : Nat) (p : List Nd) (h : ls[k]? = some p) (hp : p.length = 0) : ls.any List.isEmpty = true := by
  rw [List.any_eq_true]; exact ⟨p, List.mem_of_getElem? h, by rw [List.isEmpty_iff]; exact List.length_eq_zero_iff.1 hp⟩
theorem none_empty (ls : List (List Nd)) (h : ∀ k p, k < ls.length → ls[k]? = some p → p.length ≠ 0) : ls.any List.isEmpty = false := by
  rw [List.any_eq_false]
  intro p hp
  obtain ⟨k, hk⟩ := List.mem_iff_getElem?.1 hp
  have := h k p (List.getElem?_eq_some_iff.1 hk).1 hk
  rw [List.isEmpty_iff]; intro h0; subst h0; exact this rfl
theorem Parts.keep {w w' : World} {b : Nat} {v : Value} {ls : List (List Nd)} (h : Parts w b v ls) (hb : b ≤ w.heap.size) (hs : w.heap.size ≤ w'.heap.size) (hk : ∀ g, g < b → w'.heap[g]? = w.heap[g]?) : Parts w' b v ls := by
  obtain ⟨A, c, rfl, h1, h2, h3⟩ := h
  refine ⟨A, c, rfl, h1, h2, fun i l hi => ?_⟩
  obtain ⟨g, o, u, rfl, hgb, hg, c0, hu, hul⟩ := h3 i l hi
  exact ⟨g, o, u, rfl, hgb, by omega, (World.cell?_of_block (w := w) (a := ⟨g, o + i, none⟩) (hk g hgb)).trans c0, hu.low hul hs (fun g h _ => hk g h), hul⟩

/-- The second loop's relation: the first parts are laid. -/
structure JoinRel (w : World) (b : Nat) (ls : List (List Nd)) (k : Nat) (wr : World) (ov tv : Value) : Prop where
  le : k ≤ ls.length
  base : w.heap.size ≤ b
  own : wr.ownsRow b 30 6 ov (layF (ls.take k)).1.length (ndsOf (layF (ls.take k)).1)
  row : wr.ownsRow b 3 1 tv k (intsOf (layF (ls.take k)).2)
  below : Below w.heap.size w wr
theorem JoinRel.step {w wr w3 w4 : World} {b : Nat} {ls : List (List Nd)} {k : Nat} {p : List Nd} {ov ov2 tv tv' : Value} {o : Obj} (hp : ls[k]? = some p) (h : JoinRel w b ls k wr ov tv)
    (hown : w3.ownsRow b 30 6 ov2 (behindM (layF (ls.take k)).1 p).length (ndsOf (behindM (layF (ls.take k)).1 p))) (hg : wr.grownBy w3 ov.ownBlock)
    (htv : w3.ownsRow b 3 1 tv k (intsOf (layF (ls.take k)).2))
    (hrow : w4.ownsRow b 3 1 tv' (k + 1) (intsOf (layF (ls.take k)).2 ++ [.int .i64 (((behindM (layF (ls.take k)).1 p).length : Int) - 1)])) (hg4 : (w3.alloc o).grownBy w4 tv.ownBlock) : JoinRel w b ls (k + 1) w4 ov2 tv' := by
  have hk := (List.getElem?_eq_some_iff.1 hp).1
  have e := layF_next ls k p hp
  have hs := h.below.size
  have hs3 := hg.size
  have hs4 := hg4.size
  simp at hs4
  have hne := own_ne hown htv (by decide)
  have hb := h.base
  refine ⟨by omega, hb, ?_, ?_, ?_⟩
  · rw [e]
    exact own_block hown (fun g hgb => by
      rw [hg4.block g (by have := (hown.lt g hgb).2; simp; omega) (fun h' => hne g hgb h'.symm), Below.heap_alloc _ _ _ (hown.lt g hgb).2])
  · rw [e]; unfold layStep; rw [ints_snoc]; exact hrow
  · exact ((h.below.grown hg (by omega) (fun j hj => Nat.le_trans hb (h.own.lt j hj).1)).alloc (by omega) _).grown hg4 (by simp; omega) (fun j hj => Nat.le_trans hb (htv.lt j hj).1)

theorem over0 (o n : Int) (s : ByteArray) (w : World) : Calls Try.prog 45 #[.int .i64 o, .int .i64 n, .string s, .slice none 0 0] w
    fun e w' => e = .returned (.agg #[.int .i64 o, .int .i64 (-1), .int .i64 (-1), .int .i64 (-1), .int .i64 n, .string s]) ∧ Below w.heap.size w w' := over_any o n s _ [] w ⟨none, 0, rfl, by simp, by unfold maxLen; omega, fun i t h => by simp at h⟩ (by simp)
theorem overM_agg (o n : Int) (s : Bytes) (l : List Int) (v : Value) (w : World) (hv : Ints w v l) (h : l.length ≤ 3) : Calls Try.prog 45 #[.int .i64 o, .int .i64 n, .string (str s), v] w
    fun e w' => e = .returned (.agg #[.int .i64 (overM o n s l).op, .int .i64 (overM o n s l).a, .int .i64 (overM o n s l).b, .int .i64 (overM o n s l).c, .int .i64 (overM o n s l).n, .string (str (overM o n s l).name)]) ∧ Below w.heap.size w w' := over_any o n (str s) v l w hv h

set_option maxRecDepth 100000 in
set_option maxHeartbeats 2000000 in
theorem join_any (pv : Value) (ls : List (List Nd)) (o n : Int) (s : Bytes) (w : World) (hp : Parts w w.heap.size pv ls) (hn : roomM ls ≤ 80000) :
    Calls Try.prog 27 #[.int .i64 o, .int .i64 n, .string (str s), pv] w (NodesPost w (joinM o n s ls)) := by
  have HPV := Lib.hid hp
  obtain ⟨A, c, rfl, h1, h2, hA⟩ := hp
  unfold maxLen at h2
  have HA := Lib.hid hA
  have HSM := Lib.hid (sumM_le ls)
  have hll : ls.length ≤ 80000 := by have := HSM.out 0; omega
  obtain ⟨i0, hi, hz0, hz1, hz2⟩ := info_parts info3
  obtain ⟨i1, hi', hz0', hz1', hz2'⟩ := info_parts info30
  have H0 := Lib.hid (sumM_zero ls)
  clear hA
  go_enter Try.func27, Try.ntmps27
  go_wp2
  go_loop [9, 11, 18] (fun ro pa i => ∃ k : Nat, k ≤ ls.length ∧ i = .int .i64 k ∧ ro = .int .i64 (1 + (sumM ls k : Nat)) ∧ Hid (∀ j p, j < k → ls[j]? = some p → p.length ≠ 0)) (fun _ _ i => ls.length - (intOf i).toNat)
  case atStart => exact ⟨0, Nat.zero_le _, rfl, by rw [H0.out]; rfl, fun j p h => by omega⟩
  case round =>
    obtain ⟨k, hk, rfl, rfl, hne⟩ := hrel
    have hsk := HSM.out k
    by_cases hlt : k < ls.length
    · obtain ⟨p, hpk⟩ : ∃ p, ls[k]? = some p := ⟨_, List.getElem?_eq_getElem hlt⟩
      obtain ⟨g, o', u, rfl, hgb, hg, d0, hu, hul⟩ := HA.out k p hpk
      obtain ⟨A', c', rfl, y1, y2, _⟩ := hu
      unfold maxLen at y2
      have HPK := Lib.hid hpk
      have hnx := HSM.out (k + 1)
      have hnx2 := sumM_next ls k p hpk
      have HNX := Lib.hid hnx2
      have hpl : sumM ls k + p.length ≤ 80000 := by omega
      clear hpk hnx hnx2 hul
      by_cases hp0 : p.length = 0
      · have HR := Lib.hid (show joinM o n s ls = [] by unfold joinM; rw [any_empty ls k p HPK.out hp0]; simp)
        have hp0' : ((p.length : Int) == 0) = true := by rw [beq_iff_eq]; omega
        have HP0 := Lib.hid hp0
        clear hp0
        rw [HR.out]
        go_wp2
        go_ret
        exact nodes_none _ _ (Below.refl _ _)
      · have hp0' : ((p.length : Int) == 0) = false := by rw [beq_eq_false_iff_ne]; omega
        have HP0 := Lib.hid hp0
        clear hp0
        go_wp2
        refine ⟨⟨k + 1, by omega, by go_num, ?_, fun j q hj hq => ?_⟩, by simp [intOf]; omega⟩
        · rw [HNX.out]; go_num
        · by_cases hjk : j < k
          · exact hne.out j q hjk hq
          · have : j = k := by omega
            subst this
            have := HPK.out.symm.trans hq
            simp only [Option.some.injEq] at this
            subst this; exact HP0.out
    · have hkl : k = ls.length := by omega
      subst hkl
      have HNE := Lib.hid (none_empty ls (fun j p hj hp => hne.out j p hj hp))
      clear hne
      obtain ⟨S, hS⟩ : ∃ S, sumM ls ls.length = S := ⟨_, rfl⟩
      rw [hS] at hsk ⊢
      have HS := Lib.hid hS
      clear hS
      by_cases h28 : o = 28
      · have HR := Lib.hid (show joinM o n s ls = [] by unfold joinM; rw [HNE.out, if_pos h28]; simp)
        subst h28
        go_wp2
        go_ret
        rw [HR.out]
        exact nodes_none _ _ (Below.refl _ _)
      have h28' : (o == 28) = false := by rw [beq_eq_false_iff_ne]; exact h28
      by_cases h27 : o = 27
      · have HR := Lib.hid (show joinM o n s ls = callM [] n s ls by unfold joinM; rw [HNE.out, if_neg h28, if_pos h27]; simp)
        subst h27
        clear h28
        go_wp2_with (at_make; refine wpList_make_own _ rfl _ _ 23 rfl w.heap.size 30 i1 _ 6 Try.underlying23 hi' hz0' hz1' _ _ _ (1 + S + ls.length) rfl rfl ?m1 ?m2 ?m3 (Nat.le_refl _) ?_)
        case m2 => omega
        case m3 => unfold maxLen; omega
        intro w1 hown hgrow
        have hb1 : Below w.heap.size w w1 := (Below.refl _ _).grown hgrow (Nat.le_refl _) (fun k hk => by simp at hk)
        have HB1 := Lib.hid hb1
        have hs1 := hb1.size
        have HP1 := Lib.hid (HPV.out.keep (w' := w1) (Nat.le_refl _) hb1.size (fun g hg => hb1.block g hg))
        have HO1 := Lib.hid hown
        have HLEN := Lib.hid (show (callF [] ls).1.length ≤ 90000 by rw [callF_len]; unfold roomM at hn; simp; omega)
        clear hown hgrow hb1
        go_wp2_with fail
        refine (call_any _ _ [] ls n s w.heap.size _ HO1.out hs1 HP1.out HLEN.out).mono ?_
        rintro r w2 ⟨ov, rfl, hown2, hg2, -⟩
        have HO2 := Lib.hid hown2
        have HB2 := Lib.hid (HB1.out.grown hg2 hs1 (fun j hj => by simp [Value.ownBlock] at hj; omega))
        clear hown2 hg2
        go_wp2
        go_ret
        rw [HR.out]
        exact ⟨_, rfl, HO2.out, HB2.out⟩
      have h27' : (o == 27) = false := by rw [beq_eq_false_iff_ne]; exact h27
      obtain ⟨K, hK⟩ : ∃ K, kidsM (overM o n s []) = K := ⟨_, rfl⟩
      have HK := Lib.hid hK
      have hK3 : K.length ≤ 3 := by rw [← hK]; exact kids_small _
      have HJ := Lib.hid (show joinM o n s ls = if K.length = ls.length then (layF ls).1 ++ [overM o n s (layF ls).2] else [] by unfold joinM; rw [HNE.out, if_neg h28, if_neg h27, hK]; simp)
      clear h28 h27 hK
      go_wp2_with fail
      refine (overM_agg o n s [] _ _ ⟨none, 0, rfl, by simp, by unfold maxLen; omega, fun i t h => by simp at h⟩ (by simp)).mono ?_
      rintro r w2 ⟨rfl, hb2⟩
      have HB2 := Lib.hid hb2
      clear hb2
      go_wp2_with fail
      refine (kids_any (overM o n s []) _).mono ?_
      rintro r w3 ⟨kv, rfl, hok, hb3⟩
      rw [HK.out] at hok
      obtain ⟨A3, c3, rfl, z1, z2, _⟩ := Ints.of_own hok
      unfold maxLen at z2
      have hb3' := HB2.out.trans (hb3.mono (B' := w.heap.size) HB2.out.size)
      have HB3 := Lib.hid hb3'
      have hs3 := hb3'.size
      clear hok hb3 hb3'
      by_cases hlen : K.length = ls.length
      · have HJ2 := Lib.hid (show joinM o n s ls = (layF ls).1 ++ [overM o n s (layF ls).2] by rw [HJ.out, if_pos hlen])
        have hl' : ((ls.length : Int) != (K.length : Int)) = false := by simp [hlen]
        have hl3 : ls.length ≤ 3 := by omega
        clear hlen
        go_wp2_with (at_make; refine wpList_make_own _ rfl _ _ 23 rfl w.heap.size 30 i1 _ 6 Try.underlying23 hi' hz0' hz1' _ _ _ (1 + S) rfl rfl ?n1 ?n2 ?n3 hs3 ?_)
        case n1 => omega
        case n2 => rw [hz2']; omega
        case n3 => unfold maxLen; omega
        intro w4 hown hgrow
        have hb4 : Below w.heap.size w w4 := HB3.out.grown hgrow hs3 (fun k hk => by simp at hk)
        have HP4 := Lib.hid (HPV.out.keep (w' := w4) (Nat.le_refl _) hb4.size (fun g hg => hb4.block g hg))
        have HREL0 : Hid (JoinRel w w.heap.size ls 0 w4 (.slice (some ⟨w3.heap.size, 0, none⟩) 0 (1 + S)) (.slice none 0 0)) := Lib.hid ⟨Nat.zero_le _, Nat.le_refl _, by simpa [layF, ndsOf] using hown, World.ownsRow_nil _ _ _ _, hb4⟩
        clear hown hgrow hb4
        go_wp2
        go_loopw [12, 13, 15, 59] (fun s1 s2 pa i wr => ∃ (k : Nat) (ov tv : Value), ov = s1 ∧ tv = s2 ∧ i = .int .i64 k ∧ JoinRel w w.heap.size ls k wr ov tv) (fun _ _ _ i _ => ls.length - (intOf i).toNat)
        case atStart => exact ⟨0, _, _, rfl, rfl, rfl, HREL0.out⟩
        case round =>
          obtain ⟨k, ov, tv, rfl, rfl, rfl, hrel⟩ := hrel
          have hk := hrel.le
          have HREL := Lib.hid hrel
          have hs := hrel.below.size
          have HW := Lib.hid (show ∀ g, g < w.heap.size → wr.heap[g]? = w.heap[g]? from fun g hg => hrel.below.block g hg)
          clear hrel
          by_cases hlt : k < ls.length
          · obtain ⟨p, hpk⟩ : ∃ p, ls[k]? = some p := ⟨_, List.getElem?_eq_getElem hlt⟩
            obtain ⟨g, o', u, rfl, hgb, hg, d0, hu, hul⟩ := HA.out k p hpk
            have c0 := (World.cell?_of_block (w := w) (a := ⟨g, o' + k, none⟩) (HW.out g hg)).trans d0
            have HU := Lib.hid (hu.low hul hs (fun g h _ => HW.out g h))
            have HUL := Lib.hid hul
            have HPK := Lib.hid hpk
            have hlk : (layF (ls.take k)).1.length = sumM ls k := (layF_lens _).1
            have HLK := Lib.hid hlk
            have hnx2 := sumM_next ls k p hpk
            have hsl := HSM.out (k + 1)
            have hln : (layF (ls.take k)).1.length + p.length ≤ 80000 := by omega
            clear hpk hu d0 hul hlk hnx2 hsl
            go_wp2_with fail
            refine (laid_any ov u (layF (ls.take k)).1 p w.heap.size _ HREL.out.own hs HU.out HUL.out (by omega)).mono ?_
            rintro r w5 ⟨ov2, rfl, hown5, hg5, -⟩
            obtain ⟨A5, c5, rfl, x1, x2, _⟩ := Nodes.of_own hown5
            have hs5 := hg5.size
            have htv5 := own_block HREL.out.row (fun j hj => hg5.block j (HREL.out.row.lt j hj).2 (fun h => own_ne HREL.out.own HREL.out.row (by decide) j h.symm hj))
            have HO5 := Lib.hid hown5
            have HG5 := Lib.hid hg5
            have HT5 := Lib.hid htv5
            obtain ⟨N, hN⟩ : ∃ N, ((layF (ls.take k)).1 ++ p.map (onNd ((layF (ls.take k)).1.length : Int))).length = N := ⟨_, rfl⟩
            have HN := Lib.hid hN
            have hNm : N ≤ 80000 := by rw [← hN, List.length_append, List.length_map]; exact hln
            clear hown5 hg5 htv5 hN
            rw [HN.out] at x1
            rw [HN.out]
            unfold maxLen at x2
            go_wp2_with (at_builtin; refine wpList_append_own _ rfl (.tmp 66) (.tmp 70) 27 rfl w.heap.size 3 i0 _ 1 8 Try.underlying27 hi hz0 hz1 hz2 rfl (by decide) _ _ _ rfl (HT5.out.alloc _) ⟨w5.heap.size, 0, none⟩ 1 1 [.int .i64 ((N : Int) - 1)] rfl rfl ?a5 ?b5 ?c5 ?d5 ?e5 ?_)
            case a5 => exact cell_one_new _ _ _
            case b5 => intro u hu; simp at hu; subst hu; rfl
            case c5 => unfold maxLen; omega
            case d5 => omega
            case e5 => simp; omega
            intro tv' w6 hrow6 hg6 _
            have R := Lib.hid (HREL.out.step HPK.out HO5.out HG5.out HT5.out (by unfold behindM; rw [HN.out]; exact hrow6) hg6)
            rw [HN.out] at R
            clear hrow6 hg6
            go_wp2
            refine ⟨⟨k + 1, _, _, rfl, rfl, by go_num, R.out⟩, by simp [intOf]; omega⟩
          · have hkl : k = ls.length := by omega
            subst hkl
            have HTK := Lib.hid (show ls.take ls.length = ls from List.take_length)
            obtain ⟨N, hN⟩ : ∃ N, (layF ls).1.length = N := ⟨_, rfl⟩
            have hNm : N ≤ 80000 := by rw [← hN, (layF_lens ls).1]; have := room_sum ls; omega
            have HN := Lib.hid hN
            have HO := Lib.hid HREL.out.own
            have HT : Hid (Ints wr tv (layF ls).2) := Lib.hid (Ints.of_own (by have := HREL.out.row; rw [HTK.out] at this; rw [(layF_lens ls).2]; exact this))
            have hl2 : (layF ls).2.length ≤ 3 := by rw [(layF_lens ls).2]; exact hl3
            rw [HTK.out, HN.out] at HO
            clear hN
            go_wp2_with fail
            refine (overM_agg o n s (layF ls).2 _ _ HT.out hl2).mono ?_
            rintro r w5 ⟨rfl, hb5⟩
            have hs5 := hb5.size
            have HB5 := Lib.hid (HREL.out.below.trans (hb5.mono hs))
            have HO5 := Lib.hid (own_below HO.out hb5)
            obtain ⟨y, hy⟩ : ∃ y, overM o n s (layF ls).2 = y := ⟨_, rfl⟩
            have HY := Lib.hid hy
            rw [hy]
            clear hb5 hy
            go_wp2_with (at_builtin; refine wpList_append_own _ rfl (.tmp 73) (.tmp 79) 23 rfl w.heap.size 30 i1 _ 6 56 Try.underlying23 hi' hz0' hz1' hz2' rfl (by decide) _ N _ rfl (HO5.out.alloc _) ⟨w5.heap.size, 0, none⟩ 1 1 (ndCells y) rfl rfl ?a6 ?b6 ?c6 ?d6 ?e6 ?_)
            case a6 => exact World.news_of_block (t := 30) (fr := (0, 0)) (heap_alloc_new _ _)
            case b6 => simp [ndCells, Value.oneCell']
            case c6 => unfold maxLen; omega
            case d6 => omega
            case e6 => simp; omega
            intro v' w6 hown6 hg6 _
            have hB6 := (HB5.out.alloc (by omega) (.cells (ndCells y).toArray 30)).grown hg6 (by simp; omega) (fun j hj => (HO5.out.lt j hj).1)
            have HB6 := Lib.hid hB6
            have HO6 := Lib.hid hown6
            clear hown6 hg6 hB6
            go_wp2
            go_ret
            rw [HJ2.out, HY.out]
            refine ⟨_, rfl, ?_, HB6.out⟩
            rw [nds_snoc, List.length_append, HN.out]
            exact HO6.out
      · have HJ2 := Lib.hid (show joinM o n s ls = [] by rw [HJ.out, if_neg hlen])
        have hl' : ((ls.length : Int) != (K.length : Int)) = true := by rw [bne_iff_ne]; omega
        clear hlen
        go_wp2
        go_ret
        rw [HJ2.out]
        exact nodes_none _ _ HB3.out
end Go.Proofs.Ytmggedjolocgdaa.Tr
