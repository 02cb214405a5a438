/- The function Join puts expressions together under an operator. Conditions: the slices are read as lists; what is put together is not too long. -/
import Derived.Test.YtgohhnbdicdenaaDoorPk10
import Derived.Test.YtgohhnbdicdenaaDoorPk01
import Derived.Test.YtgohhnbdicdenaaDoorRows
import Derived.WalkKit
import Derived.ProofKit
import Derived.OpenShut
import Derived.Outline
import Derived.Lib.Hide
import Derived.WalkLawsBesides
import Derived.WalkSpells
import Derived.Deep.Light
namespace Go.Proofs.YtgohhnbdicdenaaDoor.Tr
open Go.ChangeShapes Go.WideShapes Go.ChangeAt Go.RowKit
set_option linter.unusedVariables false
set_option linter.unusedSimpArgs false

/-- The nodes of the parts, one behind the other, and where each one's last node stands. -/
def layStep (s : List Nd × List Int) (p : List Nd) : List Nd × List Int := (behindM s.1 p, s.2 ++ [((behindM s.1 p).length : Int) - 1])
def layF (ls : List (List Nd)) : List Nd × List Int := ls.foldl layStep ([], [])
theorem layF_next (ls : List (List Nd)) (k : Nat) (p : List Nd) (h : ls[k]? = some p) : layF (ls.take (k + 1)) = layStep (layF (ls.take k)) p := by
  unfold layF; rw [List.take_add_one, h, show (some p).toList = [p] from rfl, List.foldl_append]; rfl
theorem layF_lens (ls : List (List Nd)) : (layF ls).1.length = (ls.map List.length).sum ∧ (layF ls).2.length = ls.length := by
  have key : ∀ (ls : List (List Nd)) (s : List Nd × List Int), (ls.foldl layStep s).1.length = s.1.length + (ls.map List.length).sum ∧ (ls.foldl layStep s).2.length = s.2.length + ls.length := by
    intro ls
    induction ls with
    | nil => intro s; simp
    | cons p r ih =>
      intro s
      rw [List.foldl_cons]
      obtain ⟨h1, h2⟩ := ih (layStep s p)
      rw [h1, h2]
      unfold layStep
      rw [behind_len]
      simp; omega
  have := key ls ([], [])
  unfold layF; simpa using this
/-- How many nodes parts have, with one more for each. -/
def roomM (ls : List (List Nd)) : Nat := (ls.map (fun p => p.length + 1)).sum
theorem room_sum (ls : List (List Nd)) : roomM ls = (ls.map List.length).sum + ls.length := by
  unfold roomM
  induction ls with
  | nil => rfl
  | cons p r ih => rw [List.map_cons, List.sum_cons, ih, List.map_cons, List.sum_cons, List.length_cons]; omega
theorem sum_take (ls : List (List Nd)) (k : Nat) : ((ls.take k).map List.length).sum ≤ (ls.map List.length).sum := by
  conv => rhs; rw [← List.take_append_drop k ls]
  rw [List.map_append, List.sum_append]; omega
theorem sum_next (ls : List (List Nd)) (k : Nat) (p : List Nd) (h : ls[k]? = some p) : ((ls.take (k + 1)).map List.length).sum = ((ls.take k).map List.length).sum + p.length := by
  rw [List.take_add_one, h, show (some p).toList = [p] from rfl, List.map_append, List.sum_append]; simp
/-- How many nodes the first parts have. -/
def sumM (ls : List (List Nd)) (k : Nat) : Nat := ((ls.take k).map List.length).sum
theorem sumM_zero (ls : List (List Nd)) : sumM ls 0 = 0 := by simp [sumM]
theorem sumM_le (ls : List (List Nd)) (k : Nat) : sumM ls k + ls.length ≤ roomM ls := by rw [room_sum]; have := sum_take ls k; unfold sumM; omega
theorem sumM_next (ls : List (List Nd)) (k : Nat) (p : List Nd) (h : ls[k]? = some p) : sumM ls (k + 1) = sumM ls k + p.length := sum_next ls k p h
/-- What is put together. -/
def joinM (o n : Int) (s : Bytes) (ls : List (List Nd)) : List Nd :=
  if ls.any List.isEmpty then [] else if o = 28 then [] else if o = 27 then callM [] n s ls
  else if (kidsM (overM o n s [])).length = ls.length then (layF ls).1 ++ [overM o n s (layF ls).2] else []
theorem any_empty (ls : List (List Nd)) (k : Nat) (p : List Nd) (h : ls[k]? = some p) (hp : p.length = 0) : ls.any List.isEmpty = true := by
  rw [List.any_eq_true]; exact ⟨p, List.mem_of_getElem? h, by rw [List.isEmpty_iff]; exact List.length_eq_zero_iff.1 hp⟩
theorem none_empty (ls : List (List Nd)) (h : ∀ k p, k < ls.length → ls[k]? = some p → p.length ≠ 0) : ls.any List.isEmpty = false := by
  rw [List.any_eq_false]
  intro p hp
  obtain ⟨k, hk⟩ := List.mem_iff_getElem?.1 hp
  have := h k p (List.getElem?_eq_some_iff.1 hk).1 hk
  rw [List.isEmpty_iff]; intro h0; subst h0; exact this rfl
theorem Parts.keep {w w' : World} {b : Nat} {v : Value} {ls : List (List Nd)} (h : Parts w b v ls) (hb : b ≤ w.heap.size) (hs : w.heap.size ≤ w'.heap.size) (hk : ∀ g, g < b → w'.heap[g]? = w.heap[g]?) : Parts w' b v ls := by
  obtain ⟨A, c, rfl, h1, h2, h3⟩ := h
  refine ⟨A, c, rfl, h1, h2, fun i l hi => ?_⟩
  obtain ⟨g, o, u, rfl, hgb, hg, c0, hu, hul⟩ := h3 i l hi
  exact ⟨g, o, u, rfl, hgb, by omega, (World.cell?_of_block (w := w) (a := ⟨g, o + i, none⟩) (hk g hgb)).trans c0, hu.low hul hs (fun g h _ => hk g h), hul⟩

/-- The second loop's relation: the first parts are laid. -/
structure JoinRel (w : World) (b : Nat) (ls : List (List Nd)) (k : Nat) (wr : World) (ov tv : Value) : Prop where
  le : k ≤ ls.length
  base : w.heap.size ≤ b
  own : wr.ownsRow b 36 6 ov (layF (ls.take k)).1.length (ndsOf (layF (ls.take k)).1)
  row : wr.ownsRow b 3 1 tv k (intsOf (layF (ls.take k)).2)
  below : Below w.heap.size w wr
theorem JoinRel.step {w wr w3 w4 : World} {b : Nat} {ls : List (List Nd)} {k : Nat} {p : List Nd} {ov ov2 tv tv' : Value} {o : Obj} (hp : ls[k]? = some p) (h : JoinRel w b ls k wr ov tv)
    (hown : w3.ownsRow b 36 6 ov2 (behindM (layF (ls.take k)).1 p).length (ndsOf (behindM (layF (ls.take k)).1 p))) (hg : wr.grownBy w3 ov.ownBlock)
    (htv : w3.ownsRow b 3 1 tv k (intsOf (layF (ls.take k)).2))
    (hrow : w4.ownsRow b 3 1 tv' (k + 1) (intsOf (layF (ls.take k)).2 ++ [.int .i64 (((behindM (layF (ls.take k)).1 p).length : Int) - 1)])) (hg4 : (w3.alloc o).grownBy w4 tv.ownBlock) : JoinRel w b ls (k + 1) w4 ov2 tv' := by
  have hk := (List.getElem?_eq_some_iff.1 hp).1
  have e := layF_next ls k p hp
  have hs := h.below.size
  have hs3 := hg.size
  have hs4 := hg4.size
  simp at hs4
  have hne := own_ne hown htv (by decide)
  have hb := h.base
  refine ⟨by omega, hb, ?_, ?_, ?_⟩
  · rw [e]
    exact own_block hown (fun g hgb => by
      rw [hg4.block g (by have := (hown.lt g hgb).2; simp; omega) (fun h' => hne g hgb h'.symm), Below.heap_alloc _ _ _ (hown.lt g hgb).2])
  · rw [e]; unfold layStep; rw [ints_snoc]; exact hrow
  · exact ((h.below.grown hg (by omega) (fun j hj => Nat.le_trans hb (h.own.lt j hj).1)).alloc (by omega) _).grown hg4 (by simp; omega) (fun j hj => Nat.le_trans hb (htv.lt j hj).1)

theorem over0 (o n : Int) (s : ByteArray) (w : World) : Calls Tryd.prog 120 #[.int .i64 o, .int .i64 n, .string s, .slice none 0 0] w
    fun e w' => e = .returned (.agg #[.int .i64 o, .int .i64 (-1), .int .i64 (-1), .int .i64 (-1), .int .i64 n, .string s]) ∧ Below w.heap.size w w' := over_any o n s _ [] w ⟨none, 0, rfl, by simp, by unfold maxLen; omega, fun i t h => by simp at h⟩ (by simp)
theorem overM_agg (o n : Int) (s : Bytes) (l : List Int) (v : Value) (w : World) (hv : Ints w v l) (h : l.length ≤ 3) : Calls Tryd.prog 120 #[.int .i64 o, .int .i64 n, .string (str s), v] w
    fun e w' => e = .returned (.agg #[.int .i64 (overM o n s l).op, .int .i64 (overM o n s l).a, .int .i64 (overM o n s l).b, .int .i64 (overM o n s l).c, .int .i64 (overM o n s l).n, .string (str (overM o n s l).name)]) ∧ Below w.heap.size w w' := over_any o n (str s) v l w hv h

set_option maxRecDepth 100000 in
set_option maxHeartbeats 2000000 in
theorem join_any (pv : Value) (ls : List (List Nd)) (o n : Int) (s : Bytes) (w : World) (hp : Parts w w.heap.size pv ls) (hn : roomM ls ≤ 80000) :
    Calls Tryd.prog 109 #[.int .i64 o, .int .i64 n, .string (str s), pv] w (NodesPost w (joinM o n s ls)) := by
  have HPV := Lib.hid hp
  obtain ⟨A, c, rfl, h1, h2, hA⟩ := hp
  unfold maxLen at h2
  have HA := Lib.hid hA
  have HSM := Lib.hid (sumM_le ls)
  have hll : ls.length ≤ 80000 := by have := HSM.out 0; omega
  obtain ⟨i0, hi, hz0, hz1, hz2⟩ := info_parts info3
  obtain ⟨i1, hi', hz0', hz1', hz2'⟩ := info_parts info30
  have H0 := Lib.hid (sumM_zero ls)
  clear hA
  go_enter Tryd.func109, Tryd.ntmps109
  go_wp2
  go_loop [9, 11, 18] (fun ro pa i => ∃ k : Nat, k ≤ ls.length ∧ i = .int .i64 k ∧ ro = .int .i64 (1 + (sumM ls k : Nat)) ∧ Hid (∀ j p, j < k → ls[j]? = some p → p.length ≠ 0)) (fun _ _ i => ls.length - (intOf i).toNat)
  case atStart => exact ⟨0, Nat.zero_le _, rfl, by rw [H0.out]; rfl, fun j p h => by omega⟩
  case round =>
    obtain ⟨k, hk, rfl, rfl, hne⟩ := hrel
    have hsk := HSM.out k
    by_cases hlt : k < ls.length
    · obtain ⟨p, hpk⟩ : ∃ p, ls[k]? = some p := ⟨_, List.getElem?_eq_getElem hlt⟩
      obtain ⟨g, o', u, rfl, hgb, hg, d0, hu, hul⟩ := HA.out k p hpk
      obtain ⟨A', c', rfl, y1, y2, _⟩ := hu
      unfold maxLen at y2
      have HPK := Lib.hid hpk
      have hnx := HSM.out (k + 1)
      have hnx2 := sumM_next ls k p hpk
      have HNX := Lib.hid hnx2
      have hpl : sumM ls k + p.length ≤ 80000 := by omega
      clear hpk hnx hnx2 hul
      by_cases hp0 : p.length = 0
      · have HR := Lib.hid (show joinM o n s ls = [] by unfold joinM; rw [any_empty ls k p HPK.out hp0]; simp)
        have hp0' : ((p.length : Int) == 0) = true := by rw [beq_iff_eq]; omega
        have HP0 := Lib.hid hp0
        clear hp0
        rw [HR.out]
        go_wp2
        go_ret
        exact nodes_none _ _ (Below.refl _ _)
      · have hp0' : ((p.length : Int) == 0) = false := by rw [beq_eq_false_iff_ne]; omega
        have HP0 := Lib.hid hp0
        clear hp0
        go_wp2
        refine ⟨⟨k + 1, by omega, by go_num, ?_, fun j q hj hq => ?_⟩, by simp [intOf]; omega⟩
        · rw [HNX.out]; go_num
        · by_cases hjk : j < k
          · exact hne.out j q hjk hq
          · have : j = k := by omega
            subst this
            have := HPK.out.symm.trans hq
            simp only [Option.some.injEq] at this
            subst this; exact HP0.out
    · have hkl : k = ls.length := by omega
      subst hkl
      have HNE := Lib.hid (none_empty ls (fun j p hj hp => hne.out j p hj hp))
      clear hne
      obtain ⟨S, hS⟩ : ∃ S, sumM ls ls.length = S := ⟨_, rfl⟩
      rw [hS] at hsk ⊢
      have HS := Lib.hid hS
      clear hS
      by_cases h28 : o = 28
      · have HR := Lib.hid (show joinM o n s ls = [] by unfold joinM; rw [HNE.out, if_pos h28]; simp)
        subst h28
        go_wp2
        go_ret
        rw [HR.out]
        exact nodes_none _ _ (Below.refl _ _)
      have h28' : (o == 28) = false := by rw [beq_eq_false_iff_ne]; exact h28
      by_cases h27 : o = 27
      · have HR := Lib.hid (show joinM o n s ls = callM [] n s ls by unfold joinM; rw [HNE.out, if_neg h28, if_pos h27]; simp)
        subst h27
        clear h28
        go_wp2_with (at_make; refine wpList_make_own _ rfl _ _ 24 rfl w.heap.size 36 i1 _ 6 Tryd.underlying24 hi' hz0' hz1' _ _ _ (1 + S + ls.length) rfl rfl ?m1 ?m2 ?m3 (Nat.le_refl _) ?_)
        case m2 => omega
        case m3 => unfold maxLen; omega
        intro w1 hown hgrow
        have hb1 : Below w.heap.size w w1 := (Below.refl _ _).grown hgrow (Nat.le_refl _) (fun k hk => by simp at hk)
        have HB1 := Lib.hid hb1
        have hs1 := hb1.size
        have HP1 := Lib.hid (HPV.out.keep (w' := w1) (Nat.le_refl _) hb1.size (fun g hg => hb1.block g hg))
        have HO1 := Lib.hid hown
        have HLEN := Lib.hid (show (callF [] ls).1.length ≤ 90000 by rw [callF_len]; unfold roomM at hn; simp; omega)
        clear hown hgrow hb1
        go_wp2_with fail
        refine (call_any _ _ [] ls n s w.heap.size _ HO1.out hs1 HP1.out HLEN.out).mono ?_
        rintro r w2 ⟨ov, rfl, hown2, hg2, -⟩
        have HO2 := Lib.hid hown2
        have HB2 := Lib.hid (HB1.out.grown hg2 hs1 (fun j hj => by simp [Value.ownBlock] at hj; omega))
        clear hown2 hg2
        go_wp2
        go_ret
        rw [HR.out]
        exact ⟨_, rfl, HO2.out, HB2.out⟩
      have h27' : (o == 27) = false := by rw [beq_eq_false_iff_ne]; exact h27
      obtain ⟨K, hK⟩ : ∃ K, kidsM (overM o n s []) = K := ⟨_, rfl⟩
      have HK := Lib.hid hK
      have hK3 : K.length ≤ 3 := by rw [← hK]; exact kids_small _
      have HJ := Lib.hid (show joinM o n s ls = if K.length = ls.length then (layF ls).1 ++ [overM o n s (layF ls).2] else [] by unfold joinM; rw [HNE.out, if_neg h28, if_neg h27, hK]; simp)
      clear h28 h27 hK
      go_wp2_with fail
      refine (overM_agg o n s [] _ _ ⟨none, 0, rfl, by simp, by unfold maxLen; omega, fun i t h => by simp at h⟩ (by simp)).mono ?_
      rintro r w2 ⟨rfl, hb2⟩
      have HB2 := Lib.hid hb2
      clear hb2
      go_wp2_with fail
      refine (kids_any (overM o n s []) _).mono ?_
      rintro r w3 ⟨kv, rfl, hok, hb3⟩
      rw [HK.out] at hok
      obtain ⟨A3, c3, rfl, z1, z2, _⟩ := Ints.of_own hok
      unfold maxLen at z2
      have hb3' := HB2.out.trans (hb3.mono (B' := w.heap.size) HB2.out.size)
      have HB3 := Lib.hid hb3'
      have hs3 := hb3'.size
      clear hok hb3 hb3'
      by_cases hlen : K.length = ls.length
      · have HJ2 := Lib.hid (show joinM o n s ls = (layF ls).1 ++ [overM o n s (layF ls).2] by rw [HJ.out, if_pos hlen])
        have hl' : ((ls.length : Int) != (K.length : Int)) = false := by simp [hlen]
        have hl3 : ls.length ≤ 3 := by omega
        clear hlen
        go_wp2_with (at_make; refine wpList_make_own _ rfl _ _ 24 rfl w.heap.size 36 i1 _ 6 Tryd.underlying24 hi' hz0' hz1' _ _ _ (1 + S) rfl rfl ?n1 ?n2 ?n3 hs3 ?_)
        case n1 => omega
        case n2 => rw [hz2']; omega
        case n3 => unfold maxLen; omega
        intro w4 hown hgrow
        have hb4 : Below w.heap.size w w4 := HB3.out.grown hgrow hs3 (fun k hk => by simp at hk)
        have HP4 := Lib.hid (HPV.out.keep (w' := w4) (Nat.le_refl _) hb4.size (fun g hg => hb4.block g hg))
        have HREL0 : Hid (JoinRel w w.heap.size ls 0 w4 (.slice (some ⟨w3.heap.size, 0, none⟩) 0 (1 + S)) (.slice none 0 0)) := Lib.hid ⟨Nat.zero_le _, Nat.le_refl _, by simpa [layF, ndsOf] using hown, World.ownsRow_nil _ _ _ _, hb4⟩
        clear hown hgrow hb4
        go_wp2
        go_loopw [12, 13, 15, 59] (fun s1 s2 pa i wr => ∃ (k : Nat) (ov tv : Value), ov = s1 ∧ tv = s2 ∧ i = .int .i64 k ∧ JoinRel w w.heap.size ls k wr ov tv) (fun _ _ _ i _ => ls.length - (intOf i).toNat)
        case atStart => exact ⟨0, _, _, rfl, rfl, rfl, HREL0.out⟩
        case round =>
          obtain ⟨k, ov, tv, rfl, rfl, rfl, hrel⟩ := hrel
          have hk := hrel.le
          have HREL := Lib.hid hrel
          have hs := hrel.below.size
          have HW := Lib.hid (show ∀ g, g < w.heap.size → wr.heap[g]? = w.heap[g]? from fun g hg => hrel.below.block g hg)
          clear hrel
          by_cases hlt : k < ls.length
          · obtain ⟨p, hpk⟩ : ∃ p, ls[k]? = some p := ⟨_, List.getElem?_eq_getElem hlt⟩
            obtain ⟨g, o', u, rfl, hgb, hg, d0, hu, hul⟩ := HA.out k p hpk
            have c0 := (World.cell?_of_block (w := w) (a := ⟨g, o' + k, none⟩) (HW.out g hg)).trans d0
            have HU := Lib.hid (hu.low hul hs (fun g h _ => HW.out g h))
            have HUL := Lib.hid hul
            have HPK := Lib.hid hpk
            have hlk : (layF (ls.take k)).1.length = sumM ls k := (layF_lens _).1
            have HLK := Lib.hid hlk
            have hnx2 := sumM_next ls k p hpk
            have hsl := HSM.out (k + 1)
            have hln : (layF (ls.take k)).1.length + p.length ≤ 80000 := by omega
            clear hpk hu d0 hul hlk hnx2 hsl
            go_wp2_with fail
            refine (laid_any ov u (layF (ls.take k)).1 p w.heap.size _ HREL.out.own hs HU.out HUL.out (by omega)).mono ?_
            rintro r w5 ⟨ov2, rfl, hown5, hg5, -⟩
            obtain ⟨A5, c5, rfl, x1, x2, _⟩ := Nodes.of_own hown5
            have hs5 := hg5.size
            have htv5 := own_block HREL.out.row (fun j hj => hg5.block j (HREL.out.row.lt j hj).2 (fun h => own_ne HREL.out.own HREL.out.row (by decide) j h.symm hj))
            have HO5 := Lib.hid hown5
            have HG5 := Lib.hid hg5
            have HT5 := Lib.hid htv5
            obtain ⟨N, hN⟩ : ∃ N, ((layF (ls.take k)).1 ++ p.map (onNd ((layF (ls.take k)).1.length : Int))).length = N := ⟨_, rfl⟩
            have HN := Lib.hid hN
            have hNm : N ≤ 80000 := by rw [← hN, List.length_append, List.length_map]; exact hln
            clear hown5 hg5 htv5 hN
            rw [HN.out] at x1
            rw [HN.out]
            unfold maxLen at x2
            go_wp2_with (at_builtin; refine wpList_append_own _ rfl (.tmp 66) (.tmp 70) 34 rfl w.heap.size 3 i0 _ 1 8 Tryd.underlying34 hi hz0 hz1 hz2 rfl (by decide) _ _ _ rfl (HT5.out.alloc _) ⟨w5.heap.size, 0, none⟩ 1 1 [.int .i64 ((N : Int) - 1)] rfl rfl ?a5 ?b5 ?c5 ?d5 ?e5 ?_)
            case a5 => exact cell_one_new _ _ _
            case b5 => intro u hu; simp at hu; subst hu; rfl
            case c5 => unfold maxLen; omega
            case d5 => omega
            case e5 => simp; omega
            intro tv' w6 hrow6 hg6 _
            have R := Lib.hid (HREL.out.step HPK.out HO5.out HG5.out HT5.out (by unfold behindM; rw [HN.out]; exact hrow6) hg6)
            rw [HN.out] at R
            clear hrow6 hg6
            go_wp2
            refine ⟨⟨k + 1, _, _, rfl, rfl, by go_num, R.out⟩, by simp [intOf]; omega⟩
          · have hkl : k = ls.length := by omega
            subst hkl
            have HTK := Lib.hid (show ls.take ls.length = ls from List.take_length)
            obtain ⟨N, hN⟩ : ∃ N, (layF ls).1.length = N := ⟨_, rfl⟩
            have hNm : N ≤ 80000 := by rw [← hN, (layF_lens ls).1]; have := room_sum ls; omega
            have HN := Lib.hid hN
            have HO := Lib.hid HREL.out.own
            have HT : Hid (Ints wr tv (layF ls).2) := Lib.hid (Ints.of_own (by have := HREL.out.row; rw [HTK.out] at this; rw [(layF_lens ls).2]; exact this))
            have hl2 : (layF ls).2.length ≤ 3 := by rw [(layF_lens ls).2]; exact hl3
            rw [HTK.out, HN.out] at HO
            clear hN
            go_wp2_with fail
            refine (overM_agg o n s (layF ls).2 _ _ HT.out hl2).mono ?_
            rintro r w5 ⟨rfl, hb5⟩
            have hs5 := hb5.size
            have HB5 := Lib.hid (HREL.out.below.trans (hb5.mono hs))
            have HO5 := Lib.hid (own_below HO.out hb5)
            obtain ⟨y, hy⟩ : ∃ y, overM o n s (layF ls).2 = y := ⟨_, rfl⟩
            have HY := Lib.hid hy
            rw [hy]
            clear hb5 hy
            go_wp2_with (at_builtin; refine wpList_append_own _ rfl (.tmp 73) (.tmp 79) 24 rfl w.heap.size 36 i1 _ 6 56 Tryd.underlying24 hi' hz0' hz1' hz2' rfl (by decide) _ N _ rfl (HO5.out.alloc _) ⟨w5.heap.size, 0, none⟩ 1 1 (ndCells y) rfl rfl ?a6 ?b6 ?c6 ?d6 ?e6 ?_)
            case a6 => exact World.news_of_block (t := 36) (fr := (0, 0)) (heap_alloc_new _ _)
            case b6 => simp [ndCells, Value.oneCell']
            case c6 => unfold maxLen; omega
            case d6 => omega
            case e6 => simp; omega
            intro v' w6 hown6 hg6 _
            have hB6 := (HB5.out.alloc (by omega) (.cells (ndCells y).toArray 36)).grown hg6 (by simp; omega) (fun j hj => (HO5.out.lt j hj).1)
            have HB6 := Lib.hid hB6
            have HO6 := Lib.hid hown6
            clear hown6 hg6 hB6
            go_wp2
            go_ret
            rw [HJ2.out, HY.out]
            refine ⟨_, rfl, ?_, HB6.out⟩
            rw [nds_snoc, List.length_append, HN.out]
            exact HO6.out
      · have HJ2 := Lib.hid (show joinM o n s ls = [] by rw [HJ.out, if_neg hlen])
        have hl' : ((ls.length : Int) != (K.length : Int)) = true := by rw [bne_iff_ne]; omega
        clear hlen
        go_wp2
        go_ret
        rw [HJ2.out]
        exact nodes_none _ _ HB3.out
end Go.Proofs.YtgohhnbdicdenaaDoor.Tr

/- What layer expr makes of tokens, as plain functions: a reader's state, and what it reads. Conditions: none. -/
namespace Go.Proofs.YtgohhnbdicdenaaDoor.Ex
open Go.Proofs.YtgohhnbdicdenaaDoor.Tr
abbrev Tok := Lx.Tok

/-- A reader of tokens. -/
structure Rd where
  l : List Tok
  next : Nat
  begun : Nat
  code : Int
  at_ : Int
deriving DecidableEq

def atM (l : List Tok) (i : Nat) : Int := match l[i]? with | some t => (t.at_ : Int) | none => -1
def noTok : Tok := ⟨0, [], 0⟩
def Rd.cur (r : Rd) : Tok := (r.l[r.next]?).getD noTok
def Rd.ws (r : Rd) : Bool := decide (r.next < r.l.length) && (r.cur.kind == 3 || r.cur.kind == 4)
def Rd.isB (s : Bytes) (r : Rd) : Bool := r.ws && r.cur.text == s
def Rd.adv (r : Rd) : Rd := ⟨r.l, r.next + 1, r.begun, r.code, r.at_⟩
def Rd.fail (e : Int) (r : Rd) : Rd := if r.code = 0 then ⟨[], r.next, r.begun, e, atM r.l r.next⟩ else ⟨[], r.next, r.begun, r.code, r.at_⟩
def Rd.need (s : Bytes) (r : Rd) : Rd := if r.isB s then r.adv else r.fail 5
def Rd.open_ (r : Rd) : Rd := ⟨r.l, r.next, r.begun + 1, r.code, r.at_⟩
def Rd.shut (r : Rd) : Rd := ⟨r.l, r.next, r.begun - 1, r.code, r.at_⟩

/-- The operators of a level by their texts; whether their operands change places. -/
def signsM : Nat → List (Bytes × Int × Bool)
  | 1 => [([45, 62], 19, false)]
  | 2 => [([61, 62], 9, false)]
  | 3 => [([115, 105, 110, 99, 101], 20, false)]
  | 4 => [([111, 114], 7, false), ([120, 111, 114], 8, false)]
  | 5 => [([97, 110, 100], 6, false)]
  | 6 => [([61], 10, false), ([60, 62], 11, false), ([60], 12, false), ([60, 61], 13, false), ([62], 12, true), ([62, 61], 13, true)]
  | 7 => [([43], 14, false), ([45], 15, false)]
  | 8 => [([42], 16, false), ([100, 105, 118], 17, false), ([109, 111, 100], 18, false)]
  | 9 => [([110, 111, 116], 4, false), ([45], 5, false), ([112, 114, 101], 21, false), ([111, 110, 99, 101], 22, false), ([104, 105, 115, 116], 23, false), ([112, 114, 101, 118], 24, false), ([119, 105, 116, 104, 105, 110], 25, false)]
  | _ => []
def Rd.sign (n : Nat) (r : Rd) : Option (Int × Bool) := if r.ws then (signsM n).lookup r.cur.text else none

/-- What has been read: its nodes (none, if they are beyond the limits), how many, how deep. -/
structure Pt where
  e : List Nd
  nodes : Nat
  deep : Nat
deriving DecidableEq
def Pt.zero : Pt := ⟨[], 0, 0⟩
def nodesOf (op : Int) (ps : List Pt) : Nat := ps.foldl (fun a p => a + p.nodes + if op = 27 then 1 else 0) 1
def deepOf (op : Int) (ps : List Pt) : Nat := ps.foldl (fun a p => max a (1 + p.deep) + if op = 27 then 1 else 0) 1
def joined (op n : Int) (s : Bytes) (ps : List Pt) : Pt :=
  ⟨if nodesOf op ps ≤ 5000 ∧ deepOf op ps ≤ 40 then joinM op n s (ps.map Pt.e) else [], nodesOf op ps, deepOf op ps⟩
def sjoin (s : Int × Bool) (p q : Pt) : Pt := if s.2 then joined s.1 0 [] [q, p] else joined s.1 0 [] [p, q]
def foldR : List Pt → List (Int × Bool) → Pt
  | p :: ps, o :: os => sjoin o p (foldR ps os)
  | p :: _, [] => p
  | [], _ => Pt.zero

def numB (most : Nat) (t : Tok) : Bool := t.kind == 2 && decide (Lx.val t.text ≤ most)
def Rd.num (most : Nat) (r : Rd) : Nat := if numB most r.cur then Lx.val r.cur.text else 0
def Rd.numR (most : Nat) (r : Rd) : Rd := if numB most r.cur then r.adv else r.fail 5

inductive Task where
  | lev (n : Nat)
  | rl (n : Nat) (ps : List Pt) (ops : List (Int × Bool))
  | ll (n : Nat) (p : Pt)
  | opnd
  | single
  | named (s : Bytes)
  | args (s : Bytes) (ps : List Pt)

abbrev Out := Option (Pt × Rd)
def lp : Bytes := [40]
def rp : Bytes := [41]
def run : Nat → Task → Rd → Out
  | 0, _, _ => none
  | f + 1, .lev n, r =>
    if n = 9 then run f .opnd r else (run f (.lev (n + 1)) r).bind fun (p, r1) => if n ≤ 2 then run f (.rl n [p] []) r1 else run f (.ll n p) r1
  | f + 1, .rl n ps ops, r =>
    match r.sign n with
    | none => some (foldR ps ops, r)
    | some s => (run f (.lev (n + 1)) r.adv).bind fun (p, r1) => run f (.rl n (ps ++ [p]) (ops ++ [s])) r1
  | f + 1, .ll n p, r =>
    match r.sign n with
    | none => some (p, r)
    | some s => (run f (.lev (n + 1)) r.adv).bind fun (q, r1) => if n = 6 then some (sjoin s p q, r1) else run f (.ll n (sjoin s p q)) r1
  | f + 1, .opnd, r =>
    if r.begun = 200 then some (Pt.zero, r.fail 6) else
    match r.open_.sign 9 with
    | none => (run f .single r.open_).map fun (p, r1) => (p, r1.shut)
    | some s =>
      (run f .opnd (if s.1 = 25 then r.open_.adv.numR 1000 else r.open_.adv)).map fun (p, r1) => (joined s.1 (if s.1 = 25 then (r.open_.adv.num 1000 : Nat) else 0) [] [p], r1.shut)
  | f + 1, .single, r =>
    if r.isB lp then (run f (.lev 1) r.adv).map fun (p, r1) => (p, r1.need rp)
    else if r.isB [105, 102] then (run f (.lev 1) r.adv).bind fun (a, r1) => (run f (.lev 1) (r1.need [116, 104, 101, 110])).bind fun (b, r2) => (run f (.lev 1) (r2.need [101, 108, 115, 101])).map fun (c, r3) => (joined 26 0 [] [a, b, c], r3)
    else if r.isB [116, 114, 117, 101] then some (joined 2 1 [] [], r.adv)
    else if r.isB [102, 97, 108, 115, 101] then some (joined 2 0 [] [], r.adv)
    else if r.cur.kind = 2 then some (joined 1 (r.num 2147483647 : Nat) [] [], r.numR 2147483647)
    else if r.cur.kind = 1 ∧ r.cur.text ≠ [] then run f (.named r.cur.text) r
    else some (Pt.zero, r.fail 5)
  | f + 1, .named s, r =>
    if r.adv.isB lp then
      if r.adv.adv.isB rp then some (joined 27 0 s [], r.adv.adv.adv)
      else (run f (.lev 1) r.adv.adv).bind fun (p, r1) => run f (.args s [p]) r1
    else some (joined 3 0 s [], r.adv)
  | f + 1, .args s ps, r =>
    if r.isB [44] then (run f (.lev 1) r.adv).bind fun (p, r1) => run f (.args s (ps ++ [p])) r1
    else some (joined 27 0 s ps, r.need rp)

/-- What Parse answers: the nodes, the token behind, the fault. -/
def parseOf (l : List Tok) (from_ : Nat) : Pt × Rd → List Nd × Nat × Int × Int
  | (p, r) => if r.code ≠ 0 then ([], 0, r.code, r.at_) else if 5000 < p.nodes then ([], 0, 7, atM l from_) else if 40 < p.deep then ([], 0, 6, atM l from_) else (p.e, r.next, 0, 0)
def fuelOf (l : List Tok) (from_ : Nat) : Nat := 30 * (l.length - from_) + 30
def parseM (l : List Tok) (from_ : Nat) : List Nd × Nat × Int × Int := match run (fuelOf l from_) (.lev 1) ⟨l, from_, 0, 0, 0⟩ with | some x => parseOf l from_ x | none => ([], 0, 0, 0)
/-- What Read answers. -/
def readM (s : Bytes) : List Nd × Int × Int :=
  match Lx.lexM s with
  | .bad c a => ([], c, a)
  | .ok l =>
    if (parseM l 0).2.2.1 = 0 ∧ (parseM l 0).2.1 < l.length then ([], 5, atM l (parseM l 0).2.1) else ((parseM l 0).1, (parseM l 0).2.2.1, (parseM l 0).2.2.2)
end Go.Proofs.YtgohhnbdicdenaaDoor.Ex

/- A reader's steps: what they leave, how many nodes they read, that they end. Conditions: none. -/
namespace Go.Proofs.YtgohhnbdicdenaaDoor.Ex
open Go.Proofs.YtgohhnbdicdenaaDoor.Tr
set_option linter.unusedVariables false
set_option linter.unusedSimpArgs false

structure Pt.ok (p : Pt) : Prop where
  deep : p.deep ≤ p.nodes
  len : p.e.length ≤ p.nodes
  cap : p.e.length ≤ 5000
def Rd.mu (r : Rd) : Nat := r.next + if r.code = 0 then 0 else 1
def Rd.rem (r : Rd) : Nat := r.l.length - r.next
def Rd.fine (r : Rd) : Prop := r.code ≠ 0 → r.l = []

structure Step (r r' : Rd) : Prop where
  nxt : r.next ≤ r'.next
  top : r'.next ≤ max r.next r.l.length
  beg : r'.begun = r.begun
  st : (r'.l = r.l ∧ r'.code = r.code ∧ r'.at_ = r.at_) ∨ (r'.l = [] ∧ r'.code ≠ 0)
theorem Step.refl (r : Rd) : Step r r := ⟨Nat.le_refl _, by omega, rfl, .inl ⟨rfl, rfl, rfl⟩⟩
theorem Step.fine {r r' : Rd} (h : Step r r') (hf : r.fine) : r'.fine := fun hc => by
  rcases h.st with ⟨h1, h2, _⟩ | ⟨h1, _⟩
  · rw [h1]; exact hf (by rw [← h2]; exact hc)
  · exact h1
theorem Step.rem {r r' : Rd} (h : Step r r') : r'.rem ≤ r.rem := by
  unfold Rd.rem
  have := h.nxt
  rcases h.st with ⟨h1, _⟩ | ⟨h1, _⟩ <;> rw [h1]
  · omega
  · simp
theorem Step.mu {r r' : Rd} (h : Step r r') : r.mu ≤ r'.mu := by
  unfold Rd.mu
  have := h.nxt
  rcases h.st with ⟨_, h2, _⟩ | ⟨_, h2⟩
  · rw [h2]; omega
  · rw [if_neg h2]; split <;> omega
theorem Step.trans {a b c : Rd} (h : Step a b) (k : Step b c) : Step a c := by
  have h1 := h.nxt; have h2 := k.nxt; have h3 := h.top; have h4 := k.top
  refine ⟨by omega, ?_, k.beg.trans h.beg, ?_⟩
  · rcases h.st with ⟨e, _⟩ | ⟨e, _⟩
    · rw [e] at h4; omega
    · rw [e] at h4; simp at h4; omega
  · rcases k.st with ⟨e1, e2, e3⟩ | e
    · rw [e1, e2, e3]; exact h.st
    · exact .inr e
theorem fail_step (e : Int) (he : e ≠ 0) (r : Rd) (hf : r.fine) : Step r (r.fail e) := by
  unfold Rd.fail
  split
  · exact ⟨Nat.le_refl _, by simp; omega, rfl, .inr ⟨rfl, he⟩⟩
  · rename_i h; exact ⟨Nat.le_refl _, by simp; omega, rfl, .inr ⟨rfl, h⟩⟩
theorem adv_step (r : Rd) (h : r.next < r.l.length) : Step r r.adv := ⟨by simp [Rd.adv], by simp [Rd.adv]; omega, rfl, .inl ⟨rfl, rfl, rfl⟩⟩
theorem adv_mu (r : Rd) : r.adv.mu = r.mu + 1 := by unfold Rd.mu Rd.adv; simp; omega
theorem adv_rem (r : Rd) (h : r.next < r.l.length) : r.adv.rem + 1 = r.rem := by unfold Rd.rem Rd.adv; simp; omega
theorem ws_lt {r : Rd} (h : r.ws = true) : r.next < r.l.length := by simp [Rd.ws] at h; exact h.1
theorem isB_lt {r : Rd} {s : Bytes} (h : r.isB s = true) : r.next < r.l.length := by simp [Rd.isB] at h; exact ws_lt h.1
theorem kind_lt {r : Rd} (h : r.cur.kind ≠ 0) : r.next < r.l.length := by
  unfold Rd.cur at h
  by_cases h' : r.next < r.l.length
  · exact h'
  · rw [List.getElem?_eq_none (by omega)] at h; simp [noTok] at h
theorem need_step (s : Bytes) (r : Rd) (hf : r.fine) : Step r (r.need s) := by
  unfold Rd.need
  split
  · rename_i h; exact adv_step r (isB_lt h)
  · exact fail_step 5 (by decide) r hf
theorem num_lt {m : Nat} {r : Rd} (h : numB m r.cur = true) : r.next < r.l.length := by
  simp [numB] at h; exact kind_lt (by omega)
theorem numR_step (m : Nat) (r : Rd) (hf : r.fine) : Step r (r.numR m) := by
  unfold Rd.numR
  split
  · rename_i h; exact adv_step r (num_lt h)
  · exact fail_step 5 (by decide) r hf
theorem numR_mu (m : Nat) (r : Rd) (hf : r.fine) (h : r.next < r.l.length) : r.mu + 1 ≤ (r.numR m).mu := by
  unfold Rd.numR
  split
  · rw [adv_mu]; exact Nat.le_refl _
  · have hc : r.code = 0 := by
      apply Classical.byContradiction; intro hc
      have := hf hc; rw [this] at h; simp at h
    unfold Rd.fail Rd.mu; simp [hc]
theorem sign_lt {r : Rd} {n : Nat} {s : Int × Bool} (h : r.sign n = some s) : r.next < r.l.length := by
  unfold Rd.sign at h
  split at h
  · rename_i h'; exact ws_lt h'
  · cases h
def opsB (s : Int × Bool) : Bool := decide (4 ≤ s.1) && decide (s.1 ≤ 25)
theorem signs_ops (n : Nat) : ∀ x ∈ signsM n, opsB x.2 = true := by
  match n with
  | 0 => simp [signsM]
  | 1 => decide
  | 2 => decide
  | 3 => decide
  | 4 => decide
  | 5 => decide
  | 6 => decide
  | 7 => decide
  | 8 => decide
  | 9 => decide
  | n + 10 => intro x hx; simp [signsM] at hx
theorem lookup_mem {α β : Type} [BEq α] [LawfulBEq α] : ∀ (l : List (α × β)) (k : α) (v : β), l.lookup k = some v → (k, v) ∈ l
  | [], k, v, h => by simp at h
  | (a, b) :: r, k, v, h => by
    rw [List.lookup_cons] at h
    split at h
    · rename_i e; simp at e h; subst e; subst h; simp
    · exact List.mem_cons_of_mem _ (lookup_mem r k v h)
theorem sign_ops {r : Rd} {n : Nat} {s : Int × Bool} (h : r.sign n = some s) : 4 ≤ s.1 ∧ s.1 ≤ 25 := by
  unfold Rd.sign at h
  split at h
  · have := signs_ops n _ (lookup_mem _ _ _ h); simpa [opsB] using this
  · cases h

theorem nodes_fold (op : Int) (ps : List Pt) : ∀ a, ps.foldl (fun a p => a + p.nodes + if op = 27 then 1 else 0) a = a + (ps.map Pt.nodes).sum + (if op = 27 then ps.length else 0) := by
  induction ps with
  | nil => intro a; simp
  | cons p r ih => intro a; rw [List.foldl_cons, ih, List.map_cons, List.sum_cons]; split <;> simp <;> omega
theorem nodes_eq (op : Int) (ps : List Pt) : nodesOf op ps = 1 + (ps.map Pt.nodes).sum + (if op = 27 then ps.length else 0) := nodes_fold op ps 1
theorem deep_fold (op : Int) (ps : List Pt) (h : ∀ p ∈ ps, p.deep ≤ p.nodes) : ∀ a d, 1 ≤ a → d ≤ a → ps.foldl (fun a p => max a (1 + p.deep) + if op = 27 then 1 else 0) d ≤ ps.foldl (fun a p => a + p.nodes + if op = 27 then 1 else 0) a := by
  induction ps with
  | nil => intro a d _ h; exact h
  | cons p r ih =>
    intro a d ha hd
    rw [List.foldl_cons, List.foldl_cons]
    have := h p (by simp)
    exact ih (fun q hq => h q (by simp [hq])) _ _ (by omega) (by split <;> omega)
theorem lens_le (ps : List Pt) (h : ∀ p ∈ ps, p.e.length ≤ p.nodes) : ((ps.map Pt.e).map List.length).sum ≤ (ps.map Pt.nodes).sum := by
  induction ps with
  | nil => simp
  | cons p r ih =>
    have := h p (by simp); have := ih (fun q hq => h q (by simp [hq]))
    simp only [List.map_cons, List.sum_cons]; omega
theorem joinM_len (op n : Int) (s : Bytes) (ls : List (List Nd)) : (joinM op n s ls).length ≤ 1 + (ls.map List.length).sum + (if op = 27 then ls.length else 0) := by
  have hk : ∀ l : List (List Nd), (l.map (fun p => p.length + 1)).sum = (l.map List.length).sum + l.length := fun l => by
    induction l with
    | nil => rfl
    | cons a r ih => simp only [List.map_cons, List.sum_cons, ih, List.length_cons]; omega
  unfold joinM
  split
  · simp
  · split
    · simp
    · split
      · rename_i h; unfold callM; rw [List.length_append, callF_len, hk]; simp [h]; omega
      · split
        · rw [List.length_append, (layF_lens ls).1]; simp; omega
        · simp
theorem joined_ok (op n : Int) (s : Bytes) (ps : List Pt) (h : ∀ p ∈ ps, p.ok) : (joined op n s ps).ok := by
  refine ⟨deep_fold op ps (fun p hp => (h p hp).deep) 1 1 (Nat.le_refl _) (Nat.le_refl _), ?_, ?_⟩
  · show (if _ then _ else _ : List Nd).length ≤ nodesOf op ps
    split
    · have h1 := joinM_len op n s (ps.map Pt.e)
      have h2 := lens_le ps (fun p hp => (h p hp).len)
      rw [nodes_eq]
      simp only [List.length_map] at h1
      omega
    · simp
  · show (if _ then _ else _ : List Nd).length ≤ 5000
    split
    · rename_i hl
      have h1 := joinM_len op n s (ps.map Pt.e)
      have h2 := lens_le ps (fun p hp => (h p hp).len)
      have h3 := hl.1
      rw [nodes_eq] at h3
      simp only [List.length_map] at h1
      omega
    · simp
theorem zero_ok : Pt.zero.ok := ⟨Nat.le_refl _, Nat.le_refl _, by simp [Pt.zero]⟩
theorem sjoin_ok (s : Int × Bool) (p q : Pt) (hp : p.ok) (hq : q.ok) : (sjoin s p q).ok := by
  unfold sjoin
  split <;> exact joined_ok _ _ _ _ (by simp [hp, hq])
theorem joined_nodes (op n : Int) (s : Bytes) (ps : List Pt) : (joined op n s ps).nodes = 1 + (ps.map Pt.nodes).sum + (if op = 27 then ps.length else 0) := nodes_eq op ps
theorem sjoin_nodes (s : Int × Bool) (p q : Pt) (h : s.1 ≤ 25) : (sjoin s p q).nodes = p.nodes + q.nodes + 1 := by
  unfold sjoin
  split <;> (rw [joined_nodes, if_neg (by omega)]; simp; omega)
theorem foldR_ok : ∀ (ps : List Pt) (ops : List (Int × Bool)), (∀ p ∈ ps, p.ok) → (foldR ps ops).ok
  | p :: ps, o :: os, h => sjoin_ok o p _ (h p (by simp)) (foldR_ok ps os (fun q hq => h q (by simp [hq])))
  | p :: _, [], h => h p (by simp)
  | [], _, _ => zero_ok
theorem foldR_nodes : ∀ (ps : List Pt) (ops : List (Int × Bool)), (∀ s ∈ ops, s.1 ≤ 25) → (foldR ps ops).nodes ≤ (ps.map Pt.nodes).sum + ops.length
  | p :: ps, o :: os, h => by
    have := foldR_nodes ps os (fun q hq => h q (by simp [hq]))
    show (sjoin o p (foldR ps os)).nodes ≤ _
    rw [sjoin_nodes _ _ _ (h o (by simp))]; simp; omega
  | p :: ps, [], h => by show p.nodes ≤ _; simp
  | [], _, _ => by simp [foldR, Pt.zero]

def Task.base : Task → Nat
  | .rl _ ps ops => (ps.map Pt.nodes).sum + ops.length
  | .ll _ p => p.nodes
  | .args _ ps => 1 + (ps.map Pt.nodes).sum + ps.length
  | _ => 0
def Task.wt : Task → Nat
  | .lev n => 4 + (10 - n)
  | .opnd => 4
  | .single => 3
  | .named _ => 2
  | _ => 1
def Task.pre (r : Rd) : Task → Prop
  | .lev n => n ≤ 9
  | .rl n ps ops => n ≤ 8 ∧ (∀ p ∈ ps, p.ok) ∧ ∀ s ∈ ops, s.1 ≤ 25
  | .ll n p => n ≤ 8 ∧ p.ok
  | .named _ => r.next < r.l.length
  | .args _ ps => ∀ p ∈ ps, p.ok
  | _ => True

theorem bind_some {α β : Type} {x : Option α} {f : α → Option β} {b : β} (h : x.bind f = some b) : ∃ a, x = some a ∧ f a = some b := by
  cases x with
  | none => cases h
  | some a => exact ⟨a, rfl, h⟩
theorem map_some {α β : Type} {x : Option α} {f : α → β} {b : β} (h : x.map f = some b) : ∃ a, x = some a ∧ f a = b := by
  cases x with
  | none => cases h
  | some a => exact ⟨a, rfl, by simpa using h⟩

theorem open_fine {r : Rd} (h : r.fine) : r.open_.fine := h
theorem shut_step {r r1 : Rd} (h : Step r.open_ r1) : Step r r1.shut :=
  ⟨h.nxt, h.top, by have := h.beg; simp [Rd.open_] at this; simp [Rd.shut, this], h.st⟩
theorem open_next (r : Rd) : r.open_.next = r.next := rfl
theorem open_mu (r : Rd) : r.open_.mu = r.mu := rfl
theorem shut_mu (r : Rd) : r.shut.mu = r.mu := rfl

/-- What a run leaves. -/
theorem run_step : ∀ (f : Nat) (t : Task) (r : Rd) (p : Pt) (r' : Rd), run f t r = some (p, r') → r.fine → t.pre r → Step r r' ∧ p.ok ∧ p.nodes + r.mu ≤ t.base + r'.mu := by
  intro f
  induction f with
  | zero => intro t r p r' h; cases h
  | succ f ih =>
    intro t r p r' h hf hp
    cases t with
    | lev n =>
      simp only [run] at h
      split at h
      · have := ih _ _ _ _ h hf trivial; exact this
      · rename_i h9
        obtain ⟨⟨q, r1⟩, h1, h2⟩ := bind_some h
        obtain ⟨s1, o1, b1⟩ := ih _ _ _ _ h1 hf (by simp only [Task.pre] at hp ⊢; omega)
        simp only at h2
        simp only [Task.base] at b1 ⊢
        simp only [Task.pre] at hp
        split at h2
        · obtain ⟨s2, o2, b2⟩ := ih _ _ _ _ h2 (s1.fine hf) ⟨by omega, by simp [o1], by simp⟩
          simp only [Task.base, List.map_cons, List.map_nil, List.sum_cons, List.sum_nil, List.length_nil] at b2
          exact ⟨s1.trans s2, o2, by omega⟩
        · obtain ⟨s2, o2, b2⟩ := ih _ _ _ _ h2 (s1.fine hf) ⟨by omega, o1⟩
          simp only [Task.base] at b2
          exact ⟨s1.trans s2, o2, by omega⟩
    | rl n ps ops =>
      simp only [run] at h
      obtain ⟨hn, hps, hops⟩ := hp
      split at h
      · simp only [Option.some.injEq, Prod.mk.injEq] at h
        obtain ⟨rfl, rfl⟩ := h
        exact ⟨Step.refl _, foldR_ok _ _ hps, by have := foldR_nodes ps ops hops; simp only [Task.base]; omega⟩
      · rename_i s hs
        obtain ⟨⟨q, r1⟩, h1, h2⟩ := bind_some h
        have hl := sign_lt hs
        have hso := sign_ops hs
        have ha := adv_step r hl
        obtain ⟨s1, o1, b1⟩ := ih _ _ _ _ h1 (ha.fine hf) (by simp only [Task.pre]; omega)
        obtain ⟨s2, o2, b2⟩ := ih _ _ _ _ h2 (s1.fine (ha.fine hf)) ⟨hn, by intro x hx; simp at hx; rcases hx with hx | hx; exact hps x hx; subst hx; exact o1, by intro x hx; simp at hx; rcases hx with hx | hx; exact hops x hx; subst hx; exact hso.2⟩
        rw [adv_mu] at b1
        simp only [Task.base, List.map_append, List.map_cons, List.map_nil, List.sum_append, List.sum_cons, List.sum_nil, List.length_append, List.length_cons, List.length_nil] at b1 b2 ⊢
        exact ⟨(ha.trans s1).trans s2, o2, by omega⟩
    | ll n p0 =>
      simp only [run] at h
      obtain ⟨hn, hp0⟩ := hp
      split at h
      · simp only [Option.some.injEq, Prod.mk.injEq] at h
        obtain ⟨rfl, rfl⟩ := h
        exact ⟨Step.refl _, hp0, Nat.le_refl _⟩
      · rename_i s hs
        obtain ⟨⟨q, r1⟩, h1, h2⟩ := bind_some h
        have hl := sign_lt hs
        have hso := sign_ops hs
        have ha := adv_step r hl
        obtain ⟨s1, o1, b1⟩ := ih _ _ _ _ h1 (ha.fine hf) (by simp only [Task.pre]; omega)
        rw [adv_mu] at b1
        have hj := sjoin_nodes s p0 q hso.2
        simp only at h2
        split at h2
        · simp only [Option.some.injEq, Prod.mk.injEq] at h2
          obtain ⟨rfl, rfl⟩ := h2
          simp only [Task.base] at b1 ⊢
          exact ⟨ha.trans s1, sjoin_ok _ _ _ hp0 o1, by omega⟩
        · obtain ⟨s2, o2, b2⟩ := ih _ _ _ _ h2 (s1.fine (ha.fine hf)) ⟨hn, sjoin_ok _ _ _ hp0 o1⟩
          simp only [Task.base] at b1 b2 ⊢
          exact ⟨(ha.trans s1).trans s2, o2, by omega⟩
    | opnd =>
      simp only [run] at h
      split at h
      · simp only [Option.some.injEq, Prod.mk.injEq] at h
        obtain ⟨rfl, rfl⟩ := h
        have s1 := fail_step 6 (by decide) r hf
        exact ⟨s1, zero_ok, by have := s1.mu; simp [Pt.zero, Task.base]; omega⟩
      · split at h
        · obtain ⟨⟨q, r1⟩, h1, h2⟩ := map_some h
          simp only [Prod.mk.injEq] at h2
          obtain ⟨rfl, rfl⟩ := h2
          obtain ⟨s1, o1, b1⟩ := ih _ _ _ _ h1 hf trivial
          exact ⟨shut_step s1, o1, b1⟩
        · rename_i s hs
          obtain ⟨⟨q, r1⟩, h1, h2⟩ := map_some h
          simp only [Prod.mk.injEq] at h2
          obtain ⟨rfl, rfl⟩ := h2
          have hl := sign_lt hs
          have hso := sign_ops hs
          have ha := adv_step r.open_ hl
          have hb : Step r.open_ (if s.1 = 25 then r.open_.adv.numR 1000 else r.open_.adv) := by
            split
            · exact ha.trans (numR_step _ _ (ha.fine hf))
            · exact ha
          have hm : r.mu + 1 ≤ (if s.1 = 25 then r.open_.adv.numR 1000 else r.open_.adv).mu := by
            split
            · have := (numR_step 1000 _ (ha.fine hf)).mu
              rw [adv_mu, open_mu] at this; omega
            · rw [adv_mu, open_mu]; exact Nat.le_refl _
          obtain ⟨s1, o1, b1⟩ := ih _ _ _ _ h1 (hb.fine hf) trivial
          refine ⟨shut_step (hb.trans s1), joined_ok _ _ _ _ (by simp [o1]), ?_⟩
          rw [joined_nodes, if_neg (by omega), shut_mu]
          simp only [Task.base, List.map_cons, List.map_nil, List.sum_cons, List.sum_nil] at b1 ⊢
          omega
    | single =>
      simp only [run] at h
      split at h
      · rename_i hb
        have hl := isB_lt hb
        have ha := adv_step r hl
        obtain ⟨⟨q, r1⟩, h1, h2⟩ := map_some h
        simp only [Prod.mk.injEq] at h2
        obtain ⟨rfl, rfl⟩ := h2
        obtain ⟨s1, o1, b1⟩ := ih _ _ _ _ h1 (ha.fine hf) (by simp [Task.pre])
        have s2 := need_step rp r1 (s1.fine (ha.fine hf))
        have := s2.mu
        rw [adv_mu] at b1
        exact ⟨(ha.trans s1).trans s2, o1, by simp only [Task.base] at b1 ⊢; omega⟩
      · split at h
        · rename_i hb
          have hl := isB_lt hb
          have ha := adv_step r hl
          obtain ⟨⟨a, r1⟩, h1, h⟩ := bind_some h
          obtain ⟨⟨b, r2⟩, h2, h⟩ := bind_some h
          obtain ⟨⟨c, r3⟩, h3, h⟩ := map_some h
          simp only [Prod.mk.injEq] at h
          obtain ⟨rfl, rfl⟩ := h
          obtain ⟨s1, o1, b1⟩ := ih _ _ _ _ h1 (ha.fine hf) (by simp [Task.pre])
          have f1 := s1.fine (ha.fine hf)
          have n1 := need_step [116, 104, 101, 110] r1 f1
          obtain ⟨s2, o2, b2⟩ := ih _ _ _ _ h2 (n1.fine f1) (by simp [Task.pre])
          have f2 := s2.fine (n1.fine f1)
          have n2 := need_step [101, 108, 115, 101] r2 f2
          obtain ⟨s3, o3, b3⟩ := ih _ _ _ _ h3 (n2.fine f2) (by simp [Task.pre])
          have m1 := n1.mu
          have m2 := n2.mu
          rw [adv_mu] at b1
          refine ⟨((((ha.trans s1).trans n1).trans s2).trans n2).trans s3, joined_ok _ _ _ _ (by simp [o1, o2, o3]), ?_⟩
          rw [joined_nodes]
          simp only [Task.base] at b1 b2 b3 ⊢
          simp
          omega
        · split at h
          · rename_i hb
            have ha := adv_step r (isB_lt hb)
            simp only [Option.some.injEq, Prod.mk.injEq] at h
            obtain ⟨rfl, rfl⟩ := h
            exact ⟨ha, joined_ok _ _ _ _ (by simp), by rw [joined_nodes, adv_mu]; simp [Task.base]; omega⟩
          · split at h
            · rename_i hb
              have ha := adv_step r (isB_lt hb)
              simp only [Option.some.injEq, Prod.mk.injEq] at h
              obtain ⟨rfl, rfl⟩ := h
              exact ⟨ha, joined_ok _ _ _ _ (by simp), by rw [joined_nodes, adv_mu]; simp [Task.base]; omega⟩
            · split at h
              · rename_i hk
                have hl := kind_lt (r := r) (by omega)
                simp only [Option.some.injEq, Prod.mk.injEq] at h
                obtain ⟨rfl, rfl⟩ := h
                have := numR_mu 2147483647 r hf hl
                exact ⟨numR_step _ _ hf, joined_ok _ _ _ _ (by simp), by rw [joined_nodes]; simp [Task.base]; omega⟩
              · split at h
                · rename_i hk
                  exact ih (.named r.cur.text) _ _ _ h hf (kind_lt (r := r) (by omega))
                · simp only [Option.some.injEq, Prod.mk.injEq] at h
                  obtain ⟨rfl, rfl⟩ := h
                  have s1 := fail_step 5 (by decide) r hf
                  exact ⟨s1, zero_ok, by have := s1.mu; simp [Pt.zero, Task.base]; omega⟩
    | named s =>
      simp only [run] at h
      have ha := adv_step r hp
      split at h
      · rename_i hb
        have hb1 := adv_step _ (isB_lt hb)
        split at h
        · rename_i hc
          have hc1 := adv_step _ (isB_lt hc)
          simp only [Option.some.injEq, Prod.mk.injEq] at h
          obtain ⟨rfl, rfl⟩ := h
          exact ⟨(ha.trans hb1).trans hc1, joined_ok _ _ _ _ (by simp), by rw [joined_nodes, adv_mu, adv_mu, adv_mu]; simp [Task.base]; omega⟩
        · obtain ⟨⟨q, r1⟩, h1, h2⟩ := bind_some h
          have hab := ha.trans hb1
          obtain ⟨s1, o1, b1⟩ := ih _ _ _ _ h1 (hab.fine hf) (by simp [Task.pre])
          obtain ⟨s2, o2, b2⟩ := ih _ _ _ _ h2 (s1.fine (hab.fine hf)) (by simp [Task.pre, o1])
          rw [adv_mu, adv_mu] at b1
          simp only [Task.base, List.map_cons, List.map_nil, List.sum_cons, List.sum_nil, List.length_cons, List.length_nil] at b1 b2 ⊢
          exact ⟨(hab.trans s1).trans s2, o2, by omega⟩
      · simp only [Option.some.injEq, Prod.mk.injEq] at h
        obtain ⟨rfl, rfl⟩ := h
        exact ⟨ha, joined_ok _ _ _ _ (by simp), by rw [joined_nodes, adv_mu]; simp [Task.base]; omega⟩
    | args s ps =>
      simp only [run] at h
      split at h
      · rename_i hb
        have ha := adv_step r (isB_lt hb)
        obtain ⟨⟨q, r1⟩, h1, h2⟩ := bind_some h
        obtain ⟨s1, o1, b1⟩ := ih _ _ _ _ h1 (ha.fine hf) (by simp [Task.pre])
        obtain ⟨s2, o2, b2⟩ := ih _ _ _ _ h2 (s1.fine (ha.fine hf)) (by intro x hx; simp at hx; rcases hx with hx | hx; exact hp x hx; subst hx; exact o1)
        rw [adv_mu] at b1
        simp only [Task.base, List.map_append, List.map_cons, List.map_nil, List.sum_append, List.sum_cons, List.sum_nil, List.length_append, List.length_cons, List.length_nil] at b1 b2 ⊢
        exact ⟨(ha.trans s1).trans s2, o2, by omega⟩
      · simp only [Option.some.injEq, Prod.mk.injEq] at h
        obtain ⟨rfl, rfl⟩ := h
        have s1 := need_step rp r hf
        exact ⟨s1, joined_ok _ _ _ _ hp, by rw [joined_nodes, if_pos rfl]; have := s1.mu; simp only [Task.base]; omega⟩

/-- A run ends. -/
theorem run_total : ∀ (f : Nat) (t : Task) (r : Rd), r.fine → t.pre r → 24 * r.rem + t.wt ≤ f → ∃ x, run f t r = some x := by
  intro f
  induction f with
  | zero => intro t r _ _ h; cases t <;> simp [Task.wt] at h <;> omega
  | succ f ih =>
    intro t r hf hp hw
    have IH : ∀ (t : Task) (r : Rd), r.fine → t.pre r → 24 * r.rem + t.wt ≤ f → ∃ p r', run f t r = some (p, r') ∧ Step r r' ∧ p.ok := fun t r h1 h2 h3 => by
      obtain ⟨⟨p, r'⟩, h⟩ := ih t r h1 h2 h3
      obtain ⟨a, b, _⟩ := run_step _ _ _ _ _ h h1 h2
      exact ⟨p, r', h, a, b⟩
    cases t with
    | lev n =>
      simp only [run]
      simp only [Task.pre] at hp
      simp only [Task.wt] at hw
      split
      · obtain ⟨p, r', h, _⟩ := IH .opnd r hf trivial (by simp only [Task.wt]; omega)
        exact ⟨_, h⟩
      · obtain ⟨p, r1, h, s1, o1⟩ := IH (.lev (n + 1)) r hf (by simp only [Task.pre]; omega) (by simp only [Task.wt]; omega)
        rw [h]
        have := s1.rem
        simp only [Option.bind_some]
        split
        · obtain ⟨p2, r2, h2, _⟩ := IH (.rl n [p] []) r1 (s1.fine hf) ⟨by omega, by simp [o1], by simp⟩ (by simp only [Task.wt]; omega)
          exact ⟨_, h2⟩
        · obtain ⟨p2, r2, h2, _⟩ := IH (.ll n p) r1 (s1.fine hf) ⟨by omega, o1⟩ (by simp only [Task.wt]; omega)
          exact ⟨_, h2⟩
    | rl n ps ops =>
      simp only [run]
      obtain ⟨hn, hps, hops⟩ := hp
      split
      · exact ⟨_, rfl⟩
      · rename_i s hs
        have hl := sign_lt hs
        have ha := adv_step r hl
        have hr := adv_rem r hl
        simp only [Task.wt] at hw
        obtain ⟨p, r1, h, s1, o1⟩ := IH (.lev (n + 1)) r.adv (ha.fine hf) (by simp only [Task.pre]; omega) (by simp only [Task.wt]; omega)
        rw [h]
        have := s1.rem
        obtain ⟨p2, r2, h2, _⟩ := IH (.rl n (ps ++ [p]) (ops ++ [s])) r1 (s1.fine (ha.fine hf)) ⟨hn, by intro x hx; simp at hx; rcases hx with hx | hx; exact hps x hx; subst hx; exact o1, by intro x hx; simp at hx; rcases hx with hx | hx; exact hops x hx; subst hx; exact (sign_ops hs).2⟩ (by simp only [Task.wt]; omega)
        exact ⟨_, h2⟩
    | ll n p0 =>
      simp only [run]
      obtain ⟨hn, hp0⟩ := hp
      split
      · exact ⟨_, rfl⟩
      · rename_i s hs
        have hl := sign_lt hs
        have ha := adv_step r hl
        have hr := adv_rem r hl
        simp only [Task.wt] at hw
        obtain ⟨p, r1, h, s1, o1⟩ := IH (.lev (n + 1)) r.adv (ha.fine hf) (by simp only [Task.pre]; omega) (by simp only [Task.wt]; omega)
        rw [h]
        have := s1.rem
        simp only [Option.bind_some]
        split
        · exact ⟨_, rfl⟩
        · obtain ⟨p2, r2, h2, _⟩ := IH (.ll n (sjoin s p0 p)) r1 (s1.fine (ha.fine hf)) ⟨hn, sjoin_ok _ _ _ hp0 o1⟩ (by simp only [Task.wt]; omega)
          exact ⟨_, h2⟩
    | opnd =>
      simp only [run]
      simp only [Task.wt] at hw
      split
      · exact ⟨_, rfl⟩
      · split
        · obtain ⟨p, r1, h, _⟩ := IH .single r.open_ hf trivial (by simp only [Task.wt]; have : r.open_.rem = r.rem := rfl; omega)
          rw [h]; exact ⟨_, rfl⟩
        · rename_i s hs
          have hl := sign_lt hs
          have ha := adv_step r.open_ hl
          have hr := adv_rem r.open_ hl
          have : r.open_.rem = r.rem := rfl
          have hb : Step r.open_.adv (if s.1 = 25 then r.open_.adv.numR 1000 else r.open_.adv) := by
            split
            · exact numR_step _ _ (ha.fine hf)
            · exact Step.refl _
          have := hb.rem
          obtain ⟨p, r1, h, _⟩ := IH .opnd _ (hb.fine (ha.fine hf)) trivial (by simp only [Task.wt]; omega)
          rw [h]; exact ⟨_, rfl⟩
    | single =>
      simp only [run]
      simp only [Task.wt] at hw
      split
      · rename_i hb
        have hl := isB_lt hb
        have ha := adv_step r hl
        have hr := adv_rem r hl
        obtain ⟨p, r1, h, _⟩ := IH (.lev 1) r.adv (ha.fine hf) (by simp [Task.pre]) (by simp only [Task.wt]; omega)
        rw [h]; exact ⟨_, rfl⟩
      · split
        · rename_i hb
          have hl := isB_lt hb
          have ha := adv_step r hl
          have hr := adv_rem r hl
          obtain ⟨p, r1, h, s1, o1⟩ := IH (.lev 1) r.adv (ha.fine hf) (by simp [Task.pre]) (by simp only [Task.wt]; omega)
          rw [h]
          have f1 := s1.fine (ha.fine hf)
          have n1 := need_step [116, 104, 101, 110] r1 f1
          have := s1.rem
          have := n1.rem
          simp only [Option.bind_some]
          obtain ⟨p, r2, h, s2, o2⟩ := IH (.lev 1) _ (n1.fine f1) (by simp [Task.pre]) (by simp only [Task.wt]; omega)
          rw [h]
          have f2 := s2.fine (n1.fine f1)
          have n2 := need_step [101, 108, 115, 101] r2 f2
          have := s2.rem
          have := n2.rem
          simp only [Option.bind_some]
          obtain ⟨p, r3, h, s3, o3⟩ := IH (.lev 1) _ (n2.fine f2) (by simp [Task.pre]) (by simp only [Task.wt]; omega)
          rw [h]; exact ⟨_, rfl⟩
        · split
          · exact ⟨_, rfl⟩
          · split
            · exact ⟨_, rfl⟩
            · split
              · exact ⟨_, rfl⟩
              · split
                · rename_i hk
                  exact ih (.named r.cur.text) _ hf (kind_lt (r := r) (by omega)) (by simp only [Task.wt]; omega)
                · exact ⟨_, rfl⟩
    | named s =>
      simp only [run]
      simp only [Task.wt] at hw
      have ha := adv_step r hp
      have hr := adv_rem r hp
      split
      · rename_i hb
        have hb1 := adv_step _ (isB_lt hb)
        have hr2 := adv_rem _ (isB_lt hb)
        split
        · exact ⟨_, rfl⟩
        · have hab := ha.trans hb1
          obtain ⟨p, r1, h, s1, o1⟩ := IH (.lev 1) _ (hab.fine hf) (by simp [Task.pre]) (by simp only [Task.wt]; omega)
          rw [h]
          have := s1.rem
          simp only [Option.bind_some]
          exact ih _ _ (s1.fine (hab.fine hf)) (by simp [Task.pre, o1]) (by simp only [Task.wt]; omega)
      · exact ⟨_, rfl⟩
    | args s ps =>
      simp only [run]
      simp only [Task.wt] at hw
      split
      · rename_i hb
        have ha := adv_step r (isB_lt hb)
        have hr := adv_rem r (isB_lt hb)
        obtain ⟨p, r1, h, s1, o1⟩ := IH (.lev 1) r.adv (ha.fine hf) (by simp [Task.pre]) (by simp only [Task.wt]; omega)
        rw [h]
        have := s1.rem
        simp only [Option.bind_some]
        exact ih _ _ (s1.fine (ha.fine hf)) (by intro x hx; simp at hx; rcases hx with hx | hx; exact hp x hx; subst hx; exact o1) (by simp only [Task.wt]; omega)
      · exact ⟨_, rfl⟩
end Go.Proofs.YtgohhnbdicdenaaDoor.Ex

/- The small functions of layer lex return what the plain functions of LexM say, and leave memory alone. Conditions: lengths within a machine's; a row of digits is not empty. -/
namespace Go.Proofs.YtgohhnbdicdenaaDoor.Lx
open Go.ChangeShapes Go.WideShapes Go.ChangeAt Go.RowKit
set_option linter.unusedVariables false

theorem ret_bool {a b : Bool} (h : a = b) : Ending.returned (.bool a) = .returned (.bool b) := by rw [h]

theorem le_cast (a b : UInt8) : (a ≤ b) ↔ ((a.toNat : Int) ≤ (b.toNat : Int)) := by rw [UInt8.le_iff_toNat_le]; omega
theorem eq_cast (a b : UInt8) : (a = b) ↔ ((a.toNat : Int) = (b.toNat : Int)) := by rw [← UInt8.toNat_inj]; omega

theorem isDigit_any (c : UInt8) (w : World) :
    Calls Tryd.prog 49 #[.int .u8 c.toNat] w fun e w' => e = .returned (.bool (digitB c)) ∧ w = w' := by
  by_cases h : (48 : Int) ≤ c.toNat
  · have e : digitB c = decide ((c.toNat : Int) ≤ 57) := by
      have h1 : (48 : UInt8) ≤ c := (le_cast _ _).2 h
      simp only [digitB, h1, decide_true, Bool.true_and, decide_eq_decide]; exact le_cast _ _
    rw [e]
    go_enter Tryd.func49, Tryd.ntmps49
    go_wp2
    go_ret
    exact ⟨rfl, rfl⟩
  · have e : digitB c = false := by
      have h1 : ¬ (48 : UInt8) ≤ c := fun h' => h ((le_cast _ _).1 h')
      simp [digitB, h1]
    rw [e]
    go_enter Tryd.func49, Tryd.ntmps49
    go_wp2
    go_ret
    exact ⟨rfl, rfl⟩

theorem isOfName_any (c : UInt8) (w : World) :
    Calls Tryd.prog 51 #[.int .u8 c.toNat] w fun e w' => e = .returned (.bool (ofNameB c)) ∧ w = w' := by
  have hb : ofNameB c = (decide ((97 : Int) ≤ c.toNat) && decide ((c.toNat : Int) ≤ 122) || ((c.toNat : Int) == 95) || digitB c) := by
    unfold ofNameB
    have e1 : decide ((97 : UInt8) ≤ c) = decide ((97 : Int) ≤ c.toNat) := decide_eq_decide.2 (le_cast _ _)
    have e2 : decide (c ≤ (122 : UInt8)) = decide ((c.toNat : Int) ≤ 122) := decide_eq_decide.2 (le_cast _ _)
    have e3 : (c == (95 : UInt8)) = ((c.toNat : Int) == 95) := by
      rw [Bool.eq_iff_iff, beq_iff_eq, beq_iff_eq]; exact eq_cast _ _
    rw [e1, e2, e3]
  rw [hb]
  clear hb
  by_cases h1 : (97 : Int) ≤ c.toNat <;> by_cases h2 : (c.toNat : Int) ≤ 122 <;> rcases Bool.eq_false_or_eq_true ((c.toNat : Int) == 95) with h3 | h3
  all_goals
    go_enter Tryd.func51, Tryd.ntmps51
    go_wp2_with (go_at_call 49; refine (isDigit_any _ _).mono ?_; rintro e w' ⟨rfl, rfl⟩)
  all_goals
    go_ret
    exact ⟨ret_bool (by first | (simp [h1, h2, h3]; done) | (simp [h1, h2, h3]; intros; omega)), rfl⟩

theorem isBlank_any (c : UInt8) (w : World) :
    Calls Tryd.prog 77 #[.int .u8 c.toNat] w fun e w' => e = .returned (.bool (blankB c)) ∧ w = w' := by
  have q : ∀ k : UInt8, (c == k) = ((c.toNat : Int) == (k.toNat : Int)) := fun k => by
    rw [Bool.eq_iff_iff, beq_iff_eq, beq_iff_eq]; exact eq_cast _ _
  have hb : blankB c = (((c.toNat : Int) == 32) || ((c.toNat : Int) == 9) || ((c.toNat : Int) == 10) || ((c.toNat : Int) == 13)) := by
    unfold blankB; rw [q 32, q 9, q 10, q 13]; rfl
  rw [hb]
  clear hb q
  rcases Bool.eq_false_or_eq_true ((c.toNat : Int) == 32) with h1 | h1 <;> rcases Bool.eq_false_or_eq_true ((c.toNat : Int) == 9) with h2 | h2 <;> rcases Bool.eq_false_or_eq_true ((c.toNat : Int) == 10) with h3 | h3
  all_goals
    go_enter Tryd.func77, Tryd.ntmps77
    go_wp2
  all_goals
    go_ret
    exact ⟨ret_bool (by simp [h1, h2, h3]), rfl⟩

set_option maxRecDepth 100000 in
set_option maxHeartbeats 1000000 in
theorem isWord_any (s : ByteArray) (w : World) :
    Calls Tryd.prog 68 #[.string s] w fun e w' => e = .returned (.bool (wordB s.toList)) ∧ w = w' := by
  go_enter Tryd.func68, Tryd.ntmps68
  go_wp2
  all_goals
    go_ret
    go_light
    refine ⟨ret_bool ?_, rfl⟩
    simp_all [wordB, words]
end Go.Proofs.YtgohhnbdicdenaaDoor.Lx

/- Further functions of layer lex return what the plain functions of LexM say, and leave memory alone. Conditions: lengths within a machine's; a row of digits, a text with a sign are not empty. -/
namespace Go.Proofs.YtgohhnbdicdenaaDoor.Lx
open Go.ChangeShapes Go.WideShapes Go.ChangeAt Go.RowKit
set_option linter.unusedVariables false

/-- A text of bytes. -/
def str (l : Bytes) : ByteArray := ⟨l.toArray⟩
theorem str_toList (l : Bytes) : (str l).toList = l := by unfold str; rw [ByteArray.toList_eq]
theorem str_size (l : Bytes) : (str l).size = l.length := by show l.toArray.size = _; simp
theorem toList_len (s : ByteArray) : s.toList.length = s.size := by rw [ByteArray.toList_eq]; exact Array.length_toList
theorem ext_toList {a b : ByteArray} (h : a.toList = b.toList) : a = b := by
  rw [ByteArray.toList_eq, ByteArray.toList_eq] at h
  obtain ⟨⟨a⟩⟩ := a; obtain ⟨⟨b⟩⟩ := b
  simp at h; rw [h]
theorem str_of (s : ByteArray) : str s.toList = s := ext_toList (str_toList _)
theorem ret_str {a b : ByteArray} (h : a.toList = b.toList) : Ending.returned (.string a) = .returned (.string b) := by rw [ext_toList h]
theorem toList_get (s : ByteArray) (i : Nat) (h : i < s.size) : s.toList[i]? = some s[i] := by
  rw [ByteArray.toList_eq]; obtain ⟨⟨l⟩⟩ := s
  simp [ByteArray.size] at h
  simp [h]; rfl
theorem head_get (s : ByteArray) (h : 0 < s.size) : s.toList.headD 0 = s[0] := by
  have := toList_get s 0 h
  cases hl : s.toList with
  | nil => rw [hl] at this; simp at this
  | cons a l => rw [hl] at this; simpa using this
theorem extract_toList (s : ByteArray) (a b : Nat) : (s.extract a b).toList = (s.toList.drop a).take (b - a) := by
  rw [ByteArray.toList_eq, ByteArray.toList_eq]
  obtain ⟨⟨l⟩⟩ := s
  rw [ByteArray.extract_mk]
theorem extract_end (s : ByteArray) (a : Nat) : (s.extract a s.size).toList = s.toList.drop a := by
  rw [extract_toList, List.take_of_length_le]; rw [List.length_drop, toList_len]; omega

theorem ret_two {a b : Int} {p : Int × Int} (h : p = (a, b)) : Ending.returned (.tuple #[.int .i64 a, .int .i64 b]) = .returned (.tuple #[.int .i64 p.1, .int .i64 p.2]) := by rw [h]

set_option maxHeartbeats 800000 in
theorem digits_any (s : ByteArray) (w : World) (h : s.size ≤ maxLen) (hp : 0 < s.size) :
    Calls Tryd.prog 50 #[.string s] w fun e w' => e = .returned (.tuple #[.int .i64 (digM s.toList).1, .int .i64 (digM s.toList).2]) ∧ w = w' := by
  unfold maxLen at h
  have hl := toList_len s
  have hh := head_get s hp
  have hz : (s.toList.headD 0 = 48) ↔ ((s[0].toNat : Int) == 48) = true := by rw [hh, beq_iff_eq]; exact eq_cast _ _
  have hn : s.size = 1 ∨ (1 < s.size ∧ s.size < 10) ∨ s.size = 10 ∨ 10 < s.size := by omega
  rcases hn with hn | ⟨hn1, hn2⟩ | hn | hn
  · have e : digM s.toList = (2, 0) := by unfold digM; rw [hl, if_neg (by omega), if_neg (by omega)]
    rw [e]
    have a1 : (s.size : Int) ≤ 1 := by omega
    have a2 : ((s.size : Int) == 10) = false := by rw [beq_eq_false_iff_ne]; omega
    clear hl hh hz hn e
    go_enter Tryd.func50, Tryd.ntmps50
    go_wp2
    go_ret2
    exact ⟨rfl, rfl⟩
  · rcases Bool.eq_false_or_eq_true ((s[0].toNat : Int) == 48) with z | z
    · have e : digM s.toList = (0, 2) := by unfold digM; rw [hl, if_pos (.inl ⟨hn1, hz.2 z⟩)]
      rw [e]
      clear hl hh hz e
      go_enter Tryd.func50, Tryd.ntmps50
      go_wp2
      go_ret2
      exact ⟨rfl, rfl⟩
    · have e : digM s.toList = (2, 0) := by
        unfold digM; rw [hl, if_neg (by rintro (⟨_, k⟩ | k); exact absurd (hz.1 k) (by rw [z]; decide); omega), if_neg (by omega)]
      rw [e]
      have a2 : ((s.size : Int) == 10) = false := by rw [beq_eq_false_iff_ne]; omega
      clear hl hh hz e
      go_enter Tryd.func50, Tryd.ntmps50
      go_wp2
      go_ret2
      exact ⟨rfl, rfl⟩
  · rcases Bool.eq_false_or_eq_true ((s[0].toNat : Int) == 48) with z | z
    · have e : digM s.toList = (0, 2) := by unfold digM; rw [hl, if_pos (.inl ⟨by omega, hz.2 z⟩)]
      rw [e]
      have a1 : 1 < s.size := by omega
      clear hl hh hz e hn
      go_enter Tryd.func50, Tryd.ntmps50
      go_wp2
      go_ret2
      exact ⟨rfl, rfl⟩
    · have hno : ¬ (1 < s.size ∧ s.toList.headD 0 = 48 ∨ 10 < s.size) := by
        rintro (⟨_, k⟩ | k)
        · exact absurd (hz.1 k) (by rw [z]; decide)
        · omega
      have a1 : 1 < s.size := by omega
      have a2 : (s.size : Int) ≤ 10 := by omega
      have a3 : ((s.size : Int) == 10) = true := by rw [beq_iff_eq]; omega
      rcases Bool.eq_false_or_eq_true (gtB s.toList) with g | g
      · have e : digM s.toList = (0, 2) := by unfold digM; rw [hl, if_neg hno, if_pos ⟨hn, g⟩]
        rw [e]
        have g' : (!(Op.bytesLess s.toList [50, 49, 52, 55, 52, 56, 51, 54, 52, 55] || s.toList == [50, 49, 52, 55, 52, 56, 51, 54, 52, 55])) = true := g
        rw [Bool.not_eq_true', Bool.or_eq_false_iff] at g'
        obtain ⟨g1, g2⟩ := g'
        clear hl hh hz e hn hno g
        go_enter Tryd.func50, Tryd.ntmps50
        go_wp2
        go_ret2
        exact ⟨rfl, rfl⟩
      · have e : digM s.toList = (2, 0) := by unfold digM; rw [hl, if_neg hno, if_neg (by rw [g]; simp)]
        rw [e]
        have g' : (!(Op.bytesLess s.toList [50, 49, 52, 55, 52, 56, 51, 54, 52, 55] || s.toList == [50, 49, 52, 55, 52, 56, 51, 54, 52, 55])) = false := g
        rw [Bool.not_eq_false', Bool.or_eq_true] at g'
        rcases g' with g1 | g1
        all_goals
          clear hl hh hz e hn hno g
          go_enter Tryd.func50, Tryd.ntmps50
          go_wp2
          go_ret2
          exact ⟨rfl, rfl⟩
  · have e : digM s.toList = (0, 2) := by unfold digM; rw [hl, if_pos (.inr hn)]
    rw [e]
    have a1 : 1 < s.size := by omega
    rcases Bool.eq_false_or_eq_true ((s[0].toNat : Int) == 48) with z | z
    all_goals
      clear hl hh hz e
      go_enter Tryd.func50, Tryd.ntmps50
      go_wp2
      go_ret2
      exact ⟨rfl, rfl⟩

theorem sign_any (s : ByteArray) (w : World) :
    Calls Tryd.prog 54 #[.string s] w fun e w' => e = .returned (.tuple #[.int .i64 (sigM s.toList).1, .int .i64 (sigM s.toList).2]) ∧ w = w' := by
  rcases Bool.eq_false_or_eq_true s.toList.isEmpty with h | h
  · have e : sigM s.toList = (0, 5) := by unfold sigM; rw [if_pos (by simpa using h)]
    rw [e]
    go_enter Tryd.func54, Tryd.ntmps54
    go_wp2
    go_ret2
    exact ⟨rfl, rfl⟩
  · have e : sigM s.toList = (4, 0) := by unfold sigM; rw [if_neg (by intro h'; rw [h'] at h; cases h)]
    rw [e]
    go_enter Tryd.func54, Tryd.ntmps54
    go_wp2
    go_ret2
    exact ⟨rfl, rfl⟩

theorem IsName_any (s : ByteArray) (w : World) (h : s.size ≤ maxLen) :
    Calls Tryd.prog 40 #[.string s] w fun e w' => e = .returned (.bool (nameB s.toList)) ∧ w = w' := by
  unfold maxLen at h
  have hl := toList_len s
  rcases Bool.eq_false_or_eq_true s.toList.isEmpty with h0 | h0
  · have e : nameB s.toList = false := by unfold nameB; rw [h0]; rfl
    rw [e]
    clear hl
    go_enter Tryd.func40, Tryd.ntmps40
    go_wp2
    go_ret
    exact ⟨rfl, rfl⟩
  · have hp : 0 < s.size := by
      rw [← hl]; cases hs : s.toList with
      | nil => rw [hs] at h0; cases h0
      | cons a l => simp
    have hh := head_get s hp
    by_cases h40 : 40 < s.size
    · have e : nameB s.toList = false := by
        have k : decide (s.toList.length ≤ 40) = false := by rw [hl]; simpa using h40
        unfold nameB; rw [k]; simp
      rw [e]
      clear hl hh
      go_enter Tryd.func40, Tryd.ntmps40
      go_wp2
      go_ret
      exact ⟨rfl, rfl⟩
    · rcases Bool.eq_false_or_eq_true (digitB s[0]) with hd | hd
      · have e : nameB s.toList = false := by unfold nameB; rw [hh, hd]; simp
        rw [e]
        clear hl hh
        go_enter Tryd.func40, Tryd.ntmps40
        go_wp2_with (first | (go_at_call 49; refine (isDigit_any _ _).mono ?_; rintro e w' ⟨rfl, rfl⟩) | (go_at_call 68; refine (isWord_any _ _).mono ?_; rintro e w' ⟨rfl, rfl⟩))
        go_ret
        exact ⟨rfl, rfl⟩
      · rcases Bool.eq_false_or_eq_true (wordB s.toList) with hw | hw
        · have e : nameB s.toList = false := by unfold nameB; rw [hw]; simp
          rw [e]
          clear hl hh
          go_enter Tryd.func40, Tryd.ntmps40
          go_wp2_with (first | (go_at_call 49; refine (isDigit_any _ _).mono ?_; rintro e w' ⟨rfl, rfl⟩) | (go_at_call 68; refine (isWord_any _ _).mono ?_; rintro e w' ⟨rfl, rfl⟩))
          go_ret
          exact ⟨rfl, rfl⟩
        · have e : nameB s.toList = s.toList.all ofNameB := by
            have k : decide (s.toList.length ≤ 40) = true := by rw [hl]; simpa using h40
            unfold nameB; rw [hw, hh, hd, h0, k]; simp
          rw [e]
          have HL := Lib.hid hl
          clear hl hh e
          go_enter Tryd.func40, Tryd.ntmps40
          go_wp2_with (first | (go_at_call 49; refine (isDigit_any _ _).mono ?_; rintro e w' ⟨rfl, rfl⟩) | (go_at_call 68; refine (isWord_any _ _).mono ?_; rintro e w' ⟨rfl, rfl⟩))
          go_loop [22] (fun i => ∃ k : Nat, k ≤ s.size ∧ i = .int .i64 k ∧ (s.toList.take k).all ofNameB = true) (fun i => s.size - (intOf i).toNat)
          case atStart => exact ⟨0, Nat.zero_le _, rfl, by simp⟩
          case round =>
            obtain ⟨k, hk, rfl, hall⟩ := hrel
            have HA := Lib.hid hall
            clear hall
            by_cases hlt : k < s.size
            · have hg := toList_get s k hlt
              have hsn : s.toList.take (k + 1) = s.toList.take k ++ [s[k]] := by rw [List.take_add_one, hg]; rfl
              rcases Bool.eq_false_or_eq_true (ofNameB s[k]) with ho | ho
              · have HS := Lib.hid (show (s.toList.take (k + 1)).all ofNameB = true by rw [hsn, List.all_append, HA.out]; simp [ho])
                clear hg hsn
                go_wp2_with (first | (go_at_call 51; refine (isOfName_any _ _).mono ?_; rintro e w' ⟨rfl, rfl⟩))
                go_round
                case rel => exact ⟨k + 1, by omega, by go_num, HS.out⟩
                case measure => simp [intOf]; omega
              · have HS := Lib.hid (show s.toList.all ofNameB = false by
                  rw [List.all_eq_false]
                  exact ⟨s[k], List.mem_of_getElem? hg, by simp [ho]⟩)
                clear hg hsn
                go_wp2_with (first | (go_at_call 51; refine (isOfName_any _ _).mono ?_; rintro e w' ⟨rfl, rfl⟩))
                go_ret
                exact ⟨ret_bool HS.out.symm, rfl⟩
            · go_wp2
              go_ret
              exact ⟨ret_bool (by rw [← HA.out, List.take_of_length_le (by rw [HL.out]; omega)]), rfl⟩
end Go.Proofs.YtgohhnbdicdenaaDoor.Lx

