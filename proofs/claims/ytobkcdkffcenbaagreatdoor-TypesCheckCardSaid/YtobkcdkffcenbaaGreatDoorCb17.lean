/- Whether an expression can be written; its text. Conditions: the slice reads as a list of nodes; the tables lie in memory. -/
import Derived.Test.YtobkcdkffcenbaaGreatDoorCb15
import Derived.Test.YtobkcdkffcenbaaGreatDoorCb16
import Derived.Test.YtobkcdkffcenbaaGreatDoorCa07
import Derived.Test.YtobkcdkffcenbaaGreatDoorCb14
import Derived.Test.YtobkcdkffcenbaaGreatDoorCa01
import Derived.Test.YtobkcdkffcenbaaGreatDoorCa10
set_option linter.unusedVariables false
set_option linter.unusedSimpArgs false
namespace Go.Proofs.YtobkcdkffcenbaaGreatDoor.Sh
open Go.ChangeShapes Go.WideShapes Go.ChangeAt Go.RowKit
open Go.Proofs.YtobkcdkffcenbaaGreatDoor.Tr (str ret_bool ret_int Bytes Nd T Nodes May tree kidsM mkL mkT fitsB argsL unaryB binaryB ndCells mayB Short root)
end Go.Proofs.YtobkcdkffcenbaaGreatDoor.Sh
namespace Go.Proofs.YtobkcdkffcenbaaGreatDoor.Sh
open Go.ChangeShapes Go.WideShapes Go.ChangeAt Go.RowKit
open Go.Proofs.YtobkcdkffcenbaaGreatDoor.Tr (str ret_bool ret_int Bytes Nd T Nodes May tree kidsM mkL mkT fitsB argsL unaryB binaryB ndCells mayB Short root)
end Go.Proofs.YtobkcdkffcenbaaGreatDoor.Sh
namespace Go.Proofs.YtobkcdkffcenbaaGreatDoor.Ex
open Go.ChangeShapes Go.WideShapes Go.ChangeAt Go.RowKit
open Go.Proofs.YtobkcdkffcenbaaGreatDoor.Tr (str ret_bool ret_int Bytes Nd joinM roomM own_block)
theorem cell_at {w : World} {B : Nat} {cs : Array Value} {T : TypeId} {f : Nat × Nat} (h : w.heap[B]? = some (.cells cs T f)) (k : Nat) : w.cell? ⟨B, k, none⟩ = cs[k]? := by simp [World.cell?, h]
theorem free_at {w : World} {B : Nat} {cs : Array Value} {T : TypeId} (h : w.heap[B]? = some (.cells cs T (0, 0))) (k : Nat) : w.frozen? ⟨B, k, none⟩ = false := by simp [World.frozen?, h]
def ReadTo (w : World) (x : List Nd × Int × Int) (e : Ending) (w' : World) : Prop :=
  ∃ ev, e = .returned (.tuple #[ev, .agg #[.int .i64 x.2.1, .int .i64 x.2.2]]) ∧ PtW w' (ev, ⟨x.1, 0, 0⟩) ∧ Below w.heap.size w w'
end Go.Proofs.YtobkcdkffcenbaaGreatDoor.Ex
namespace Go.Proofs.YtobkcdkffcenbaaGreatDoor.Tr
open Go.ChangeShapes Go.WideShapes Go.ChangeAt Go.RowKit
theorem aim_over (o n : Int) (s : Bytes) (l : List Int) (h : l.length ≤ 3) (h28 : o ≠ 28) : aimM (overM o n s []) l = overM o n s l := by
  match l, h with
  | [], _ => rfl
  | [i], _ => rfl
  | [i, j], _ => simp [aimM, overM, h28]
  | [i, j, k], _ => rfl
set_option maxRecDepth 100000 in
set_option maxHeartbeats 2000000 in
theorem rjoin_any (pv : Value) (ls : List (List Nd)) (o n : Int) (s : Bytes) (w : World) (hp : Parts w w.heap.size pv ls) (hn : roomM ls ≤ 80000) (h27 : o ≠ 27) :
    Calls Tryz.prog 10 #[.int .i64 o, .int .i64 n, .string (str s), pv] w (NodesPost w (joinM o n s ls)) := by
  have HPV := Lib.hid hp
  obtain ⟨A, c, rfl, h1, h2, hA⟩ := hp
  unfold maxLen at h2
  have HA := Lib.hid hA
  have HSM := Lib.hid (sumM_le ls)
  have hll : ls.length ≤ 80000 := by have := HSM.out 0; omega
  obtain ⟨i0, hi, hz0, hz1, hz2⟩ := info_parts info3
  obtain ⟨i1, hi', hz0', hz1', hz2'⟩ := info_parts info30
  obtain ⟨K, hK⟩ : ∃ K, kidsM (overM o n s []) = K := ⟨_, rfl⟩
  have HK := Lib.hid hK
  have hK3 : K.length ≤ 3 := by rw [← hK]; exact kids_small _
  have h27' : (o == 27) = false := by rw [beq_eq_false_iff_ne]; exact h27
  have h27n : (o != 27) = true := by rw [bne_iff_ne]; exact h27
  have HJ := Lib.hid (show joinM o n s ls = if ls.any List.isEmpty = true then [] else if o = 28 then [] else if K.length = ls.length then (layF ls).1 ++ [overM o n s (layF ls).2] else [] by unfold joinM; rw [if_neg h27, hK])
  clear hA h27 hK
  go_enter Tryz.func10, Tryz.ntmps10
  go_wp2_with fail
  refine (leaf_any o n (str s) _).mono ?_
  rintro r w1 ⟨rfl, hb1⟩
  have hs1 := hb1.size
  have HB1 := Lib.hid (hb1.alloc hs1 (.cells #[.int .i64 o, .int .i64 (-1), .int .i64 (-1), .int .i64 (-1), .int .i64 n, .string (str s)] 70))
  clear hb1
  go_wp2_with fail
  refine (rkids_any (overM o n s []) _).mono ?_
  rintro r w2 ⟨kv, rfl, hok, hb2⟩
  rw [HK.out] at hok
  obtain ⟨A2, c2, rfl, y1, y2, _⟩ := Ints.of_own hok
  unfold maxLen at y2
  have hs2 := hb2.size
  simp at hs2
  have X : ∀ k, w2.cell? ⟨w1.heap.size, k, none⟩ = (#[Value.int .i64 o, .int .i64 (-1), .int .i64 (-1), .int .i64 (-1), .int .i64 n, .string (str s)] : Array Value)[k]? := fun k => by
    rw [hb2.cell (p := ⟨w1.heap.size, k, none⟩) (by simp)]
    have h := heap_alloc_new w1 (.cells #[Value.int .i64 o, .int .i64 (-1), .int .i64 (-1), .int .i64 (-1), .int .i64 n, .string (str s)] 70)
    unfold World.cell?; rw [h]; rfl
  have HXC := Lib.hid X
  have HXB := Lib.hid ((hb2.block w1.heap.size (by simp)).trans (heap_alloc_new w1 _))
  have HB2 := Lib.hid (HB1.out.trans (hb2.mono (by simp; omega)))
  clear hok hb2 X
  by_cases h28 : o = 28
  · have HJ2 := Lib.hid (show joinM o n s ls = [] by rw [HJ.out, if_pos h28]; split <;> rfl)
    have h28' : (o == 28) = true := by rw [beq_iff_eq]; exact h28
    clear h28
    go_wp2
    go_ret
    rw [HJ2.out]
    exact nodes_none _ _ HB2.out
  have h28' : (o == 28) = false := by rw [beq_eq_false_iff_ne]; exact h28
  have H28 := Lib.hid h28
  clear h28
  by_cases hlen : K.length = ls.length
  rotate_left
  · have HJ2 := Lib.hid (show joinM o n s ls = [] by rw [HJ.out, if_neg H28.out, if_neg hlen]; split <;> rfl)
    have hl' : ((K.length : Int) != (ls.length : Int)) = true := by rw [bne_iff_ne]; omega
    clear hlen
    go_wp2
    go_ret
    rw [HJ2.out]
    exact nodes_none _ _ HB2.out
  have HJ2 := Lib.hid (show joinM o n s ls = if ls.any List.isEmpty = true then [] else (layF ls).1 ++ [overM o n s (layF ls).2] by rw [HJ.out, if_neg H28.out, if_pos hlen])
  have hl' : ((K.length : Int) != (ls.length : Int)) = false := by simp [hlen]
  have hl3 : ls.length ≤ 3 := by omega
  have HREL0 : Hid (JoinRel w w2.heap.size ls 0 w2 (.slice none 0 0) (.slice none 0 0)) := Lib.hid ⟨Nat.zero_le _, HB2.out.size, by simpa [layF, ndsOf] using World.ownsRow_nil _ _ _ _, World.ownsRow_nil _ _ _ _, HB2.out⟩
  have hsw : w.heap.size ≤ w1.heap.size := hs1
  clear hlen
  go_wp2
  go_loopw [11, 12, 14] (fun s1 s2 i wr => ∃ (k : Nat) (ov tv : Value), ov = s1 ∧ tv = s2 ∧ i = .int .i64 k ∧ JoinRel w w2.heap.size ls k wr ov tv ∧ wr.heap[w1.heap.size]? = w2.heap[w1.heap.size]? ∧ w2.heap.size ≤ wr.heap.size ∧ Hid (∀ j p, j < k → ls[j]? = some p → p.length ≠ 0)) (fun _ _ i _ => ls.length - (intOf i).toNat)
  case atStart => exact ⟨0, _, _, rfl, rfl, rfl, HREL0.out, rfl, Nat.le_refl _, fun j p h => by omega⟩
  case round =>
    obtain ⟨k, ov, tv, rfl, rfl, rfl, hrel, hxb, hsz, hne⟩ := hrel
    have hk := hrel.le
    have HREL := Lib.hid hrel
    have hs := hrel.below.size
    have HXR := Lib.hid hxb
    have HW := Lib.hid (show ∀ g, g < w.heap.size → wr.heap[g]? = w.heap[g]? from fun g hg => hrel.below.block g hg)
    clear hrel hxb
    by_cases hlt : k < ls.length
    · obtain ⟨p, hpk⟩ : ∃ p, ls[k]? = some p := ⟨_, List.getElem?_eq_getElem hlt⟩
      obtain ⟨g, o', u, rfl, hgb, hg, d0, hu, hul⟩ := HA.out k p hpk
      have c0 := (World.cell?_of_block (w := w) (a := ⟨g, o' + k, none⟩) (HW.out g hg)).trans d0
      have HU := Lib.hid (hu.low hul hs (fun g h _ => HW.out g h))
      have HUL := Lib.hid hul
      have HPK := Lib.hid hpk
      have hlk : (layF (ls.take k)).1.length = sumM ls k := (layF_lens _).1
      have hnx2 := sumM_next ls k p hpk
      have hsl := HSM.out (k + 1)
      have hln : (layF (ls.take k)).1.length + p.length ≤ 80000 := by omega
      obtain ⟨A', c', rfl, y3, y4, _⟩ := hu
      unfold maxLen at y4
      clear hpk d0 hul hlk hnx2 hsl
      by_cases hp0 : p.length = 0
      · have HR := Lib.hid (show joinM o n s ls = [] by rw [HJ2.out, any_empty ls k p HPK.out hp0]; simp)
        have hp0' : ((p.length : Int) == 0) = true := by rw [beq_iff_eq]; omega
        have HB := Lib.hid HREL.out.below
        clear hp0
        go_wp2
        go_ret
        rw [HR.out]
        exact nodes_none _ _ HB.out
      have hp0' : ((p.length : Int) == 0) = false := by rw [beq_eq_false_iff_ne]; omega
      have HP0 := Lib.hid hp0
      clear hp0
      have hb22 := HREL.out.base
      go_wp2_with fail
      refine (behind_any ov _ (layF (ls.take k)).1 p w2.heap.size _ HREL.out.own hsz HU.out (fun h g o n c hh => Nat.lt_of_lt_of_le (HUL.out h g o n c hh) hb22) (by omega)).mono ?_
      rintro r w5 ⟨ov2, rfl, hown5, hg5, hblk5⟩
      obtain ⟨A5, c5, rfl, x1, x2, _⟩ := Nodes.of_own hown5
      have hs5 := hg5.size
      have htv5 := own_block HREL.out.row (fun j hj => hg5.block j (HREL.out.row.lt j hj).2 (fun h => own_ne HREL.out.own HREL.out.row (by decide) j h.symm hj))
      have hx5 := (hg5.block w1.heap.size (by omega) (fun h => by have := (HREL.out.own.lt _ h.symm).1; omega)).trans HXR.out
      have HO5 := Lib.hid hown5
      have HG5 := Lib.hid hg5
      have HT5 := Lib.hid htv5
      have HX5 := Lib.hid hx5
      obtain ⟨N, hN⟩ : ∃ N, ((layF (ls.take k)).1 ++ p.map (onNd ((layF (ls.take k)).1.length : Int))).length = N := ⟨_, rfl⟩
      have HN := Lib.hid hN
      have hNm : N ≤ 80000 := by rw [← hN, List.length_append, List.length_map]; exact hln
      clear hown5 hg5 htv5 hN hx5 hblk5
      rw [HN.out] at x1
      rw [HN.out]
      unfold maxLen at x2
      go_wp2_with (at_builtin; refine wpList_append_own _ rfl (.tmp 53) (.tmp 57) 72 rfl w2.heap.size 3 i0 _ 1 8 Tryz.underlying72 hi hz0 hz1 hz2 rfl (by decide) _ _ _ rfl (HT5.out.alloc _) ⟨w5.heap.size, 0, none⟩ 1 1 [.int .i64 ((N : Int) - 1)] rfl rfl ?a5 ?b5 ?c5 ?d5 ?e5 ?_)
      case a5 => exact cell_one_new _ _ _
      case b5 => intro u hu; simp at hu; subst hu; rfl
      case c5 => unfold maxLen; omega
      case d5 => omega
      case e5 => simp; omega
      intro tv' w6 hrow6 hg6 _
      have R := Lib.hid (HREL.out.step HPK.out HO5.out HG5.out HT5.out (by unfold behindM; rw [HN.out]; exact hrow6) hg6)
      rw [HN.out] at R
      have hs6 := hg6.size
      simp at hs6
      have HX6 := Lib.hid ((hg6.block w1.heap.size (by simp; omega) (fun h => by have := (HT5.out.lt _ h.symm).1; omega)).trans ((Below.heap_alloc _ _ _ (by omega)).trans HX5.out))
      clear hrow6 hg6
      go_wp2
      refine ⟨⟨k + 1, _, _, rfl, rfl, by go_num, R.out, HX6.out, by omega, fun j q hj hq => ?_⟩, by simp [intOf]; omega⟩
      by_cases hjk : j < k
      · exact hne.out j q hjk hq
      · have : j = k := by omega
        subst this
        have := HPK.out.symm.trans hq
        simp only [Option.some.injEq] at this
        subst this; exact HP0.out
    · have hkl : k = ls.length := by omega
      subst hkl
      have HTK := Lib.hid (show ls.take ls.length = ls from List.take_length)
      obtain ⟨N, hN⟩ : ∃ N, (layF ls).1.length = N := ⟨_, rfl⟩
      have hNm : N ≤ 80000 := by rw [← hN, (layF_lens ls).1]; have := room_sum ls; omega
      have HN := Lib.hid hN
      have HO := Lib.hid HREL.out.own
      have HT : Hid (Ints wr tv (layF ls).2) := Lib.hid (Ints.of_own (by have := HREL.out.row; rw [HTK.out] at this; rw [(layF_lens ls).2]; exact this))
      have hl2 : (layF ls).2.length ≤ 3 := by rw [(layF_lens ls).2]; exact hl3
      have HJ3 := Lib.hid (show joinM o n s ls = (layF ls).1 ++ [overM o n s (layF ls).2] by rw [HJ2.out, none_empty ls (fun j p hj hp => hne.out j p hj hp)]; simp)
      rw [HTK.out, HN.out] at HO
      have X : ∀ k, wr.cell? ⟨w1.heap.size, k, none⟩ = (#[Value.int .i64 o, .int .i64 (-1), .int .i64 (-1), .int .i64 (-1), .int .i64 n, .string (str s)] : Array Value)[k]? := fun k => by
        have h := HXR.out.trans HXB.out
        unfold World.cell?; rw [h]; rfl
      have e0 := X 0
      have e1 := X 1
      have e2 := X 2
      have e3 := X 3
      have e4 := X 4
      have e5 := X 5
      simp at e0 e1 e2 e3 e4 e5
      clear hN X hne
      go_wp2_with fail
      refine (aim_any (overM o n s []) tv (layF ls).2 _ HT.out hl2).mono ?_
      rintro r w5 ⟨rfl, hb5⟩
      rw [aim_over o n s _ hl2 H28.out]
      have hs5 := hb5.size
      have HB5 := Lib.hid (HREL.out.below.trans (hb5.mono hs))
      have HO5 := Lib.hid (own_below HO.out hb5)
      obtain ⟨y, hy⟩ : ∃ y, overM o n s (layF ls).2 = y := ⟨_, rfl⟩
      have HY := Lib.hid hy
      rw [hy]
      clear hb5 hy e0 e1 e2 e3 e4 e5
      go_wp2_with (at_builtin; refine wpList_append_own _ rfl (.tmp 82) (.tmp 86) 32 rfl w2.heap.size 70 i1 _ 6 56 Tryz.underlying32 hi' hz0' hz1' hz2' rfl (by decide) _ N _ rfl (HO5.out.alloc _) ⟨w5.heap.size, 0, none⟩ 1 1 (ndCells y) rfl rfl ?a6 ?b6 ?c6 ?d6 ?e6 ?_)
      case a6 => exact World.news_of_block (t := 70) (fr := (0, 0)) (heap_alloc_new _ _)
      case b6 => simp [ndCells, Value.oneCell']
      case c6 => unfold maxLen; omega
      case d6 => omega
      case e6 => simp; omega
      intro v' w6 hown6 hg6 _
      have hbb := HREL.out.base
      have hB6 := (HB5.out.alloc (by omega) (.cells (ndCells y).toArray 70)).grown hg6 (by simp; omega) (fun j hj => Nat.le_trans hbb (HO5.out.lt j hj).1)
      have HB6 := Lib.hid hB6
      have HO6 := Lib.hid hown6
      clear hown6 hg6 hB6
      go_wp2
      go_ret
      rw [HJ3.out, HY.out]
      refine ⟨_, rfl, ?_, HB6.out⟩
      rw [nds_snoc, List.length_append, HN.out]
      exact own_base HO6.out hbb
end Go.Proofs.YtobkcdkffcenbaaGreatDoor.Tr
namespace Go.Proofs.YtobkcdkffcenbaaGreatDoor.Tr
open Go.ChangeShapes Go.WideShapes Go.ChangeAt Go.RowKit
theorem alloc_at (w : World) (o : Obj) (k : Nat) (h : k = w.heap.size) : (w.alloc o).heap[k]? = some o := by subst h; exact heap_alloc_new w o
structure RCallRel (w : World) (b : Nat) (ls : List (List Nd)) (k : Nat) (wr : World) (ov tv : Value) : Prop where
  le : k ≤ ls.length
  base : w.heap.size ≤ b
  own : wr.ownsRow b 70 6 ov (callF [] (ls.take k)).1.length (ndsOf (callF [] (ls.take k)).1)
  row : ∃ L : List Int, wr.ownsRow b 3 1 tv k (intsOf L)
  below : Below w.heap.size w wr
theorem RCallRel.step {w wr w5 w6 V w8 : World} {b : Nat} {ls : List (List Nd)} {k N : Nat} {p : List Nd} {L : List Int} {x : Int} {ov ov2 ov3 tv tv' : Value} {o o' : Obj} (hp : ls[k]? = some p) (h : RCallRel w b ls k wr ov tv)
    (hN : (behindM (callF [] (ls.take k)).1 p).length = N)
    (hown : w5.ownsRow b 70 6 ov2 N (ndsOf (behindM (callF [] (ls.take k)).1 p))) (hg : wr.grownBy w5 ov.ownBlock)
    (htv : w5.ownsRow b 3 1 tv k (intsOf L)) (hrow : w6.ownsRow b 3 1 tv' (k + 1) (intsOf L ++ [.int .i64 x])) (hg6 : (w5.alloc o).grownBy w6 tv.ownBlock) (hV : Below w6.heap.size w6 V)
    (hown8 : w8.ownsRow b 70 6 ov3 (N + 1) (ndsOf (behindM (callF [] (ls.take k)).1 p) ++ ndCells (overM 28 0 [] [(N : Int) - 1, (callF [] (ls.take k)).2]))) (hg8 : (V.alloc o').grownBy w8 ov2.ownBlock) :
    RCallRel w b ls (k + 1) w8 ov3 tv' ∧ (callF [] (ls.take (k + 1))).2 = (N : Int) := by
  have hk := (List.getElem?_eq_some_iff.1 hp).1
  have e := callF_next [] ls k p hp
  have hb := h.base
  have hs := h.below.size
  have hs5 := hg.size
  have hs6 := hg6.size
  simp at hs6
  have hsV := hV.size
  have hs8 := hg8.size
  simp at hs8
  have hne := own_ne hown htv (by decide)
  have o6 : w6.ownsRow b 70 6 ov2 N (ndsOf (behindM (callF [] (ls.take k)).1 p)) := own_block hown (fun g hgb => by
    rw [hg6.block g (by have := (hown.lt g hgb).2; simp; omega) (fun h' => hne g hgb h'.symm), Below.heap_alloc _ _ _ (hown.lt g hgb).2])
  have oV := own_below o6 hV
  have rV := own_below hrow hV
  have hneV := own_ne rV oV (by decide)
  refine ⟨⟨by omega, hb, ?_, ⟨L ++ [x], ?_⟩, ?_⟩, ?_⟩
  · rw [e]; unfold callStep; rw [nds_snoc, List.length_append, hN]; exact hown8
  · rw [ints_snoc]
    exact own_block rV (fun g hgb => by
      rw [hg8.block g (by have := (rV.lt g hgb).2; simp; omega) (fun h' => hneV g hgb h'.symm), Below.heap_alloc _ _ _ (rV.lt g hgb).2])
  · exact (((((h.below.grown hg (by omega) (fun j hj => Nat.le_trans hb (h.own.lt j hj).1)).alloc (by omega) _).grown hg6 (by simp; omega) (fun j hj => Nat.le_trans hb (htv.lt j hj).1)).trans (hV.mono (by omega))).alloc (by omega) _).grown hg8 (by simp; omega) (fun j hj => Nat.le_trans hb (oV.lt j hj).1)
  · rw [e]; unfold callStep; simp [hN]
set_option maxRecDepth 100000 in
set_option maxHeartbeats 2000000 in
theorem rjoin_call (pv : Value) (ls : List (List Nd)) (n : Int) (s : Bytes) (w : World) (hp : Parts w w.heap.size pv ls) (hn : roomM ls ≤ 80000) :
    Calls Tryz.prog 10 #[.int .i64 27, .int .i64 n, .string (str s), pv] w (NodesPost w (joinM 27 n s ls)) := by
  have HPV := Lib.hid hp
  obtain ⟨A, c, rfl, h1, h2, hA⟩ := hp
  unfold maxLen at h2
  have HA := Lib.hid hA
  have HCL := Lib.hid (show ∀ k, (callF [] (ls.take k)).1.length ≤ 80000 from fun k => by have := callF_mono [] ls k; rw [callF_len [] ls] at this; unfold roomM at hn; simp at this; omega)
  have hll : ls.length ≤ 80000 := by have := sumM_le ls 0; omega
  obtain ⟨i0, hi, hz0, hz1, hz2⟩ := info_parts info3
  obtain ⟨i1, hi', hz0', hz1', hz2'⟩ := info_parts info30
  have HJ := Lib.hid (show joinM 27 n s ls = if ls.any List.isEmpty = true then [] else callM [] n s ls by unfold joinM; simp)
  clear hA
  go_enter Tryz.func10, Tryz.ntmps10
  go_wp2_with fail
  refine (leaf_any 27 n (str s) _).mono ?_
  rintro r w1 ⟨rfl, hb1⟩
  have hs1 := hb1.size
  have HB1 := Lib.hid (hb1.alloc hs1 (.cells #[.int .i64 27, .int .i64 (-1), .int .i64 (-1), .int .i64 (-1), .int .i64 n, .string (str s)] 70))
  clear hb1
  go_wp2_with fail
  refine (rkids_any (overM 27 n s []) _).mono ?_
  rintro r w2 ⟨kv, rfl, hok, hb2⟩
  obtain ⟨A2, c2, rfl, y1, y2, _⟩ := Ints.of_own hok
  have hk0 : kidsM (overM 27 n s []) = [] := rfl
  rw [hk0] at y1 ⊢
  unfold maxLen at y2
  have hs2 := hb2.size
  simp at hs2
  have HXB := Lib.hid ((hb2.block w1.heap.size (by simp)).trans (heap_alloc_new w1 _))
  have HB2 := Lib.hid (HB1.out.trans (hb2.mono (by simp; omega)))
  clear hok hb2 hk0
  have HREL0 : Hid (RCallRel w w2.heap.size ls 0 w2 (.slice none 0 0) (.slice none 0 0)) := Lib.hid ⟨Nat.zero_le _, HB2.out.size, by simpa [callF, ndsOf] using World.ownsRow_nil _ _ _ _, ⟨[], World.ownsRow_nil _ _ _ _⟩, HB2.out⟩
  have hsw : w.heap.size ≤ w1.heap.size := hs1
  go_wp2
  go_loopw [11, 12, 13, 14] (fun s1 s2 la i wr => ∃ (k : Nat) (ov tv : Value), ov = s1 ∧ tv = s2 ∧ la = .int .i64 (callF [] (ls.take k)).2 ∧ i = .int .i64 k ∧ RCallRel w w2.heap.size ls k wr ov tv ∧ wr.heap[w1.heap.size]? = w2.heap[w1.heap.size]? ∧ w2.heap.size ≤ wr.heap.size ∧ Hid (∀ j p, j < k → ls[j]? = some p → p.length ≠ 0)) (fun _ _ _ i _ => ls.length - (intOf i).toNat)
  case atStart => exact ⟨0, _, _, rfl, rfl, rfl, rfl, HREL0.out, rfl, Nat.le_refl _, fun j p h => by omega⟩
  case round =>
    obtain ⟨k, ov, tv, rfl, rfl, rfl, rfl, hrel, hxb, hsz, hne⟩ := hrel
    have hk := hrel.le
    have HREL := Lib.hid hrel
    have hs := hrel.below.size
    have HXR := Lib.hid hxb
    have HW := Lib.hid (show ∀ g, g < w.heap.size → wr.heap[g]? = w.heap[g]? from fun g hg => hrel.below.block g hg)
    clear hrel hxb
    by_cases hlt : k < ls.length
    · obtain ⟨p, hpk⟩ : ∃ p, ls[k]? = some p := ⟨_, List.getElem?_eq_getElem hlt⟩
      obtain ⟨g, o', u, rfl, hgb, hg, d0, hu, hul⟩ := HA.out k p hpk
      have c0 := (World.cell?_of_block (w := w) (a := ⟨g, o' + k, none⟩) (HW.out g hg)).trans d0
      have HU := Lib.hid (hu.low hul hs (fun g h _ => HW.out g h))
      have HUL := Lib.hid hul
      have HPK := Lib.hid hpk
      have hln0 := callF_step_len [] ls k p hpk
      have hln1 : (callF [] ls).1.length ≤ 80000 := by have := HCL.out ls.length; rwa [List.take_length] at this
      have hln : (callF [] (ls.take k)).1.length + p.length + 1 ≤ 80000 := by omega
      obtain ⟨A', c', rfl, y3, y4, _⟩ := hu
      unfold maxLen at y4
      clear hpk d0 hul hln0 hln1
      by_cases hp0 : p.length = 0
      · have HR := Lib.hid (show joinM 27 n s ls = [] by rw [HJ.out, any_empty ls k p HPK.out hp0]; simp)
        have hp0' : ((p.length : Int) == 0) = true := by rw [beq_iff_eq]; omega
        have HB := Lib.hid HREL.out.below
        clear hp0
        go_wp2
        go_ret
        rw [HR.out]
        exact nodes_none _ _ HB.out
      have hp0' : ((p.length : Int) == 0) = false := by rw [beq_eq_false_iff_ne]; omega
      have HP0 := Lib.hid hp0
      clear hp0
      have hb22 := HREL.out.base
      go_wp2_with fail
      refine (behind_any ov _ (callF [] (ls.take k)).1 p w2.heap.size _ HREL.out.own hsz HU.out (fun h g o n c hh => Nat.lt_of_lt_of_le (HUL.out h g o n c hh) hb22) (by omega)).mono ?_
      rintro r w5 ⟨ov2, rfl, hown5, hg5, hblk5⟩
      obtain ⟨A5, c5, rfl, x1, x2, _⟩ := Nodes.of_own hown5
      have hs5 := hg5.size
      obtain ⟨L, hL⟩ := HREL.out.row
      have htv5 := own_block hL (fun j hj => hg5.block j (hL.lt j hj).2 (fun h => own_ne HREL.out.own hL (by decide) j h.symm hj))
      have hx5 := (hg5.block w1.heap.size (by omega) (fun h => by have := (HREL.out.own.lt _ h.symm).1; omega)).trans HXR.out
      obtain ⟨N, hN⟩ : ∃ N, ((callF [] (ls.take k)).1 ++ p.map (onNd ((callF [] (ls.take k)).1.length : Int))).length = N := ⟨_, rfl⟩
      have HN := Lib.hid hN
      rw [hN] at hown5 x1
      have HO5 := Lib.hid hown5
      have HG5 := Lib.hid hg5
      have HT5 := Lib.hid htv5
      have HX5 := Lib.hid hx5
      have hNm : N ≤ 80000 := by rw [← hN, List.length_append, List.length_map]; omega
      clear hown5 hg5 htv5 hN hx5 hblk5 hL
      rw [HN.out]
      unfold maxLen at x2
      go_wp2_with (at_builtin; refine wpList_append_own _ rfl (.tmp 53) (.tmp 57) 72 rfl w2.heap.size 3 i0 _ 1 8 Tryz.underlying72 hi hz0 hz1 hz2 rfl (by decide) _ _ _ rfl (HT5.out.alloc _) ⟨w5.heap.size, 0, none⟩ 1 1 [.int .i64 ((N : Int) - 1)] rfl rfl ?a5 ?b5 ?c5 ?d5 ?e5 ?_)
      case a5 => exact cell_one_new _ _ _
      case b5 => intro u hu; simp at hu; subst hu; rfl
      case c5 => unfold maxLen; omega
      case d5 => omega
      case e5 => simp; omega
      intro tv' w6 hrow6 hg6 _
      have hs6 := hg6.size
      simp at hs6
      have HX6 := Lib.hid ((hg6.block w1.heap.size (by simp; omega) (fun h => by have := (HT5.out.lt _ h.symm).1; omega)).trans ((Below.heap_alloc _ _ _ (by omega)).trans HX5.out))
      have HR6 := Lib.hid hrow6
      have HG6 := Lib.hid hg6
      have HO6 : Hid (w6.ownsRow w2.heap.size 70 6 (.slice A5 N c5) N (ndsOf ((callF [] (ls.take k)).1 ++ p.map (onNd ((callF [] (ls.take k)).1.length : Int))))) := Lib.hid (own_block HO5.out (fun g hgb => by
        rw [hg6.block g (by have := (HO5.out.lt g hgb).2; simp; omega) (fun h' => own_ne HO5.out HT5.out (by decide) g hgb h'.symm), Below.heap_alloc _ _ _ (HO5.out.lt g hgb).2]))
      clear hrow6 hg6
      go_wp2_with fail
      refine (leaf_any 28 0 ⟨#[]⟩ _).mono ?_
      rintro r w7 ⟨rfl, hb7⟩
      have hs7 := hb7.size
      have HB7 := Lib.hid hb7
      obtain ⟨la, hla⟩ : ∃ la, (callF [] (ls.take k)).2 = la := ⟨_, rfl⟩
      have HLA := Lib.hid hla
      clear hb7
      rw [hla]
      clear hla
      have HO7 := Lib.hid (own_below HO6.out HB7.out)
      go_wp2_with (at_builtin; refine wpList_append_own _ rfl (.tmp 70) (.tmp 72) 32 rfl w2.heap.size 70 i1 _ 6 56 Tryz.underlying32 hi' hz0' hz1' hz2' rfl (by decide) _ N _ rfl ((HO7.out.alloc _).alloc _) ⟨w7.heap.size + 1, 0, none⟩ 1 1 (ndCells (overM 28 0 [] [(N : Int) - 1, la])) rfl rfl ?a7 ?b7 ?c7 ?d7 ?e7 ?_)
      case a7 => exact World.news_of_block (t := 70) (fr := (0, 0)) (alloc_at _ _ _ (by simp))
      case b7 => simp [ndCells, Value.oneCell']
      case c7 => unfold maxLen; omega
      case d7 => omega
      case e7 => simp; omega
      intro ov3 w8 hown8 hg8 _
      rw [← HLA.out] at hown8
      have R0 := HREL.out.step HPK.out (by unfold behindM; exact HN.out) HO5.out HG5.out HT5.out HR6.out HG6.out (HB7.out.alloc hs7 _) hown8 hg8
      have R := Lib.hid R0.1
      have HL8 := Lib.hid R0.2
      have hs8 := hg8.size
      simp at hs8
      have HX8 := Lib.hid ((hg8.block w1.heap.size (by simp; omega) (fun h => by have := (HO7.out.lt _ h.symm).1; omega)).trans ((Below.heap_alloc _ _ _ (by simp; omega)).trans ((Below.heap_alloc _ _ _ (by omega)).trans ((HB7.out.block _ (by omega)).trans HX6.out))))
      clear hown8 hg8 R0
      go_wp2
      refine ⟨⟨k + 1, _, _, rfl, rfl, ?_, by go_num, R.out, HX8.out, by omega, fun j q hj hq => ?_⟩, by simp [intOf]; omega⟩
      · rw [HL8.out]
      by_cases hjk : j < k
      · exact hne.out j q hjk hq
      · have : j = k := by omega
        subst this
        have := HPK.out.symm.trans hq
        simp only [Option.some.injEq] at this
        subst this; exact HP0.out
    · have hkl : k = ls.length := by omega
      subst hkl
      have HTK := Lib.hid (show ls.take ls.length = ls from List.take_length)
      obtain ⟨N, hN⟩ : ∃ N, (callF [] ls).1.length = N := ⟨_, rfl⟩
      have hNm : N ≤ 80000 := by rw [← hN]; have := HCL.out ls.length; rwa [List.take_length] at this
      have HN := Lib.hid hN
      have HO := Lib.hid HREL.out.own
      have HJ3 := Lib.hid (show joinM 27 n s ls = (callF [] ls).1 ++ [overM 27 n s [(callF [] ls).2]] by rw [HJ.out, none_empty ls (fun j p hj hp => hne.out j p hj hp)]; rfl)
      rw [HTK.out, HN.out] at HO
      obtain ⟨la, hla⟩ : ∃ la, (callF [] ls).2 = la := ⟨_, rfl⟩
      have HLA := Lib.hid hla
      rw [HTK.out, hla]
      have hxx := HXR.out.trans HXB.out
      have hbb := HREL.out.base
      have hxl : w1.heap.size < wr.heap.size := by omega
      have F : ∀ k, wr.frozen? ⟨w1.heap.size, k, none⟩ = false := fun k => by unfold World.frozen?; rw [hxx]; rfl
      have f1 := F 1
      have X : ∀ k, wr.cell? ⟨w1.heap.size, k, none⟩ = (#[Value.int .i64 27, .int .i64 (-1), .int .i64 (-1), .int .i64 (-1), .int .i64 n, .string (str s)] : Array Value)[k]? := fun k => by
        unfold World.cell?; rw [hxx]; rfl
      have e0 := X 0
      have e1 := X 1
      have e2 := X 2
      have e3 := X 3
      have e4 := X 4
      have e5 := X 5
      simp at e0 e1 e2 e3 e4 e5
      clear hN X hne hla hxx F
      have HSC := Lib.hid (ownsRow_setCell_below (a := ⟨w1.heap.size, 1, none⟩) HO.out (by show w1.heap.size < w2.heap.size; omega) (.int .i64 la))
      go_wp2_with (at_builtin; refine wpList_append_own _ rfl (.tmp 78) (.tmp 80) 32 rfl w2.heap.size 70 i1 _ 6 56 Tryz.underlying32 hi' hz0' hz1' hz2' rfl (by decide) _ N _ rfl (HSC.out.alloc _) ⟨wr.heap.size, 0, none⟩ 1 1 (ndCells (overM 27 n s [la])) rfl rfl ?a9 ?b9 ?c9 ?d9 ?e9 ?_)
      case a9 => exact World.news_of_block (t := 70) (fr := (0, 0)) (alloc_at _ _ _ (by simp))
      case b9 => simp [ndCells, Value.oneCell']
      case c9 => unfold maxLen; omega
      case d9 => omega
      case e9 => simp; omega
      intro v' w6 hown6 hg6 _
      have hB6 := ((HREL.out.below.setCell (p := ⟨w1.heap.size, 1, none⟩) hsw (.int .i64 la)).alloc (by simp; omega) (.cells (ndCells (overM 27 n s [la])).toArray 70)).grown hg6 (by simp; omega) (fun j hj => Nat.le_trans hbb (HSC.out.lt j hj).1)
      have HB6 := Lib.hid hB6
      have HO6 := Lib.hid hown6
      clear hown6 hg6 hB6
      go_wp2
      go_ret
      rw [HJ3.out, HLA.out]
      refine ⟨_, rfl, ?_, HB6.out⟩
      rw [nds_snoc, List.length_append, HN.out]
      exact own_base HO6.out hbb
end Go.Proofs.YtobkcdkffcenbaaGreatDoor.Tr
namespace Go.Proofs.YtobkcdkffcenbaaGreatDoor.Tr
open Go.RowKit
theorem rjoin_all (pv : Value) (ls : List (List Nd)) (o n : Int) (s : Bytes) (w : World) (hp : Parts w w.heap.size pv ls) (hn : roomM ls ≤ 80000) : Calls Tryz.prog 10 #[.int .i64 o, .int .i64 n, .string (str s), pv] w (NodesPost w (joinM o n s ls)) := by
  by_cases h : o = 27
  · subst h; exact rjoin_call pv ls n s w hp hn
  · exact rjoin_any pv ls o n s w hp hn h
end Go.Proofs.YtobkcdkffcenbaaGreatDoor.Tr

