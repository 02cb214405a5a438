/- The function Needs: the walk. Conditions: the slice is read as a list of nodes; each name is as long as a text may be. -/
import Derived.Test.YtdebhngpgabglaaGreatRa03
set_option linter.unusedVariables false
set_option linter.unusedSimpArgs false
namespace Go.Proofs.YtdebhngpgabglaaGreat.Ca
open Go.ChangeShapes Go.WideShapes Go.ChangeAt Go.RowKit Go.Maps Go.WideMaps Go.Proofs.YtdebhngpgabglaaGreat.Tr
theorem norm_le (e : List Nd) : (normB e).length ≤ 5000 := by
 cases h : mayB e with
 | false => rw [norm_no h]; simp
 | true =>
  have hm := may_of h
  rw [norm_yes h, T.flat_len]
  have := hm.size
  have := hm.le
  unfold root; omega
theorem nodes_at {w wr : World} {A : Option Addr} {g c c2 : Nat} {L : List Nd} {V : List Bool} (h : NR w (.slice A L.length c2) g c L V wr) {k : Nat} {x : Nd} (hx : L[k]? = some x) : ∃ gn o, A = some ⟨gn, o, none⟩ ∧ gn < wr.heap.size ∧
 wr.cell? ⟨gn, o + k * 6, none⟩ = some (.int .i64 x.op) ∧ wr.cell? ⟨gn, o + k * 6 + 1, none⟩ = some (.int .i64 x.a) ∧ wr.cell? ⟨gn, o + k * 6 + 2, none⟩ = some (.int .i64 x.b) ∧
 wr.cell? ⟨gn, o + k * 6 + 3, none⟩ = some (.int .i64 x.c) ∧ wr.cell? ⟨gn, o + k * 6 + 4, none⟩ = some (.int .i64 x.n) ∧ wr.cell? ⟨gn, o + k * 6 + 5, none⟩ = some (.string (str x.name)) := by
 obtain ⟨A', c', e1, _, _, hA⟩ := Nodes.of_own h.nds
 simp only [Value.slice.injEq, true_and] at e1
 obtain ⟨rfl, rfl⟩ := e1
 exact hA k x hx
set_option maxRecDepth 100000 in
set_option maxHeartbeats 8000000 in
theorem needs_any (v : Value) (e : List Nd) (w : World) (hv : Nodes w v e) (hsh : Short e) : Calls Tryz.prog 7 #[v] w (StrsPost w (needsM e)) := by
 have hmm := @run_makeMap Tryz.prog
 have HV := Lib.hid hv
 obtain ⟨A, c, rfl, h1, h2, hA⟩ := hv
 clear hA
 unfold maxLen at h2
 obtain ⟨i0, hi, hz0, hz1, hz2⟩ := info_parts info4
 obtain ⟨j0, hj, hy0, hy1, hy2⟩ := info_parts infoS
 have HSH := Lib.hid (short_norm hsh)
 have HND := Lib.hid (needs_vis e)
 have HLL := Lib.hid (late_len e)
 have hle := norm_le e
 clear hsh
 go_enter Tryz.func7, Tryz.ntmps7
 go_wp2_with fail
 refine (sub_any _ e _ _ HV.out).mono ?_
 rintro r w1 ⟨ov, rfl, hown, hb⟩
 have hown : w1.ownsRow w.heap.size 59 6 ov (normB e).length (ndsOf (normB e)) := hown
 have HO1 := Lib.hid hown
 have HB1 := Lib.hid hb
 obtain ⟨A2, c2, rfl, y1, y2, _⟩ := Nodes.of_own hown
 unfold maxLen at y2
 clear hown hb
 go_wp2_with (at_make; refine wpList_make_full _ rfl _ _ 57 rfl w1.heap.size 4 i0 _ 1 Tryz.underlying57 hi hz0 hz1 _ _ _ _ (normB e).length rfl rfl rfl rfl (by rw [hz2]; omega) (by unfold maxLen; omega) (Nat.le_refl _) ?_)
 intro w2 hown hgrow
 have hb2 : Below w1.heap.size w1 w2 := (Below.refl _ _).grown hgrow (Nat.le_refl _) (fun k hk => by simp at hk)
 have HNR : Hid (NR w (.slice A2 (normB e).length c2) w1.heap.size (normB e).length (normB e) (List.replicate (normB e).length false) w2) := Lib.hid (by
  refine ⟨own_below HO1.out hb2, ?_, HB1.out.trans (hb2.mono HB1.out.size)⟩
  rw [List.length_replicate, ← made_bools]
  exact own_base hown HB1.out.size)
 clear hown hgrow hb2
 go_wp2
 go_loopw [5] (fun i wr => ∃ (m : Nat) (V : List Bool), i = .int .i64 ((m : Int) - 1) ∧ m ≤ (normB e).length ∧ Bf (lateM e) V (Sm (normB e) m) ∧ NR w (.slice A2 (normB e).length c2) w1.heap.size (normB e).length (normB e) V wr) (fun i _ => (intOf i + 1).toNat)
 case atStart => exact ⟨(normB e).length, _, rfl, Nat.le_refl _, bf_start e, HNR.out⟩
 case round =>
  obtain ⟨m, V, rfl, hm, hbf, hnr⟩ := hrel
  have HNR := Lib.hid hnr
  have HBF := Lib.hid hbf
  clear hbf
  obtain ⟨wm, hwm⟩ : ∃ W, W = wr := ⟨_, rfl⟩
  subst hwm
  cases m with
  | zero =>
   have hV := bf_all HBF.out
   have HREL0 : Hid (NeR w wm (.slice A2 (normB e).length c2) w1.heap.size (normB e).length (normB e) (lateM e) 0 (wm.alloc (.map #[] 0)) (.slice none 0 0)) := Lib.hid (by
    subst hV
    exact ⟨Nat.zero_le _, World.ownsMap_made wm Tryz.prog 9 _, World.ownsRow_nil _ _ _ _, hnr.turn (below_new _ _), by simp, hnr.below.size, fun j hj => (hnr.nds.lt j hj).2, hnr.lt.2⟩)
   have hem : ((0 : Nat) : Int) - 1 = -1 := rfl
   rw [hem]
   clear hnr hV hem hm HBF HNR
   go_wp2
   go_loopw [10, 64] (fun nv i wr => ∃ (k : Nat) (nv' : Value), nv' = nv ∧ i = .int .i64 k ∧ NeR w wm (.slice A2 (normB e).length c2) w1.heap.size (normB e).length (normB e) (lateM e) k wr nv') (fun _ i _ => (normB e).length - (intOf i).toNat)
   case atStart => exact ⟨0, _, rfl, rfl, HREL0.out⟩
   case round =>
    obtain ⟨k, nv', rfl, rfl, hrel⟩ := hrel
    have hk := hrel.le
    have HREL := Lib.hid hrel
    have hs := hrel.size
    have hgl := hrel.nr.lt.2
    by_cases hlt : k < (normB e).length
    · obtain ⟨x, hx⟩ : ∃ x, (normB e)[k]? = some x := ⟨_, List.getElem?_eq_getElem hlt⟩
      obtain ⟨d, hd⟩ : ∃ d, (lateM e)[k]? = some d := ⟨_, List.getElem?_eq_getElem (by rw [HLL.out]; exact hlt)⟩
      obtain ⟨gn, o, hgo, hg, a0, a1, a2, a3, a4, a5⟩ := nodes_at hrel.nr hx
      subst hgo
      have hbd := (hrel.nr.bef.cellAt k (by rw [HLL.out]; omega)).trans (bools_get hd)
      have hgw : gn ≠ wr.heap.size := by omega
      have hgw2 : w1.heap.size ≠ wr.heap.size := by omega
      have hsx := HSH.out x (List.mem_of_getElem? hx)
      have hkey := keyName x.name hsx
      have hnx := nmK_next hx hd
      have hlen := nmK_len (normB e) (lateM e) k
      have HLT := Lib.hid hlt
      clear hx hrel hd
      by_cases ho : x.op = 3
      · have ho' : (x.op != 3) = false := by simp [ho]
        cases d with
        | true =>
         have HAN : Hid (nmK (normB e) (lateM e) (k + 1) = nmK (normB e) (lateM e) k) := Lib.hid (by rw [hnx, if_neg (by simp)])
         clear hnx ho
         go_wp2
         refine ⟨⟨k + 1, _, rfl, by go_num, (HREL.out.alloc _).skip HLT.out HAN.out⟩, by simp [intOf]; omega⟩
        | false =>
         rw [if_pos ⟨ho, rfl⟩] at hnx
         have HNX := Lib.hid hnx
         clear hnx ho
         rcases Bool.eq_false_or_eq_true ((nmK (normB e) (lateM e) k).contains x.name) with hc | hc
         · have hh : Maps.has (setN (nmK (normB e) (lateM e) k)) (.string x.name) = true := by rw [has_setN]; exact hc
           have HAN : Hid (nmK (normB e) (lateM e) (k + 1) = nmK (normB e) (lateM e) k) := Lib.hid (by rw [HNX.out]; unfold addT; rw [if_pos hc])
           clear hc
           go_wp2_with (at_lookup; refine wpList_lookup_own_unit _ rfl _ _ 61 rfl 9 62 lawT Tryz.underlying61 (zeroU _) wm.heap.size k _ rfl (HREL.out.map.alloc _) _ _ rfl hkey ?_)
           refine ⟨⟨k + 1, _, rfl, by go_num, ((HREL.out.alloc _).alloc _).skip HLT.out HAN.out⟩, by simp [intOf]; omega⟩
         · have hh : Maps.has (setN (nmK (normB e) (lateM e) k)) (.string x.name) = false := by rw [has_setN]; exact hc
           have HC := Lib.hid hc
           clear hc
           have hbne : wm.heap.size ≠ wr.heap.size := by omega
           go_wp2_with (first
            | (at_lookup; refine wpList_lookup_own_unit _ rfl _ _ 61 rfl 9 62 lawT Tryz.underlying61 (zeroU _) wm.heap.size k _ rfl (HREL.out.map.alloc _) _ _ rfl hkey ?_)
            | (at_mapUpdate; refine wpList_mapUpdate_own _ rfl _ _ _ 61 rfl 9 62 lawT Tryz.underlying61 (unitElem (H := Unit)) wm.heap.size k _ rfl ((HREL.out.map.alloc _).alloc _) (by unfold maxLen; omega) _ _ _ rfl rfl hkey _ [] unitElem_mk ?_; intro w4 hown1 hgrow1; have cN := cellGrown (k := 5) hgrow1 (by omega); have sN := hgrow1.size; simp at cN sN)
            | (at_builtin; refine wpList_append_own _ rfl (.tmp 91) (.tmp 94) 26 rfl (wm.heap.size + 1) 9 j0 (.string ⟨#[]⟩) 1 16 Tryz.underlying26 hj hy0 hy1 hy2 rfl (by decide) _ _ _ rfl ((((HREL.out.alloc _).alloc _).row1 hgrow1).alloc _) ⟨w4.heap.size, 0, none⟩ 1 1 [.string (str x.name)] rfl rfl ?a1 ?b1 ?c1 ?d1 ?e1 ?_))
           case a1 => exact cell_one_new _ _ _
           case b1 => first | rfl | (intro u hu; simp at hu; subst hu; rfl)
           case c1 => unfold maxLen; omega
           case d1 => omega
           case e1 => simp; omega
           intro v' w5 hown3 hgrow3 _
           have R := Lib.hid (((HREL.out.alloc _).alloc _).step HLT.out HNX.out HC.out hown1 hgrow1 hown3 hgrow3)
           clear hown3 hgrow3 hown1 hgrow1
           go_wp2
           refine ⟨⟨k + 1, _, rfl, by go_num, R.out⟩, by simp [intOf]; omega⟩
      · have ho' : (x.op != 3) = true := by simp [ho]
        have HAN : Hid (nmK (normB e) (lateM e) (k + 1) = nmK (normB e) (lateM e) k) := Lib.hid (by rw [hnx, if_neg (fun h => ho h.1)])
        clear ho hnx
        go_wp2
        refine ⟨⟨k + 1, _, rfl, by go_num, (HREL.out.alloc _).skip HLT.out HAN.out⟩, by simp [intOf]; omega⟩
    · have hkl : k = (normB e).length := by omega
      subst hkl
      clear hrel
      have h5 := HREL.out.row
      have h6 := HREL.out.nr.below
      have h7 := HREL.out.lo
      rw [nmK_all (Nat.le_refl _) (by rw [HLL.out]; exact Nat.le_refl _), ← HND.out] at h5
      have H5 := Lib.hid (own_base h5 (b' := w.heap.size) (by omega))
      have H6 := Lib.hid h6
      clear h5 h6 h7
      go_wp2
      go_ret
      exact ⟨_, rfl, H5.out, H6.out⟩
  | succ m =>
   obtain ⟨x, hx⟩ : ∃ x, (normB e)[m]? = some x := ⟨_, List.getElem?_eq_getElem (by omega)⟩
   obtain ⟨gn, o, hgo, hg, a0, a1, a2, a3, a4, a5⟩ := nodes_at hnr hx
   subst hgo
   have em : ((m + 1 : Nat) : Int) - 1 = (m : Int) := by omega
   rw [em]
   obtain ⟨d, hd⟩ : ∃ d, (lateM e)[m]? = some d := ⟨_, List.getElem?_eq_getElem (by rw [HLL.out]; omega)⟩
   have hgw : gn ≠ wm.heap.size := by omega
   have HKID := Lib.hid (fun k (hk : k ∈ kidsM x) => late_kid e hx hk hd)
   have HX := Lib.hid hx
   have HD := Lib.hid hd
   have hml : m < (normB e).length := by omega
   clear hx hd em hnr
   rcases (show (x.op == 21) = true ∨ ((x.op == 21) = false ∧ (x.op == 24) = true) ∨ ((x.op == 21) = false ∧ (x.op == 24) = false) by
    cases (x.op == 21) <;> cases (x.op == 24) <;> simp) with h21 | ⟨h21, h24⟩ | ⟨h21, h24⟩
   all_goals
    first
     | have HE : Hid (endB x.op = true) := Lib.hid (by unfold endB; rw [h21]; rfl)
     | have HE : Hid (endB x.op = true) := Lib.hid (by unfold endB; rw [h21, h24]; rfl)
     | have HE : Hid (endB x.op = false) := Lib.hid (by unfold endB; rw [h21, h24]; rfl)
    go_wp2_with fail
    refine (kids_any x _).mono ?_
    rintro r w3 ⟨kv, rfl, hko, hb3⟩
    have HN3 := Lib.hid (HNR.out.turn ((below_new wm _).trans (hb3.mono (by simp))))
    have HKO := Lib.hid hko
    obtain ⟨A3, c3, rfl, z1, z2, _⟩ := Ints.of_own hko
    unfold maxLen at z2
    clear hko hb3
    go_wp2
    go_loopw [46] (fun i wr => ∃ (q : Nat) (V' : List Bool), q ≤ (kidsM x).length ∧ i = .int .i64 q ∧ Bf (lateM e) V' (Sq (normB e) (m + 1) (kidsM x) q) ∧ NR w (.slice (some ⟨gn, o, none⟩) (normB e).length c2) w1.heap.size (normB e).length (normB e) V' wr ∧ wr.ownsRow (wm.heap.size + 1) 3 1 (.slice A3 (kidsM x).length c3) (kidsM x).length (intsOf (kidsM x))) (fun i _ => (kidsM x).length - (intOf i).toNat)
    case atStart => exact ⟨0, V, Nat.zero_le _, rfl, HBF.out.sub (fun j hj => hj.elim id (fun ⟨r, hr, _⟩ => by omega)), HN3.out, by have := HKO.out; simpa using this⟩
    case round =>
     obtain ⟨q, V', hq, rfl, hbf, hnr, hko⟩ := hrel
     have HNQ := Lib.hid hnr
     have HKQ := Lib.hid hko
     have HBQ := Lib.hid hbf
     by_cases hql : q < (kidsM x).length
     · obtain ⟨k, hk⟩ : ∃ k, (kidsM x)[q]? = some k := ⟨_, List.getElem?_eq_getElem hql⟩
       obtain ⟨k0, k1, k2, k3⟩ := HKID.out k (List.mem_of_getElem? hk)
       obtain ⟨kn, rfl⟩ := Int.eq_ofNat_of_zero_le k0
       rw [Int.toNat_natCast] at k1 k2 k3
       have hVl : V'.length = (normB e).length := by rw [hbf.len, HLL.out]
       have hVm := (bf_at hbf (fun j hj => .inl hj) hml).trans HD.out
       obtain ⟨bk, hbk⟩ : ∃ b, V'[kn]? = some b := ⟨_, List.getElem?_eq_getElem (by omega)⟩
       have cm := (hnr.bef.cellAt m (by omega)).trans (bools_get hVm)
       have ck := (hnr.bef.cellAt kn (by omega)).trans (bools_get hbk)
       have fk := hnr.bef.frozenAt kn
       have hgq := hnr.lt.2
       rw [HE.out] at k3
       have K3 := Lib.hid k3
       have HK := Lib.hid hk
       obtain ⟨A4, c4, e4, _, _, hA4⟩ := Ints.of_own hko
       simp only [Value.slice.injEq, true_and] at e4
       obtain ⟨rfl, rfl⟩ := e4
       obtain ⟨g4, o4, rfl, hg4, d0⟩ := hA4 q _ hk
       clear hbf hnr hko hVm hbk hk k3 hA4 k0
       cases d with
       | true =>
        have HP := Lib.hid (bf_put HK.out (Int.natCast_nonneg _) HBQ.out (by rw [Int.toNat_natCast]; exact K3.out))
        go_wp2
        refine ⟨⟨q + 1, _, by omega, by go_num, HP.out, by rw [Int.toNat_natCast]; exact HNQ.out.set kn _, HNQ.out.other HKQ.out (by decide) kn _⟩, by simp [intOf]; omega⟩
       | false =>
        have HP := Lib.hid (bf_put HK.out (Int.natCast_nonneg _) HBQ.out (by rw [Int.toNat_natCast]; exact K3.out))
        go_wp2
        refine ⟨⟨q + 1, _, by omega, by go_num, HP.out, by rw [Int.toNat_natCast]; exact HNQ.out.set kn _, HNQ.out.other HKQ.out (by decide) kn _⟩, by simp [intOf]; omega⟩
     · have HB2 := Lib.hid (bf_next HX.out (by omega) hbf)
       clear hbf hnr hko
       go_wp2
       refine ⟨⟨m, V', by first | rfl | go_num, by omega, HB2.out, HNQ.out⟩, by simp [intOf]⟩
end Go.Proofs.YtdebhngpgabglaaGreat.Ca
