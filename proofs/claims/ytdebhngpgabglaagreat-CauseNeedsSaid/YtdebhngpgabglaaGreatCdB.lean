/- The document's Needs. Conditions: the slice is read as a list of nodes. -/
import Derived.Test.YtdebhngpgabglaaGreatCdA
set_option linter.unusedVariables false
set_option linter.unusedSimpArgs false
namespace Go.Proofs.YtdebhngpgabglaaGreat.Ca
open Go.ChangeShapes Go.WideShapes Go.ChangeAt Go.RowKit Go.Maps Go.WideMaps Go.Proofs.YtdebhngpgabglaaGreat.Tr
set_option maxRecDepth 100000 in
set_option maxHeartbeats 8000000 in
theorem rneeds_any (v : Value) (e : List Nd) (w : World) (hv : Nodes w v e) : Calls Tryz.prog 8 #[v] w (StrsPost w (needsM e)) := by
 have HV := Lib.hid hv
 obtain ⟨A, c, rfl, h1, h2, hA⟩ := hv
 clear hA
 unfold maxLen at h2
 obtain ⟨j0, hj, hy0, hy1, hy2⟩ := info_parts infoS
 have HND := Lib.hid (needs_vis e)
 have HLL := Lib.hid (late_len e)
 have hle := norm_le e
 go_enter Tryz.func8, Tryz.ntmps8
 go_wp2_with fail
 refine (rnorm_any _ e _ HV.out).mono ?_
 rintro r w1 ⟨ov, rfl, hown, hb⟩
 have HO1 := Lib.hid (Nodes.of_own hown)
 have HB1 := Lib.hid hb
 obtain ⟨A2, c2, rfl, y1, y2, _⟩ := Nodes.of_own hown
 unfold maxLen at y2
 clear hown hb
 go_wp2_with fail
 refine (rlater_any _ e w1 HO1.out).mono ?_
 rintro r w2 ⟨A3, c3, rfl, hl, hb2⟩
 have HL2 := Lib.hid hl
 have HO2 := Lib.hid (HO1.out.below hb2 (Nat.le_refl _))
 have HB2 := Lib.hid (HB1.out.trans (hb2.mono HB1.out.size))
 have HRO : Hid (w2.ownsRow w2.heap.size 9 1 (.slice none 0 0) (nmK (normB e) (lateM e) 0).length (strsOf (nmK (normB e) (lateM e) 0))) := Lib.hid (World.ownsRow_nil _ _ _ _)
 rw [HLL.out]
 clear hl hb2
 go_wp2
 go_loopw [4, 5] (fun nv i wr => ∃ (k : Nat) (nv' : Value), nv' = nv ∧ i = .int .i64 k ∧ k ≤ (normB e).length ∧ wr.ownsRow w2.heap.size 9 1 nv' (nmK (normB e) (lateM e) k).length (strsOf (nmK (normB e) (lateM e) k)) ∧ Below w2.heap.size w2 wr) (fun _ i _ => (normB e).length - (intOf i).toNat)
 case atStart => exact ⟨0, _, rfl, rfl, Nat.zero_le _, HRO.out, Below.refl _ _⟩
 case round =>
  obtain ⟨k, nv', rfl, rfl, hk, hrow, hbr⟩ := hrel
  have HROW := Lib.hid hrow
  have HBR := Lib.hid hbr
  have hsr := hbr.size
  by_cases hlt : k < (normB e).length
  · obtain ⟨x, hx⟩ : ∃ x, (normB e)[k]? = some x := ⟨_, List.getElem?_eq_getElem hlt⟩
    obtain ⟨d, hd⟩ : ∃ d, (lateM e)[k]? = some d := ⟨_, List.getElem?_eq_getElem (by rw [HLL.out]; exact hlt)⟩
    obtain ⟨A4, c4, e4, -, -, hA4⟩ := HO2.out.below hbr (Nat.le_refl _)
    simp only [Value.slice.injEq, true_and] at e4
    obtain ⟨rfl, rfl⟩ := e4
    obtain ⟨gn, o, rfl, hg, a0, a1, a2, a3, a4, a5⟩ := hA4 k x hx
    have hl' := own_below HL2.out hbr
    rw [HLL.out] at hl'
    obtain ⟨g3, rfl, hbd⟩ : ∃ g, A3 = some ⟨g, 0, none⟩ ∧ wr.cell? ⟨g, k, none⟩ = some (.bool d) := by
     obtain ⟨-, ⟨e5, h0⟩ | ⟨g, cap, cur, e5, -⟩⟩ := hl'
     · omega
     · simp only [Value.slice.injEq, true_and] at e5
       obtain ⟨rfl, rfl⟩ := e5
       refine ⟨g, rfl, ?_⟩
       have h9 := own_below HL2.out hbr
       exact (h9.cellAt k (by rw [HLL.out]; omega)).trans (bools_get hd)
    have hnx := nmK_next hx hd
    have hlen := nmK_len (normB e) (lateM e) k
    have HST := Lib.hid (Strs.of_own hrow)
    obtain ⟨An, cn, hnv, hn1, hn2, -⟩ := Strs.of_own hrow
    unfold maxLen at hn2
    clear hx hd hrow hbr hl' hA4
    by_cases ho : x.op = 3
    · cases d with
      | true =>
       have HAN : Hid (nmK (normB e) (lateM e) (k + 1) = nmK (normB e) (lateM e) k) := Lib.hid (by rw [hnx, if_neg (by simp)])
       clear hnx hnv
       go_wp2
       refine ⟨⟨k + 1, _, rfl, by go_num, by omega, by rw [HAN.out]; exact HROW.out, HBR.out⟩, by simp [intOf]; omega⟩
      | false =>
       rw [if_pos ⟨ho, rfl⟩] at hnx
       have HNX := Lib.hid hnx
       have HHA := Lib.hid (rhas_any nv' (nmK (normB e) (lateM e) k) x.name wr HST.out)
       clear hnx hnv
       rcases Bool.eq_false_or_eq_true ((nmK (normB e) (lateM e) k).contains x.name) with hc | hc
       · have HAN : Hid (nmK (normB e) (lateM e) (k + 1) = nmK (normB e) (lateM e) k) := Lib.hid (by rw [HNX.out]; unfold addT; rw [if_pos hc])
         rw [hc] at HHA
         clear hc
         go_wp2_with fail
         refine HHA.out.mono ?_
         rintro r w3 ⟨rfl, rfl⟩
         go_wp2
         refine ⟨⟨k + 1, _, rfl, by go_num, by omega, by rw [HAN.out]; exact HROW.out, HBR.out⟩, by simp [intOf]; omega⟩
       · have HAN : Hid (nmK (normB e) (lateM e) (k + 1) = nmK (normB e) (lateM e) k ++ [x.name]) := Lib.hid (by rw [HNX.out]; unfold addT; rw [if_neg (by rw [hc]; simp)])
         rw [hc] at HHA
         clear hc
         go_wp2_with fail
         refine HHA.out.mono ?_
         rintro r w3 ⟨rfl, hw3⟩
         subst hw3
         go_wp2_with (at_builtin; refine wpList_append_own _ rfl (.tmp 39) (.tmp 45) 26 rfl w2.heap.size 9 j0 (.string ⟨#[]⟩) 1 16 Tryz.underlying26 hj hy0 hy1 hy2 rfl (by decide) _ _ _ rfl (HROW.out.alloc _) ⟨wr.heap.size, 0, none⟩ 1 1 [.string (str x.name)] rfl rfl ?a1 ?b1 ?c1 ?d1 ?e1 ?_)
         case a1 => exact cell_one_new _ _ _
         case b1 => first | rfl | (intro u hu; simp at hu; subst hu; rfl)
         case c1 => unfold maxLen; omega
         case d1 => omega
         case e1 => simp; omega
         intro v' w5 hown3 hgrow3 _
         have hrow5 : w5.ownsRow w2.heap.size 9 1 v' (nmK (normB e) (lateM e) (k + 1)).length (strsOf (nmK (normB e) (lateM e) (k + 1))) := by
          rw [HAN.out, strs_snoc, List.length_append]; exact hown3
         have hb5 : Below w2.heap.size w2 w5 := (HBR.out.trans ((below_new wr _).mono hsr)).grown hgrow3 (by simp; omega) (fun g hg => (HROW.out.lt g hg).1)
         have HR5 := Lib.hid hrow5
         have HB5 := Lib.hid hb5
         clear hown3 hgrow3 hrow5 hb5
         go_wp2
         refine ⟨⟨k + 1, _, rfl, by go_num, by omega, HR5.out, HB5.out⟩, by simp [intOf]; omega⟩
    · have ho' : (x.op == 3) = false := by simp [ho]
      have HAN : Hid (nmK (normB e) (lateM e) (k + 1) = nmK (normB e) (lateM e) k) := Lib.hid (by rw [hnx, if_neg (fun h => ho h.1)])
      clear ho hnx hnv
      go_wp2
      refine ⟨⟨k + 1, _, rfl, by go_num, by omega, by rw [HAN.out]; exact HROW.out, HBR.out⟩, by simp [intOf]; omega⟩
  · have hkl : k = (normB e).length := by omega
    subst hkl
    have h5 := HROW.out
    rw [nmK_all (Nat.le_refl _) (by rw [HLL.out]; exact Nat.le_refl _), ← HND.out] at h5
    have H5 := Lib.hid (own_base h5 (b' := w.heap.size) HB2.out.size)
    have H6 := Lib.hid (HB2.out.trans (hbr.mono HB2.out.size))
    clear h5 hrow hbr
    go_wp2
    go_ret
    exact ⟨_, rfl, H5.out, H6.out⟩
end Go.Proofs.YtdebhngpgabglaaGreat.Ca
