/- The document's Order. Conditions: at most 4000 equations. -/
import Derived.Test.YtdebhngpgabglaaGreatCdC
set_option linter.unusedVariables false
set_option linter.unusedSimpArgs false
namespace Go.Proofs.YtdebhngpgabglaaGreat.Ca
open Go.ChangeShapes Go.WideShapes Go.ChangeAt Go.RowKit Go.Maps Go.WideMaps Go.Proofs.YtdebhngpgabglaaGreat.Tr
open Go.Proofs.YtdebhngpgabglaaGreat.Pg (Eqn)
theorem info26 : (Tryz.prog.info? 26).map (fun i => (i.zero, i.size, i.bytes)) = some (some (.slice none 0 0), 1, 24) := by kernel_rfl
theorem isS_own {w : World} {b T s n : Nat} {v : Value} {xs : List Value} (h : w.ownsRow b T s v n xs) : ∃ A c, v = .slice A n c := by
 obtain ⟨-, ⟨e, h0⟩ | ⟨g, cap, cur, e, -⟩⟩ := h
 · exact ⟨none, 0, by rw [e, h0]⟩
 · exact ⟨_, _, e⟩
theorem own_at {w : World} {b T s n : Nat} {v : Value} {xs : List Value} (h : w.ownsRow b T s v n xs) (h0 : 0 < n) : ∃ g c, v = .slice (some ⟨g, 0, none⟩) n c := by
 obtain ⟨-, ⟨e, h1⟩ | ⟨g, cap, cur, e, -⟩⟩ := h
 · omega
 · exact ⟨_, _, e⟩
structure NdR (w0 : World) (l : List Eqn) (k : Nat) (nv : Value) (wr : World) (vs : List Value) : Prop where
 len : vs.length = k
 row : wr.ownsRow w0.heap.size 26 1 nv k vs
 each : ∀ i q, i < k → l[i]? = some q → ∃ v, vs[i]? = some v ∧ wr.ownsRow w0.heap.size 9 1 v (needsM q.e).length (strsOf (needsM q.e))
theorem NdR.below {w0 : World} {l : List Eqn} {k : Nat} {nv : Value} {wr w' : World} {vs : List Value} (h : NdR w0 l k nv wr vs) (hb : Below wr.heap.size wr w') : NdR w0 l k nv w' vs :=
 ⟨h.len, own_below h.row hb, fun i q hi hq => by obtain ⟨v, h1, h2⟩ := h.each i q hi hq; exact ⟨v, h1, own_below h2 hb⟩⟩
theorem NdR.snoc {w0 : World} {l : List Eqn} {k : Nat} {nv nv' v : Value} {wr w1 : World} {vs : List Value} {q : Eqn} (h : NdR w0 l k nv wr vs) (hq : l[k]? = some q) (hv : wr.ownsRow w0.heap.size 9 1 v (needsM q.e).length (strsOf (needsM q.e)))
 (hrow : w1.ownsRow w0.heap.size 26 1 nv' (k + 1) (vs ++ [v])) (hg : wr.grownBy w1 nv.ownBlock) : NdR w0 l (k + 1) nv' w1 (vs ++ [v]) := by
 have keep : ∀ {u : Value} {xs : List Value} {n : Nat}, wr.ownsRow w0.heap.size 9 1 u n xs → w1.ownsRow w0.heap.size 9 1 u n xs := fun {u xs n} ho =>
  own_block ho (fun j hj => hg.block j (ho.lt j hj).2 (fun e => own_ne ho h.row (by decide) j hj e.symm))
 refine ⟨by rw [List.length_append, h.len]; rfl, hrow, fun i p hi hp => ?_⟩
 by_cases e : i = k
 · subst e
   rw [hq] at hp; injection hp with hp; subst hp
   exact ⟨v, by rw [List.getElem?_append_right (by rw [h.len]; exact Nat.le_refl _), h.len]; simp, keep hv⟩
 · obtain ⟨u, h1, h2⟩ := h.each i p (by omega) hp
   exact ⟨u, by rw [List.getElem?_append_left (by rw [h.len]; omega)]; exact h1, keep h2⟩
structure OrS (w0 : World) (l : List Eqn) (n gb cb : Nat) (nv ov : Value) (vs : List Value) (t : List Nat) (wr : World) : Prop where
 nd : NdR w0 l n nv wr vs
 tk : wr.ownsRow w0.heap.size 4 1 (.slice (some ⟨gb, 0, none⟩) n cb) n (boolsOf (TkB n t))
 out : wr.ownsRow w0.heap.size 3 1 ov t.length (intsOf (natI t))
 below : Below w0.heap.size w0 wr
theorem OrS.stored {w0 : World} {l : List Eqn} {n gb cb : Nat} {nv ov : Value} {vs : List Value} {t : List Nat} {wr : World} {i : Nat} (h : OrS w0 l n gb cb nv ov vs t wr) (hi : i < n) :
 NdR w0 l n nv (wr.setCell ⟨gb, i, none⟩ (.bool true)) vs ∧ (wr.setCell ⟨gb, i, none⟩ (.bool true)).ownsRow w0.heap.size 4 1 (.slice (some ⟨gb, 0, none⟩) n cb) n (boolsOf (TkB n (t ++ [i]))) ∧ (wr.setCell ⟨gb, i, none⟩ (.bool true)).ownsRow w0.heap.size 3 1 ov t.length (intsOf (natI t)) ∧ Below w0.heap.size w0 (wr.setCell ⟨gb, i, none⟩ (.bool true)) := by
 have keep : ∀ {T s m : Nat} {u : Value} {xs : List Value}, T ≠ 4 → wr.ownsRow w0.heap.size T s u m xs → (wr.setCell ⟨gb, i, none⟩ (.bool true)).ownsRow w0.heap.size T s u m xs := fun {T s m u xs} hT ho =>
  own_block ho (fun j hj => Below.heap_setCell _ _ _ _ (fun e => own_ne ho h.tk hT j hj (by rw [e]; rfl)))
 have hlo := (h.tk.lt gb rfl).1
 refine ⟨⟨h.nd.len, keep (by decide) h.nd.row, fun j q hj hq => ?_⟩, ?_, keep (by decide) h.out, h.below.setCell (p := ⟨gb, i, none⟩) (by show w0.heap.size ≤ gb; omega) _⟩
 · obtain ⟨u, h1, h2⟩ := h.nd.each j q hj hq
   exact ⟨u, h1, keep (by decide) h2⟩
 · rw [← tk_set hi, bools_set]
   exact (h.tk.stored i (.bool true)).1
theorem OrS.put {w0 : World} {l : List Eqn} {n gb cb : Nat} {nv ov ov' : Value} {vs : List Value} {t : List Nat} {wr w1 : World} {i : Nat} (h1 : NdR w0 l n nv wr vs) (h2 : wr.ownsRow w0.heap.size 4 1 (.slice (some ⟨gb, 0, none⟩) n cb) n (boolsOf (TkB n (t ++ [i])))) (h3 : wr.ownsRow w0.heap.size 3 1 ov t.length (intsOf (natI t))) (h4 : Below w0.heap.size w0 wr)
 (hrow : w1.ownsRow w0.heap.size 3 1 ov' (t.length + 1) (intsOf (natI t) ++ [.int .i64 (i : Int)])) (hg : wr.grownBy w1 ov.ownBlock) : OrS w0 l n gb cb nv ov' vs (t ++ [i]) w1 := by
 have keep : ∀ {T s m : Nat} {u : Value} {xs : List Value}, T ≠ 3 → wr.ownsRow w0.heap.size T s u m xs → w1.ownsRow w0.heap.size T s u m xs := fun {T s m u xs} hT ho =>
  own_block ho (fun j hj => hg.block j (ho.lt j hj).2 (fun e => own_ne ho h3 hT j hj e.symm))
 refine ⟨⟨h1.len, keep (by decide) h1.row, fun j q hj hq => ?_⟩, keep (by decide) h2, ?_, h4.grown hg h4.size (fun g e => (h3.lt g e).1)⟩
 · obtain ⟨u, a, b⟩ := h1.each j q hj hq
   exact ⟨u, a, keep (by decide) b⟩
 · have e : intsOf (natI (t ++ [i])) = intsOf (natI t) ++ [.int .i64 (i : Int)] := by unfold natI intsOf; simp
   rw [e, List.length_append]; exact hrow
def NxtAt (Q : Qs) (t : List Nat) (m n : Nat) (nx : Value) : Prop :=
 (nx = .int .i64 (-1) ∧ ∀ j, m ≤ j → j < n → freeB Q t j = false) ∨ ∃ j : Nat, nx = .int .i64 (j : Int) ∧ m ≤ j ∧ j < n ∧ freeB Q t j = true ∧ ∀ i, m ≤ i → i < j → freeB Q t i = false
theorem NxtAt.no {Q : Qs} {t : List Nat} {m n : Nat} {nx : Value} (h : NxtAt Q t (m + 1) n nx) (hf : freeB Q t m = false) : NxtAt Q t m n nx := by
 rcases h with ⟨e, h⟩ | ⟨j, e, h1, h2, h3, h4⟩
 · exact .inl ⟨e, fun j a b => by by_cases c : j = m; · subst c; exact hf
                                  · exact h j (by omega) b⟩
 · exact .inr ⟨j, e, by omega, h2, h3, fun i a b => by by_cases c : i = m; · subst c; exact hf
                                                       · exact h4 i (by omega) b⟩
theorem NxtAt.yes {Q : Qs} {t : List Nat} {m n : Nat} (hm : m < n) (hf : freeB Q t m = true) : NxtAt Q t m n (.int .i64 (m : Int)) :=
 .inr ⟨m, rfl, Nat.le_refl _, hm, hf, fun i a b => by omega⟩
theorem free_tk {Q : Qs} {t : List Nat} {m : Nat} (h : t.contains m = true) : freeB Q t m = false := by unfold freeB; rw [h]; rfl
theorem free_wt {Q : Qs} {t : List Nat} {m : Nat} (h : t.contains m = false) : freeB Q t m = !waitB Q t (ndQ Q m) := by unfold freeB waitB; rw [h]; simp
theorem gm_stop {Q : Qs} {f : Nat} {t : List Nat} (h : nextQ Q t = none) : goM Q f t = t := by
 cases f with
 | zero => rfl
 | succ f => unfold goM; rw [h]
theorem gm_more {Q : Qs} {f : Nat} {t : List Nat} {i : Nat} (h : nextQ Q t = some i) : goM Q (f + 1) t = goM Q f (t ++ [i]) := by
 conv => lhs; unfold goM
 rw [h]
set_option maxRecDepth 100000 in
set_option maxHeartbeats 16000000 in
theorem rorder_any (v : Value) (l : List Eqn) (w : World) (hv : EqsAt w v l) (hn : l.length ≤ 4000) : Calls Tryz.prog 11 #[v] w (OrdPost w (orderM (qsOf l))) := by
 obtain ⟨i0, hi, hz0, hz1, hz2⟩ := info_parts info3
 obtain ⟨b0, hbi, hbz0, hbz1, hbz2⟩ := info_parts info4
 obtain ⟨s0, hsi, hsz0, hsz1, hsz2⟩ := info_parts info26
 have HV := Lib.hid hv
 obtain ⟨A, c, rfl, h1, h2, h3⟩ := hv
 have HA := Lib.hid h3
 clear h3
 unfold maxLen at h2
 obtain ⟨n, hN⟩ : ∃ N, l.length = N := ⟨_, rfl⟩
 have HLN := Lib.hid hN
 have HQN : Hid ((qsOf l).length = n) := Lib.hid ((qs_len l).trans hN)
 obtain ⟨Q, hQ⟩ : ∃ Q, qsOf l = Q := ⟨_, rfl⟩
 rw [hQ] at HQN ⊢
 have HQ := Lib.hid hQ
 rw [hN] at h1 hn HV ⊢
 clear hN hQ
 go_enter Tryz.func11, Tryz.ntmps11
 go_wp2
 go_loopw [4, 5] (fun nv i wr => ∃ (k : Nat) (nv' : Value) (vs : List Value), nv' = nv ∧ i = .int .i64 k ∧ k ≤ n ∧ NdR w l k nv' wr vs ∧ Below w.heap.size w wr) (fun _ i _ => n - (intOf i).toNat)
 case atStart => exact ⟨0, _, [], rfl, rfl, Nat.zero_le _, ⟨rfl, World.ownsRow_nil _ _ _ _, fun i q hi => by omega⟩, Below.refl _ _⟩
 case round =>
  obtain ⟨k, nv', vs, rfl, rfl, hk, hnd, hbr⟩ := hrel
  have HND := Lib.hid hnd
  have HBR := Lib.hid hbr
  have hsr := hbr.size
  by_cases hlt : k < n
  · obtain ⟨q, hq⟩ : ∃ q, l[k]? = some q := ⟨_, List.getElem?_eq_getElem (by rw [HLN.out]; exact hlt)⟩
    have hvr := HV.out.below hbr
    obtain ⟨A', c', e1, -, -, hA'⟩ := hvr
    simp only [Value.slice.injEq] at e1
    obtain ⟨rfl, -, -⟩ := e1
    obtain ⟨g, o, ev, rfl, hg, a0, a1, a2, a3, a4⟩ := hA' k q hq
    have HNE := Lib.hid (rneeds_any ev q.e wr a2)
    have HQQ := Lib.hid hq
    obtain ⟨Av, cv, hev, -⟩ := a2
    clear hq hA' a3 a4 hnd hbr
    subst hev
    go_wp2_with fail
    refine HNE.out.mono ?_
    rintro r w1 ⟨sv, rfl, hs, hb1⟩
    have HS := Lib.hid hs
    have HB1 := Lib.hid (HBR.out.trans (hb1.mono hsr))
    have HND1 := Lib.hid (HND.out.below hb1)
    have hs1 := hb1.size
    obtain ⟨As, cs, rfl⟩ := isS_own hs
    clear hs hb1 HNE
    go_wp2_with (at_builtin; refine wpList_append_own _ rfl (.tmp 19) (.tmp 26) 77 rfl w.heap.size 26 s0 (.slice none 0 0) 1 24 Tryz.underlying77 hsi hsz0 hsz1 hsz2 rfl (by decide) _ _ _ rfl (HND1.out.row.alloc _) ⟨w1.heap.size, 0, none⟩ 1 1 [.slice As (needsM q.e).length cs] rfl rfl ?a1 ?b1 ?c1 ?d1 ?e1 ?_)
    case a1 => exact cell_one_new _ _ _
    case b1 => first | rfl | (intro u hu; simp at hu; subst hu; rfl)
    case c1 => unfold maxLen; omega
    case d1 => omega
    case e1 => first | omega | (simp; omega)
    intro v' w5 hown3 hgrow3 _
    have hba := below_new w1 (.cells #[.slice As (needsM q.e).length cs] 26)
    have HN5 := Lib.hid ((HND1.out.below hba).snoc HQQ.out (own_base (own_below HS.out hba) hsr) hown3 hgrow3)
    have HB5 := Lib.hid ((HB1.out.trans (hba.mono (by omega))).grown hgrow3 (by simp; omega) (fun g hg => (HND1.out.row.lt g hg).1))
    clear hown3 hgrow3 hba
    go_wp2
    refine ⟨⟨k + 1, _, _, rfl, by go_num, by omega, HN5.out, HB5.out⟩, by simp [intOf]; omega⟩
  · obtain rfl : k = n := by omega
    obtain ⟨wm, hwm⟩ : ∃ W, W = wr := ⟨_, rfl⟩
    subst hwm
    clear hnd hbr
    go_wp2_with (at_make; refine wpList_make_full _ rfl _ _ 57 rfl wm.heap.size 4 b0 _ 1 Tryz.underlying57 hbi hbz0 hbz1 _ _ _ _ k rfl rfl rfl rfl (by rw [hbz2]; omega) (by unfold maxLen; omega) (Nat.le_refl _) ?_)
    intro w2 hown hgrow
    have hb2 : Below wm.heap.size wm w2 := (Below.refl _ _).grown hgrow (Nat.le_refl _) (fun g hg => by simp at hg)
    have HOS : Hid (OrS w l k wm.heap.size k nv' (.slice none 0 0) vs [] w2) := Lib.hid (by
     refine ⟨HND.out.below hb2, ?_, World.ownsRow_nil _ _ _ _, HBR.out.trans (hb2.mono hsr)⟩
     rw [tk_nil, ← made_bools]
     exact own_base hown hsr)
    have hsw : w.heap.size ≤ w2.heap.size := HOS.out.below.size
    clear hown hgrow hb2
    go_wp2
    go_loopw [7] (fun ov wr => ∃ (t : List Nat) (ov' : Value), ov' = ov ∧ OrS w l k wm.heap.size k nv' ov' vs t wr ∧ t.length ≤ k ∧ goM Q (k - t.length) t = takenM Q) (fun ov _ => k - slLen ov)
    case atStart => exact ⟨[], _, rfl, HOS.out, Nat.zero_le _, by unfold takenM; rw [HQN.out]; rfl⟩
    case round =>
     obtain ⟨t, ov', rfl, hos, htl, hgo⟩ := hrel
     have HOS2 := Lib.hid hos
     have HGO := Lib.hid hgo
     have hsw2 := hos.below.size
     obtain ⟨tn, htn⟩ : ∃ z, t.length = z := ⟨_, rfl⟩
     obtain ⟨Ao, co, rfl⟩ := isS_own hos.out
     have HTN := Lib.hid htn
     rw [htn] at htl ⊢
     have hgl := (hos.tk.lt _ rfl).2
     obtain ⟨w6, hw6⟩ : ∃ W, W = wr := ⟨_, rfl⟩
     subst hw6
     clear hos hgo htn
     by_cases hlt2 : tn < k
     · go_wp2
       go_loop [8, 9] (fun nx i => ∃ (m : Nat) (nx' : Value), nx' = nx ∧ i = .int .i64 ((m : Int) - 1) ∧ m ≤ k ∧ Hid (NxtAt Q t m k nx')) (fun _ i => (intOf i + 1).toNat)
       case atStart => exact ⟨k, _, rfl, rfl, Nat.le_refl _, .inl ⟨rfl, fun j a b => by omega⟩⟩
       case round =>
        obtain ⟨m, nx, rfl, rfl, hm, hnx⟩ := hrel
        cases m with
        | zero =>
         have hem : ((0 : Nat) : Int) - 1 = -1 := rfl
         rw [hem]
         clear hem
         rcases hnx.out with ⟨rfl, hno⟩ | ⟨j, rfl, -, hjk, hfr, hlo⟩
         · have HR : Hid (orderM Q = none) := Lib.hid (by
            have hnext : nextQ Q t = none := next_no (fun i hi => hno i (Nat.zero_le _) (by rw [HQN.out] at hi; exact hi))
            have := HGO.out
            rw [gm_stop hnext] at this
            unfold orderM
            rw [← this, if_pos (by rw [HQN.out, HTN.out]; exact hlt2)])
           have HE := Lib.hid HOS2.out.below
           clear hno hnx
           go_wp2
           exact bodyPost_ret (v := .tuple #[.slice none 0 0, .int .i64 12]) (by simp [results, Tryz.results11, go_sem]) rfl ⟨HE.out, by rw [HR.out]⟩
         · have HGN : Hid (goM Q (k - (t ++ [j]).length) (t ++ [j]) = takenM Q) := Lib.hid (by
            have hnext : nextQ Q t = some j := next_of (by rw [HQN.out]; exact hjk) hfr (fun i hi hf => by
             by_cases c : j ≤ i
             · exact c
             · have := hlo i (Nat.zero_le _) (by omega); rw [hf] at this; cases this)
            have := HGO.out
            rw [HTN.out, show k - tn = (k - tn - 1) + 1 by omega, gm_more hnext] at this
            rw [List.length_append, HTN.out]
            exact this)
           have hj0 : ¬ (j : Int) < 0 := by omega
           obtain ⟨s1, s2, s3, s4⟩ := HOS2.out.stored hjk
           rw [HTN.out] at s3
           have S1 := Lib.hid s1
           have S2 := Lib.hid s2
           have S3 := Lib.hid s3
           have S4 := Lib.hid s4
           have ck := (HOS2.out.tk.cellAt j (by omega)).trans (bools_get (tk_get hjk))
           have fk := HOS2.out.tk.frozenAt j
           clear hlo hfr hnx s1 s2 s3 s4
           go_wp2_with (at_builtin; refine wpList_append_own _ rfl (.tmp 64) (.tmp 66) 31 rfl w.heap.size 3 i0 (.int .i64 0) 1 8 Tryz.underlying31 hi hz0 hz1 hz2 rfl (by decide) _ _ _ rfl (S3.out.alloc _) ⟨w6.heap.size, 0, none⟩ 1 1 [.int .i64 (j : Int)] rfl rfl ?a1 ?b1 ?c1 ?d1 ?e1 ?_)
           case b1 => first | rfl | (intro u hu; simp at hu; subst hu; rfl)
           case c1 => unfold maxLen; omega
           case d1 => omega
           case e1 => first | omega | (simp; omega)
           intro v' w5 hown3 hgrow3 _
           have hba := below_new (w6.setCell ⟨wm.heap.size, j, none⟩ (.bool true)) (.cells #[.int .i64 (j : Int)] 3)
           have HP := Lib.hid (OrS.put (t := t) (i := j) (S1.out.below hba) (own_below S2.out hba) (by rw [HTN.out]; exact own_below S3.out hba) (S4.out.trans (hba.mono S4.out.size)) (by rw [HTN.out]; exact hown3) hgrow3)
           obtain ⟨A9, c9, rfl⟩ := isS_own hown3
           have hlen : (t ++ [j]).length = tn + 1 := by rw [List.length_append, HTN.out]; rfl
           clear hown3 hgrow3 hba
           go_wp2
           refine ⟨⟨t ++ [j], _, rfl, HP.out, by rw [hlen]; omega, HGN.out⟩, by simp [slLen]; omega⟩
        | succ m =>
         have em : ((m + 1 : Nat) : Int) - 1 = (m : Int) := by omega
         rw [em]
         have hmk : m < k := by omega
         have ck := (HOS2.out.tk.cellAt m (by omega)).trans (bools_get (tk_get hmk))
         clear em
         cases htk : t.contains m with
         | true =>
          have HN := Lib.hid (hnx.out.no (free_tk htk))
          rw [htk] at ck
          clear hnx htk
          go_wp2
          refine ⟨⟨m, _, rfl, by first | rfl | go_num, by omega, HN.out⟩, by simp [intOf]⟩
         | false =>
          obtain ⟨q, hq⟩ : ∃ q, l[m]? = some q := ⟨_, List.getElem?_eq_getElem (by rw [HLN.out]; exact hmk)⟩
          obtain ⟨nd, hnd1, hnd2⟩ := HOS2.out.nd.each m q hmk hq
          have hqq := (qs_at hq).2
          rw [HQ.out] at hqq
          have HFW := Lib.hid (free_wt (Q := Q) htk)
          have HWT := Lib.hid (rwaits_any _ _ nd l t _ _ k w6 HLN.out (HV.out.below HOS2.out.below) HOS2.out.tk (Strs.of_own hnd2))
          rw [HQ.out, ← hqq] at HWT
          obtain ⟨gn, cn, rfl⟩ := own_at HOS2.out.nd.row (by omega)
          have dk := (HOS2.out.nd.row.cellAt m (by omega)).trans hnd1
          obtain ⟨And, cnd, rfl⟩ := isS_own hnd2
          rw [htk] at ck
          clear hq hnd1 hnd2 hqq htk
          cases hwb : waitB Q t (ndQ Q m) with
          | true =>
           have HN := Lib.hid (hnx.out.no (by rw [HFW.out, hwb]; rfl))
           rw [hwb] at HWT
           clear hnx hwb
           go_wp2_with fail
           refine HWT.out.mono ?_
           rintro r w7 ⟨rfl, hw7⟩
           subst hw7
           go_wp2
           refine ⟨⟨m, _, rfl, by first | rfl | go_num, by omega, HN.out⟩, by simp [intOf]⟩
          | false =>
           have HN := Lib.hid (NxtAt.yes (Q := Q) (t := t) hmk (by rw [HFW.out, hwb]; rfl))
           rw [hwb] at HWT
           clear hnx hwb
           go_wp2_with fail
           refine HWT.out.mono ?_
           rintro r w7 ⟨rfl, hw7⟩
           subst hw7
           go_wp2
           refine ⟨⟨m, _, rfl, by first | rfl | go_num, by omega, HN.out⟩, by simp [intOf]⟩
     · obtain rfl : tn = k := by omega
       have HR : Hid (orderM Q = some t) := Lib.hid (by
        have := HGO.out
        rw [HTN.out, Nat.sub_self] at this
        have this : t = takenM Q := this
        unfold orderM
        rw [← this, if_neg (by rw [HQN.out, HTN.out]; omega)])
       have HE := Lib.hid HOS2.out.below
       have HO := Lib.hid HOS2.out.out
       go_wp2
       exact bodyPost_ret (v := .tuple #[.slice Ao tn co, .int .i64 0]) (by simp [results, Tryz.results11, go_sem]) rfl ⟨HE.out, by rw [HR.out]; exact ⟨_, rfl, by have := HO.out; rw [HTN.out] at this ⊢; exact this⟩⟩
end Go.Proofs.YtdebhngpgabglaaGreat.Ca
