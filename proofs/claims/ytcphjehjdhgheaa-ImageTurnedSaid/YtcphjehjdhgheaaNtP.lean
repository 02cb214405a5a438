/- The order of a net's operators, by the document: again and again the least one that is free. Conditions: the net may be. A net of the document's for the program, and the other way round. Conditions: it has at most 1000 operators. -/
import Derived.Test.YtcphjehjdhgheaaNtG
import Derived.Deep.OwnRows
import Derived.Maps.AppendAt
namespace Go.Proofs.Ytcphjehjdhgheaa.Nt
open Go.ChangeShapes Go.WideShapes Go.ChangeAt Go.RowKit Go.Proofs.Ytcphjehjdhgheaa.Tr
set_option linter.unusedVariables false
set_option linter.unusedSimpArgs false

def boolsOf (l : List Bool) : List Value := l.map .bool
/-- Which are taken. -/
def takB (n : Nat) (t : List Nat) : List Bool := (List.range n).map fun i => t.contains i
theorem tak_len (n : Nat) (t : List Nat) : (boolsOf (takB n t)).length = n := by unfold boolsOf takB; simp
theorem tak_at {n : Nat} {t : List Nat} {i : Nat} (h : i < n) : (boolsOf (takB n t))[i]? = some (.bool (t.contains i)) := by
  unfold boolsOf takB
  rw [List.getElem?_map, List.getElem?_map, List.getElem?_range h]; rfl
theorem tak_set {n : Nat} {t : List Nat} {i : Nat} (h : i < n) : (boolsOf (takB n t)).set i (.bool true) = boolsOf (takB n (t ++ [i])) := by
  refine List.ext_getElem? (fun j => ?_)
  rw [List.getElem?_set, tak_len]
  by_cases hj : j < n
  · rw [tak_at hj, tak_at hj]
    by_cases e : i = j
    · subst e; simp [h]
    · rw [if_neg e]
      congr 2
      simp [Ne.symm e]
  · rw [List.getElem?_eq_none (by rw [tak_len]; omega), List.getElem?_eq_none (by rw [tak_len]; omega)]
    by_cases e : i = j
    · omega
    · rw [if_neg e]
theorem tak_nil (n : Nat) : boolsOf (takB n []) = (madeCells #[Value.bool false] n).toList := by
  unfold boolsOf takB
  refine List.ext_getElem? (fun j => ?_)
  by_cases hj : j < n
  · simp [madeCells, hj, Nat.mod_one]
  · simp [madeCells, hj]
theorem info4 : (Try.prog.info? 4).map (fun i => (i.zero, i.size, i.bytes)) = some (some (.bool false), 1, 1) := by kernel_rfl
theorem own_at {w : World} {b g n : Nat} {xs : List Value} {T : TypeId} (h : w.heap[g]? = some (.cells xs.toArray T (0, 0))) (hb : b ≤ g) (hn : xs.length = n) (hm : n ≤ maxLen) : w.ownsRow b T 1 (.slice (some ⟨g, 0, none⟩) n n) n xs :=
  ⟨by omega, .inr ⟨g, n, xs.toArray, rfl, hb, h, Nat.le_refl _, hm, by simp; omega, by simp [← hn]⟩⟩
def slLen : Value → Nat
  | .slice _ n _ => n
  | _ => 0
theorem own_form {w : World} {b n : Nat} {T : TypeId} {A : Option Addr} {n' c : Nat} {xs : List Value} {sz : Nat} (h : w.ownsRow b T sz (.slice A n' c) n xs) : n' = n := by
  obtain ⟨-, h1 | ⟨g, cap, cur, e, -⟩⟩ := h
  · have e := h1.1; simp only [Value.slice.injEq] at e; omega
  · simp only [Value.slice.injEq] at e; exact e.2.1
theorem own_cells' {w : World} {base n T sz : Nat} {v : Value} {xs : List Value} (h : w.ownsRow base T sz v n xs) {k : Nat} (hk : v.ownBlock = some k) : ∃ cs, w.heap[k]? = some (.cells cs T (0, 0)) := Tr.own_cells h hk
theorem own_two {w : World} {b b' n n' : Nat} {T T' : TypeId} {v v' : Value} {xs ys : List Value} {s s' : Nat} (h : w.ownsRow b T s v n xs) (h' : w.ownsRow b' T' s' v' n' ys) (hT : T ≠ T') {k : Nat} (hk : v.ownBlock = some k) : v'.ownBlock ≠ some k := fun e => by
  obtain ⟨cs, hc⟩ := own_cells' h hk
  obtain ⟨cs', hc'⟩ := own_cells' h' e
  rw [hc] at hc'
  simp at hc'
  exact hT hc'.2
/-- The least free one among those looked at so far, if there is one. -/
def Cand (G : Gr) (t : List Nat) (n m : Nat) (x : Int) : Prop :=
  (x = -1 ∧ ∀ j, m ≤ j → j < n → freeB G t j = false) ∨ (∃ j0 : Nat, x = (j0 : Int) ∧ m ≤ j0 ∧ j0 < n ∧ freeB G t j0 = true ∧ ∀ j, m ≤ j → j < j0 → freeB G t j = false)
theorem Cand.step {G : Gr} {t : List Nat} {n i : Nat} {x : Int} (h : Cand G t n (i + 1) x) (hf : freeB G t i = false) : Cand G t n i x := by
  rcases h with ⟨e, h⟩ | ⟨j0, e, h1, h2, h3, h4⟩
  · refine .inl ⟨e, fun j hj hn => ?_⟩
    by_cases e2 : j = i
    · rw [e2]; exact hf
    · exact h j (by omega) hn
  · refine .inr ⟨j0, e, by omega, h2, h3, fun j hj hn => ?_⟩
    by_cases e2 : j = i
    · rw [e2]; exact hf
    · exact h4 j (by omega) hn
theorem Cand.hit {G : Gr} {t : List Nat} {n i : Nat} (hi : i < n) (hf : freeB G t i = true) : Cand G t n i (i : Int) := .inr ⟨i, rfl, Nat.le_refl _, hi, hf, fun j h1 h2 => by omega⟩
theorem Cand.next {G : Gr} {t : List Nat} {x : Int} (h : Cand G t G.n 0 x) : (x = -1 ∧ nextG G t = none) ∨ ∃ j : Nat, x = (j : Int) ∧ j < G.n ∧ freeB G t j = true ∧ nextG G t = some j := by
  rcases h with ⟨e, h⟩ | ⟨j0, e, -, h2, h3, h4⟩
  · exact .inl ⟨e, next_no (fun i hi => h i (Nat.zero_le _) hi)⟩
  · refine .inr ⟨j0, e, h2, h3, next_of h2 h3 (fun j hj hf => ?_)⟩
    rcases Nat.lt_or_ge j j0 with c | c
    · rw [h4 j (Nat.zero_le _) c] at hf; cases hf
    · exact c
theorem free_all (N : Net) (t : List Nat) (i : Nat) : freeB (grN N) t i = (!t.contains i && (ndN N i).all fun j => t.contains j) := rfl
theorem cell1 (w : World) (x : Int) (T : TypeId) : ∀ (j : Nat) u, [Value.int .i64 x][j]? = some u → (w.alloc (.cells #[.int .i64 x] T)).cell? ((⟨w.heap.size, 0, none⟩ : Addr).add j) = some u := by
  intro j u hu
  cases j with
  | zero => simp at hu; subst hu; simp [Addr.add, World.cell?_alloc_at]
  | succ j => simp at hu
set_option maxRecDepth 100000 in
set_option maxHeartbeats 8000000 in
theorem dorder_any (w : World) (ov rv iv : Value) (N : Net) (h : NetR w ov rv iv N) (hm : mayN N = true) :
    Calls Try.prog 50 #[.agg #[ov, rv, iv]] w (fun e w' => ∃ v, e = .returned v ∧ w'.ownsRow w.heap.size 3 1 v (orderN N).length (intsOf (natI (orderN N))) ∧ Below w.heap.size w w') := by
  obtain ⟨i0, hi0, hz0, hz1, hz2⟩ := info_parts info3
  obtain ⟨h1, -, -⟩ := h
  obtain ⟨A, c, rfl, z1, z2⟩ := h1.form
  obtain ⟨n, hn⟩ : ∃ n, N.ops.length = n := ⟨_, rfl⟩
  have hbig : n ≤ 100000 := by
    unfold mayN at hm
    simp only [Bool.and_eq_true] at hm
    have := of_decide_eq_true hm.1.1; omega
  rw [hn] at h1 z1 ⊢
  have HM := Lib.hid hm
  have HN := Lib.hid hn
  have HGN : Hid ((grN N).n = n) := Lib.hid hn
  have H1 := Lib.hid h1
  unfold maxLen at z2
  have hmk := run_make_row' (P := Try.prog) 113 4 (.bool false) 1 Try.underlying113 info4 rfl .i64 .i64 n (by omega) (by omega)
  clear h1 hn hm
  obtain ⟨w1, hw1⟩ : ∃ W, (w.alloc (.cells #[.slice A n c, rv, iv] 25)).alloc (.cells (madeCells #[.bool false] n) 4) = W := ⟨_, rfl⟩
  have HW1 := Lib.hid hw1
  have HB1 : Hid (Below w.heap.size w w1) := Lib.hid (by rw [← hw1]; exact below2 _ _ _)
  have HX1 : Hid (NetBox w1 w.heap.size 25 (.slice A n c) rv iv) := Lib.hid (by rw [← hw1]; exact (box_new w 25 _ _ _).below (below_new _ _) (by simp))
  have HT1 : Hid (w1.ownsRow w.heap.size 4 1 (.slice (some ⟨w.heap.size + 1, 0, none⟩) n n) n (boolsOf (takB n []))) := Lib.hid (by
    have := heap_alloc_new (w.alloc (.cells #[.slice A n c, rv, iv] 25)) (.cells (madeCells #[.bool false] n) 4)
    rw [hw1, show (w.alloc (.cells #[.slice A n c, rv, iv] 25)).heap.size = w.heap.size + 1 by simp] at this
    refine own_at (xs := boolsOf (takB n [])) ?_ (by omega) (tak_len _ _) (by unfold maxLen; omega)
    rw [tak_nil]; exact this)
  obtain ⟨p0, -, -⟩ := HX1.out.ats
  clear hw1
  go_enter Try.func50, Try.ntmps50
  go_wp2_with fail
  rw [HW1.out]
  go_wp2_with fail
  go_loopw [4] (fun ov wr => ∃ (t : List Nat) (A2 : Option Addr) (n2 c2 : Nat), ov = .slice A2 n2 c2 ∧ Valid (grN N) t ∧ orderN N = goG (grN N) (n - t.length) t ∧ wr.ownsRow w.heap.size 4 1 (.slice (some ⟨w.heap.size + 1, 0, none⟩) n n) n (boolsOf (takB n t)) ∧
    wr.ownsRow w.heap.size 3 1 (.slice A2 n2 c2) t.length (intsOf (natI t)) ∧ Below w.heap.size w wr ∧ NetBox wr w.heap.size 25 (.slice A n c) rv iv) (fun ov _ => n - slLen ov)
  case atStart => exact ⟨[], none, 0, 0, rfl, Valid.nil _, by unfold orderN takenG; rw [HGN.out]; rfl, HT1.out, World.ownsRow_nil _ _ _ _, HB1.out, HX1.out⟩
  case round =>
    obtain ⟨t, A2, n2, c2, rfl, hv, hgo, htk, ho, hb, hx⟩ := hrel
    obtain rfl := own_form ho
    have HV := Lib.hid hv
    have HGO := Lib.hid hgo
    have HT := Lib.hid htk
    have HO := Lib.hid ho
    have HB := Lib.hid hb
    have HX := Lib.hid hx
    obtain ⟨y0, -, -⟩ := hx.ats
    have htl : t.length ≤ n := by have := hv.len; rw [HGN.out] at this; exact this
    have hxl := hx.lt
    obtain ⟨wm, hwm⟩ : ∃ W, W = wr := ⟨_, rfl⟩
    subst hwm
    clear hv hgo htk ho hb hx
    go_wp2_with fail
    go_loopw [5, 6] (fun s5 s6 wr => ∃ (m : Nat) (x z : Int), m ≤ n ∧ s6 = .int .i64 z ∧ z = (m : Int) - 1 ∧ s5 = .int .i64 x ∧ Below wm.heap.size wm wr ∧ Cand (grN N) t n m x) (fun s5 s6 _ => (intOf s6 + 1).toNat)
    case atStart => exact ⟨n, -1, (n : Int) - 1, Nat.le_refl _, by first | rfl | go_num, rfl, rfl, Below.refl _ _, .inl ⟨rfl, fun j h1 h2 => by omega⟩⟩
    case round =>
      obtain ⟨m, x, z, hmn, rfl, hz, rfl, hbr, hc⟩ := hrel
      have HBR := Lib.hid hbr
      have HC := Lib.hid hc
      obtain ⟨y0', -, -⟩ := (HX.out.below hbr hxl).ats
      clear hbr hc
      by_cases hm0 : m = 0
      · subst hm0
        have hz1' : z = -1 := by omega
        subst hz1'
        clear hz
        have hnx := HC.out
        rw [← HGN.out] at hnx
        rcases hnx.next with ⟨rfl, hno⟩ | ⟨j, rfl, hj1, hj2, hj3⟩
        · have HE : Hid (orderN N = t) := Lib.hid (by rw [HGO.out, go_stop hno])
          clear hnx hno
          go_wp2_with fail
          go_ret
          refine ⟨_, rfl, ?_, HB.out.trans (HBR.out.mono HB.out.size)⟩
          rw [HE.out]; exact own_below HO.out HBR.out
        · rw [HGN.out] at hj1
          have hjt := (free_iff.1 hj2).1
          have hjd : decide ((j : Int) < 0) = false := decide_eq_false (by omega)
          have hjd2 : ¬ ((j : Int) < 0) := by omega
          have hv' := HV.out.snoc (by rw [HGN.out]; exact hj1) hj2
          have htl2 : t.length < n := by have := hv'.len; rw [HGN.out] at this; simp at this; omega
          have HV2 := Lib.hid hv'
          have HGO2 : Hid (orderN N = goG (grN N) (n - (t ++ [j]).length) (t ++ [j])) := Lib.hid (by
            rw [HGO.out]
            have := go_next hj3 (by rw [HGN.out]; exact htl2)
            rw [HGN.out] at this; exact this)
          have hTr := own_below HT.out HBR.out
          have hOr := own_below HO.out HBR.out
          have hnn := own_two hTr hOr (by decide) (k := w.heap.size + 1) rfl
          have fz := hTr.frozenAt j
          have cz := (hTr.cellAt j (by omega)).trans (tak_at hj1)
          have hts := hTr.stored j (.bool true)
          have hT2 := hts.1
          rw [tak_set hj1] at hT2
          have hO2 : (wr.setCell ⟨w.heap.size + 1, j, none⟩ (.bool true)).ownsRow w.heap.size 3 1 (.slice A2 t.length c2) t.length (intsOf (natI t)) := own_block hOr (fun k hk => Below.heap_setCell _ _ _ _ (fun e => hnn (by rw [hk, e])))
          have hX2 : NetBox (wr.setCell ⟨w.heap.size + 1, j, none⟩ (.bool true)) w.heap.size 25 (.slice A n c) rv iv := ⟨(Below.heap_setCell _ _ _ _ (by simp)).trans (HX.out.below HBR.out hxl).cell⟩
          have hB2 : Below w.heap.size w (wr.setCell ⟨w.heap.size + 1, j, none⟩ (.bool true)) := (HB.out.trans (HBR.out.mono HB.out.size)).setCell (p := ⟨w.heap.size + 1, j, none⟩) (by simp) _
          have HO2x := Lib.hid hO2
          have HCN : Hid (∀ (k : Nat) u, [Value.int .i64 (j : Int)][k]? = some u → ((wr.setCell ⟨w.heap.size + 1, j, none⟩ (.bool true)).alloc (.cells #[.int .i64 (j : Int)] 3)).cell? ((⟨wr.heap.size, 0, none⟩ : Addr).add k) = some u) := Lib.hid (by
            have := cell_one_new (wr.setCell ⟨w.heap.size + 1, j, none⟩ (.bool true)) (.int .i64 (j : Int)) 3
            rw [show (wr.setCell ⟨w.heap.size + 1, j, none⟩ (.bool true)).heap.size = wr.heap.size by simp] at this; exact this)
          have hszr : w.heap.size ≤ wr.heap.size := by have := HB.out.size; have := HBR.out.size; omega
          obtain ⟨w2, hw2⟩ : ∃ W, wr.setCell ⟨w.heap.size + 1, j, none⟩ (.bool true) = W := ⟨_, rfl⟩
          have HW2 := Lib.hid hw2
          rw [hw2] at hT2 hO2 hX2 hB2
          have HT2 := Lib.hid hT2
          have HO2 := Lib.hid hO2
          have HX2 := Lib.hid hX2
          have HB2 := Lib.hid hB2
          have hs2 := hB2.size
          have hwl := hX2.lt
          have hT1 := (hT2.lt (w.heap.size + 1) rfl).2
          clear hnx hj2 hj3 hv' hTr hOr hnn hts hT2 hO2 hX2 hB2 hw2 hjt
          go_wp2_with (at_builtin; refine wpList_append_own_at _ rfl (.tmp 57) (.tmp 59) 23 rfl w.heap.size 3 i0 (.int .i64 0) 1 8 Try.underlying23 hi0 hz0 hz1 hz2 rfl (by decide) _ _ _ rfl (HO2x.out.alloc _) ⟨wr.heap.size, 0, none⟩ 1 1 [.int .i64 (j : Int)] rfl rfl HCN.out ?b1 ?c1 ?d1 ?e1 ?_)
          case b1 => first | rfl | (intro u hu; simp at hu; subst hu; rfl)
          case c1 => unfold maxLen; omega
          case d1 => omega
          case e1 => first | omega | (simp; omega)
          intro v' w7 hown7 hgrow7 _ hat7
          rw [HW2.out] at hgrow7
          have HO7 : Hid (w7.ownsRow w.heap.size 3 1 v' (t ++ [j]).length (intsOf (natI (t ++ [j])))) := Lib.hid (by
            have e1 : (t ++ [j]).length = t.length + 1 := by simp
            have e2 : intsOf (natI (t ++ [j])) = intsOf (natI t) ++ [.int .i64 (j : Int)] := by unfold natI intsOf; simp
            rw [e1, e2]; exact hown7)
          have hne : ∀ k, (Value.slice A2 t.length c2).ownBlock = some k → k ≠ w.heap.size + 1 ∧ k ≠ w.heap.size := fun k hk => by
            obtain ⟨cs, hc⟩ := own_cells HO2.out hk
            refine ⟨fun e => ?_, fun e => ?_⟩
            · subst e
              obtain ⟨cs', hc'⟩ := own_cells HT2.out (k := w.heap.size + 1) rfl
              rw [hc] at hc'; simp at hc'
            · subst e
              have := HX2.out.cell
              rw [hc] at this; simp at this
          have st : ∀ k, k < w2.heap.size → (Value.slice A2 t.length c2).ownBlock ≠ some k → w7.heap[k]? = w2.heap[k]? := fun k h1 h2 => (hgrow7.block k (by simp; omega) (fun e => h2 e.symm)).trans (Below.heap_alloc _ _ _ h1)
          have HT7 : Hid (w7.ownsRow w.heap.size 4 1 (.slice (some ⟨w.heap.size + 1, 0, none⟩) n n) n (boolsOf (takB n (t ++ [j])))) := Lib.hid (own_block HT2.out (fun k hk => by
            have e : some (w.heap.size + 1) = some k := hk
            injection e with e
            subst e
            exact st _ hT1 (fun e => (hne _ e).1 rfl)))
          have HX7 : Hid (NetBox w7 w.heap.size 25 (.slice A n c) rv iv) := Lib.hid ⟨(st _ hwl (fun e => (hne _ e).2 rfl)).trans HX2.out.cell⟩
          have HB7 : Hid (Below w.heap.size w w7) := Lib.hid ((HB2.out.alloc hs2 _).grown hgrow7 (by simp; omega) (fun k hk => (HO2.out.lt k hk).1))
          obtain ⟨A3, c3, rfl⟩ : ∃ A c, v' = .slice A (t.length + 1) c := by
            obtain ⟨-, h1 | ⟨g, cap, cur, e, -⟩⟩ := hown7
            · omega
            · exact ⟨_, _, e⟩
          clear hown7 hgrow7 hat7 hne st
          go_wp2_with fail
          exact ⟨⟨t ++ [j], A3, t.length + 1, c3, rfl, HV2.out, HGO2.out, HT7.out, HO7.out, HB7.out, HX7.out⟩, by simp [slLen]; omega⟩
      · obtain ⟨i, rfl⟩ : ∃ i, m = i + 1 := ⟨m - 1, by omega⟩
        have hzi : z = (i : Int) := by omega
        subst hzi
        clear hz
        have hin : i < n := by omega
        have hTr := own_below HT.out HBR.out
        have cz := (hTr.cellAt i (by omega)).trans (tak_at hin)
        have hxx := op_get (N := N) (i := i) (by rw [HN.out]; exact hin)
        obtain ⟨g, o, rfl, hg, d0, d1, d2, d3, d4⟩ := ((H1.out.below HB.out (Nat.le_refl _)).below HBR.out (Nat.le_refl _)).at hxx
        have hkid := (may_flds (may_at HM.out (i := i) (by rw [HN.out]; exact hin))).1
        have HNE := Lib.hid (dOpds_any wr (opAt N i) hkid)
        have hcast := nd_cast HM.out (i := i) (by rw [HN.out]; exact hin)
        have HCAST := Lib.hid hcast
        have HLT : Hid (∀ k ∈ ndN N i, k < n) := Lib.hid (fun k hk => by have := nd_lt HM.out i (by rw [HGN.out]; exact hin) k hk; rw [HGN.out] at this; exact this)
        obtain ⟨tb, htb⟩ : ∃ b, t.contains i = b := ⟨_, rfl⟩
        rw [htb] at cz
        have HTB := Lib.hid htb
        obtain ⟨xx, hxx2⟩ : ∃ x, opAt N i = x := ⟨_, rfl⟩
        have HXX := Lib.hid hxx2
        rw [hxx2] at d0 d1 d2 d3 d4 HNE
        obtain ⟨xo, xa, xb, xc, xn⟩ := xx
        unfold opV at HNE
        dsimp only at d0 d1 d2 d3 d4 HNE
        clear hTr hxx hkid hcast htb hxx2
        go_wp2_with fail
        refine HNE.out.mono ?_
        rintro e w3 ⟨lv, rfl, hi3, hb3, hn3⟩
        have HI3 := Lib.hid hi3
        have HB3 := Lib.hid (HBR.out.trans (hb3.mono HBR.out.size))
        have HCA2 : Hid ((ndN N i).map (fun (k : Nat) => (k : Int)) = needI ⟨xo, xa, xb, xc, xn⟩) := Lib.hid (by rw [← HXX.out]; exact HCAST.out)
        obtain ⟨A4, c4, rfl, z3, z4⟩ := ints_form hi3
        obtain ⟨L, hL⟩ : ∃ L, (needI ⟨xo, xa, xb, xc, xn⟩).length = L := ⟨_, rfl⟩
        rw [hL] at HI3 z3 ⊢
        have HL : Hid ((ndN N i).length = L) := Lib.hid (by rw [← hL, ← HCA2.out, List.length_map])
        unfold maxLen at z4
        clear hi3 hb3 hn3 hL
        go_wp2_with fail
        go_loopw [7, 9] (fun s7 s9 wk => ∃ (k : Nat) (b : Bool), k ≤ L ∧ s9 = .int .i64 (k : Int) ∧ s7 = .bool b ∧ b = (!tb && ((ndN N i).take k).all fun j => t.contains j) ∧ wk = w3) (fun s7 s9 _ => L - (intOf s9).toNat)
        case atStart => exact ⟨0, !tb, Nat.zero_le _, rfl, rfl, by simp, rfl⟩
        case round =>
          obtain ⟨k, b, hk, rfl, rfl, hbb, rfl⟩ := hrel
          have HBB := Lib.hid hbb
          clear hbb
          by_cases hkl : k < L
          · obtain ⟨y, hy⟩ : ∃ y, (ndN N i)[k]? = some y := ⟨_, List.getElem?_eq_getElem (by rw [HL.out]; exact hkl)⟩
            have hyn := HLT.out y (List.mem_of_getElem? hy)
            have HNX : Hid ((!tb && ((ndN N i).take (k + 1)).all fun j => t.contains j) = (b && t.contains y)) := Lib.hid (by
              rw [HBB.out, List.take_add_one, hy, List.all_append]; simp [Bool.and_assoc])
            have hy2 : (needI ⟨xo, xa, xb, xc, xn⟩)[k]? = some (y : Int) := by rw [← HCA2.out, List.getElem?_map, hy]; rfl
            obtain ⟨g2, o2, rfl, hg2, e0⟩ := ints_at HI3.out hy2
            have ct := ((own_below HT.out HB3.out).cellAt y (by omega)).trans (tak_at hyn)
            clear hy hy2
            cases b with
            | false =>
              go_wp2_with fail
              exact ⟨⟨k + 1, false, by omega, by go_num, rfl, by rw [HNX.out]; rfl, by first | rfl | trivial⟩, by simp [intOf]; omega⟩
            | true =>
              obtain ⟨cb, hcb⟩ : ∃ b, t.contains y = b := ⟨_, rfl⟩
              rw [hcb] at ct
              have HCB := Lib.hid hcb
              clear hcb
              go_wp2_with fail
              exact ⟨⟨k + 1, cb, by omega, by go_num, rfl, by rw [HNX.out, HCB.out]; rfl, by first | rfl | trivial⟩, by simp [intOf]; omega⟩
          · have HFR : Hid (freeB (grN N) t i = b) := Lib.hid (by
              rw [free_all, HTB.out, HBB.out]
              have e : k = (ndN N i).length := by rw [HL.out]; omega
              rw [e, List.take_length])
            cases b with
            | false =>
              have HC2 := Lib.hid (HC.out.step HFR.out)
              go_wp2_with fail
              exact ⟨⟨i, x, (i : Int) - 1, by omega, by first | rfl | go_num, rfl, rfl, HB3.out, HC2.out⟩, by simp [intOf]⟩
            | true =>
              have HC2 : Hid (Cand (grN N) t n i (i : Int)) := Lib.hid (Cand.hit hin HFR.out)
              go_wp2_with fail
              exact ⟨⟨i, (i : Int), (i : Int) - 1, by omega, by first | rfl | go_num, rfl, rfl, HB3.out, HC2.out⟩, by simp [intOf]⟩
end Go.Proofs.Ytcphjehjdhgheaa.Nt

namespace Go.Proofs.Ytcphjehjdhgheaa.Nt
open Go.ChangeShapes Go.WideShapes Go.ChangeAt Go.RowKit Go.Proofs.Ytcphjehjdhgheaa.Tr
set_option linter.unusedVariables false
set_option linter.unusedSimpArgs false

theorem blocks3 (w Wn : World) (a b c : Obj) (h : Wn = ((w.alloc a).alloc b).alloc c) :
    Wn.heap[w.heap.size]? = some a ∧ Wn.heap[w.heap.size + 1]? = some b ∧ Wn.heap[w.heap.size + 1 + 1]? = some c ∧ Below w.heap.size w Wn := by
  subst h
  have s1 : (w.alloc a).heap.size = w.heap.size + 1 := by simp
  have s2 : ((w.alloc a).alloc b).heap.size = w.heap.size + 1 + 1 := by simp
  refine ⟨?_, ?_, ?_, ?_⟩
  · rw [(below_new _ c).block _ (by omega), (below_new _ b).block _ (by omega)]; exact heap_alloc_new _ _
  · rw [(below_new _ c).block _ (by omega)]
    have := heap_alloc_new (w.alloc a) b
    rw [s1] at this; exact this
  · have := heap_alloc_new ((w.alloc a).alloc b) c
    rw [s2] at this; exact this
  · exact ((below_new w a).alloc (by omega) b).alloc (by omega) c
theorem NetBox.fzs {w : World} {b T : Nat} {ov rv iv : Value} (h : NetBox w b T ov rv iv) : w.frozen? ⟨b, 0, none⟩ = false ∧ w.frozen? ⟨b, 1, none⟩ = false ∧ w.frozen? ⟨b, 2, none⟩ = false := by
  have := h.cell
  refine ⟨?_, ?_, ?_⟩ <;> simp [World.frozen?, this]
theorem NetBox.set3 {w : World} {b T : Nat} {ov rv iv : Value} (h : NetBox w b T ov rv iv) (x y z : Value) : NetBox (((w.setCell ⟨b, 0, none⟩ x).setCell ⟨b, 1, none⟩ y).setCell ⟨b, 2, none⟩ z) b T x y z := by
  refine ⟨?_⟩
  have := h.cell
  simp [World.setCell, Array.getElem?_modify, this]
theorem info_own : (Try.prog.info? 79).map (fun i => (i.zero, i.size, i.bytes)) = some (some (.agg #[.int .i64 0, .int .i64 0, .int .i64 0, .int .i64 0, .int .i64 0]), 5, 40) := by kernel_rfl
set_option maxRecDepth 100000 in
set_option maxHeartbeats 8000000 in
theorem own_any (w : World) (ov rv iv : Value) (N : Net) (h : NetR w ov rv iv N) (hn3 : N.ops.length ≤ 1000) :
    Calls Try.prog 16 #[.agg #[ov, rv, iv]] w (fun e w' => ∃ ov', e = .returned (.agg #[ov', rv, iv]) ∧ OpsR w' ov' N.ops ∧ Below w.heap.size w w') := by
  obtain ⟨i0, hi0, hz0, hz1, hz2⟩ := info_parts info_own
  obtain ⟨h1, h2, h3⟩ := h
  obtain ⟨A, c, rfl, z1, z2⟩ := h1.form
  obtain ⟨A2, c2, rfl, z3, z4⟩ := ints_form h2
  obtain ⟨A3, c3, rfl, z5, z6⟩ := ints_form h3
  obtain ⟨n, hn⟩ : ∃ n, N.ops.length = n := ⟨_, rfl⟩
  rw [hn] at h1 z1 hn3 ⊢
  have HN := Lib.hid hn
  have H1 := Lib.hid h1
  obtain ⟨nr, hnr⟩ : ∃ n, N.roots.length = n := ⟨_, rfl⟩
  obtain ⟨ni, hni⟩ : ∃ n, N.ins.length = n := ⟨_, rfl⟩
  rw [hnr, hni]
  unfold maxLen at z2
  clear h1 h2 h3 hn hnr hni z3 z4 z5 z6
  have HST : Hid (∀ W, W = ((w.alloc (.cells #[.slice A n c, .slice A2 nr c2, .slice A3 ni c3] 25)).alloc (.cells #[.slice none 0 0, .slice none 0 0, .slice none 0 0] 30)).alloc (.cells #[.slice none 0 0, .slice A2 nr c2, .slice A3 ni c3] 30) →
      NetBox W w.heap.size 25 (.slice A n c) (.slice A2 nr c2) (.slice A3 ni c3) ∧ NetBox W (w.heap.size + 1) 30 (.slice none 0 0) (.slice none 0 0) (.slice none 0 0) ∧ NetBox W (w.heap.size + 1 + 1) 30 (.slice none 0 0) (.slice A2 nr c2) (.slice A3 ni c3) ∧ Below w.heap.size w W) := Lib.hid (fun W hW => by
    obtain ⟨k0, k1, k2, hb⟩ := blocks3 w W _ _ _ hW
    exact ⟨⟨k0⟩, ⟨k1⟩, ⟨k2⟩, hb⟩)
  go_enter Try.func16, Try.ntmps16
  go_wp2_with fail
  go_loopw [4] (fun vi wr => ∃ (i : Nat) (A4 : Option Addr) (c4 : Nat), i ≤ n ∧ vi = .int .i64 (i : Int) ∧ wr.ownsRow w.heap.size 79 5 (.slice A4 i c4) i (opsOf (N.ops.take i)) ∧ Below w.heap.size w wr ∧
    NetBox wr w.heap.size 25 (.slice A n c) (.slice A2 nr c2) (.slice A3 ni c3) ∧ NetBox wr (w.heap.size + 1) 30 (.slice none 0 0) (.slice none 0 0) (.slice none 0 0) ∧ NetBox wr (w.heap.size + 1 + 1) 30 (.slice A4 i c4) (.slice A2 nr c2) (.slice A3 ni c3)) (fun vi _ => n - (intOf vi).toNat)
  case atStart =>
    obtain ⟨k0, k1, k2, hb⟩ := HST.out _ rfl
    exact ⟨0, none, 0, Nat.zero_le _, rfl, by simp [opsOf]; exact World.ownsRow_nil _ _ _ _, hb, k0, k1, k2⟩
  case round =>
    obtain ⟨i, A4, c4, hi, rfl, ho, hb, hx0, hx1, hx2⟩ := hrel
    have HO := Lib.hid ho
    have HB := Lib.hid hb
    have HX0 := Lib.hid hx0
    have HX1 := Lib.hid hx1
    have HX2 := Lib.hid hx2
    obtain ⟨p0, p1, p2⟩ := hx0.ats
    obtain ⟨q0, q1, q2⟩ := hx1.ats
    obtain ⟨r0, r1, r2⟩ := hx2.ats
    obtain ⟨fq0, fq1, fq2⟩ := hx1.fzs
    obtain ⟨fr0, fr1, fr2⟩ := hx2.fzs
    have l0 := hx0.lt
    have l1 := hx1.lt
    have l2 := hx2.lt
    clear ho hb hx0 hx1 hx2
    by_cases hlt : i < n
    · obtain ⟨x, hx⟩ : ∃ x, N.ops[i]? = some x := ⟨_, List.getElem?_eq_getElem (by rw [HN.out]; exact hlt)⟩
      obtain ⟨g, o, rfl, hg, d0, d1, d2, d3, d4⟩ := (H1.out.below HB.out (Nat.le_refl _)).at hx
      have HTK : Hid (opsOf (N.ops.take (i + 1)) = opsOf (N.ops.take i) ++ opCells x) := Lib.hid (by rw [List.take_add_one, hx]; exact ops_snoc _ _)
      obtain ⟨xo, xa, xb, xc, xn⟩ := x
      dsimp only at d0 d1 d2 d3 d4
      have HCN : Hid (∀ (k : Nat) u, (opCells ⟨xo, xa, xb, xc, xn⟩)[k]? = some u → ((wr.alloc (.cells #[.int .i64 xo, .int .i64 xa, .int .i64 xb, .int .i64 xc, .int .i64 xn] 69)).alloc (.cells #[.int .i64 xo, .int .i64 xa, .int .i64 xb, .int .i64 xc, .int .i64 xn] 79)).cell? ((⟨wr.heap.size + 1, 0, none⟩ : Addr).add k) = some u) := Lib.hid (by
        have h5 := heap_alloc_new (wr.alloc (.cells #[.int .i64 xo, .int .i64 xa, .int .i64 xb, .int .i64 xc, .int .i64 xn] 69)) (.cells #[.int .i64 xo, .int .i64 xa, .int .i64 xb, .int .i64 xc, .int .i64 xn] 79)
        rw [show (wr.alloc (.cells #[.int .i64 xo, .int .i64 xa, .int .i64 xb, .int .i64 xc, .int .i64 xn] 69)).heap.size = wr.heap.size + 1 by simp] at h5
        exact World.news_of_block (cs := #[.int .i64 xo, .int .i64 xa, .int .i64 xb, .int .i64 xc, .int .i64 xn]) h5)
      have hszr : w.heap.size ≤ wr.heap.size := HB.out.size
      clear hx
      go_wp2_with (at_builtin; refine wpList_append_own_at _ rfl (.tmp 24) (.tmp 36) 28 rfl w.heap.size 79 i0 (.agg #[.int .i64 0, .int .i64 0, .int .i64 0, .int .i64 0, .int .i64 0]) 5 40 Try.underlying28 hi0 hz0 hz1 hz2 rfl (by decide) _ _ _ rfl ((HO.out.alloc _).alloc _) ⟨wr.heap.size + 1, 0, none⟩ 1 1 (opCells ⟨xo, xa, xb, xc, xn⟩) rfl rfl HCN.out ?b1 ?c1 ?d1 ?e1 ?_)
      case b1 => intro u hu; simp [opCells] at hu; rcases hu with rfl | rfl | rfl | rfl | rfl <;> rfl
      case c1 => unfold maxLen; omega
      case d1 => omega
      case e1 => first | omega | (simp; omega)
      intro v' w7 hown7 hgrow7 _ hat7
      have hne : ∀ k T a1 a2 a3, NetBox wr k T a1 a2 a3 → T ≠ 79 → (Value.slice A4 i c4).ownBlock ≠ some k := fun k T a1 a2 a3 hx hT e => by
        obtain ⟨cs, hc⟩ := own_cells HO.out e
        have := hx.cell
        rw [hc] at this; simp at this; exact hT this.2.symm
      have st : ∀ k, k < wr.heap.size → (Value.slice A4 i c4).ownBlock ≠ some k → w7.heap[k]? = wr.heap[k]? := fun k h1 h2 => (hgrow7.block k (by simp; omega) (fun e => h2 e.symm)).trans ((Below.heap_alloc _ _ _ (by simp; omega)).trans (Below.heap_alloc _ _ _ h1))
      have hn0 := hne _ _ _ _ _ HX0.out (by decide)
      have hn1 := hne _ _ _ _ _ HX1.out (by decide)
      have hn2 := hne _ _ _ _ _ HX2.out (by decide)
      have HX70 : Hid (NetBox w7 w.heap.size 25 (.slice (some ⟨g, o, none⟩) n c) (.slice A2 nr c2) (.slice A3 ni c3)) := Lib.hid ⟨(st _ l0 hn0).trans HX0.out.cell⟩
      have HX71 : Hid (NetBox w7 (w.heap.size + 1) 30 (.slice none 0 0) (.slice none 0 0) (.slice none 0 0)) := Lib.hid ⟨(st _ l1 hn1).trans HX1.out.cell⟩
      have HX72 : Hid (NetBox w7 (w.heap.size + 1 + 1) 30 (.slice A4 i c4) (.slice A2 nr c2) (.slice A3 ni c3)) := Lib.hid ⟨(st _ l2 hn2).trans HX2.out.cell⟩
      have HB7 : Hid (Below w.heap.size w w7) := Lib.hid (((HB.out.alloc hszr _).alloc (by simp; omega) _).grown hgrow7 (by simp; omega) (fun k hk => (HO.out.lt k hk).1))
      have HO7 : Hid (w7.ownsRow w.heap.size 79 5 v' (i + 1) (opsOf (N.ops.take (i + 1)))) := Lib.hid (by rw [HTK.out]; exact hown7)
      obtain ⟨A5, c5, rfl⟩ : ∃ A c, v' = .slice A (i + 1) c := by
        obtain ⟨-, h1 | ⟨g, cap, cur, e, -⟩⟩ := hown7
        · omega
        · exact ⟨_, _, e⟩
      have hv2 : (Value.slice A5 (i + 1) c5).ownBlock ≠ some (w.heap.size + 1 + 1) := fun e => by
        obtain ⟨cs, hc⟩ := own_cells HO7.out e
        have := HX72.out.cell
        rw [hc] at this; simp at this
      obtain ⟨s0, s1, s2⟩ := HX72.out.ats
      obtain ⟨f0, f1, f2⟩ := HX72.out.fzs
      have HE : Hid ((w7.setCell ⟨w.heap.size + 1 + 1, 0, none⟩ (.slice A5 (i + 1) c5)).ownsRow w.heap.size 79 5 (.slice A5 (i + 1) c5) (i + 1) (opsOf (N.ops.take (i + 1))) ∧ Below w.heap.size w (w7.setCell ⟨w.heap.size + 1 + 1, 0, none⟩ (.slice A5 (i + 1) c5)) ∧
          NetBox (w7.setCell ⟨w.heap.size + 1 + 1, 0, none⟩ (.slice A5 (i + 1) c5)) w.heap.size 25 (.slice (some ⟨g, o, none⟩) n c) (.slice A2 nr c2) (.slice A3 ni c3) ∧ NetBox (w7.setCell ⟨w.heap.size + 1 + 1, 0, none⟩ (.slice A5 (i + 1) c5)) (w.heap.size + 1) 30 (.slice none 0 0) (.slice none 0 0) (.slice none 0 0) ∧
          NetBox (w7.setCell ⟨w.heap.size + 1 + 1, 0, none⟩ (.slice A5 (i + 1) c5)) (w.heap.size + 1 + 1) 30 (.slice A5 (i + 1) c5) (.slice A2 nr c2) (.slice A3 ni c3)) := Lib.hid (by
        have sc : ∀ k, k ≠ w.heap.size + 1 + 1 → (w7.setCell ⟨w.heap.size + 1 + 1, 0, none⟩ (.slice A5 (i + 1) c5)).heap[k]? = w7.heap[k]? := fun k hk => Below.heap_setCell _ _ _ _ hk
        refine ⟨own_block HO7.out (fun k hk => sc k (fun e => hv2 (by rw [hk, e]))), HB7.out.setCell (p := ⟨w.heap.size + 1 + 1, 0, none⟩) (by simp; omega) _, ⟨(sc _ (by omega)).trans HX70.out.cell⟩, ⟨(sc _ (by omega)).trans HX71.out.cell⟩, ⟨?_⟩⟩
        have := HX72.out.cell
        simp [World.setCell, Array.getElem?_modify, this])
      clear hown7 hgrow7 hat7 hne st hn0 hn1 hn2 hv2
      go_wp2_with fail
      exact ⟨⟨i + 1, A5, c5, by omega, by go_num, HE.out.1, HE.out.2.1, HE.out.2.2.1, HE.out.2.2.2.1, HE.out.2.2.2.2⟩, by simp [intOf]; omega⟩
    · have hie : i = n := by omega
      subst hie
      have HE : Hid (OpsR wr (.slice A4 i c4) N.ops) := Lib.hid (by
        have := HO.out
        rw [← HN.out, List.take_length] at this
        have e := OpsR.of_own this
        rw [HN.out] at e; exact e)
      have HE2 : Hid (∀ k1 k2 k3 W, W = ((wr.setCell ⟨w.heap.size + 1, 0, none⟩ k1).setCell ⟨w.heap.size + 1, 1, none⟩ k2).setCell ⟨w.heap.size + 1, 2, none⟩ k3 → OpsR W (.slice A4 i c4) N.ops ∧ Below w.heap.size w W) := Lib.hid (fun k1 k2 k3 W hW => by
        subst hW
        have ho2 : (((wr.setCell ⟨w.heap.size + 1, 0, none⟩ k1).setCell ⟨w.heap.size + 1, 1, none⟩ k2).setCell ⟨w.heap.size + 1, 2, none⟩ k3).ownsRow w.heap.size 79 5 (.slice A4 i c4) i (opsOf (N.ops.take i)) := own_block HO.out (fun k hk => by
          have hk1 : k ≠ w.heap.size + 1 := fun e => by
            obtain ⟨cs, hc⟩ := own_cells HO.out hk
            have := HX1.out.cell
            rw [← e, hc] at this; simp at this
          rw [Below.heap_setCell _ _ _ _ hk1, Below.heap_setCell _ _ _ _ hk1, Below.heap_setCell _ _ _ _ hk1])
        rw [← HN.out, List.take_length] at ho2
        refine ⟨by have e := OpsR.of_own ho2
                   rw [HN.out] at e; exact e, ((HB.out.setCell (p := ⟨w.heap.size + 1, 0, none⟩) (by simp) _).setCell (p := ⟨w.heap.size + 1, 1, none⟩) (by simp) _).setCell (p := ⟨w.heap.size + 1, 2, none⟩) (by simp) _⟩)
      go_wp2_with fail
      obtain ⟨y0, y1, y2⟩ := (HX1.out.set3 (.slice A4 i c4) (.slice A2 nr c2) (.slice A3 ni c3)).ats
      exact bodyPost_ret (v := .agg #[.slice A4 i c4, .slice A2 nr c2, .slice A3 ni c3]) (by simp [results, Try.results16, go_sem, y0, y1, y2]) rfl ⟨_, rfl, (HE2.out _ _ _ _ rfl).1, (HE2.out _ _ _ _ rfl).2⟩
theorem info_told : (Try.prog.info? 69).map (fun i => (i.zero, i.size, i.bytes)) = some (some (.agg #[.int .i64 0, .int .i64 0, .int .i64 0, .int .i64 0, .int .i64 0]), 5, 40) := by kernel_rfl
set_option maxRecDepth 100000 in
set_option maxHeartbeats 8000000 in
theorem told_any (w : World) (ov rv iv : Value) (N : Net) (h : NetR w ov rv iv N) (hn3 : N.ops.length ≤ 1000) :
    Calls Try.prog 23 #[.agg #[ov, rv, iv]] w (fun e w' => ∃ ov', e = .returned (.agg #[ov', rv, iv]) ∧ OpsR w' ov' N.ops ∧ Below w.heap.size w w') := by
  obtain ⟨i0, hi0, hz0, hz1, hz2⟩ := info_parts info_told
  obtain ⟨h1, h2, h3⟩ := h
  obtain ⟨A, c, rfl, z1, z2⟩ := h1.form
  obtain ⟨A2, c2, rfl, z3, z4⟩ := ints_form h2
  obtain ⟨A3, c3, rfl, z5, z6⟩ := ints_form h3
  obtain ⟨n, hn⟩ : ∃ n, N.ops.length = n := ⟨_, rfl⟩
  rw [hn] at h1 z1 hn3 ⊢
  have HN := Lib.hid hn
  have H1 := Lib.hid h1
  obtain ⟨nr, hnr⟩ : ∃ n, N.roots.length = n := ⟨_, rfl⟩
  obtain ⟨ni, hni⟩ : ∃ n, N.ins.length = n := ⟨_, rfl⟩
  rw [hnr, hni]
  unfold maxLen at z2
  clear h1 h2 h3 hn hnr hni z3 z4 z5 z6
  have HST : Hid (∀ W, W = ((w.alloc (.cells #[.slice A n c, .slice A2 nr c2, .slice A3 ni c3] 30)).alloc (.cells #[.slice none 0 0, .slice none 0 0, .slice none 0 0] 25)).alloc (.cells #[.slice none 0 0, .slice A2 nr c2, .slice A3 ni c3] 25) →
      NetBox W w.heap.size 30 (.slice A n c) (.slice A2 nr c2) (.slice A3 ni c3) ∧ NetBox W (w.heap.size + 1) 25 (.slice none 0 0) (.slice none 0 0) (.slice none 0 0) ∧ NetBox W (w.heap.size + 1 + 1) 25 (.slice none 0 0) (.slice A2 nr c2) (.slice A3 ni c3) ∧ Below w.heap.size w W) := Lib.hid (fun W hW => by
    obtain ⟨k0, k1, k2, hb⟩ := blocks3 w W _ _ _ hW
    exact ⟨⟨k0⟩, ⟨k1⟩, ⟨k2⟩, hb⟩)
  go_enter Try.func23, Try.ntmps23
  go_wp2_with fail
  go_loopw [4] (fun vi wr => ∃ (i : Nat) (A4 : Option Addr) (c4 : Nat), i ≤ n ∧ vi = .int .i64 (i : Int) ∧ wr.ownsRow w.heap.size 69 5 (.slice A4 i c4) i (opsOf (N.ops.take i)) ∧ Below w.heap.size w wr ∧
    NetBox wr w.heap.size 30 (.slice A n c) (.slice A2 nr c2) (.slice A3 ni c3) ∧ NetBox wr (w.heap.size + 1) 25 (.slice none 0 0) (.slice none 0 0) (.slice none 0 0) ∧ NetBox wr (w.heap.size + 1 + 1) 25 (.slice A4 i c4) (.slice A2 nr c2) (.slice A3 ni c3)) (fun vi _ => n - (intOf vi).toNat)
  case atStart =>
    obtain ⟨k0, k1, k2, hb⟩ := HST.out _ rfl
    exact ⟨0, none, 0, Nat.zero_le _, rfl, by simp [opsOf]; exact World.ownsRow_nil _ _ _ _, hb, k0, k1, k2⟩
  case round =>
    obtain ⟨i, A4, c4, hi, rfl, ho, hb, hx0, hx1, hx2⟩ := hrel
    have HO := Lib.hid ho
    have HB := Lib.hid hb
    have HX0 := Lib.hid hx0
    have HX1 := Lib.hid hx1
    have HX2 := Lib.hid hx2
    obtain ⟨p0, p1, p2⟩ := hx0.ats
    obtain ⟨q0, q1, q2⟩ := hx1.ats
    obtain ⟨r0, r1, r2⟩ := hx2.ats
    obtain ⟨fq0, fq1, fq2⟩ := hx1.fzs
    obtain ⟨fr0, fr1, fr2⟩ := hx2.fzs
    have l0 := hx0.lt
    have l1 := hx1.lt
    have l2 := hx2.lt
    clear ho hb hx0 hx1 hx2
    by_cases hlt : i < n
    · obtain ⟨x, hx⟩ : ∃ x, N.ops[i]? = some x := ⟨_, List.getElem?_eq_getElem (by rw [HN.out]; exact hlt)⟩
      obtain ⟨g, o, rfl, hg, d0, d1, d2, d3, d4⟩ := (H1.out.below HB.out (Nat.le_refl _)).at hx
      have HTK : Hid (opsOf (N.ops.take (i + 1)) = opsOf (N.ops.take i) ++ opCells x) := Lib.hid (by rw [List.take_add_one, hx]; exact ops_snoc _ _)
      obtain ⟨xo, xa, xb, xc, xn⟩ := x
      dsimp only at d0 d1 d2 d3 d4
      have HCN : Hid (∀ (k : Nat) u, (opCells ⟨xo, xa, xb, xc, xn⟩)[k]? = some u → ((wr.alloc (.cells #[.int .i64 xo, .int .i64 xa, .int .i64 xb, .int .i64 xc, .int .i64 xn] 79)).alloc (.cells #[.int .i64 xo, .int .i64 xa, .int .i64 xb, .int .i64 xc, .int .i64 xn] 69)).cell? ((⟨wr.heap.size + 1, 0, none⟩ : Addr).add k) = some u) := Lib.hid (by
        have h5 := heap_alloc_new (wr.alloc (.cells #[.int .i64 xo, .int .i64 xa, .int .i64 xb, .int .i64 xc, .int .i64 xn] 79)) (.cells #[.int .i64 xo, .int .i64 xa, .int .i64 xb, .int .i64 xc, .int .i64 xn] 69)
        rw [show (wr.alloc (.cells #[.int .i64 xo, .int .i64 xa, .int .i64 xb, .int .i64 xc, .int .i64 xn] 79)).heap.size = wr.heap.size + 1 by simp] at h5
        exact World.news_of_block (cs := #[.int .i64 xo, .int .i64 xa, .int .i64 xb, .int .i64 xc, .int .i64 xn]) h5)
      have hszr : w.heap.size ≤ wr.heap.size := HB.out.size
      clear hx
      go_wp2_with (at_builtin; refine wpList_append_own_at _ rfl (.tmp 24) (.tmp 36) 22 rfl w.heap.size 69 i0 (.agg #[.int .i64 0, .int .i64 0, .int .i64 0, .int .i64 0, .int .i64 0]) 5 40 Try.underlying22 hi0 hz0 hz1 hz2 rfl (by decide) _ _ _ rfl ((HO.out.alloc _).alloc _) ⟨wr.heap.size + 1, 0, none⟩ 1 1 (opCells ⟨xo, xa, xb, xc, xn⟩) rfl rfl HCN.out ?b1 ?c1 ?d1 ?e1 ?_)
      case b1 => intro u hu; simp [opCells] at hu; rcases hu with rfl | rfl | rfl | rfl | rfl <;> rfl
      case c1 => unfold maxLen; omega
      case d1 => omega
      case e1 => first | omega | (simp; omega)
      intro v' w7 hown7 hgrow7 _ hat7
      have hne : ∀ k T a1 a2 a3, NetBox wr k T a1 a2 a3 → T ≠ 69 → (Value.slice A4 i c4).ownBlock ≠ some k := fun k T a1 a2 a3 hx hT e => by
        obtain ⟨cs, hc⟩ := own_cells HO.out e
        have := hx.cell
        rw [hc] at this; simp at this; exact hT this.2.symm
      have st : ∀ k, k < wr.heap.size → (Value.slice A4 i c4).ownBlock ≠ some k → w7.heap[k]? = wr.heap[k]? := fun k h1 h2 => (hgrow7.block k (by simp; omega) (fun e => h2 e.symm)).trans ((Below.heap_alloc _ _ _ (by simp; omega)).trans (Below.heap_alloc _ _ _ h1))
      have hn0 := hne _ _ _ _ _ HX0.out (by decide)
      have hn1 := hne _ _ _ _ _ HX1.out (by decide)
      have hn2 := hne _ _ _ _ _ HX2.out (by decide)
      have HX70 : Hid (NetBox w7 w.heap.size 30 (.slice (some ⟨g, o, none⟩) n c) (.slice A2 nr c2) (.slice A3 ni c3)) := Lib.hid ⟨(st _ l0 hn0).trans HX0.out.cell⟩
      have HX71 : Hid (NetBox w7 (w.heap.size + 1) 25 (.slice none 0 0) (.slice none 0 0) (.slice none 0 0)) := Lib.hid ⟨(st _ l1 hn1).trans HX1.out.cell⟩
      have HX72 : Hid (NetBox w7 (w.heap.size + 1 + 1) 25 (.slice A4 i c4) (.slice A2 nr c2) (.slice A3 ni c3)) := Lib.hid ⟨(st _ l2 hn2).trans HX2.out.cell⟩
      have HB7 : Hid (Below w.heap.size w w7) := Lib.hid (((HB.out.alloc hszr _).alloc (by simp; omega) _).grown hgrow7 (by simp; omega) (fun k hk => (HO.out.lt k hk).1))
      have HO7 : Hid (w7.ownsRow w.heap.size 69 5 v' (i + 1) (opsOf (N.ops.take (i + 1)))) := Lib.hid (by rw [HTK.out]; exact hown7)
      obtain ⟨A5, c5, rfl⟩ : ∃ A c, v' = .slice A (i + 1) c := by
        obtain ⟨-, h1 | ⟨g, cap, cur, e, -⟩⟩ := hown7
        · omega
        · exact ⟨_, _, e⟩
      have hv2 : (Value.slice A5 (i + 1) c5).ownBlock ≠ some (w.heap.size + 1 + 1) := fun e => by
        obtain ⟨cs, hc⟩ := own_cells HO7.out e
        have := HX72.out.cell
        rw [hc] at this; simp at this
      obtain ⟨s0, s1, s2⟩ := HX72.out.ats
      obtain ⟨f0, f1, f2⟩ := HX72.out.fzs
      have HE : Hid ((w7.setCell ⟨w.heap.size + 1 + 1, 0, none⟩ (.slice A5 (i + 1) c5)).ownsRow w.heap.size 69 5 (.slice A5 (i + 1) c5) (i + 1) (opsOf (N.ops.take (i + 1))) ∧ Below w.heap.size w (w7.setCell ⟨w.heap.size + 1 + 1, 0, none⟩ (.slice A5 (i + 1) c5)) ∧
          NetBox (w7.setCell ⟨w.heap.size + 1 + 1, 0, none⟩ (.slice A5 (i + 1) c5)) w.heap.size 30 (.slice (some ⟨g, o, none⟩) n c) (.slice A2 nr c2) (.slice A3 ni c3) ∧ NetBox (w7.setCell ⟨w.heap.size + 1 + 1, 0, none⟩ (.slice A5 (i + 1) c5)) (w.heap.size + 1) 25 (.slice none 0 0) (.slice none 0 0) (.slice none 0 0) ∧
          NetBox (w7.setCell ⟨w.heap.size + 1 + 1, 0, none⟩ (.slice A5 (i + 1) c5)) (w.heap.size + 1 + 1) 25 (.slice A5 (i + 1) c5) (.slice A2 nr c2) (.slice A3 ni c3)) := Lib.hid (by
        have sc : ∀ k, k ≠ w.heap.size + 1 + 1 → (w7.setCell ⟨w.heap.size + 1 + 1, 0, none⟩ (.slice A5 (i + 1) c5)).heap[k]? = w7.heap[k]? := fun k hk => Below.heap_setCell _ _ _ _ hk
        refine ⟨own_block HO7.out (fun k hk => sc k (fun e => hv2 (by rw [hk, e]))), HB7.out.setCell (p := ⟨w.heap.size + 1 + 1, 0, none⟩) (by simp; omega) _, ⟨(sc _ (by omega)).trans HX70.out.cell⟩, ⟨(sc _ (by omega)).trans HX71.out.cell⟩, ⟨?_⟩⟩
        have := HX72.out.cell
        simp [World.setCell, Array.getElem?_modify, this])
      clear hown7 hgrow7 hat7 hne st hn0 hn1 hn2 hv2
      go_wp2_with fail
      exact ⟨⟨i + 1, A5, c5, by omega, by go_num, HE.out.1, HE.out.2.1, HE.out.2.2.1, HE.out.2.2.2.1, HE.out.2.2.2.2⟩, by simp [intOf]; omega⟩
    · have hie : i = n := by omega
      subst hie
      have HE : Hid (OpsR wr (.slice A4 i c4) N.ops) := Lib.hid (by
        have := HO.out
        rw [← HN.out, List.take_length] at this
        have e := OpsR.of_own this
        rw [HN.out] at e; exact e)
      have HE2 : Hid (∀ k1 k2 k3 W, W = ((wr.setCell ⟨w.heap.size + 1, 0, none⟩ k1).setCell ⟨w.heap.size + 1, 1, none⟩ k2).setCell ⟨w.heap.size + 1, 2, none⟩ k3 → OpsR W (.slice A4 i c4) N.ops ∧ Below w.heap.size w W) := Lib.hid (fun k1 k2 k3 W hW => by
        subst hW
        have ho2 : (((wr.setCell ⟨w.heap.size + 1, 0, none⟩ k1).setCell ⟨w.heap.size + 1, 1, none⟩ k2).setCell ⟨w.heap.size + 1, 2, none⟩ k3).ownsRow w.heap.size 69 5 (.slice A4 i c4) i (opsOf (N.ops.take i)) := own_block HO.out (fun k hk => by
          have hk1 : k ≠ w.heap.size + 1 := fun e => by
            obtain ⟨cs, hc⟩ := own_cells HO.out hk
            have := HX1.out.cell
            rw [← e, hc] at this; simp at this
          rw [Below.heap_setCell _ _ _ _ hk1, Below.heap_setCell _ _ _ _ hk1, Below.heap_setCell _ _ _ _ hk1])
        rw [← HN.out, List.take_length] at ho2
        refine ⟨by have e := OpsR.of_own ho2
                   rw [HN.out] at e; exact e, ((HB.out.setCell (p := ⟨w.heap.size + 1, 0, none⟩) (by simp) _).setCell (p := ⟨w.heap.size + 1, 1, none⟩) (by simp) _).setCell (p := ⟨w.heap.size + 1, 2, none⟩) (by simp) _⟩)
      go_wp2_with fail
      obtain ⟨y0, y1, y2⟩ := (HX1.out.set3 (.slice A4 i c4) (.slice A2 nr c2) (.slice A3 ni c3)).ats
      exact bodyPost_ret (v := .agg #[.slice A4 i c4, .slice A2 nr c2, .slice A3 ni c3]) (by simp [results, Try.results23, go_sem, y0, y1, y2]) rfl ⟨_, rfl, (HE2.out _ _ _ _ rfl).1, (HE2.out _ _ _ _ rfl).2⟩
end Go.Proofs.Ytcphjehjdhgheaa.Nt
