/- The document's order, Sub and Norm. Conditions: the slice is read as a list of nodes. -/
import Derived.Test.YtmggedjolocgdaaTreeU
namespace Go.Proofs.Ytmggedjolocgdaa.Tr
open Go.ChangeShapes Go.WideShapes Go.ChangeAt Go.RowKit
set_option linter.unusedVariables false
set_option linter.unusedSimpArgs false

theorem ord_end {w w2 wr w3 w4 : World} {b : Nat} {ov ov' tv : Value} {out : List Nd} {e : List Nd} {L : List Int} {i N gg cap : Nat} {y : Nd} {o : Obj} (hw : w.heap.size ≤ w2.heap.size) (h : OrdRel w w2 b ov out e L L.length wr ov' tv)
    (hb3 : Below wr.heap.size wr w3) (hg : (w3.alloc o).grownBy w4 ov'.ownBlock) (hN : (out ++ flats e out.length (L.take L.length)).length = N)
    (hown : w4.ownsRow b 30 6 (.slice (some ⟨gg, 0, none⟩) (N + 1) cap) (N + 1) (ndsOf (out ++ flats e out.length L) ++ ndCells y)) (hat : ov'.ownBlock = some gg ∨ gg = w3.heap.size + 1)
    (hfl : (tree e i).flat out.length = flats e out.length L ++ [y]) :
    OrderPost w b ov out ((tree e i).flat out.length) (.returned (.slice (some ⟨gg, 0, none⟩) (N + 1) cap)) w4 := by
  rw [List.take_length] at hN
  have hs := h.size
  have hs3 := hb3.size
  have hs4 := hg.size
  simp at hs4
  have g1 := h.grown
  refine ⟨_, rfl, ?_, ⟨?_, ?_, ?_, by omega, fun k hk hn => ?_⟩, fun k hk => ?_⟩
  · rw [hfl, ← List.append_assoc, nds_snoc, List.length_append, hN]; exact hown
  · exact hg.os.trans ((show (w3.alloc o).os = w3.os from rfl).trans (hb3.os.trans g1.os))
  · exact hg.tape.trans ((show (w3.alloc o).tape = w3.tape from rfl).trans (hb3.tape.trans g1.tape))
  · exact hg.output.trans ((show (w3.alloc o).output = w3.output from rfl).trans (hb3.output.trans g1.output))
  · rw [hg.block k (by simp; omega) (fun h2 => by
      rcases h.blk k h2.symm with h3 | h3
      · exact hn h3.symm
      · omega), Below.heap_alloc _ _ _ (by omega), hb3.block k (by omega)]
    exact g1.block k hk hn
  · have hk' : gg = k := by simpa [Value.ownBlock] using hk
    subst hk'
    rcases hat with h1 | h1
    · rcases h.blk _ h1 with h2 | h2
      · exact .inl h2
      · exact .inr (by omega)
    · exact .inr (by omega)
theorem Nodes.at_block {w w' : World} {g o n c : Nat} {l : List Nd} (h : Nodes w (.slice (some ⟨g, o, none⟩) n c) l) (hk : w'.heap[g]? = w.heap[g]?) (hs : g < w'.heap.size) : Nodes w' (.slice (some ⟨g, o, none⟩) n c) l := by
  obtain ⟨A', c', e, h1, h2, h3⟩ := h
  refine ⟨A', c', e, h1, h2, fun i t hi => ?_⟩
  obtain ⟨g', o', hg, hlt, c0, c1, c2, c3, c4, c5⟩ := h3 i t hi
  have hA : A' = some ⟨g, o, none⟩ := by injection e with e1; exact e1.symm
  rw [hA] at hg
  simp only [Option.some.injEq, Addr.mk.injEq, and_true] at hg
  obtain ⟨rfl, rfl⟩ := hg
  have q : ∀ k, w'.cell? ⟨g, k, none⟩ = w.cell? ⟨g, k, none⟩ := fun k => World.cell?_of_block (w := w) (a := ⟨g, k, none⟩) hk
  exact ⟨g, o, hA, hs, (q _).trans c0, (q _).trans c1, (q _).trans c2, (q _).trans c3, (q _).trans c4, (q _).trans c5⟩

set_option maxRecDepth 100000 in
set_option maxHeartbeats 1000000 in
theorem order_any (ev : Value) (e : List Nd) (hm : May e) (b : Nat) : ∀ (f i : Nat) (w : World) (ov : Value) (out : List Nd), i < f → i < e.length → Nodes w ev e → w.ownsRow b 30 6 ov out.length (ndsOf out) → b ≤ w.heap.size →
    (∀ g o n c, ev = .slice (some ⟨g, o, none⟩) n c → g < b) → out.length + (tree e i).size ≤ 100000 →
    Calls Try.prog 41 #[ev, .int .i64 i, ov] w (OrderPost w b ov out ((tree e i).flat out.length)) := by
  intro f
  induction f with
  | zero => intro i w ov out h; omega
  | succ f ih =>
    intro i w ov out hif hie hv hown hb hlow hsz
    have IH := Lib.hid ih
    clear ih
    have HV := Lib.hid hv
    have hv2 := hv
    obtain ⟨A, c, rfl, h1, h2, hA⟩ := hv2
    unfold maxLen at h2
    obtain ⟨x, hx⟩ : ∃ x, e[i]? = some x := ⟨_, List.getElem?_eq_getElem hie⟩
    obtain ⟨g, o, rfl, hg, a0, a1, a2, a3, a4, a5⟩ := hA i x hx
    have hgb := hlow g o _ _ rfl
    have HLOW := Lib.hid hlow
    have HC := Lib.hid (And.intro a0 (And.intro a1 (And.intro a2 (And.intro a3 (And.intro a4 a5)))))
    have HM := Lib.hid hm
    have HX := Lib.hid hx
    have HO := Lib.hid hown
    have hovl : ∀ k, ov.ownBlock = some k → k < w.heap.size := fun k hk => (hown.lt k hk).2
    have HOVL := Lib.hid hovl
    have HOB := Lib.hid (show ∀ k, ov.ownBlock = some k → b ≤ k from fun k hk => (hown.lt k hk).1)
    clear hA hx hm hv hown hlow hovl
    obtain ⟨L, hL⟩ : ∃ L, kidsM x = L := ⟨_, rfl⟩
    have HL := Lib.hid hL
    have hLs : L.length ≤ 3 := by rw [← hL]; exact kids_small x
    have HIN := Lib.hid (show ∀ q ∈ L, 0 ≤ q ∧ q < (i : Int) by rw [← hL]; exact HM.out.ahead i x HX.out)
    have HSZ := Lib.hid (show (tree e i).size = upTo e L + 1 by rw [← hL]; exact tree_size e HM.out.ahead i x HX.out)
    have HFL := Lib.hid (show (tree e i).flat out.length = flats e out.length L ++ [mkL x.lab ((List.range L.length).map (posOf e out.length L))] by rw [← hL]; exact tree_flat e HM.out.ahead i x HX.out _)
    clear hL
    obtain ⟨i0, hi, hz0, hz1, hz2⟩ := info_parts info3
    obtain ⟨i1, hi', hz0', hz1', hz2'⟩ := info_parts info30
    go_enter Try.func41, Try.ntmps41
    go_wp2_with fail
    refine (rkids_any x _).mono ?_
    rintro r w2 ⟨kv, rfl, hok, hb2⟩
    rw [HL.out] at hok
    obtain ⟨A2, c2, rfl, y1, y2, hA2⟩ := Ints.of_own hok
    have HA2 := Lib.hid hA2
    have hz2w := hb2.size
    have HW2 := Lib.hid hz2w
    have HKO := Lib.hid (show ∀ g2 o2, A2 = some ⟨g2, o2, none⟩ → w.heap.size ≤ g2 from fun g2 o2 h => by subst h; have := hok.lt g2 rfl; omega)
    have HREL0 : Hid (OrdRel w w2 b ov out e L 0 w2 ov (.slice none 0 0)) := Lib.hid
      { le := Nat.zero_le _, own := by have := own_below HO.out hb2; simpa [flats] using this, row := World.ownsRow_nil _ _ _ _, size := Nat.le_refl _,
        grown := ⟨hb2.os, hb2.tape, hb2.output, hb2.size, fun k hk _ => hb2.block k hk⟩, keep := fun k _ _ => rfl, blk := fun k hk => .inl hk }
    clear hok hA2 hb2 a0 a1 a2 a3 a4 a5
    unfold maxLen at y2
    go_wp2
    go_loopw [2, 8, 9] (fun s1 s2 cv wr => ∃ (j : Nat) (ov' tv : Value), ov' = s1 ∧ tv = s2 ∧ cv = .int .i64 j ∧ OrdRel w w2 b ov out e L j wr ov' tv) (fun _ _ cv _ => L.length - (intOf cv).toNat)
    case atStart => exact ⟨0, _, _, rfl, rfl, rfl, HREL0.out⟩
    case round =>
      obtain ⟨j, ov', tv, rfl, rfl, rfl, hrel⟩ := hrel
      have hj := hrel.le
      have hs2 := hrel.size
      have HREL := Lib.hid hrel
      have kp : ∀ k, w.heap.size ≤ k → k < w2.heap.size → wr.heap[k]? = w2.heap[k]? := hrel.keep
      have KP := Lib.hid kp
      have HGB : Hid (wr.heap[g]? = w.heap[g]?) := Lib.hid (hrel.grown.block g hg (fun h => by have := HOB.out g h.symm; omega))
      have NV : Hid (Nodes wr (.slice (some ⟨g, o, none⟩) e.length c) e) := Lib.hid (HV.out.at_block (hrel.grown.block g hg (fun h => by have := HOB.out g h.symm; omega)) (by omega))
      clear hrel kp
      by_cases hlj : j < L.length
      · obtain ⟨q, hq⟩ : ∃ q, L[j]? = some q := ⟨_, List.getElem?_eq_getElem hlj⟩
        obtain ⟨g2, o2, rfl, hg2, d0'⟩ := HA2.out j q hq
        have hgb2 := HKO.out g2 o2 rfl
        have d0 := (World.cell?_of_block (w := w2) (a := ⟨g2, o2 + j, none⟩) (KP.out g2 hgb2 hg2)).trans d0'
        obtain ⟨hq0, hqi⟩ := HIN.out q (List.mem_of_getElem? hq)
        obtain ⟨m, rfl⟩ := Int.eq_ofNat_of_zero_le hq0
        have HQ := Lib.hid hq
        clear hq d0'
        have hup := upTo_le e L (j + 1)
        have HUP := Lib.hid (show out.length + upTo e (L.take j) + (tree e m).size ≤ 100000 by
          rw [List.take_add_one, HQ.out] at hup
          have h3 := upTo_snoc e (L.take j) (m : Int)
          simp only [Option.toList] at hup
          rw [h3, Int.toNat_natCast] at hup
          have h4 := HSZ.out
          omega)
        clear hup
        go_wp2_with fail
        refine (IH.out m _ ov' _ (by omega) (by omega) NV.out HREL.out.own (by omega) HLOW.out (by rw [List.length_append, flats_len]; exact HUP.out)).mono ?_
        rintro r w3 ⟨ov'', rfl, hown3, hg3, hblk3⟩
        obtain ⟨A3, c3, rfl, z1, z2, _⟩ := Nodes.of_own hown3
        have hs3 := hg3.size
        have htv : w3.ownsRow w2.heap.size 3 1 tv j (intsOf ((List.range j).map (posOf e out.length L))) := own_block HREL.out.row (fun k hk => hg3.block k (HREL.out.row.lt k hk).2 (fun h => own_ne HREL.out.own HREL.out.row (by decide) k h.symm hk))
        obtain ⟨N, hN⟩ : ∃ N, ((out ++ flats e out.length (L.take j)) ++ (tree e m).flat (out ++ flats e out.length (L.take j)).length).length = N := ⟨_, rfl⟩
        have HN := Lib.hid hN
        have HPO := Lib.hid (show posOf e out.length L j = ((N - 1 : Nat) : Int) by
          rw [← hN]
          unfold posOf
          rw [List.length_append, List.length_append, flats_len, T.flat_len, List.take_add_one, HQ.out]
          rw [show (some (m : Int)).toList = [(m : Int)] from rfl, upTo_snoc, Int.toNat_natCast]
          congr 1; omega)
        have hNp : 1 ≤ N := by rw [← hN, List.length_append, T.flat_len]; have := (tree e m).size_pos; omega
        have hNm : N ≤ 100000 := by rw [← hN, List.length_append, List.length_append, flats_len, T.flat_len]; exact HUP.out
        have H3 := Lib.hid (And.intro hown3 (And.intro hg3 hblk3))
        have HTV := Lib.hid htv
        rw [hN] at z1
        clear hown3 hg3 hblk3 hN
        have e1 : (N : Int) - 1 = ((N - 1 : Nat) : Int) := by omega
        have HE1 := Lib.hid e1
        unfold maxLen at z2
        rw [HN.out]
        clear e1 htv
        go_wp2_with (at_builtin; refine wpList_append_own _ rfl (.tmp 28) (.tmp 32) 27 rfl w2.heap.size 3 i0 _ 1 8 Try.underlying27 hi hz0 hz1 hz2 rfl (by decide) _ _ _ rfl (HTV.out.alloc _) ⟨w3.heap.size, 0, none⟩ 1 1 [.int .i64 ((N : Int) - 1)] rfl rfl ?a1 ?b1 ?c1 ?d1 ?e1 ?_)
        case a1 => exact cell_one_new _ _ _
        case b1 => intro u hu; simp at hu; subst hu; rfl
        case c1 => unfold maxLen; omega
        case d1 => omega
        case e1 => simp; omega
        intro tv' w4 hrow4 hg4 _
        rw [HE1.out, ← HPO.out] at hrow4
        have R := Lib.hid (ord_step HQ.out hb HW2.out HOVL.out HREL.out H3.out.1 H3.out.2.1 H3.out.2.2 hrow4 hg4 HTV.out)
        clear hrow4 hg4
        go_wp2
        refine ⟨⟨j + 1, _, _, rfl, rfl, by go_num, ?_⟩, by simp [intOf]; omega⟩
        rw [← HN.out]; exact R.out
      · have hjl : j = L.length := by omega
        subst hjl
        have HL2 : Hid (Ints wr tv ((List.range L.length).map (posOf e out.length L))) := Lib.hid (Ints.of_own (by have := HREL.out.row; simpa using this))
        obtain ⟨l, hl⟩ : ∃ l, (List.range L.length).map (posOf e out.length L) = l := ⟨_, rfl⟩
        have hll : l.length = L.length := by rw [← hl]; simp
        rw [hl] at HL2 HFL
        have HAIM := Lib.hid (aim_mk x L l (by rw [← HL.out]; exact (HM.out.node i x HX.out).bare) hll.symm (by omega))
        obtain ⟨N, hN⟩ : ∃ N, (out ++ flats e out.length (L.take L.length)).length = N := ⟨_, rfl⟩
        have HN := Lib.hid hN
        have hNm : N ≤ 100000 := by
          rw [← hN, List.length_append, flats_len, List.take_length]; have := HSZ.out; omega
        have b0 := (World.cell?_of_block (w := w) (a := ⟨g, o + i * 6, none⟩) HGB.out).trans HC.out.1
        have b1 := (World.cell?_of_block (w := w) (a := ⟨g, o + i * 6 + 1, none⟩) HGB.out).trans HC.out.2.1
        have b2 := (World.cell?_of_block (w := w) (a := ⟨g, o + i * 6 + 2, none⟩) HGB.out).trans HC.out.2.2.1
        have b3 := (World.cell?_of_block (w := w) (a := ⟨g, o + i * 6 + 3, none⟩) HGB.out).trans HC.out.2.2.2.1
        have b4 := (World.cell?_of_block (w := w) (a := ⟨g, o + i * 6 + 4, none⟩) HGB.out).trans HC.out.2.2.2.2.1
        have b5 := (World.cell?_of_block (w := w) (a := ⟨g, o + i * 6 + 5, none⟩) HGB.out).trans HC.out.2.2.2.2.2
        clear hl hN
        go_wp2_with fail
        refine (aim_any x tv l _ HL2.out (by omega)).mono ?_
        rintro r w3 ⟨rfl, hb3⟩
        obtain ⟨y, hy⟩ : ∃ y, aimM x l = y := ⟨_, rfl⟩
        have HY := Lib.hid hy
        rw [hy]
        have HB3 := Lib.hid hb3
        have hs3 := hb3.size
        have HO3 := Lib.hid (own_below HREL.out.own hb3)
        rw [HN.out] at HO3
        clear hy hb3 b0 b1 b2 b3 b4 b5
        go_wp2_with (at_builtin; refine wpList_append_lies _ rfl (.tmp 34) (.tmp 41) 23 rfl b 30 i1 _ 6 56 Try.underlying23 hi' hz0' hz1' hz2' rfl (by decide) ov' N _ rfl (HO3.out.alloc _) ⟨w3.heap.size, 0, none⟩ 1 1 (ndCells y) rfl rfl ?a2 ?b2 (by omega) ?c2 ?d2 ?e2 (w3.heap.size + 1) ?f2 ?_)
        case a2 => exact World.news_of_block (t := 30) (fr := (0, 0)) (heap_alloc_new _ _)
        case b2 => simp [ndCells, Value.oneCell']
        case c2 => unfold maxLen; omega
        case d2 => omega
        case e2 => simp; omega
        case f2 => simp
        intro gg cap w4 hown4 hg4 hat _
        have R := Lib.hid (ord_end (i := i) HW2.out HREL.out HB3.out hg4 HN.out hown4 hat (by rw [HFL.out, ← HAIM.out, HY.out]))
        clear hown4 hg4 hat
        go_wp2
        go_ret
        exact R.out

/-- What the expression of a node is. -/
noncomputable def subM (e : List Nd) (i : Int) : List Nd := if mayB e = true ∧ 0 ≤ i ∧ i < (e.length : Int) then (tree e i.toNat).flat 0 else []
/-- What a call that hands back nodes leaves. -/
def NodesPost (w : World) (l : List Nd) (r : Ending) (w' : World) : Prop :=
  ∃ v, r = .returned v ∧ w'.ownsRow w.heap.size 30 6 v l.length (ndsOf l) ∧ Below w.heap.size w w'
theorem nodes_none (w w' : World) (h : Below w.heap.size w w') : NodesPost w [] (.returned (.slice none 0 0)) w' := ⟨_, rfl, World.ownsRow_nil _ _ _ _, h⟩
theorem rmay_lit (v : Value) (e : List Nd) (b : Bool) (w : World) (hv : Nodes w v e) (h : mayB e = b) : Calls Try.prog 16 #[v] w fun r w' => r = .returned (.bool b) ∧ Below w.heap.size w w' := by rw [← h]; exact rmay_any v e w hv
theorem size_le (e : List Nd) (h : May e) (i : Nat) (hi : i < e.length) : (tree e i).size ≤ e.length := by
  rw [← desc_size h.ahead i hi]
  exact nodup_le e.length _ (desc_nodup h.once h.ahead i hi) (fun x hx => by have := desc_le h.ahead i hi x hx; omega)

set_option maxHeartbeats 1000000 in
theorem rsub_any (v : Value) (e : List Nd) (i : Int) (w : World) (hv : Nodes w v e) : Calls Try.prog 22 #[v, .int .i64 i] w (NodesPost w (subM e i)) := by
  have HV := Lib.hid hv
  obtain ⟨A, c, rfl, h1, h2, hA⟩ := hv
  clear hA
  unfold maxLen at h2
  rcases Bool.eq_false_or_eq_true (mayB e) with hm | hm
  · by_cases h0 : 0 ≤ i
    · by_cases hl : i < (e.length : Int)
      · obtain ⟨m, rfl⟩ := Int.eq_ofNat_of_zero_le h0
        have hml : m < e.length := by omega
        have HM := Lib.hid (may_of hm)
        have HR := Lib.hid (show subM e (m : Int) = (tree e m).flat 0 by unfold subM; rw [if_pos ⟨hm, h0, hl⟩, Int.toNat_natCast])
        have hd : decide (e.length ≤ m) = false := by simp; omega
        have HMM := Lib.hid hm
        clear hm
        rw [HR.out]
        go_enter Try.func22, Try.ntmps22
        go_wp2_with fail
        refine (rmay_lit _ e _ _ HV.out HMM.out).mono ?_
        rintro r w2 ⟨rfl, hb2⟩
        have HB2 := Lib.hid hb2
        have hs2 := hb2.size
        have HV2 := Lib.hid (HV.out.below hb2 (Nat.le_refl _))
        clear hb2
        go_wp2_with fail
        refine (order_any _ e HM.out w.heap.size (m + 1) m _ _ [] (by omega) hml HV2.out (World.ownsRow_nil _ _ _ _) hs2 (fun g o n c' he => by
          obtain ⟨A', c'', e1, _, _, hA⟩ := HV.out
          obtain ⟨g', o', hg, hlt, _⟩ := hA m _ (List.getElem?_eq_getElem hml)
          injection e1 with e2
          injection he with e3
          rw [← e2, e3] at hg
          simp at hg
          omega) (by have := size_le e HM.out m hml; have := HM.out.le; simp; omega)).mono ?_
        rintro r w3 ⟨ov, rfl, hown, hg, -⟩
        have HO := Lib.hid hown
        have HG := Lib.hid (HB2.out.grown hg hs2 (fun k hk => by simp [Value.ownBlock] at hk))
        clear hown hg
        go_wp2
        go_ret
        exact ⟨_, rfl, by simpa using HO.out, HG.out⟩
      · have HR := Lib.hid (show subM e i = [] by unfold subM; rw [if_neg (by omega)])
        have HMM := Lib.hid hm
        have hl' : (e.length : Int) ≤ i := by omega
        clear hm
        rw [HR.out]
        go_enter Try.func22, Try.ntmps22
        go_wp2_with fail
        refine (rmay_lit _ e _ _ HV.out HMM.out).mono ?_
        rintro r w2 ⟨rfl, hb2⟩
        go_wp2
        go_ret
        exact nodes_none _ _ hb2
    · have HR := Lib.hid (show subM e i = [] by unfold subM; rw [if_neg (by omega)])
      have HMM := Lib.hid hm
      have hl' : i < 0 := by omega
      clear hm h0
      rw [HR.out]
      go_enter Try.func22, Try.ntmps22
      go_wp2_with fail
      refine (rmay_lit _ e _ _ HV.out HMM.out).mono ?_
      rintro r w2 ⟨rfl, hb2⟩
      go_wp2
      go_ret
      exact nodes_none _ _ hb2
  · have HR := Lib.hid (show subM e i = [] by unfold subM; rw [if_neg (by rw [hm]; simp)])
    have HMM := Lib.hid hm
    clear hm
    rw [HR.out]
    go_enter Try.func22, Try.ntmps22
    go_wp2_with fail
    refine (rmay_lit _ e _ _ HV.out HMM.out).mono ?_
    rintro r w2 ⟨rfl, hb2⟩
    go_wp2
    go_ret
    exact nodes_none _ _ hb2
/-- An expression in order, or nothing. -/
noncomputable def normB (e : List Nd) : List Nd := subM e ((e.length : Int) - 1)
theorem rnorm_any (v : Value) (e : List Nd) (w : World) (hv : Nodes w v e) : Calls Try.prog 42 #[v] w (NodesPost w (normB e)) := by
  have HV := Lib.hid hv
  obtain ⟨A, c, rfl, h1, h2, hA⟩ := hv
  clear hA
  unfold maxLen at h2
  go_enter Try.func42, Try.ntmps42
  go_wp2_with fail
  refine (rsub_any _ e _ _ HV.out).mono ?_
  rintro r w2 ⟨ov, rfl, hown, hb⟩
  go_wp2
  go_ret
  exact ⟨_, rfl, hown, hb⟩
end Go.Proofs.Ytmggedjolocgdaa.Tr
