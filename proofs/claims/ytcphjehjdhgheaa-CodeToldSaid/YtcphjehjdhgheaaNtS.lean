/- The document's Sort of a net, of layer 15. Conditions: the net has at most 1000 operators, roots, inputs. -/
import Derived.Test.YtcphjehjdhgheaaNtR
import Derived.Test.YtcphjehjdhgheaaNtJ
namespace Go.Proofs.Ytcphjehjdhgheaa.Nt
open Go.ChangeShapes Go.WideShapes Go.ChangeAt Go.RowKit Go.Proofs.Ytcphjehjdhgheaa.Tr
set_option linter.unusedVariables false
set_option linter.unusedSimpArgs false

def SortPost (w : World) (N : Net) (e : Ending) (w' : World) : Prop :=
  Below w.heap.size w w' ∧ ∃ ov rv iv, e = .returned (.tuple #[.agg #[ov, rv, iv], .int .i64 (checkN N)]) ∧ NetR w' ov rv iv (sortN N)
theorem net_nil (w : World) : NetR w (.slice none 0 0) (.slice none 0 0) (.slice none 0 0) emptyN := ⟨⟨none, 0, rfl, Nat.le_refl _, by unfold maxLen; omega, fun i x h => by simp [emptyN] at h⟩, ints_nil w, ints_nil w⟩
/-- What stands before the loops that build the new net: the numbers, the order, the copy of the inputs. -/
structure Pre (w : World) (N : Net) (tA : Option Addr) (oA : Option Addr) (oc : Nat) (ov rv iv : Value) (b T : Nat) : Prop where
  nums : Ints w (.slice tA N.ops.length N.ops.length) (numsM (orderN N) N.ops.length (orderN N).length)
  ord : Ints w (.slice oA N.ops.length oc) (natI (orderN N))
  net : NetR w ov rv iv N
  box : NetBox w b T ov rv iv
  res : NetBox w (b + 1) T (.slice none 0 0) (.slice none 0 0) (.slice none 0 0)
theorem Pre.below {w w' : World} {N : Net} {tA oA : Option Addr} {oc b T : Nat} {ov rv iv : Value} (h : Pre w N tA oA oc ov rv iv b T) (hb : Below w.heap.size w w') : Pre w' N tA oA oc ov rv iv b T :=
  ⟨h.nums.below hb (Nat.le_refl _), h.ord.below hb (Nat.le_refl _), h.net.below hb (Nat.le_refl _), h.box.below hb h.box.lt, h.res.below hb h.res.lt⟩
theorem infoD : (Try.prog.info? 69).map (fun i => (i.zero, i.size, i.bytes)) = some (some (.agg #[.int .i64 0, .int .i64 0, .int .i64 0, .int .i64 0, .int .i64 0]), 5, 40) := by kernel_rfl
set_option maxRecDepth 100000 in
set_option maxHeartbeats 8000000 in
theorem esort_any (w : World) (ov rv iv : Value) (N : Net) (h : NetR w ov rv iv N) (hn3 : N.ops.length ≤ 1000) (hr3 : N.roots.length ≤ 1000) (hi3 : N.ins.length ≤ 1000) : Calls Try.prog 20 #[.agg #[ov, rv, iv]] w (SortPost w N) := by
  obtain ⟨i0, hi0, hz0, hz1, hz2⟩ := info_parts info3
  obtain ⟨j0, hj0, hy0, hy1, hy2⟩ := info_parts infoD
  have HH := Lib.hid h
  obtain ⟨A, c, rfl, z1, z2⟩ := h.1.form
  obtain ⟨A2, c2, rfl, z3, z4⟩ := ints_form h.2.1
  obtain ⟨A3, c3, rfl, z5, z6⟩ := ints_form h.2.2
  obtain ⟨n, hn⟩ : ∃ L, N.ops.length = L := ⟨_, rfl⟩
  obtain ⟨nr, hnr⟩ : ∃ L, N.roots.length = L := ⟨_, rfl⟩
  obtain ⟨ni, hni⟩ : ∃ L, N.ins.length = L := ⟨_, rfl⟩
  have HN := Lib.hid hn
  have HNR := Lib.hid hnr
  have HNI := Lib.hid hni
  rw [hn, hnr, hni] at HH
  rw [hn] at z1 hn3 ⊢
  rw [hnr] at z3 hr3 ⊢
  rw [hni] at z5 hi3 ⊢
  unfold maxLen at z2 z4 z6
  obtain ⟨w1, hw1⟩ : ∃ W, (w.alloc (.cells #[.slice A n c, .slice A2 nr c2, .slice A3 ni c3] 25)).alloc (.cells #[.slice none 0 0, .slice none 0 0, .slice none 0 0] 25) = W := ⟨_, rfl⟩
  have HW1 := Lib.hid hw1
  have HB1 : Hid (Below w.heap.size w w1) := Lib.hid (by rw [← hw1]; exact below2 _ _ _)
  have HX1 : Hid (NetBox w1 w.heap.size 25 (.slice A n c) (.slice A2 nr c2) (.slice A3 ni c3)) := Lib.hid (by rw [← hw1]; exact (box_new w 25 _ _ _).below (below_new _ _) (by simp))
  have HR1 : Hid (NetBox w1 (w.heap.size + 1) 25 (.slice none 0 0) (.slice none 0 0) (.slice none 0 0)) := Lib.hid (by
    rw [← hw1]
    have := box_new (w.alloc (.cells #[.slice A n c, .slice A2 nr c2, .slice A3 ni c3] 25)) 25 (.slice none 0 0) (.slice none 0 0) (.slice none 0 0)
    rw [show (w.alloc (.cells #[.slice A n c, .slice A2 nr c2, .slice A3 ni c3] 25)).heap.size = w.heap.size + 1 by simp] at this
    exact this)
  have HMA := Lib.hid (eorder_any w1 _ _ _ N (HH.out.below HB1.out (Nat.le_refl _)))
  obtain ⟨C, hC⟩ : ∃ b, checkN N = b := ⟨_, rfl⟩
  have HC := Lib.hid hC
  obtain ⟨p0, p1, p2⟩ := HX1.out.ats
  clear h hw1 hC hn hnr hni
  go_enter Try.func20, Try.ntmps20
  go_wp2_with fail
  rw [HW1.out]
  go_wp2_with fail
  refine HMA.out.mono ?_
  rintro e w2 ⟨hb2, ⟨hc, rfl⟩ | ⟨hc, v, rfl, ho⟩⟩
  · have HB2 := Lib.hid (HB1.out.trans (hb2.mono HB1.out.size))
    have HR2 := Lib.hid (HR1.out.below hb2 HR1.out.lt)
    have HCN := Lib.hid hc
    obtain ⟨q0, q1, q2⟩ := HR2.out.ats
    obtain ⟨f0, f1, f2⟩ := HR2.out.fzs
    have hne : (C != 0) = true := by have := HCN.out; rw [HC.out] at this; simpa using this
    have HE : Hid (sortN N = emptyN) := Lib.hid (by unfold sortN; rw [if_neg HCN.out])
    rw [HC.out]
    clear hb2 hc
    go_wp2_with fail
    obtain ⟨y0, y1, y2⟩ := (HR2.out.set3 (.slice none 0 0) (.slice none 0 0) (.slice none 0 0)).ats
    refine bodyPost_ret (v := .tuple #[.agg #[.slice none 0 0, .slice none 0 0, .slice none 0 0], .int .i64 C]) (by simp [results, Try.results20, go_sem, y0, y1, y2]) rfl ⟨?_, _, _, _, by rw [HC.out], by rw [HE.out]; exact net_nil _⟩
    exact ((HB2.out.setCell (p := ⟨w.heap.size + 1, 0, none⟩) (by simp) _).setCell (p := ⟨w.heap.size + 1, 1, none⟩) (by simp) _).setCell (p := ⟨w.heap.size + 1, 2, none⟩) (by simp) _
  · have HCN := Lib.hid hc
    have hC0 : C = 0 := by rw [← HC.out]; exact hc
    subst hC0
    have HB2 := Lib.hid hb2
    have hol : (orderN N).length = n := by rw [order_len hc]; exact HN.out
    rw [hol] at ho
    have HOL := Lib.hid hol
    have HO2 : Hid (Ints w2 v (natI (orderN N))) := Lib.hid (Ints.of_own (b := w1.heap.size) (l := natI (orderN N)) (by rw [show (natI (orderN N)).length = n by unfold natI; simp; exact hol]; exact ho))
    obtain ⟨oA, oc, rfl⟩ : ∃ A c, v = .slice A n c := by
      obtain ⟨-, h1 | ⟨g, cap, cur, e, -⟩⟩ := ho
      · have := h1.2; rw [h1.1]; exact ⟨none, 0, by rw [this]⟩
      · exact ⟨_, _, e⟩
    have HX2 := Lib.hid (HX1.out.below hb2 HX1.out.lt)
    have HR2 := Lib.hid (HR1.out.below hb2 HR1.out.lt)
    have HON : Hid (∀ m j, (orderN N)[m]? = some j → j < n) := Lib.hid (fun m j hj => by rw [← HN.out]; exact order_lt (List.mem_of_getElem? hj))
    have HALL : Hid (∀ j, j < n → j ∈ orderN N) := Lib.hid (fun j hj => order_mem HCN.out (by rw [HN.out]; exact hj))
    obtain ⟨q0, q1, q2⟩ := HX2.out.ats
    have hmk := run_make_row' (P := Try.prog) 23 3 (.int .i64 0) 8 Try.underlying23 info3 rfl .i64 .i64 n (by omega) (by omega)
    have HT0 : Hid (∀ W, W = w2.alloc (.cells (madeCells #[.int .i64 0] n) 3) → W.ownsRow w2.heap.size 3 1 (.slice (some ⟨w2.heap.size, 0, none⟩) n n) n (intsOf (numsM (orderN N) n 0)) ∧ Below w2.heap.size w2 W) := Lib.hid (fun W hW => by
      have := heap_alloc_new w2 (.cells (madeCells #[.int .i64 0] n) 3)
      rw [← hW] at this
      refine ⟨own_at (xs := intsOf (numsM (orderN N) n 0)) ?_ (Nat.le_refl _) (by unfold intsOf; rw [List.length_map, nums_len]) (by unfold maxLen; omega), by rw [hW]; exact below_new _ _⟩
      rw [nums_zero, ← made_row]; exact this)
    have hs2 : w.heap.size ≤ w2.heap.size := by have := HB1.out.size; have := hb2.size; omega
    clear hb2 hc ho hol
    go_wp2_with fail
    go_loopw [7] (fun vi wr => ∃ i : Nat, i ≤ n ∧ vi = .int .i64 (i : Int) ∧ wr.ownsRow w2.heap.size 3 1 (.slice (some ⟨w2.heap.size, 0, none⟩) n n) n (intsOf (numsM (orderN N) n i)) ∧ Below w2.heap.size w2 wr) (fun vi _ => n - (intOf vi).toNat)
    case atStart => exact ⟨0, Nat.zero_le _, rfl, (HT0.out _ rfl).1, (HT0.out _ rfl).2⟩
    case round =>
      obtain ⟨i, hi, rfl, ht, hb⟩ := hrel
      have HT := Lib.hid ht
      have HB := Lib.hid hb
      obtain ⟨y0, y1, y2⟩ := (HX2.out.below hb HX2.out.lt).ats
      clear ht hb
      by_cases hin : i < n
      · obtain ⟨j, hj⟩ : ∃ j, (orderN N)[i]? = some j := ⟨_, List.getElem?_eq_getElem (by rw [HOL.out]; exact hin)⟩
        have hjn := HON.out i j hj
        have hj2 : (natI (orderN N))[i]? = some (j : Int) := by unfold natI; rw [List.getElem?_map, hj]; rfl
        obtain ⟨g, o, rfl, hg, e0⟩ := ints_at (HO2.out.below HB.out (Nat.le_refl _)) hj2
        obtain ⟨xv, hxv⟩ : ∃ x, (numsM (orderN N) n i)[j]? = some x := ⟨_, List.getElem?_eq_getElem (by rw [nums_len]; exact hjn)⟩
        have ct := (HT.out.cellAt j (by omega)).trans (intsOf_get _ j _ hxv)
        have ft := HT.out.frozenAt j
        have hst := (HT.out.stored j (.int .i64 (i : Int))).1
        rw [← intsOf_set, nums_set (o := orderN N) (taken_valid (grN N)).nodup hj] at hst
        have HST := Lib.hid hst
        have HBS : Hid (Below w2.heap.size w2 (wr.setCell ⟨w2.heap.size, j, none⟩ (.int .i64 (i : Int)))) := Lib.hid (HB.out.setCell (p := ⟨w2.heap.size, j, none⟩) (Nat.le_refl _) _)
        clear hj hj2 hxv hst
        go_wp2_with fail
        exact ⟨⟨i + 1, by omega, by go_num, HST.out, HBS.out⟩, by simp [intOf]; omega⟩
      · have hie : i = n := by omega
        subst hie
        obtain ⟨v5, w5, hap, ho5, hg5⟩ := copy_ints wr w2.heap.size (.slice none 0 0) (World.ownsRow_nil _ _ _ _) A3 ni c3 N.ins HNI.out.symm (((HH.out.2.2.below HB1.out (Nat.le_refl _)).below HB2.out (Nat.le_refl _)).below HB.out (Nat.le_refl _)) (by omega) HB.out.size
        have hb5 : Below wr.heap.size wr w5 := (Below.refl _ _).grown hg5 (Nat.le_refl _) (fun k hk => by cases hk)
        have HPRE : Hid (Pre w5 N (some ⟨w2.heap.size, 0, none⟩) oA oc (.slice A i c) (.slice A2 nr c2) (.slice A3 ni c3) w.heap.size 25) := Lib.hid (by
          have p : Pre wr N (some ⟨w2.heap.size, 0, none⟩) oA oc (.slice A i c) (.slice A2 nr c2) (.slice A3 ni c3) w.heap.size 25 := by
            refine ⟨?_, ?_, ((HH.out.below HB1.out (Nat.le_refl _)).below HB2.out (Nat.le_refl _)).below HB.out (Nat.le_refl _), HX2.out.below HB.out HX2.out.lt, HR2.out.below HB.out HR2.out.lt⟩
            · have := Ints.of_own (l := numsM (orderN N) i i) (by rw [nums_len]; exact HT.out)
              rw [HN.out, HOL.out]; exact this
            · rw [HN.out]; exact HO2.out.below HB.out (Nat.le_refl _)
          exact p.below hb5)
        have HI5 : Hid (Ints w5 v5 N.ins) := Lib.hid (Ints.of_own (b := w2.heap.size) (by rw [HNI.out]; exact ho5))
        obtain ⟨iA, ic, rfl⟩ : ∃ A c, v5 = .slice A ni c := by
          obtain ⟨-, h1 | ⟨g, cap, cur, e, -⟩⟩ := ho5
          · have := h1.2; rw [h1.1]; exact ⟨none, 0, by rw [this]⟩
          · exact ⟨_, _, e⟩
        have HB5 : Hid (Below w.heap.size w w5) := Lib.hid (((HB1.out.trans (HB2.out.mono HB1.out.size)).trans (HB.out.mono hs2)).trans (hb5.mono (by have := HB.out.size; omega)))
        obtain ⟨t0, t1, t2⟩ := HPRE.out.box.ats
        have HX6 : Hid (∀ W, W = w5.alloc (.cells #[.slice none 0 0, .slice none 0 0, .slice iA ni ic] 25) → NetBox W w5.heap.size 25 (.slice none 0 0) (.slice none 0 0) (.slice iA ni ic) ∧ Below w5.heap.size w5 W) := Lib.hid (fun W hW => by rw [hW]; exact ⟨box_new _ _ _ _ _, below_new _ _⟩)
        have hap2 := hap
        have HO5 := Lib.hid ho5
        have hs25 : w2.heap.size ≤ w5.heap.size := by have := HB.out.size; have := hb5.size; omega
        clear ho5 hg5 hb5 hap
        go_wp2_with (at_builtin; refine append_by rfl (.const (.slice none 0 0)) (.tmp 38) 23 rfl _ _ _ rfl rfl hap2 ?_)
        have HOPL : Hid ((sortedN N).ops.length = i) := Lib.hid (by rw [sorted_len HCN.out]; exact HN.out)
        have HTU : Hid (∀ W k, (k = -1 ∨ (0 ≤ k ∧ k < (i : Int))) → Below w5.heap.size w5 W → Calls Try.prog 53 #[.slice (some ⟨w2.heap.size, 0, none⟩) i i, .int .i64 k] W (fun e w' => e = .returned (.int .i64 (toI (orderN N) k)) ∧ w' = W)) := Lib.hid (fun W k hk hW => by
          have := (HPRE.out.below hW).nums
          rw [HN.out] at this
          exact turn_any W _ _ i (orderN N) k this hk HALL.out)
        have hls : w.heap.size + 1 < w5.heap.size := HPRE.out.res.lt
        go_loopw [9] (fun vk wr => ∃ (k : Nat) (A6 : Option Addr) (c6 : Nat), k ≤ i ∧ vk = .int .i64 (k : Int) ∧ Below w5.heap.size w5 wr ∧ wr.ownsRow w5.heap.size 69 5 (.slice A6 k c6) k (opsOf ((sortedN N).ops.take k)) ∧ NetBox wr w5.heap.size 25 (.slice A6 k c6) (.slice none 0 0) (.slice iA ni ic)) (fun vk _ => i - (intOf vk).toNat)
        case atStart => exact ⟨0, none, 0, Nat.zero_le _, rfl, (HX6.out _ rfl).2, by simp [opsOf]; exact World.ownsRow_nil _ _ _ _, (HX6.out _ rfl).1⟩
        case round =>
          obtain ⟨k, A6, c6, hk, rfl, hb, ho, hx⟩ := hrel
          have HBk := Lib.hid hb
          have HOk := Lib.hid ho
          have HXk := Lib.hid hx
          have HPk := Lib.hid (HPRE.out.below hb)
          obtain ⟨t0, t1, t2⟩ := HPk.out.box.ats
          obtain ⟨u0, u1, u2⟩ := hx.ats
          obtain ⟨fu0, fu1, fu2⟩ := hx.fzs
          have hbl := hx.lt
          clear hb ho hx
          by_cases hki : k < i
          · obtain ⟨j, hj⟩ : ∃ j, (orderN N)[k]? = some j := ⟨_, List.getElem?_eq_getElem (by rw [HOL.out]; exact hki)⟩
            have hji := HON.out k j hj
            have hj2 : (natI (orderN N))[k]? = some (j : Int) := by unfold natI; rw [List.getElem?_map, hj]; rfl
            have hord := HPk.out.ord
            rw [HN.out] at hord
            obtain ⟨g, o, rfl, hg, e0⟩ := ints_at hord hj2
            have hxx := op_get (N := N) (i := j) (by rw [HN.out]; exact hji)
            obtain ⟨g2, o2, rfl, hg2, d0, d1, d2, d3, d4⟩ := HPk.out.net.1.at hxx
            have hmay := may_at (check_ok.1 HCN.out).1 (i := j) (by rw [HN.out]; exact hji)
            have HSO : Hid ((sortedN N).ops[k]? = some (turnOp (orderN N) (opAt N j))) := Lib.hid (by
              have e := op_get (N := sortedN N) (i := k) (by rw [HOPL.out]; exact hki)
              rw [sorted_at hj] at e; exact e)
            have HFL : Hid (∀ y ∈ [(opAt N j).a, (opAt N j).b, (opAt N j).c], y = -1 ∨ (0 ≤ y ∧ y < (i : Int))) := Lib.hid (fun y hy => by
              obtain ⟨-, m1, m2⟩ := may_flds hmay
              rw [← List.take_append_drop (kids (opAt N j).op).toNat [(opAt N j).a, (opAt N j).b, (opAt N j).c], List.mem_append] at hy
              rcases hy with hy | hy
              · have := m1 y hy; rw [HN.out] at this; exact .inr this
              · exact .inl (m2 y hy))
            obtain ⟨xx, hxx2⟩ : ∃ x, opAt N j = x := ⟨_, rfl⟩
            rw [hxx2] at d0 d1 d2 d3 d4 HSO HFL
            obtain ⟨xo, xa, xb, xc, xn⟩ := xx
            dsimp only at d0 d1 d2 d3 d4
            have HSO2 : Hid (opsOf ((sortedN N).ops.take (k + 1)) = opsOf ((sortedN N).ops.take k) ++ opCells ⟨xo, toI (orderN N) xa, toI (orderN N) xb, toI (orderN N) xc, xn⟩) := Lib.hid (by rw [List.take_add_one, HSO.out]; exact ops_snoc _ _)
            have HFA := Lib.hid (HFL.out xa (by simp))
            have HFB := Lib.hid (HFL.out xb (by simp))
            have HFC := Lib.hid (HFL.out xc (by simp))
            have HNEW : Hid (∀ W, W = wr.alloc (.cells #[.int .i64 xo, .int .i64 xa, .int .i64 xb, .int .i64 xc, .int .i64 xn] 69) ∨ W = (wr.alloc (.cells #[.int .i64 xo, .int .i64 xa, .int .i64 xb, .int .i64 xc, .int .i64 xn] 69)).drew → Below wr.heap.size wr W ∧ OpBox W wr.heap.size 69 ⟨xo, xa, xb, xc, xn⟩) := Lib.hid (fun W hW => by
              rcases hW with rfl | rfl
              · exact ⟨below_new _ _, ⟨heap_alloc_new _ _⟩⟩
              · exact ⟨(below_new _ _).drew, ⟨heap_alloc_new wr _⟩⟩)
            obtain ⟨ta, hta⟩ : ∃ y, toI (orderN N) xa = y := ⟨_, rfl⟩
            obtain ⟨tb, htb⟩ : ∃ y, toI (orderN N) xb = y := ⟨_, rfl⟩
            obtain ⟨tc, htc⟩ : ∃ y, toI (orderN N) xc = y := ⟨_, rfl⟩
            have HTA := Lib.hid (fun W h => HTU.out W xa HFA.out h)
            have HTB := Lib.hid (fun W h => HTU.out W xb HFB.out h)
            have HTC := Lib.hid (fun W h => HTU.out W xc HFC.out h)
            rw [hta] at HTA
            rw [htb] at HTB
            rw [htc] at HTC
            rw [hta, htb, htc] at HSO2
            have hsk : w5.heap.size ≤ wr.heap.size := HBk.out.size
            have hne : w5.heap.size ≠ wr.heap.size := by omega
            have hne2 : wr.heap.size ≠ w5.heap.size := by omega
            clear hj hj2 hord hxx hmay hxx2 hta htb htc
            go_wp2_with fail
            go_region_held3 (fun W => W.cell? ⟨w.heap.size, 0, none⟩ = some (.slice (some ⟨g2, o2, none⟩) i c) ∧ W.cell? ⟨g, o + k, none⟩ = some (.int .i64 (j : Int)) ∧ W.cell? ⟨g2, o2 + j * 5, none⟩ = some (.int .i64 xo) ∧ W.cell? ⟨g2, o2 + j * 5 + 1, none⟩ = some (.int .i64 xa) ∧ W.cell? ⟨g2, o2 + j * 5 + 2, none⟩ = some (.int .i64 xb) ∧ W.cell? ⟨g2, o2 + j * 5 + 3, none⟩ = some (.int .i64 xc) ∧ W.cell? ⟨g2, o2 + j * 5 + 4, none⟩ = some (.int .i64 xn))
              (go_keep) (fail)
            all_goals
              obtain ⟨nb, nx⟩ := HNEW.out _ (.inr rfl)
              have HNB := Lib.hid nb
              have HNX := Lib.hid nx
              clear nb nx
              go_wp2_with fail
              refine (HTA.out _ (HBk.out.trans (HNB.out.mono hsk))).mono ?_
              rintro e w6 ⟨rfl, hw6⟩
              have HB6 : Hid (Below wr.heap.size wr w6) := Lib.hid (by rw [hw6]; exact HNB.out)
              have HO6 : Hid (OpBox w6 wr.heap.size 69 ⟨xo, xa, xb, xc, xn⟩) := Lib.hid (by rw [hw6]; exact HNX.out)
              obtain ⟨a0, a1, a2, a3, a4, fa1, fa2, fa3⟩ := HO6.out.ats
              have HB6s : Hid (Below wr.heap.size wr (w6.setCell ⟨wr.heap.size, 1, none⟩ (.int .i64 ta))) := Lib.hid (HB6.out.setCell (p := ⟨wr.heap.size, 1, none⟩) (Nat.le_refl _) _)
              clear hw6
              go_wp2_with fail
              refine (HTB.out _ (HBk.out.trans (HB6s.out.mono hsk))).mono ?_
              rintro e w7 ⟨rfl, hw7⟩
              have HB7 : Hid (Below wr.heap.size wr w7) := Lib.hid (by rw [hw7]; exact HB6s.out)
              have HO7 : Hid (OpBox w7 wr.heap.size 69 ⟨xo, ta, xb, xc, xn⟩) := Lib.hid (by rw [hw7]; exact HO6.out.setA ta)
              obtain ⟨b0, b1, b2, b3, b4, fb1, fb2, fb3⟩ := HO7.out.ats
              have HB7s : Hid (Below wr.heap.size wr (w7.setCell ⟨wr.heap.size, 2, none⟩ (.int .i64 tb))) := Lib.hid (HB7.out.setCell (p := ⟨wr.heap.size, 2, none⟩) (Nat.le_refl _) _)
              clear hw7 a0 a1 a2 a3 a4 fa1 fa2 fa3
              go_wp2_with fail
              refine (HTC.out _ (HBk.out.trans (HB7s.out.mono hsk))).mono ?_
              rintro e w8 ⟨rfl, hw8⟩
              have HB8 : Hid (Below wr.heap.size wr w8) := Lib.hid (by rw [hw8]; exact HB7s.out)
              have HO8 : Hid (OpBox w8 wr.heap.size 69 ⟨xo, ta, tb, xc, xn⟩) := Lib.hid (by rw [hw8]; exact HO7.out.setB tb)
              obtain ⟨v0, v1, v2, v3, v4, fv1, fv2, fv3⟩ := HO8.out.ats
              have HB8s : Hid (Below wr.heap.size wr (w8.setCell ⟨wr.heap.size, 3, none⟩ (.int .i64 tc))) := Lib.hid (HB8.out.setCell (p := ⟨wr.heap.size, 3, none⟩) (Nat.le_refl _) _)
              have HX8 := Lib.hid (HXk.out.below HB8.out HXk.out.lt)
              obtain ⟨x0, x1, x2⟩ := HX8.out.ats
              have HOs : Hid ((w8.setCell ⟨wr.heap.size, 3, none⟩ (.int .i64 tc)).ownsRow w5.heap.size 69 5 (.slice A6 k c6) k (opsOf ((sortedN N).ops.take k))) := Lib.hid (own_below HOk.out HB8s.out)
              have HXs : Hid (NetBox (w8.setCell ⟨wr.heap.size, 3, none⟩ (.int .i64 tc)) w5.heap.size 25 (.slice A6 k c6) (.slice none 0 0) (.slice iA ni ic)) := Lib.hid (HXk.out.below HB8s.out HXk.out.lt)
              have hs8 : (w8.setCell ⟨wr.heap.size, 3, none⟩ (.int .i64 tc)).heap.size = w8.heap.size := by simp
              have hl8 := HO8.out.lt
              have HCN8 : Hid (∀ (q : Nat) u, (opCells ⟨xo, ta, tb, tc, xn⟩)[q]? = some u → ((w8.setCell ⟨wr.heap.size, 3, none⟩ (.int .i64 tc)).alloc (.cells #[.int .i64 xo, .int .i64 ta, .int .i64 tb, .int .i64 tc, .int .i64 xn] 69)).cell? ((⟨w8.heap.size, 0, none⟩ : Addr).add q) = some u) := Lib.hid (by
                have h5 := heap_alloc_new (w8.setCell ⟨wr.heap.size, 3, none⟩ (.int .i64 tc)) (.cells #[.int .i64 xo, .int .i64 ta, .int .i64 tb, .int .i64 tc, .int .i64 xn] 69)
                rw [hs8] at h5
                exact World.news_of_block (cs := #[.int .i64 xo, .int .i64 ta, .int .i64 tb, .int .i64 tc, .int .i64 xn]) h5)
              have HS8 := Lib.hid hs8
              clear hw8 b0 b1 b2 b3 b4 fb1 fb2 fb3 hs8
              go_wp2_with (at_builtin; refine wpList_append_own_at _ rfl (.tmp 71) (.tmp 73) 22 rfl w5.heap.size 69 j0 (.agg #[.int .i64 0, .int .i64 0, .int .i64 0, .int .i64 0, .int .i64 0]) 5 40 Try.underlying22 hj0 hy0 hy1 hy2 rfl (by decide) _ _ _ rfl (HOs.out.alloc _) ⟨w8.heap.size, 0, none⟩ 1 1 (opCells ⟨xo, ta, tb, tc, xn⟩) rfl rfl HCN8.out ?b1 ?c1 ?d1 ?e1 ?_)
              case b1 => intro u hu; simp [opCells] at hu; rcases hu with rfl | rfl | rfl | rfl | rfl <;> rfl
              case c1 => unfold maxLen; omega
              case d1 => omega
              case e1 => first | omega | (simp; omega)
              intro v' wn hown7 hgrow7 _ hat7
              have hn2 : (Value.slice A6 k c6).ownBlock ≠ some w5.heap.size := fun e => by
                obtain ⟨cs, hc⟩ := own_cells HOs.out e
                have := HXs.out.cell
                rw [hc] at this; simp at this
              have hb8 : Below w5.heap.size w5 wn := ((HBk.out.trans (HB8s.out.mono hsk)).alloc (by rw [HS8.out]; omega) _).grown hgrow7 (by rw [show ((w8.setCell ⟨wr.heap.size, 3, none⟩ (.int .i64 tc)).alloc (.cells #[.int .i64 xo, .int .i64 ta, .int .i64 tb, .int .i64 tc, .int .i64 xn] 69)).heap.size = w8.heap.size + 1 by simp]; omega) (fun q hq => (HOs.out.lt q hq).1)
              have hx8 : NetBox wn w5.heap.size 25 (.slice A6 k c6) (.slice none 0 0) (.slice iA ni ic) := ⟨(hgrow7.block _ (by rw [show ((w8.setCell ⟨wr.heap.size, 3, none⟩ (.int .i64 tc)).alloc (.cells #[.int .i64 xo, .int .i64 ta, .int .i64 tb, .int .i64 tc, .int .i64 xn] 69)).heap.size = w8.heap.size + 1 by simp]; omega) (fun e => hn2 e.symm)).trans ((Below.heap_alloc _ _ _ HXs.out.lt).trans HXs.out.cell)⟩
              have HO9 : Hid (wn.ownsRow w5.heap.size 69 5 v' (k + 1) (opsOf ((sortedN N).ops.take (k + 1)))) := Lib.hid (by rw [HSO2.out]; exact hown7)
              obtain ⟨A7, c7, rfl⟩ : ∃ A c, v' = .slice A (k + 1) c := by
                obtain ⟨-, h1 | ⟨g, cap, cur, e, -⟩⟩ := hown7
                · omega
                · exact ⟨_, _, e⟩
              have hv2 : (Value.slice A7 (k + 1) c7).ownBlock ≠ some w5.heap.size := fun e => by
                obtain ⟨cs, hc⟩ := own_cells HO9.out e
                have := hx8.cell
                rw [hc] at this; simp at this
              obtain ⟨r0, r1, r2⟩ := hx8.ats
              obtain ⟨fr0, fr1, fr2⟩ := hx8.fzs
              have HEND : Hid (Below w5.heap.size w5 (wn.setCell ⟨w5.heap.size, 0, none⟩ (.slice A7 (k + 1) c7)) ∧ (wn.setCell ⟨w5.heap.size, 0, none⟩ (.slice A7 (k + 1) c7)).ownsRow w5.heap.size 69 5 (.slice A7 (k + 1) c7) (k + 1) (opsOf ((sortedN N).ops.take (k + 1))) ∧ NetBox (wn.setCell ⟨w5.heap.size, 0, none⟩ (.slice A7 (k + 1) c7)) w5.heap.size 25 (.slice A7 (k + 1) c7) (.slice none 0 0) (.slice iA ni ic)) := Lib.hid
                ⟨hb8.setCell (p := ⟨w5.heap.size, 0, none⟩) (Nat.le_refl _) _, own_block HO9.out (fun q hq => Below.heap_setCell _ _ _ _ (fun e => hv2 (by rw [hq, e]))), ⟨by have := hx8.cell; simp [World.setCell, Array.getElem?_modify, this]⟩⟩
              clear hown7 hgrow7 hat7 hn2 hb8 hx8 hv2 v0 v1 v2 v3 v4 fv1 fv2 fv3 x0 x1 x2
              go_wp2_with fail
              exact ⟨⟨k + 1, A7, c7, by omega, by go_num, HEND.out.1, HEND.out.2.1, HEND.out.2.2⟩, by simp [intOf]; omega⟩
          · have hke : k = i := by omega
            subst hke
            have HRL : Hid ((sortedN N).roots.length = nr) := Lib.hid (by show (N.roots.map _).length = nr; rw [List.length_map]; exact HNR.out)
            obtain ⟨wm, hwm⟩ : ∃ W, W = wr := ⟨_, rfl⟩
            subst hwm
            clear hki hk
            go_wp2_with fail
            go_loopw [11] (fun vq wr => ∃ (q : Nat) (A7 : Option Addr) (c7 : Nat), q ≤ nr ∧ vq = .int .i64 (q : Int) ∧ Below w5.heap.size w5 wr ∧ wr.ownsRow w5.heap.size 69 5 (.slice A6 k c6) k (opsOf ((sortedN N).ops.take k)) ∧ wr.ownsRow w5.heap.size 3 1 (.slice A7 q c7) q (intsOf ((sortedN N).roots.take q)) ∧ NetBox wr w5.heap.size 25 (.slice A6 k c6) (.slice A7 q c7) (.slice iA ni ic)) (fun vq _ => nr - (intOf vq).toNat)
            case atStart => exact ⟨0, none, 0, Nat.zero_le _, rfl, HBk.out, HOk.out, by simp [intsOf]; exact World.ownsRow_nil _ _ _ _, HXk.out⟩
            case round =>
              obtain ⟨q, A7, c7, hq, rfl, hb, ho, ho2, hx⟩ := hrel
              have HBq := Lib.hid hb
              have HOq := Lib.hid ho
              have HRq := Lib.hid ho2
              have HXq := Lib.hid hx
              have HPq := Lib.hid (HPRE.out.below hb)
              obtain ⟨t0, t1, t2⟩ := HPq.out.box.ats
              obtain ⟨u0, u1, u2⟩ := hx.ats
              obtain ⟨fu0, fu1, fu2⟩ := hx.fzs
              have hbl := hx.lt
              clear hb ho ho2 hx
              by_cases hql : q < nr
              · obtain ⟨y, hy⟩ : ∃ y, N.roots[q]? = some y := ⟨_, List.getElem?_eq_getElem (by rw [HNR.out]; exact hql)⟩
                have hyr := isOp_iff.1 (by
                  have hm := (check_ok.1 HCN.out).1
                  unfold mayN at hm
                  simp only [Bool.and_eq_true, List.all_eq_true] at hm
                  exact hm.2 y (List.mem_of_getElem? hy))
                rw [HN.out] at hyr
                obtain ⟨j, rfl⟩ : ∃ j : Nat, y = (j : Int) := ⟨y.toNat, by omega⟩
                have hjk : j < k := by omega
                obtain ⟨g, o, rfl, hg, e0⟩ := ints_at HPq.out.net.2.1 hy
                have hnm := HPq.out.nums
                rw [HN.out] at hnm
                obtain ⟨g2, o2, eg, hg2, e1⟩ := ints_at hnm (nums_get hjk (HALL.out j hjk))
                simp only [Option.some.injEq, Addr.mk.injEq, and_true] at eg
                obtain ⟨rfl, rfl⟩ := eg
                rw [Nat.zero_add] at e1
                obtain ⟨nj, hnj⟩ : ∃ v, newOf (orderN N) j = v := ⟨_, rfl⟩
                have HRT : Hid (intsOf ((sortedN N).roots.take (q + 1)) = intsOf ((sortedN N).roots.take q) ++ [.int .i64 (nj : Int)]) := Lib.hid (by
                  have e : (sortedN N).roots[q]? = some (nj : Int) := by
                    show (N.roots.map (toI (orderN N)))[q]? = _
                    rw [List.getElem?_map, hy, ← hnj]; exact congrArg some (toI_nat _ _)
                  rw [List.take_add_one, e]; exact ints_snoc _ _)
                rw [hnj] at e1
                have HQ3 : Hid (∀ w2' : World, ((wr.drew).alloc (.cells #[.int .i64 (nj : Int)] 3)).grownBy w2' (Value.slice A7 q c7).ownBlock → NetBox w2' w5.heap.size 25 (.slice A6 k c6) (.slice A7 q c7) (.slice iA ni ic)) := Lib.hid (fun w2' hg => by
                  have hn2 : (Value.slice A7 q c7).ownBlock ≠ some w5.heap.size := fun e => by
                    obtain ⟨cs, hc⟩ := own_cells HRq.out e
                    have := HXq.out.cell
                    rw [hc] at this; simp at this
                  exact ⟨(hg.block _ (by simp; omega) (fun e => hn2 e.symm)).trans ((Below.heap_alloc _ _ _ hbl).trans HXq.out.cell)⟩)
                have HEND : Hid (∀ gg cap (w2' : World), w2'.ownsRow w5.heap.size 3 1 (.slice (some ⟨gg, 0, none⟩) (q + 1) cap) (q + 1) (intsOf ((sortedN N).roots.take q) ++ [.int .i64 (nj : Int)]) → ((wr.drew).alloc (.cells #[.int .i64 (nj : Int)] 3)).grownBy w2' (Value.slice A7 q c7).ownBlock →
                    Below w5.heap.size w5 (w2'.setCell ⟨w5.heap.size, 1, none⟩ (.slice (some ⟨gg, 0, none⟩) (q + 1) cap)) ∧ (w2'.setCell ⟨w5.heap.size, 1, none⟩ (.slice (some ⟨gg, 0, none⟩) (q + 1) cap)).ownsRow w5.heap.size 69 5 (.slice A6 k c6) k (opsOf ((sortedN N).ops.take k)) ∧
                    (w2'.setCell ⟨w5.heap.size, 1, none⟩ (.slice (some ⟨gg, 0, none⟩) (q + 1) cap)).ownsRow w5.heap.size 3 1 (.slice (some ⟨gg, 0, none⟩) (q + 1) cap) (q + 1) (intsOf ((sortedN N).roots.take (q + 1))) ∧ NetBox (w2'.setCell ⟨w5.heap.size, 1, none⟩ (.slice (some ⟨gg, 0, none⟩) (q + 1) cap)) w5.heap.size 25 (.slice A6 k c6) (.slice (some ⟨gg, 0, none⟩) (q + 1) cap) (.slice iA ni ic)) := Lib.hid (fun gg cap w2' ho hg => by
                  have hx := HQ3.out w2' hg
                  have sc : ∀ p, p ≠ w5.heap.size → (w2'.setCell ⟨w5.heap.size, 1, none⟩ (.slice (some ⟨gg, 0, none⟩) (q + 1) cap)).heap[p]? = w2'.heap[p]? := fun p hp => Below.heap_setCell _ _ _ _ hp
                  have hbs : Below w5.heap.size w5 w2' := (HBq.out.drew.alloc (show w5.heap.size ≤ wr.drew.heap.size from HBq.out.size) _).grown hg (by have := HBq.out.size; simp; omega) (fun p hp => (HRq.out.lt p hp).1)
                  refine ⟨hbs.setCell (p := ⟨w5.heap.size, 1, none⟩) (Nat.le_refl _) _, own_block HOq.out (fun p hp => ?_), ?_, ⟨by have := hx.cell; simp [World.setCell, Array.getElem?_modify, this]⟩⟩
                  · have hpl := (HOq.out.lt p hp).2
                    have hp1 : p ≠ w5.heap.size := fun e => by
                      obtain ⟨cs, hc⟩ := own_cells HOq.out hp
                      have := HXq.out.cell
                      rw [e, this] at hc; simp at hc
                    have hp2 : (Value.slice A7 q c7).ownBlock ≠ some p := own_two HOq.out HRq.out (by decide) hp
                    rw [sc p hp1, hg.block p (by simp; omega) (fun e => hp2 e.symm), Below.heap_alloc _ _ _ (show p < wr.drew.heap.size from hpl)]; rfl
                  · rw [HRT.out]
                    exact own_block ho (fun p hp => sc p (fun e => by
                      obtain ⟨cs, hc⟩ := own_cells ho hp
                      have := hx.cell
                      rw [e, this] at hc; simp at hc)))
                clear hy hyr hnm hnj
                go_wp2_with fail
                go_region_law (refine step_append_lies _ (by rfl) _ _ _ (by rfl) w5.heap.size 3 i0 _ 1 8 Try.underlying23 hi0 hz0 hz1 hz2 rfl (by omega) (.slice A7 q c7) q (intsOf ((sortedN N).roots.take q)) (by rfl) (by exact HRq.out.alloc _) ⟨wr.heap.size, 0, none⟩ 1 1 [.int .i64 (nj : Int)] (by rfl) (by rfl) (World.news_of_block (cs := #[.int .i64 (nj : Int)]) (t := 3) (fr := (0, 0)) (heap_alloc_new _ _)) (by simp [Value.oneCell']) (by omega) (by unfold maxLen; omega) (by omega) (by simp; omega) (wr.heap.size + 1) (by simp) ?_; intro gg cap w2' hown2 hgrow hat hlt; obtain ⟨r0, r1, r2⟩ := (HQ3.out w2' hgrow).ats; obtain ⟨fr0, fr1, fr2⟩ := (HQ3.out w2' hgrow).fzs)
                all_goals
                  obtain ⟨g1, g2, g3, g4⟩ := HEND.out gg cap w2' hown2 hgrow
                  have HE1 := Lib.hid g1
                  have HE2 := Lib.hid g2
                  have HE3 := Lib.hid g3
                  have HE4 := Lib.hid g4
                  clear g1 g2 g3 g4 hown2 hgrow hat hlt
                  go_wp2_with fail
                  exact ⟨⟨q + 1, some ⟨gg, 0, none⟩, cap, by omega, by go_num, HE1.out, HE2.out, HE3.out, HE4.out⟩, by simp [intOf]; omega⟩
              · have hqe : q = nr := by omega
                subst hqe
                obtain ⟨m0, m1, m2⟩ := HPq.out.res.ats
                obtain ⟨fm0, fm1, fm2⟩ := HPq.out.res.fzs
                have HFIN : Hid (∀ W, W = ((wr.setCell ⟨w.heap.size + 1, 0, none⟩ (.slice A6 k c6)).setCell ⟨w.heap.size + 1, 1, none⟩ (.slice A7 q c7)).setCell ⟨w.heap.size + 1, 2, none⟩ (.slice iA ni ic) → Below w.heap.size w W ∧ NetR W (.slice A6 k c6) (.slice A7 q c7) (.slice iA ni ic) (sortN N)) := Lib.hid (fun W hW => by
                  subst hW
                  have sc : ∀ p, p ≠ w.heap.size + 1 → (((wr.setCell ⟨w.heap.size + 1, 0, none⟩ (.slice A6 k c6)).setCell ⟨w.heap.size + 1, 1, none⟩ (.slice A7 q c7)).setCell ⟨w.heap.size + 1, 2, none⟩ (.slice iA ni ic)).heap[p]? = wr.heap[p]? := fun p hp => by
                    rw [Below.heap_setCell _ _ _ _ hp, Below.heap_setCell _ _ _ _ hp, Below.heap_setCell _ _ _ _ hp]
                  have k1 := own_block HOq.out (fun p hp => sc p (by have := (HOq.out.lt p hp).1; omega))
                  have k2 := own_block HRq.out (fun p hp => sc p (by have := (HRq.out.lt p hp).1; omega))
                  have k3 := own_block (own_below HO5.out HBq.out) (fun p hp => sc p (by have := (HO5.out.lt p hp).1; have := HR2.out.lt; omega))
                  refine ⟨(((HB5.out.trans (HBq.out.mono HB5.out.size)).setCell (p := ⟨w.heap.size + 1, 0, none⟩) (by simp) _).setCell (p := ⟨w.heap.size + 1, 1, none⟩) (by simp) _).setCell (p := ⟨w.heap.size + 1, 2, none⟩) (by simp) _, ?_⟩
                  have e : sortN N = sortedN N := by unfold sortN; rw [if_pos HCN.out]
                  rw [e]
                  rw [← HOPL.out, List.take_length] at k1
                  rw [← HRL.out, List.take_length] at k2
                  have k1' := OpsR.of_own k1
                  rw [HOPL.out] at k1'
                  have k2' := Ints.of_own k2
                  rw [HRL.out] at k2'
                  have k3' := Ints.of_own (l := N.ins) (by rw [HNI.out]; exact k3)
                  exact ⟨k1', k2', k3'⟩)
                have hzz : w.heap.size + 1 ≠ w5.heap.size := by omega
                have hzz2 : w5.heap.size ≠ w.heap.size + 1 := by omega
                go_wp2_with fail
                obtain ⟨y0, y1, y2⟩ := (HPq.out.res.set3 (.slice A6 k c6) (.slice A7 q c7) (.slice iA ni ic)).ats
                exact bodyPost_ret (v := .tuple #[.agg #[.slice A6 k c6, .slice A7 q c7, .slice iA ni ic], .int .i64 0]) (by simp [results, Try.results20, go_sem, y0, y1, y2]) rfl ⟨(HFIN.out _ rfl).1, _, _, _, by rw [HCN.out], (HFIN.out _ rfl).2⟩
end Go.Proofs.Ytcphjehjdhgheaa.Nt
