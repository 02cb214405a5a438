/- Layer sched: Sort. Conditions: the net has at most 1000 operators, roots, inputs. -/
import Derived.Test.YtcphjehjdhgheaaNtS
import Derived.Test.YtcphjehjdhgheaaNtO2
import Derived.Test.YtcphjehjdhgheaaNtQc
import Derived.Deep.AppendLies
namespace Go.Proofs.Ytcphjehjdhgheaa.Nt
open Go.ChangeShapes Go.WideShapes Go.ChangeAt Go.RowKit Go.Proofs.Ytcphjehjdhgheaa.Tr
set_option linter.unusedVariables false
set_option linter.unusedSimpArgs false

theorem infoN : (Try.prog.info? 79).map (fun i => (i.zero, i.size, i.bytes)) = some (some (.agg #[.int .i64 0, .int .i64 0, .int .i64 0, .int .i64 0, .int .i64 0]), 5, 40) := by kernel_rfl
theorem eSort1 : ∀ args w, (callFunc 51 args).run Try.prog w = .ok (.enter 51 args) w := by intro a w; kernel_rfl
set_option maxRecDepth 100000 in
set_option maxHeartbeats 1600000 in
/-- A row's copy. -/
theorem clone_any (w : World) (A : Option Addr) (n c : Nat) (l : List Int) (hn : n = l.length) (hI : Ints w (.slice A n c) l) (hm : n ≤ 1000000) : Calls Try.prog 52 #[.slice A n c] w (fun e w' => ∃ v, e = .returned v ∧ w'.ownsRow w.heap.size 3 1 v n (intsOf l) ∧ Below w.heap.size w w') := by
  cases A with
  | none =>
    have h0 : n = 0 := by
      by_cases hz : n = 0
      · exact hz
      · obtain ⟨x, hx⟩ : ∃ x, l[0]? = some x := ⟨_, List.getElem?_eq_getElem (by omega)⟩
        obtain ⟨g, o, e, -⟩ := ints_at hI hx
        cases e
    subst h0
    have hl : l = [] := List.length_eq_zero_iff.1 hn.symm
    subst hl
    have he : ∀ w : World, (binOp .eql 23 (.slice none 0 c) (.slice none 0 0)).run Try.prog w = .ok (.bool true) w := fun _ => rfl
    clear hI hn
    go_enter Try.func52, Try.ntmps52
    go_wp2
    (first | go_ret | go_ret2)
    exact ⟨_, rfl, World.ownsRow_nil _ _ _ _, Below.refl _ _⟩
  | some ad =>
    have hI1 : Ints (w.alloc (.cells #[] 3)) (.slice (some ad) n c) l := hI.below (below_new w _) (Nat.le_refl _)
    have hown0 : (w.alloc (.cells #[] 3)).ownsRow w.heap.size 3 1 (.slice (some ⟨w.heap.size, 0, none⟩) 0 0) 0 (intsOf []) := by
      have := World.ownsRow_lit (base := w.heap.size) (e := 3) (size := 1) w #[] 0 (Nat.le_refl _) (by unfold maxLen; omega) (by simp)
      simpa [intsOf] using this
    obtain ⟨v', w', hap, ho, hg⟩ := copy_ints (w.alloc (.cells #[] 3)) w.heap.size _ hown0 (some ad) n c l hn hI1 hm (by simp)
    have HO := Lib.hid ho
    have HB : Hid (Below w.heap.size w w') := Lib.hid ((below_new w _).grown hg (by simp) (fun k hk => by
      have e : some w.heap.size = some k := hk
      injection e with e; omega))
    have he : ∀ w : World, (binOp .eql 23 (.slice (some ad) n c) (.slice none 0 0)).run Try.prog w = .ok (.bool false) w := fun _ => rfl
    have hap2 := hap
    clear hI hI1 hown0 ho hg hap hn
    go_enter Try.func52, Try.ntmps52
    go_wp2_with (at_builtin; refine append_by rfl (.tmp 5) (.tmp 6) 23 rfl _ _ _ rfl rfl hap2 ?_)
    (first | go_ret | go_ret2)
    exact ⟨_, rfl, HO.out, HB.out⟩
/-- A slice that was made behind a world. -/
def Fr (B : Nat) (v : Value) : Prop := ∀ g, v.ownBlock = some g → B ≤ g
def SortPostF (w : World) (N : Net) (e : Ending) (w' : World) : Prop :=
  Below w.heap.size w w' ∧ ∃ ov rv iv, e = .returned (.tuple #[.agg #[ov, rv, iv], .int .i64 (checkN N)]) ∧ NetR w' ov rv iv (sortN N) ∧ Fr w.heap.size iv
set_option maxRecDepth 100000 in
set_option maxHeartbeats 8000000 in
theorem ssortF_any (w : World) (ov rv iv : Value) (N : Net) (h : NetR w ov rv iv N) (hn3 : N.ops.length ≤ 1000) (hr3 : N.roots.length ≤ 1000) (hi3 : N.ins.length ≤ 1000) : Calls Try.prog 19 #[.agg #[ov, rv, iv]] w (SortPostF w N) := by
  obtain ⟨i0, hi0, hz0, hz1, hz2⟩ := info_parts info3
  obtain ⟨j0, hj0, hy0, hy1, hy2⟩ := info_parts infoN
  have HH := Lib.hid h
  obtain ⟨A, c, rfl, z1, z2⟩ := h.1.form
  obtain ⟨A2, c2, rfl, z3, z4⟩ := ints_form h.2.1
  obtain ⟨A3, c3, rfl, z5, z6⟩ := ints_form h.2.2
  obtain ⟨n, hn⟩ : ∃ L, N.ops.length = L := ⟨_, rfl⟩
  obtain ⟨nr, hnr⟩ : ∃ L, N.roots.length = L := ⟨_, rfl⟩
  obtain ⟨ni, hni⟩ : ∃ L, N.ins.length = L := ⟨_, rfl⟩
  have HN := Lib.hid hn
  have HNR := Lib.hid hnr
  have HNI := Lib.hid hni
  rw [hn, hnr, hni] at HH
  rw [hn] at z1 hn3 ⊢
  rw [hnr] at z3 hr3 ⊢
  rw [hni] at z5 hi3 ⊢
  unfold maxLen at z2 z4 z6
  obtain ⟨w1, hw1⟩ : ∃ W, (w.alloc (.cells #[.slice A n c, .slice A2 nr c2, .slice A3 ni c3] 30)).alloc (.cells #[.slice none 0 0, .slice none 0 0, .slice none 0 0] 30) = W := ⟨_, rfl⟩
  have HW1 := Lib.hid hw1
  have HB1 : Hid (Below w.heap.size w w1) := Lib.hid (by rw [← hw1]; exact below2 _ _ _)
  have HX1 : Hid (NetBox w1 w.heap.size 30 (.slice A n c) (.slice A2 nr c2) (.slice A3 ni c3)) := Lib.hid (by rw [← hw1]; exact (box_new w 30 _ _ _).below (below_new _ _) (by simp))
  have HR1 : Hid (NetBox w1 (w.heap.size + 1) 30 (.slice none 0 0) (.slice none 0 0) (.slice none 0 0)) := Lib.hid (by
    rw [← hw1]
    have := box_new (w.alloc (.cells #[.slice A n c, .slice A2 nr c2, .slice A3 ni c3] 30)) 30 (.slice none 0 0) (.slice none 0 0) (.slice none 0 0)
    rw [show (w.alloc (.cells #[.slice A n c, .slice A2 nr c2, .slice A3 ni c3] 30)).heap.size = w.heap.size + 1 by simp] at this
    exact this)
  have HMA := Lib.hid (sorder_any w1 _ _ _ N (HH.out.below HB1.out (Nat.le_refl _)) (by rw [HN.out]; exact hn3) (by rw [HNI.out]; exact hi3))
  obtain ⟨C, hC⟩ : ∃ b, checkN N = b := ⟨_, rfl⟩
  have HC := Lib.hid hC
  obtain ⟨p0, p1, p2⟩ := HX1.out.ats
  clear h hw1 hC hn hnr hni
  go_enter Try.func19, Try.ntmps19
  go_wp2_with fail
  rw [HW1.out]
  go_wp2_with fail
  refine HMA.out.mono ?_
  rintro e w2 ⟨hb2, ⟨hc, rfl⟩ | ⟨hc, v, rfl, ho⟩⟩
  · have HB2 := Lib.hid (HB1.out.trans (hb2.mono HB1.out.size))
    have HR2 := Lib.hid (HR1.out.below hb2 HR1.out.lt)
    have HCN := Lib.hid hc
    obtain ⟨q0, q1, q2⟩ := HR2.out.ats
    obtain ⟨f0, f1, f2⟩ := HR2.out.fzs
    have hne : (C != 0) = true := by have := HCN.out; rw [HC.out] at this; simpa using this
    have HE : Hid (sortN N = emptyN) := Lib.hid (by unfold sortN; rw [if_neg HCN.out])
    rw [HC.out]
    clear hb2 hc
    go_wp2_with fail
    obtain ⟨y0, y1, y2⟩ := (HR2.out.set3 (.slice none 0 0) (.slice none 0 0) (.slice none 0 0)).ats
    refine bodyPost_ret (v := .tuple #[.agg #[.slice none 0 0, .slice none 0 0, .slice none 0 0], .int .i64 C]) (by simp [results, Try.results19, go_sem, y0, y1, y2]) rfl ⟨?_, _, _, _, by rw [HC.out], by rw [HE.out]; exact net_nil _, fun g hg => by cases hg⟩
    exact ((HB2.out.setCell (p := ⟨w.heap.size + 1, 0, none⟩) (by simp) _).setCell (p := ⟨w.heap.size + 1, 1, none⟩) (by simp) _).setCell (p := ⟨w.heap.size + 1, 2, none⟩) (by simp) _
  · have HCN := Lib.hid hc
    have hC0 : C = 0 := by rw [← HC.out]; exact hc
    subst hC0
    have HB2 := Lib.hid hb2
    have hol : (orderN N).length = n := by rw [order_len hc]; exact HN.out
    rw [hol] at ho
    have HOL := Lib.hid hol
    have HO2 : Hid (Ints w2 v (natI (orderN N))) := Lib.hid (Ints.of_own (b := w1.heap.size) (l := natI (orderN N)) (by rw [show (natI (orderN N)).length = n by unfold natI; simp; exact hol]; exact ho))
    obtain ⟨oA, oc, rfl⟩ : ∃ A c, v = .slice A n c := by
      obtain ⟨-, h1 | ⟨g, cap, cur, e, -⟩⟩ := ho
      · have := h1.2; rw [h1.1]; exact ⟨none, 0, by rw [this]⟩
      · exact ⟨_, _, e⟩
    have HX2 := Lib.hid (HX1.out.below hb2 HX1.out.lt)
    have HR2 := Lib.hid (HR1.out.below hb2 HR1.out.lt)
    have HON : Hid (∀ m j, (orderN N)[m]? = some j → j < n) := Lib.hid (fun m j hj => by rw [← HN.out]; exact order_lt (List.mem_of_getElem? hj))
    have HALL : Hid (∀ j, j < n → j ∈ orderN N) := Lib.hid (fun j hj => order_mem HCN.out (by rw [HN.out]; exact hj))
    obtain ⟨q0, q1, q2⟩ := HX2.out.ats
    have hmk := run_make_row' (P := Try.prog) 23 3 (.int .i64 0) 8 Try.underlying23 info3 rfl .i64 .i64 n (by omega) (by omega)
    have HT0 : Hid (∀ W, W = (w2.alloc (.cells (madeCells #[.int .i64 0] n) 3)).alloc (.cells #[.slice (some ⟨w2.heap.size, 0, none⟩) n n] 23) → W.ownsRow w2.heap.size 3 1 (.slice (some ⟨w2.heap.size, 0, none⟩) n n) n (intsOf (numsM (orderN N) n 0)) ∧ Below w2.heap.size w2 W ∧ W.heap[w2.heap.size + 1]? = some (.cells #[.slice (some ⟨w2.heap.size, 0, none⟩) n n] 23 (0, 0))) := Lib.hid (fun W hW => by
      have h1 := heap_alloc_new w2 (.cells (madeCells #[.int .i64 0] n) 3)
      have h2 := heap_alloc_new (w2.alloc (.cells (madeCells #[.int .i64 0] n) 3)) (.cells #[.slice (some ⟨w2.heap.size, 0, none⟩) n n] 23)
      rw [show (w2.alloc (.cells (madeCells #[.int .i64 0] n) 3)).heap.size = w2.heap.size + 1 by simp] at h2
      subst hW
      refine ⟨own_at (xs := intsOf (numsM (orderN N) n 0)) ?_ (Nat.le_refl _) (by unfold intsOf; rw [List.length_map, nums_len]) (by unfold maxLen; omega), below2 _ _ _, h2⟩
      rw [Below.heap_alloc _ _ _ (by simp), nums_zero, ← made_row]; exact h1)
    have hs2 : w.heap.size ≤ w2.heap.size := by have := HB1.out.size; have := hb2.size; omega
    clear hb2 hc ho hol
    go_wp2_with fail
    go_loopw [30] (fun vi wr => ∃ i : Nat, i ≤ n ∧ vi = .int .i64 (i : Int) ∧ wr.ownsRow w2.heap.size 3 1 (.slice (some ⟨w2.heap.size, 0, none⟩) n n) n (intsOf (numsM (orderN N) n i)) ∧ Below w2.heap.size w2 wr ∧ wr.heap[w2.heap.size + 1]? = some (.cells #[.slice (some ⟨w2.heap.size, 0, none⟩) n n] 23 (0, 0))) (fun vi _ => n - (intOf vi).toNat)
    case atStart => exact ⟨0, Nat.zero_le _, rfl, (HT0.out _ rfl).1, (HT0.out _ rfl).2.1, (HT0.out _ rfl).2.2⟩
    case round =>
      obtain ⟨i, hi, rfl, ht, hb, hvar⟩ := hrel
      have HVAR := Lib.hid hvar
      have cvar : wr.cell? ⟨w2.heap.size + 1, 0, none⟩ = some (.slice (some ⟨w2.heap.size, 0, none⟩) n n) := by simp [World.cell?, hvar]
      have HT := Lib.hid ht
      have HB := Lib.hid hb
      obtain ⟨y0, y1, y2⟩ := (HX2.out.below hb HX2.out.lt).ats
      clear ht hb hvar
      by_cases hin : i < n
      · obtain ⟨j, hj⟩ : ∃ j, (orderN N)[i]? = some j := ⟨_, List.getElem?_eq_getElem (by rw [HOL.out]; exact hin)⟩
        have hjn := HON.out i j hj
        have hj2 : (natI (orderN N))[i]? = some (j : Int) := by unfold natI; rw [List.getElem?_map, hj]; rfl
        obtain ⟨g, o, rfl, hg, e0⟩ := ints_at (HO2.out.below HB.out (Nat.le_refl _)) hj2
        obtain ⟨xv, hxv⟩ : ∃ x, (numsM (orderN N) n i)[j]? = some x := ⟨_, List.getElem?_eq_getElem (by rw [nums_len]; exact hjn)⟩
        have ct := (HT.out.cellAt j (by omega)).trans (intsOf_get _ j _ hxv)
        have ft := HT.out.frozenAt j
        have hst := (HT.out.stored j (.int .i64 (i : Int))).1
        rw [← intsOf_set, nums_set (o := orderN N) (taken_valid (grN N)).nodup hj] at hst
        have HST := Lib.hid hst
        have HBS : Hid (Below w2.heap.size w2 (wr.setCell ⟨w2.heap.size, j, none⟩ (.int .i64 (i : Int)))) := Lib.hid (HB.out.setCell (p := ⟨w2.heap.size, j, none⟩) (Nat.le_refl _) _)
        have HVS : Hid ((wr.setCell ⟨w2.heap.size, j, none⟩ (.int .i64 (i : Int))).heap[w2.heap.size + 1]? = some (.cells #[.slice (some ⟨w2.heap.size, 0, none⟩) n n] 23 (0, 0))) := Lib.hid ((Below.heap_setCell _ _ _ _ (by show w2.heap.size + 1 ≠ w2.heap.size; omega)).trans HVAR.out)
        clear hj hj2 hxv hst
        go_wp2_with fail
        exact ⟨⟨i + 1, by omega, by go_num, HST.out, HBS.out, HVS.out⟩, by simp [intOf]; omega⟩
      · have hie : i = n := by omega
        subst hie
        have HCL := Lib.hid (clone_any wr A3 ni c3 N.ins HNI.out.symm (((HH.out.2.2.below HB1.out (Nat.le_refl _)).below HB2.out (Nat.le_refl _)).below HB.out (Nat.le_refl _)) (by omega))
        go_wp2_with fail
        refine HCL.out.mono ?_
        rintro e w5 ⟨v5, rfl, ho5', hb5⟩
        have ho5 : w5.ownsRow w2.heap.size 3 1 v5 ni (intsOf N.ins) := own_base ho5' HB.out.size
        have HPRE : Hid (Pre w5 N (some ⟨w2.heap.size, 0, none⟩) oA oc (.slice A i c) (.slice A2 nr c2) (.slice A3 ni c3) w.heap.size 30) := Lib.hid (by
          have p : Pre wr N (some ⟨w2.heap.size, 0, none⟩) oA oc (.slice A i c) (.slice A2 nr c2) (.slice A3 ni c3) w.heap.size 30 := by
            refine ⟨?_, ?_, ((HH.out.below HB1.out (Nat.le_refl _)).below HB2.out (Nat.le_refl _)).below HB.out (Nat.le_refl _), HX2.out.below HB.out HX2.out.lt, HR2.out.below HB.out HR2.out.lt⟩
            · have := Ints.of_own (l := numsM (orderN N) i i) (by rw [nums_len]; exact HT.out)
              rw [HN.out, HOL.out]; exact this
            · rw [HN.out]; exact HO2.out.below HB.out (Nat.le_refl _)
          exact p.below hb5)
        have HI5 : Hid (Ints w5 v5 N.ins) := Lib.hid (Ints.of_own (b := w2.heap.size) (by rw [HNI.out]; exact ho5))
        obtain ⟨iA, ic, rfl⟩ : ∃ A c, v5 = .slice A ni c := by
          obtain ⟨-, h1 | ⟨g, cap, cur, e, -⟩⟩ := ho5
          · have := h1.2; rw [h1.1]; exact ⟨none, 0, by rw [this]⟩
          · exact ⟨_, _, e⟩
        have HB5 : Hid (Below w.heap.size w w5) := Lib.hid (((HB1.out.trans (HB2.out.mono HB1.out.size)).trans (HB.out.mono hs2)).trans (hb5.mono (by have := HB.out.size; omega)))
        obtain ⟨t0, t1, t2⟩ := HPRE.out.box.ats
        have HX6 : Hid (∀ W, W = w5.alloc (.cells #[.slice none 0 0, .slice none 0 0, .slice iA ni ic] 30) → NetBox W w5.heap.size 30 (.slice none 0 0) (.slice none 0 0) (.slice iA ni ic) ∧ Below w5.heap.size w5 W) := Lib.hid (fun W hW => by rw [hW]; exact ⟨box_new _ _ _ _ _, below_new _ _⟩)
        have HVAR5 : Hid (w5.heap[w2.heap.size + 1]? = some (.cells #[.slice (some ⟨w2.heap.size, 0, none⟩) i i] 23 (0, 0))) := Lib.hid ((hb5.block _ (lt_of_block HVAR.out)).trans HVAR.out)
        have HO5 := Lib.hid ho5
        have hs25 : w2.heap.size ≤ w5.heap.size := by have := HB.out.size; have := hb5.size; omega
        clear ho5 ho5' hb5
        go_wp2_with fail
        have HOPL : Hid ((sortedN N).ops.length = i) := Lib.hid (by rw [sorted_len HCN.out]; exact HN.out)
        have HTU : Hid (∀ W k, (k = -1 ∨ (0 ≤ k ∧ k < (i : Int))) → Below w5.heap.size w5 W → Calls Try.prog 51 #[.int .i64 k, .pointer (some ⟨w2.heap.size + 1, 0, none⟩)] W (fun e w' => e = .returned (.int .i64 (toI (orderN N) k)) ∧ w' = W)) := Lib.hid (fun W k hk hW => by
          have := (HPRE.out.below hW).nums
          rw [HN.out] at this
          have hv : W.cell? ⟨w2.heap.size + 1, 0, none⟩ = some (.slice (some ⟨w2.heap.size, 0, none⟩) i i) := by
            have e := (hW.block _ (lt_of_block HVAR5.out)).trans HVAR5.out
            simp [World.cell?, e]
          exact sort1_any W _ _ i _ (orderN N) k hv this hk HALL.out)
        have he1 := eSort1
        have hls : w.heap.size + 1 < w5.heap.size := HPRE.out.res.lt
        go_loopw [47] (fun vk wr => ∃ (k : Nat) (A6 : Option Addr) (c6 : Nat), k ≤ i ∧ vk = .int .i64 (k : Int) ∧ Below w5.heap.size w5 wr ∧ wr.ownsRow w5.heap.size 79 5 (.slice A6 k c6) k (opsOf ((sortedN N).ops.take k)) ∧ NetBox wr w5.heap.size 30 (.slice A6 k c6) (.slice none 0 0) (.slice iA ni ic)) (fun vk _ => i - (intOf vk).toNat)
        case atStart => exact ⟨0, none, 0, Nat.zero_le _, rfl, (HX6.out _ rfl).2, by simp [opsOf]; exact World.ownsRow_nil _ _ _ _, (HX6.out _ rfl).1⟩
        case round =>
          obtain ⟨k, A6, c6, hk, rfl, hb, ho, hx⟩ := hrel
          have HBk := Lib.hid hb
          have HOk := Lib.hid ho
          have HXk := Lib.hid hx
          have HPk := Lib.hid (HPRE.out.below hb)
          obtain ⟨t0, t1, t2⟩ := HPk.out.box.ats
          obtain ⟨u0, u1, u2⟩ := hx.ats
          obtain ⟨fu0, fu1, fu2⟩ := hx.fzs
          have hbl := hx.lt
          clear hb ho hx
          by_cases hki : k < i
          · obtain ⟨j, hj⟩ : ∃ j, (orderN N)[k]? = some j := ⟨_, List.getElem?_eq_getElem (by rw [HOL.out]; exact hki)⟩
            have hji := HON.out k j hj
            have hj2 : (natI (orderN N))[k]? = some (j : Int) := by unfold natI; rw [List.getElem?_map, hj]; rfl
            have hord := HPk.out.ord
            rw [HN.out] at hord
            obtain ⟨g, o, rfl, hg, e0⟩ := ints_at hord hj2
            have hxx := op_get (N := N) (i := j) (by rw [HN.out]; exact hji)
            obtain ⟨g2, o2, rfl, hg2, d0, d1, d2, d3, d4⟩ := HPk.out.net.1.at hxx
            have hmay := may_at (check_ok.1 HCN.out).1 (i := j) (by rw [HN.out]; exact hji)
            have HSO : Hid ((sortedN N).ops[k]? = some (turnOp (orderN N) (opAt N j))) := Lib.hid (by
              have e := op_get (N := sortedN N) (i := k) (by rw [HOPL.out]; exact hki)
              rw [sorted_at hj] at e; exact e)
            have HFL : Hid (∀ y ∈ [(opAt N j).a, (opAt N j).b, (opAt N j).c], y = -1 ∨ (0 ≤ y ∧ y < (i : Int))) := Lib.hid (fun y hy => by
              obtain ⟨-, m1, m2⟩ := may_flds hmay
              rw [← List.take_append_drop (kids (opAt N j).op).toNat [(opAt N j).a, (opAt N j).b, (opAt N j).c], List.mem_append] at hy
              rcases hy with hy | hy
              · have := m1 y hy; rw [HN.out] at this; exact .inr this
              · exact .inl (m2 y hy))
            obtain ⟨xx, hxx2⟩ : ∃ x, opAt N j = x := ⟨_, rfl⟩
            rw [hxx2] at d0 d1 d2 d3 d4 HSO HFL
            obtain ⟨xo, xa, xb, xc, xn⟩ := xx
            dsimp only at d0 d1 d2 d3 d4
            have HSO2 : Hid (opsOf ((sortedN N).ops.take (k + 1)) = opsOf ((sortedN N).ops.take k) ++ opCells ⟨xo, toI (orderN N) xa, toI (orderN N) xb, toI (orderN N) xc, xn⟩) := Lib.hid (by rw [List.take_add_one, HSO.out]; exact ops_snoc _ _)
            have HFA := Lib.hid (HFL.out xa (by simp))
            have HFB := Lib.hid (HFL.out xb (by simp))
            have HFC := Lib.hid (HFL.out xc (by simp))
            obtain ⟨ta, hta⟩ : ∃ y, toI (orderN N) xa = y := ⟨_, rfl⟩
            obtain ⟨tb, htb⟩ : ∃ y, toI (orderN N) xb = y := ⟨_, rfl⟩
            obtain ⟨tc, htc⟩ : ∃ y, toI (orderN N) xc = y := ⟨_, rfl⟩
            have hsk : w5.heap.size ≤ wr.heap.size := HBk.out.size
            obtain ⟨wb, hwb⟩ : ∃ W, wr.alloc (.cells #[.int .i64 xo, .int .i64 xa, .int .i64 xb, .int .i64 xc, .int .i64 xn] 79) = W := ⟨_, rfl⟩
            have hbb : Below wr.heap.size wr wb := by rw [← hwb]; exact below_new _ _
            have hlb : wr.heap.size < wb.heap.size := by rw [← hwb]; simp
            have hxb : OpBox wb wr.heap.size 79 ⟨xo, xa, xb, xc, xn⟩ := by rw [← hwb]; exact ⟨heap_alloc_new _ _⟩
            obtain ⟨a0, a1, a2, a3, a4, -, -, -⟩ := hxb.ats
            have HWB := Lib.hid hwb
            have HBB := Lib.hid (HBk.out.trans (hbb.mono hsk))
            have HXB := Lib.hid (HXk.out.below hbb HXk.out.lt)
            have HOB := Lib.hid (own_below HOk.out hbb)
            obtain ⟨x0, x1, x2⟩ := HXB.out.ats
            obtain ⟨fx0, fx1, fx2⟩ := HXB.out.fzs
            have hlx := HXB.out.lt
            obtain ⟨wc, hwc⟩ : ∃ W, wb.drew = W := ⟨_, rfl⟩
            have HWC := Lib.hid hwc
            have HBC : Hid (Below w5.heap.size w5 wc) := Lib.hid (by rw [← hwc]; exact HBB.out.drew)
            have HXC : Hid (NetBox wc w5.heap.size 30 (.slice A6 k c6) (.slice none 0 0) (.slice iA ni ic)) := Lib.hid (by rw [← hwc]; exact ⟨HXB.out.cell⟩)
            have HOC : Hid (wc.ownsRow w5.heap.size 79 5 (.slice A6 k c6) k (opsOf ((sortedN N).ops.take k))) := Lib.hid (by rw [← hwc]; exact HOB.out)
            have HPC : Hid (OpBox wc wr.heap.size 79 ⟨xo, xa, xb, xc, xn⟩) := Lib.hid (by rw [← hwc]; exact ⟨hxb.cell⟩)
            obtain ⟨v0, v1, v2⟩ := HXC.out.ats
            obtain ⟨fv0, fv1, fv2⟩ := HXC.out.fzs
            obtain ⟨b0, b1, b2, b3, b4, -, -, -⟩ := HPC.out.ats
            have hlc := HXC.out.lt
            have HTA : Hid (∀ W, Below w5.heap.size w5 W → Calls Try.prog 51 #[.int .i64 xa, .pointer (some ⟨w2.heap.size + 1, 0, none⟩)] W (fun e w' => e = .returned (.int .i64 ta) ∧ w' = W)) := Lib.hid (fun W h => by have := HTU.out W xa HFA.out h; rw [hta] at this; exact this)
            have HTB : Hid (∀ W, Below w5.heap.size w5 W → Calls Try.prog 51 #[.int .i64 xb, .pointer (some ⟨w2.heap.size + 1, 0, none⟩)] W (fun e w' => e = .returned (.int .i64 tb) ∧ w' = W)) := Lib.hid (fun W h => by have := HTU.out W xb HFB.out h; rw [htb] at this; exact this)
            have HTC : Hid (∀ W, Below w5.heap.size w5 W → Calls Try.prog 51 #[.int .i64 xc, .pointer (some ⟨w2.heap.size + 1, 0, none⟩)] W (fun e w' => e = .returned (.int .i64 tc) ∧ w' = W)) := Lib.hid (fun W h => by have := HTU.out W xc HFC.out h; rw [htc] at this; exact this)
            have HS : Hid (Below w5.heap.size w5 wc ∧ OpBox wc wr.heap.size 79 ⟨xo, xa, xb, xc, xn⟩) := Lib.hid ⟨HBC.out, HPC.out⟩
            rw [hta, htb, htc] at HSO2
            clear hj hj2 hord hxx hmay hxx2 hta htb htc hbb hxb hwc
            go_wp2_with fail
            refine wp_region_held (S := fun W => Below w5.heap.size w5 W ∧ OpBox W wr.heap.size 79 ⟨xo, xa, xb, xc, xn⟩) (by kernel_rfl) ?_
            change wpAnyH _ _ _ _ _ 23 #[false, false, false, false, false, false, false, false, false, false, false, false, false, false, false, false, false, false, false, false, false, false, false] _ wb.drew
            rw [HWC.out]
            refine read_take (i := 0) (v := .pointer (some ⟨w5.heap.size, 0, none⟩)) rfl rfl rfl (by kernel_rfl) (by kernel_rfl) (by kernel_rfl) (fun _ _ _ h => h) (fun W hW => ?q0) HS.out ?_
            case q0 =>
              obtain ⟨s0, s1, s2, s3, s4, -, -, -⟩ := hW.2.ats
              simp [execOp, go_sem, Act.put, Act.eval, s0, s1, s2, s3, s4]
            simp only [Act.put, List.setIfInBounds_toArray, List.set_cons_zero, List.set_cons_succ]
            refine read_take (i := 2) (v := .pointer (some ⟨wr.heap.size, 0, none⟩)) rfl rfl rfl (by kernel_rfl) (by kernel_rfl) (by kernel_rfl) (fun _ _ _ h => h) (fun W hW => ?q2) HS.out ?_
            case q2 =>
              obtain ⟨s0, s1, s2, s3, s4, -, -, -⟩ := hW.2.ats
              simp [execOp, go_sem, Act.put, Act.eval, s0, s1, s2, s3, s4]
            simp only [Act.put, List.setIfInBounds_toArray, List.set_cons_zero, List.set_cons_succ]
            refine read_take (i := 3) (v := .int .i64 xo) rfl rfl rfl (by kernel_rfl) (by kernel_rfl) (by kernel_rfl) (fun _ _ _ h => h) (fun W hW => ?q3) HS.out ?_
            case q3 =>
              obtain ⟨s0, s1, s2, s3, s4, -, -, -⟩ := hW.2.ats
              simp [execOp, go_sem, Act.put, Act.eval, s0, s1, s2, s3, s4]
            simp only [Act.put, List.setIfInBounds_toArray, List.set_cons_zero, List.set_cons_succ]
            refine read_take (i := 4) (v := .func (.func 51) #[] #[.pointer (some ⟨w2.heap.size + 1, 0, none⟩)]) rfl rfl rfl (by kernel_rfl) (by kernel_rfl) (by kernel_rfl) (fun _ _ _ h => h) (fun W hW => ?q4) HS.out ?_
            case q4 =>
              obtain ⟨s0, s1, s2, s3, s4, -, -, -⟩ := hW.2.ats
              simp [execOp, go_sem, Act.put, Act.eval, s0, s1, s2, s3, s4]
            simp only [Act.put, List.setIfInBounds_toArray, List.set_cons_zero, List.set_cons_succ]
            refine read_take (i := 5) (v := .pointer (some ⟨wr.heap.size, 1, none⟩)) rfl rfl rfl (by kernel_rfl) (by kernel_rfl) (by kernel_rfl) (fun _ _ _ h => h) (fun W hW => ?q5) HS.out ?_
            case q5 =>
              obtain ⟨s0, s1, s2, s3, s4, -, -, -⟩ := hW.2.ats
              simp [execOp, go_sem, Act.put, Act.eval, s0, s1, s2, s3, s4]
            simp only [Act.put, List.setIfInBounds_toArray, List.set_cons_zero, List.set_cons_succ]
            refine read_take (i := 6) (v := .int .i64 xa) rfl rfl rfl (by kernel_rfl) (by kernel_rfl) (by kernel_rfl) (fun _ _ _ h => h) (fun W hW => ?q6) HS.out ?_
            case q6 =>
              obtain ⟨s0, s1, s2, s3, s4, -, -, -⟩ := hW.2.ats
              simp [execOp, go_sem, Act.put, Act.eval, s0, s1, s2, s3, s4]
            simp only [Act.put, List.setIfInBounds_toArray, List.set_cons_zero, List.set_cons_succ]
            refine quiet_take (i := 7) (v := .int .i64 ta) rfl rfl rfl (by kernel_rfl) (by kernel_rfl) (by kernel_rfl) (fun _ _ _ h => h) (fun W hW => ⟨51, #[.int .i64 xa, .pointer (some ⟨w2.heap.size + 1, 0, none⟩)], ?q7, HTA.out W hW.1⟩) HS.out ?_
            case q7 => simp [execOp, go_sem, Act.put, Act.eval, he1]
            simp only [Act.put, List.setIfInBounds_toArray, List.set_cons_zero, List.set_cons_succ]
            refine read_take (i := 8) (v := .func (.func 51) #[] #[.pointer (some ⟨w2.heap.size + 1, 0, none⟩)]) rfl rfl rfl (by kernel_rfl) (by kernel_rfl) (by kernel_rfl) (fun _ _ _ h => h) (fun W hW => ?q8) HS.out ?_
            case q8 =>
              obtain ⟨s0, s1, s2, s3, s4, -, -, -⟩ := hW.2.ats
              simp [execOp, go_sem, Act.put, Act.eval, s0, s1, s2, s3, s4]
            simp only [Act.put, List.setIfInBounds_toArray, List.set_cons_zero, List.set_cons_succ]
            refine read_take (i := 9) (v := .pointer (some ⟨wr.heap.size, 2, none⟩)) rfl rfl rfl (by kernel_rfl) (by kernel_rfl) (by kernel_rfl) (fun _ _ _ h => h) (fun W hW => ?q9) HS.out ?_
            case q9 =>
              obtain ⟨s0, s1, s2, s3, s4, -, -, -⟩ := hW.2.ats
              simp [execOp, go_sem, Act.put, Act.eval, s0, s1, s2, s3, s4]
            simp only [Act.put, List.setIfInBounds_toArray, List.set_cons_zero, List.set_cons_succ]
            refine read_take (i := 10) (v := .int .i64 xb) rfl rfl rfl (by kernel_rfl) (by kernel_rfl) (by kernel_rfl) (fun _ _ _ h => h) (fun W hW => ?q10) HS.out ?_
            case q10 =>
              obtain ⟨s0, s1, s2, s3, s4, -, -, -⟩ := hW.2.ats
              simp [execOp, go_sem, Act.put, Act.eval, s0, s1, s2, s3, s4]
            simp only [Act.put, List.setIfInBounds_toArray, List.set_cons_zero, List.set_cons_succ]
            refine quiet_take (i := 11) (v := .int .i64 tb) rfl rfl rfl (by kernel_rfl) (by kernel_rfl) (by kernel_rfl) (fun _ _ _ h => h) (fun W hW => ⟨51, #[.int .i64 xb, .pointer (some ⟨w2.heap.size + 1, 0, none⟩)], ?q11, HTB.out W hW.1⟩) HS.out ?_
            case q11 => simp [execOp, go_sem, Act.put, Act.eval, he1]
            simp only [Act.put, List.setIfInBounds_toArray, List.set_cons_zero, List.set_cons_succ]
            refine read_take (i := 12) (v := .func (.func 51) #[] #[.pointer (some ⟨w2.heap.size + 1, 0, none⟩)]) rfl rfl rfl (by kernel_rfl) (by kernel_rfl) (by kernel_rfl) (fun _ _ _ h => h) (fun W hW => ?q12) HS.out ?_
            case q12 =>
              obtain ⟨s0, s1, s2, s3, s4, -, -, -⟩ := hW.2.ats
              simp [execOp, go_sem, Act.put, Act.eval, s0, s1, s2, s3, s4]
            simp only [Act.put, List.setIfInBounds_toArray, List.set_cons_zero, List.set_cons_succ]
            refine read_take (i := 13) (v := .pointer (some ⟨wr.heap.size, 3, none⟩)) rfl rfl rfl (by kernel_rfl) (by kernel_rfl) (by kernel_rfl) (fun _ _ _ h => h) (fun W hW => ?q13) HS.out ?_
            case q13 =>
              obtain ⟨s0, s1, s2, s3, s4, -, -, -⟩ := hW.2.ats
              simp [execOp, go_sem, Act.put, Act.eval, s0, s1, s2, s3, s4]
            simp only [Act.put, List.setIfInBounds_toArray, List.set_cons_zero, List.set_cons_succ]
            refine read_take (i := 14) (v := .int .i64 xc) rfl rfl rfl (by kernel_rfl) (by kernel_rfl) (by kernel_rfl) (fun _ _ _ h => h) (fun W hW => ?q14) HS.out ?_
            case q14 =>
              obtain ⟨s0, s1, s2, s3, s4, -, -, -⟩ := hW.2.ats
              simp [execOp, go_sem, Act.put, Act.eval, s0, s1, s2, s3, s4]
            simp only [Act.put, List.setIfInBounds_toArray, List.set_cons_zero, List.set_cons_succ]
            refine quiet_take (i := 15) (v := .int .i64 tc) rfl rfl rfl (by kernel_rfl) (by kernel_rfl) (by kernel_rfl) (fun _ _ _ h => h) (fun W hW => ⟨51, #[.int .i64 xc, .pointer (some ⟨w2.heap.size + 1, 0, none⟩)], ?q15, HTC.out W hW.1⟩) HS.out ?_
            case q15 => simp [execOp, go_sem, Act.put, Act.eval, he1]
            simp only [Act.put, List.setIfInBounds_toArray, List.set_cons_zero, List.set_cons_succ]
            refine read_take (i := 16) (v := .pointer (some ⟨wr.heap.size, 4, none⟩)) rfl rfl rfl (by kernel_rfl) (by kernel_rfl) (by kernel_rfl) (fun _ _ _ h => h) (fun W hW => ?q16) HS.out ?_
            case q16 =>
              obtain ⟨s0, s1, s2, s3, s4, -, -, -⟩ := hW.2.ats
              simp [execOp, go_sem, Act.put, Act.eval, s0, s1, s2, s3, s4]
            simp only [Act.put, List.setIfInBounds_toArray, List.set_cons_zero, List.set_cons_succ]
            refine read_take (i := 17) (v := .int .i64 xn) rfl rfl rfl (by kernel_rfl) (by kernel_rfl) (by kernel_rfl) (fun _ _ _ h => h) (fun W hW => ?q17) HS.out ?_
            case q17 =>
              obtain ⟨s0, s1, s2, s3, s4, -, -, -⟩ := hW.2.ats
              simp [execOp, go_sem, Act.put, Act.eval, s0, s1, s2, s3, s4]
            simp only [Act.put, List.setIfInBounds_toArray, List.set_cons_zero, List.set_cons_succ]
            refine read_take (i := 18) (v := .agg #[.int .i64 xo, .int .i64 ta, .int .i64 tb, .int .i64 tc, .int .i64 xn]) rfl rfl rfl (by kernel_rfl) (by kernel_rfl) (by kernel_rfl) (fun _ _ _ h => h) (fun W hW => ?q18) HS.out ?_
            case q18 =>
              obtain ⟨s0, s1, s2, s3, s4, -, -, -⟩ := hW.2.ats
              simp [execOp, go_sem, Act.put, Act.eval, s0, s1, s2, s3, s4]
            simp only [Act.put, List.setIfInBounds_toArray, List.set_cons_zero, List.set_cons_succ]
            have HCN8 : Hid (∀ (q : Nat) u, (opCells ⟨xo, ta, tb, tc, xn⟩)[q]? = some u → (wc.alloc (.cells #[.int .i64 xo, .int .i64 ta, .int .i64 tb, .int .i64 tc, .int .i64 xn] 79)).cell? ((⟨wc.heap.size, 0, none⟩ : Addr).add q) = some u) := Lib.hid
              (World.news_of_block (cs := #[.int .i64 xo, .int .i64 ta, .int .i64 tb, .int .i64 tc, .int .i64 xn]) (heap_alloc_new wc (.cells #[.int .i64 xo, .int .i64 ta, .int .i64 tb, .int .i64 tc, .int .i64 xn] 79)))
            have HSA : Hid (Below w5.heap.size w5 (wc.alloc (.cells #[.int .i64 xo, .int .i64 ta, .int .i64 tb, .int .i64 tc, .int .i64 xn] 79)) ∧ OpBox (wc.alloc (.cells #[.int .i64 xo, .int .i64 ta, .int .i64 tb, .int .i64 tc, .int .i64 xn] 79)) wr.heap.size 79 ⟨xo, xa, xb, xc, xn⟩) := Lib.hid ⟨HBC.out.alloc HBC.out.size _, ⟨((below_new wc _).block _ HPC.out.lt).trans HPC.out.cell⟩⟩
            have va := (HXC.out.below (below_new wc (.cells #[.int .i64 xo, .int .i64 ta, .int .i64 tb, .int .i64 tc, .int .i64 xn] 79)) HXC.out.lt).ats.1
            have hwl : wr.heap.size < wc.heap.size := HPC.out.lt
            have HFX : Hid (∀ gg cap (w2' : World), w2'.ownsRow w5.heap.size 79 5 (.slice (some ⟨gg, 0, none⟩) (k + 1) cap) (k + 1) (opsOf ((sortedN N).ops.take k) ++ opCells ⟨xo, ta, tb, tc, xn⟩) → (wc.alloc (.cells #[.int .i64 xo, .int .i64 ta, .int .i64 tb, .int .i64 tc, .int .i64 xn] 79)).grownBy w2' (Value.slice A6 k c6).ownBlock →
                (Below w5.heap.size w5 w2' ∧ OpBox w2' wr.heap.size 79 ⟨xo, xa, xb, xc, xn⟩) ∧ NetBox w2' w5.heap.size 30 (.slice A6 k c6) (.slice none 0 0) (.slice iA ni ic) ∧ (Below w5.heap.size w5 (w2'.setCell ⟨w5.heap.size, 0, none⟩ (.slice (some ⟨gg, 0, none⟩) (k + 1) cap)) ∧ OpBox (w2'.setCell ⟨w5.heap.size, 0, none⟩ (.slice (some ⟨gg, 0, none⟩) (k + 1) cap)) wr.heap.size 79 ⟨xo, xa, xb, xc, xn⟩) ∧
                Below w5.heap.size w5 (w2'.setCell ⟨w5.heap.size, 0, none⟩ (.slice (some ⟨gg, 0, none⟩) (k + 1) cap)) ∧ (w2'.setCell ⟨w5.heap.size, 0, none⟩ (.slice (some ⟨gg, 0, none⟩) (k + 1) cap)).ownsRow w5.heap.size 79 5 (.slice (some ⟨gg, 0, none⟩) (k + 1) cap) (k + 1) (opsOf ((sortedN N).ops.take (k + 1))) ∧ NetBox (w2'.setCell ⟨w5.heap.size, 0, none⟩ (.slice (some ⟨gg, 0, none⟩) (k + 1) cap)) w5.heap.size 30 (.slice (some ⟨gg, 0, none⟩) (k + 1) cap) (.slice none 0 0) (.slice iA ni ic)) := Lib.hid (fun gg cap w2' ho hg => by
              have hb8 : Below w5.heap.size w5 w2' := (HBC.out.alloc HBC.out.size _).grown hg (by have := HBC.out.size; simp; omega) (fun q hq => (HOC.out.lt q hq).1)
              have hop : OpBox w2' wr.heap.size 79 ⟨xo, xa, xb, xc, xn⟩ := ⟨(hg.block _ (by simp; omega) (fun e => by have := (HOk.out.lt _ e.symm).2; omega)).trans HSA.out.2.cell⟩
              have hn2 : (Value.slice A6 k c6).ownBlock ≠ some w5.heap.size := fun e => by
                obtain ⟨cs, hc⟩ := own_cells HOC.out e
                have := HXC.out.cell
                rw [hc] at this; simp at this
              have hx : NetBox w2' w5.heap.size 30 (.slice A6 k c6) (.slice none 0 0) (.slice iA ni ic) := ⟨(hg.block _ (by simp; omega) (fun e => hn2 e.symm)).trans ((Below.heap_alloc _ _ _ hlc).trans HXC.out.cell)⟩
              have hb9 : Below w5.heap.size w5 (w2'.setCell ⟨w5.heap.size, 0, none⟩ (.slice (some ⟨gg, 0, none⟩) (k + 1) cap)) := hb8.setCell (p := ⟨w5.heap.size, 0, none⟩) (Nat.le_refl _) _
              refine ⟨⟨hb8, hop⟩, hx, ⟨hb9, ⟨(Below.heap_setCell _ _ _ _ (by show wr.heap.size ≠ w5.heap.size; omega)).trans hop.cell⟩⟩, hb9, ?_, ⟨by have := hx.cell; simp [World.setCell, Array.getElem?_modify, this]⟩⟩
              rw [HSO2.out]
              exact own_block ho (fun p hp => Below.heap_setCell _ _ _ _ (fun e => by
                obtain ⟨cs, hc⟩ := own_cells ho hp
                have := hx.cell
                rw [e, this] at hc; simp at hc)))
            refine wpAnyH_all (rs := [1, 19]) (by kernel_rfl) (by simp) ?_
            intro ii hii
            simp only [List.mem_cons, List.not_mem_nil, or_false] at hii
            rcases hii with rfl | rfl
            · -- the load first
              refine op_val (i := 1) (s := 57) (v := .slice A6 k c6) (w' := wc) rfl rfl rfl ?q ?_
              case q => simp [execOp, go_sem, Act.put, Act.eval, v0]
              refine ⟨HS.out, ?_⟩
              simp only [Act.put, List.setIfInBounds_toArray, List.set_cons_zero, List.set_cons_succ]
              refine wpAnyH_all (rs := [19]) (by kernel_rfl) (by simp) ?_
              intro ii hii
              obtain rfl : ii = 19 := by simpa using hii
              refine op_val (i := 19) (s := 75) (v := .slice (some ⟨wc.heap.size, 0, none⟩) 1 1) (w' := wc.alloc (.cells #[.int .i64 xo, .int .i64 ta, .int .i64 tb, .int .i64 tc, .int .i64 xn] 79)) rfl rfl rfl ?q ?_
              case q => simp [execOp, go_sem, Act.put, Act.eval]
              refine ⟨HSA.out, ?_⟩
              simp only [Act.put, List.setIfInBounds_toArray, List.set_cons_zero, List.set_cons_succ]
              refine wpAnyH_all (rs := [20]) (by kernel_rfl) (by simp) ?_
              intro ii hii
              obtain rfl : ii = 20 := by simpa using hii
              refine op_go rfl rfl ?_
              refine wp_append_lies _ (.tmp 57) (.tmp 75) 28 (by rfl) w5.heap.size 79 j0 _ 5 40 Try.underlying28 hj0 hy0 hy1 hy2 rfl (by omega) (.slice A6 k c6) k (opsOf ((sortedN N).ops.take k)) (by rfl) (HOC.out.alloc _) ⟨wc.heap.size, 0, none⟩ 1 1 (opCells ⟨xo, ta, tb, tc, xn⟩) (by rfl) (by rfl) HCN8.out (by simp [opCells, Value.oneCell']) (by omega) (by unfold maxLen; omega) (by omega) (by have := HBC.out.size; simp; omega) (wc.heap.size + 1) (by simp) ?_
              intro gg cap w2' hown2 hgrow hat hlt
              obtain ⟨e1, e2, e3, e4, e5, e6⟩ := HFX.out gg cap w2' hown2 hgrow
              have HE1 := Lib.hid e1
              have HE3 := Lib.hid e3
              have HE4 := Lib.hid e4
              have HE5 := Lib.hid e5
              have HE6 := Lib.hid e6
              obtain ⟨r0, r1, r2⟩ := e2.ats
              obtain ⟨fr0, fr1, fr2⟩ := e2.fzs
              clear e1 e2 e3 e4 e5 e6 hown2 hgrow hat hlt
              refine ⟨HE1.out, ?_⟩
              simp only [Act.put, List.setIfInBounds_toArray, List.set_cons_zero, List.set_cons_succ]
              refine read_take (i := 21) (s := 77) (v := .pointer (some ⟨w5.heap.size, 0, none⟩)) rfl rfl rfl (by kernel_rfl) (by kernel_rfl) (by kernel_rfl) (fun _ _ _ h => h) (fun W hW => ?q) HE1.out ?_
              case q => simp [execOp, go_sem, Act.put, Act.eval]
              simp only [Act.put, List.setIfInBounds_toArray, List.set_cons_zero, List.set_cons_succ]
              refine wpAnyH_all (rs := [22]) (by kernel_rfl) (by simp) ?_
              intro ii hii
              obtain rfl : ii = 22 := by simpa using hii
              refine op_go rfl rfl ?_
              have hst : ∀ a : Act, a.eval (.tmp 77) = .pointer (some ⟨w5.heap.size, 0, none⟩) → a.eval (.tmp 76) = .slice (some ⟨gg, 0, none⟩) (k + 1) cap → True := fun _ _ _ => trivial
              go_simp
              refine ⟨HE3.out, ?_⟩
              refine wpAnyH_done (by kernel_rfl) ?_ _
              simp only [Act.put, List.setIfInBounds_toArray, List.set_cons_zero, List.set_cons_succ, Exit.inBlock, Exit.then]
              clear r0 r1 r2 fr0 fr1 fr2 hst
              go_at_K
              go_wp2_with fail
              exact ⟨⟨k + 1, some ⟨gg, 0, none⟩, cap, by omega, by go_num, HE4.out, HE5.out, HE6.out⟩, by simp [intOf]; omega⟩
            · -- the slice first
              refine op_val (i := 19) (s := 75) (v := .slice (some ⟨wc.heap.size, 0, none⟩) 1 1) (w' := wc.alloc (.cells #[.int .i64 xo, .int .i64 ta, .int .i64 tb, .int .i64 tc, .int .i64 xn] 79)) rfl rfl rfl ?q ?_
              case q => simp [execOp, go_sem, Act.put, Act.eval]
              refine ⟨HSA.out, ?_⟩
              simp only [Act.put, List.setIfInBounds_toArray, List.set_cons_zero, List.set_cons_succ]
              refine wpAnyH_all (rs := [1]) (by kernel_rfl) (by simp) ?_
              intro ii hii
              obtain rfl : ii = 1 := by simpa using hii
              refine op_val (i := 1) (s := 57) (v := .slice A6 k c6) (w' := wc.alloc (.cells #[.int .i64 xo, .int .i64 ta, .int .i64 tb, .int .i64 tc, .int .i64 xn] 79)) rfl rfl rfl ?q ?_
              case q => simp [execOp, go_sem, Act.put, Act.eval, va]
              refine ⟨HSA.out, ?_⟩
              simp only [Act.put, List.setIfInBounds_toArray, List.set_cons_zero, List.set_cons_succ]
              refine wpAnyH_all (rs := [20]) (by kernel_rfl) (by simp) ?_
              intro ii hii
              obtain rfl : ii = 20 := by simpa using hii
              refine op_go rfl rfl ?_
              refine wp_append_lies _ (.tmp 57) (.tmp 75) 28 (by rfl) w5.heap.size 79 j0 _ 5 40 Try.underlying28 hj0 hy0 hy1 hy2 rfl (by omega) (.slice A6 k c6) k (opsOf ((sortedN N).ops.take k)) (by rfl) (HOC.out.alloc _) ⟨wc.heap.size, 0, none⟩ 1 1 (opCells ⟨xo, ta, tb, tc, xn⟩) (by rfl) (by rfl) HCN8.out (by simp [opCells, Value.oneCell']) (by omega) (by unfold maxLen; omega) (by omega) (by have := HBC.out.size; simp; omega) (wc.heap.size + 1) (by simp) ?_
              intro gg cap w2' hown2 hgrow hat hlt
              obtain ⟨e1, e2, e3, e4, e5, e6⟩ := HFX.out gg cap w2' hown2 hgrow
              have HE1 := Lib.hid e1
              have HE3 := Lib.hid e3
              have HE4 := Lib.hid e4
              have HE5 := Lib.hid e5
              have HE6 := Lib.hid e6
              obtain ⟨r0, r1, r2⟩ := e2.ats
              obtain ⟨fr0, fr1, fr2⟩ := e2.fzs
              clear e1 e2 e3 e4 e5 e6 hown2 hgrow hat hlt
              refine ⟨HE1.out, ?_⟩
              simp only [Act.put, List.setIfInBounds_toArray, List.set_cons_zero, List.set_cons_succ]
              refine read_take (i := 21) (s := 77) (v := .pointer (some ⟨w5.heap.size, 0, none⟩)) rfl rfl rfl (by kernel_rfl) (by kernel_rfl) (by kernel_rfl) (fun _ _ _ h => h) (fun W hW => ?q) HE1.out ?_
              case q => simp [execOp, go_sem, Act.put, Act.eval]
              simp only [Act.put, List.setIfInBounds_toArray, List.set_cons_zero, List.set_cons_succ]
              refine wpAnyH_all (rs := [22]) (by kernel_rfl) (by simp) ?_
              intro ii hii
              obtain rfl : ii = 22 := by simpa using hii
              refine op_go rfl rfl ?_
              have hst : ∀ a : Act, a.eval (.tmp 77) = .pointer (some ⟨w5.heap.size, 0, none⟩) → a.eval (.tmp 76) = .slice (some ⟨gg, 0, none⟩) (k + 1) cap → True := fun _ _ _ => trivial
              go_simp
              refine ⟨HE3.out, ?_⟩
              refine wpAnyH_done (by kernel_rfl) ?_ _
              simp only [Act.put, List.setIfInBounds_toArray, List.set_cons_zero, List.set_cons_succ, Exit.inBlock, Exit.then]
              clear r0 r1 r2 fr0 fr1 fr2 hst
              go_at_K
              go_wp2_with fail
              exact ⟨⟨k + 1, some ⟨gg, 0, none⟩, cap, by omega, by go_num, HE4.out, HE5.out, HE6.out⟩, by simp [intOf]; omega⟩
          · have hke : k = i := by omega
            subst hke
            have HRL : Hid ((sortedN N).roots.length = nr) := Lib.hid (by show (N.roots.map _).length = nr; rw [List.length_map]; exact HNR.out)
            obtain ⟨wm, hwm⟩ : ∃ W, W = wr := ⟨_, rfl⟩
            subst hwm
            clear hki hk
            go_wp2_with fail
            go_loopw [82] (fun vq wr => ∃ (q : Nat) (A7 : Option Addr) (c7 : Nat), q ≤ nr ∧ vq = .int .i64 (q : Int) ∧ Below w5.heap.size w5 wr ∧ wr.ownsRow w5.heap.size 79 5 (.slice A6 k c6) k (opsOf ((sortedN N).ops.take k)) ∧ wr.ownsRow w5.heap.size 3 1 (.slice A7 q c7) q (intsOf ((sortedN N).roots.take q)) ∧ NetBox wr w5.heap.size 30 (.slice A6 k c6) (.slice A7 q c7) (.slice iA ni ic)) (fun vq _ => nr - (intOf vq).toNat)
            case atStart => exact ⟨0, none, 0, Nat.zero_le _, rfl, HBk.out, HOk.out, by simp [intsOf]; exact World.ownsRow_nil _ _ _ _, HXk.out⟩
            case round =>
              obtain ⟨q, A7, c7, hq, rfl, hb, ho, ho2, hx⟩ := hrel
              have HBq := Lib.hid hb
              have HOq := Lib.hid ho
              have HRq := Lib.hid ho2
              have HXq := Lib.hid hx
              have HPq := Lib.hid (HPRE.out.below hb)
              obtain ⟨t0, t1, t2⟩ := HPq.out.box.ats
              obtain ⟨u0, u1, u2⟩ := hx.ats
              obtain ⟨fu0, fu1, fu2⟩ := hx.fzs
              have hbl := hx.lt
              clear hb ho ho2 hx
              by_cases hql : q < nr
              · obtain ⟨y, hy⟩ : ∃ y, N.roots[q]? = some y := ⟨_, List.getElem?_eq_getElem (by rw [HNR.out]; exact hql)⟩
                have hyr := isOp_iff.1 (by
                  have hm := (check_ok.1 HCN.out).1
                  unfold mayN at hm
                  simp only [Bool.and_eq_true, List.all_eq_true] at hm
                  exact hm.2 y (List.mem_of_getElem? hy))
                rw [HN.out] at hyr
                obtain ⟨j, rfl⟩ : ∃ j : Nat, y = (j : Int) := ⟨y.toNat, by omega⟩
                have hjk : j < k := by omega
                obtain ⟨g, o, rfl, hg, e0⟩ := ints_at HPq.out.net.2.1 hy
                have hnm := HPq.out.nums
                rw [HN.out] at hnm
                obtain ⟨nj, hnj⟩ : ∃ v, newOf (orderN N) j = v := ⟨_, rfl⟩
                have HRT : Hid (intsOf ((sortedN N).roots.take (q + 1)) = intsOf ((sortedN N).roots.take q) ++ [.int .i64 (nj : Int)]) := Lib.hid (by
                  have e : (sortedN N).roots[q]? = some (nj : Int) := by
                    show (N.roots.map (toI (orderN N)))[q]? = _
                    rw [List.getElem?_map, hy, ← hnj]; exact congrArg some (toI_nat _ _)
                  rw [List.take_add_one, e]; exact ints_snoc _ _)
                have HTJ : Hid (Calls Try.prog 51 #[.int .i64 (j : Int), .pointer (some ⟨w2.heap.size + 1, 0, none⟩)] wr.drew (fun e w' => e = .returned (.int .i64 (nj : Int)) ∧ w' = wr.drew)) := Lib.hid (by
                  have := HTU.out wr.drew (j : Int) (.inr ⟨by omega, by omega⟩) HBq.out.drew
                  rw [toI_nat, hnj] at this; exact this)
                have HQ3 : Hid (∀ w2' : World, ((wr.drew).alloc (.cells #[.int .i64 (nj : Int)] 3)).grownBy w2' (Value.slice A7 q c7).ownBlock → NetBox w2' w5.heap.size 30 (.slice A6 k c6) (.slice A7 q c7) (.slice iA ni ic)) := Lib.hid (fun w2' hg => by
                  have hn2 : (Value.slice A7 q c7).ownBlock ≠ some w5.heap.size := fun e => by
                    obtain ⟨cs, hc⟩ := own_cells HRq.out e
                    have := HXq.out.cell
                    rw [hc] at this; simp at this
                  exact ⟨(hg.block _ (by simp; omega) (fun e => hn2 e.symm)).trans ((Below.heap_alloc _ _ _ hbl).trans HXq.out.cell)⟩)
                have HEND : Hid (∀ gg cap (w2' : World), w2'.ownsRow w5.heap.size 3 1 (.slice (some ⟨gg, 0, none⟩) (q + 1) cap) (q + 1) (intsOf ((sortedN N).roots.take q) ++ [.int .i64 (nj : Int)]) → ((wr.drew).alloc (.cells #[.int .i64 (nj : Int)] 3)).grownBy w2' (Value.slice A7 q c7).ownBlock →
                    Below w5.heap.size w5 (w2'.setCell ⟨w5.heap.size, 1, none⟩ (.slice (some ⟨gg, 0, none⟩) (q + 1) cap)) ∧ (w2'.setCell ⟨w5.heap.size, 1, none⟩ (.slice (some ⟨gg, 0, none⟩) (q + 1) cap)).ownsRow w5.heap.size 79 5 (.slice A6 k c6) k (opsOf ((sortedN N).ops.take k)) ∧
                    (w2'.setCell ⟨w5.heap.size, 1, none⟩ (.slice (some ⟨gg, 0, none⟩) (q + 1) cap)).ownsRow w5.heap.size 3 1 (.slice (some ⟨gg, 0, none⟩) (q + 1) cap) (q + 1) (intsOf ((sortedN N).roots.take (q + 1))) ∧ NetBox (w2'.setCell ⟨w5.heap.size, 1, none⟩ (.slice (some ⟨gg, 0, none⟩) (q + 1) cap)) w5.heap.size 30 (.slice A6 k c6) (.slice (some ⟨gg, 0, none⟩) (q + 1) cap) (.slice iA ni ic)) := Lib.hid (fun gg cap w2' ho hg => by
                  have hx := HQ3.out w2' hg
                  have sc : ∀ p, p ≠ w5.heap.size → (w2'.setCell ⟨w5.heap.size, 1, none⟩ (.slice (some ⟨gg, 0, none⟩) (q + 1) cap)).heap[p]? = w2'.heap[p]? := fun p hp => Below.heap_setCell _ _ _ _ hp
                  have hbs : Below w5.heap.size w5 w2' := (HBq.out.drew.alloc (show w5.heap.size ≤ wr.drew.heap.size from HBq.out.size) _).grown hg (by have := HBq.out.size; simp; omega) (fun p hp => (HRq.out.lt p hp).1)
                  refine ⟨hbs.setCell (p := ⟨w5.heap.size, 1, none⟩) (Nat.le_refl _) _, own_block HOq.out (fun p hp => ?_), ?_, ⟨by have := hx.cell; simp [World.setCell, Array.getElem?_modify, this]⟩⟩
                  · have hpl := (HOq.out.lt p hp).2
                    have hp1 : p ≠ w5.heap.size := fun e => by
                      obtain ⟨cs, hc⟩ := own_cells HOq.out hp
                      have := HXq.out.cell
                      rw [e, this] at hc; simp at hc
                    have hp2 : (Value.slice A7 q c7).ownBlock ≠ some p := own_two HOq.out HRq.out (by decide) hp
                    rw [sc p hp1, hg.block p (by simp; omega) (fun e => hp2 e.symm), Below.heap_alloc _ _ _ (show p < wr.drew.heap.size from hpl)]; rfl
                  · rw [HRT.out]
                    exact own_block ho (fun p hp => sc p (fun e => by
                      obtain ⟨cs, hc⟩ := own_cells ho hp
                      have := hx.cell
                      rw [e, this] at hc; simp at hc)))
                clear hy hyr hnm hnj
                go_wp2_with fail
                go_region_law (first
                  | (refine step_append_lies _ (by rfl) _ _ _ (by rfl) w5.heap.size 3 i0 _ 1 8 Try.underlying23 hi0 hz0 hz1 hz2 rfl (by omega) (.slice A7 q c7) q (intsOf ((sortedN N).roots.take q)) (by rfl) (by exact HRq.out.alloc _) ⟨wr.heap.size, 0, none⟩ 1 1 [.int .i64 (nj : Int)] (by rfl) (by rfl) (World.news_of_block (cs := #[.int .i64 (nj : Int)]) (t := 3) (fr := (0, 0)) (heap_alloc_new _ _)) (by simp [Value.oneCell']) (by omega) (by unfold maxLen; omega) (by omega) (by simp; omega) (wr.heap.size + 1) (by simp) ?_; intro gg cap w2' hown2 hgrow hat hlt; obtain ⟨r0, r1, r2⟩ := (HQ3.out w2' hgrow).ats; obtain ⟨fr0, fr1, fr2⟩ := (HQ3.out w2' hgrow).fzs)
                  | (go_simp; go_at_call 51; refine HTJ.out.mono ?_; rintro r w' ⟨rfl, rfl⟩))
                all_goals
                  obtain ⟨g1, g2', g3, g4⟩ := HEND.out gg cap w2' hown2 hgrow
                  have HE1 := Lib.hid g1
                  have HE2 := Lib.hid g2'
                  have HE3 := Lib.hid g3
                  have HE4 := Lib.hid g4
                  clear g1 g2' g3 g4 hown2 hgrow hat hlt
                  go_wp2_with fail
                  exact ⟨⟨q + 1, some ⟨gg, 0, none⟩, cap, by omega, by go_num, HE1.out, HE2.out, HE3.out, HE4.out⟩, by simp [intOf]; omega⟩
              · have hqe : q = nr := by omega
                subst hqe
                obtain ⟨m0, m1, m2⟩ := HPq.out.res.ats
                obtain ⟨fm0, fm1, fm2⟩ := HPq.out.res.fzs
                have HFIN : Hid (∀ W, W = ((wr.setCell ⟨w.heap.size + 1, 0, none⟩ (.slice A6 k c6)).setCell ⟨w.heap.size + 1, 1, none⟩ (.slice A7 q c7)).setCell ⟨w.heap.size + 1, 2, none⟩ (.slice iA ni ic) → Below w.heap.size w W ∧ NetR W (.slice A6 k c6) (.slice A7 q c7) (.slice iA ni ic) (sortN N)) := Lib.hid (fun W hW => by
                  subst hW
                  have sc : ∀ p, p ≠ w.heap.size + 1 → (((wr.setCell ⟨w.heap.size + 1, 0, none⟩ (.slice A6 k c6)).setCell ⟨w.heap.size + 1, 1, none⟩ (.slice A7 q c7)).setCell ⟨w.heap.size + 1, 2, none⟩ (.slice iA ni ic)).heap[p]? = wr.heap[p]? := fun p hp => by
                    rw [Below.heap_setCell _ _ _ _ hp, Below.heap_setCell _ _ _ _ hp, Below.heap_setCell _ _ _ _ hp]
                  have k1 := own_block HOq.out (fun p hp => sc p (by have := (HOq.out.lt p hp).1; omega))
                  have k2 := own_block HRq.out (fun p hp => sc p (by have := (HRq.out.lt p hp).1; omega))
                  have k3 := own_block (own_below HO5.out HBq.out) (fun p hp => sc p (by have := (HO5.out.lt p hp).1; have := HR2.out.lt; omega))
                  refine ⟨(((HB5.out.trans (HBq.out.mono HB5.out.size)).setCell (p := ⟨w.heap.size + 1, 0, none⟩) (by simp) _).setCell (p := ⟨w.heap.size + 1, 1, none⟩) (by simp) _).setCell (p := ⟨w.heap.size + 1, 2, none⟩) (by simp) _, ?_⟩
                  have e : sortN N = sortedN N := by unfold sortN; rw [if_pos HCN.out]
                  rw [e]
                  rw [← HOPL.out, List.take_length] at k1
                  rw [← HRL.out, List.take_length] at k2
                  have k1' := OpsR.of_own k1
                  rw [HOPL.out] at k1'
                  have k2' := Ints.of_own k2
                  rw [HRL.out] at k2'
                  have k3' := Ints.of_own (l := N.ins) (by rw [HNI.out]; exact k3)
                  exact ⟨k1', k2', k3'⟩)
                have hzz : w.heap.size + 1 ≠ w5.heap.size := by omega
                have hzz2 : w5.heap.size ≠ w.heap.size + 1 := by omega
                go_wp2_with fail
                obtain ⟨y0, y1, y2⟩ := (HPq.out.res.set3 (.slice A6 k c6) (.slice A7 q c7) (.slice iA ni ic)).ats
                exact bodyPost_ret (v := .tuple #[.agg #[.slice A6 k c6, .slice A7 q c7, .slice iA ni ic], .int .i64 0]) (by simp [results, Try.results19, go_sem, y0, y1, y2]) rfl ⟨(HFIN.out _ rfl).1, _, _, _, by rw [HCN.out], (HFIN.out _ rfl).2, fun g hg => by have := (HO5.out.lt g hg).1; omega⟩
theorem ssort_any (w : World) (ov rv iv : Value) (N : Net) (h : NetR w ov rv iv N) (hn3 : N.ops.length ≤ 1000) (hr3 : N.roots.length ≤ 1000) (hi3 : N.ins.length ≤ 1000) : Calls Try.prog 19 #[.agg #[ov, rv, iv]] w (SortPost w N) :=
  (ssortF_any w ov rv iv N h hn3 hr3 hi3).mono (by rintro e w' ⟨hb, a, b, c, rfl, hn, -⟩; exact ⟨hb, a, b, c, rfl, hn⟩)
end Go.Proofs.Ytcphjehjdhgheaa.Nt
