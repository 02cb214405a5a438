/- A net of the document's for the program, and the other way round. Conditions: it has at most 1000 operators. -/
import Derived.Test.YtcphjehjdhgheaaNtL
namespace Go.Proofs.Ytcphjehjdhgheaa.Nt
open Go.ChangeShapes Go.WideShapes Go.ChangeAt Go.RowKit Go.Proofs.Ytcphjehjdhgheaa.Tr
set_option linter.unusedVariables false
set_option linter.unusedSimpArgs false

theorem blocks3 (w Wn : World) (a b c : Obj) (h : Wn = ((w.alloc a).alloc b).alloc c) :
    Wn.heap[w.heap.size]? = some a ∧ Wn.heap[w.heap.size + 1]? = some b ∧ Wn.heap[w.heap.size + 1 + 1]? = some c ∧ Below w.heap.size w Wn := by
  subst h
  have s1 : (w.alloc a).heap.size = w.heap.size + 1 := by simp
  have s2 : ((w.alloc a).alloc b).heap.size = w.heap.size + 1 + 1 := by simp
  refine ⟨?_, ?_, ?_, ?_⟩
  · rw [(below_new _ c).block _ (by omega), (below_new _ b).block _ (by omega)]; exact heap_alloc_new _ _
  · rw [(below_new _ c).block _ (by omega)]
    have := heap_alloc_new (w.alloc a) b
    rw [s1] at this; exact this
  · have := heap_alloc_new ((w.alloc a).alloc b) c
    rw [s2] at this; exact this
  · exact ((below_new w a).alloc (by omega) b).alloc (by omega) c
theorem NetBox.fzs {w : World} {b T : Nat} {ov rv iv : Value} (h : NetBox w b T ov rv iv) : w.frozen? ⟨b, 0, none⟩ = false ∧ w.frozen? ⟨b, 1, none⟩ = false ∧ w.frozen? ⟨b, 2, none⟩ = false := by
  have := h.cell
  refine ⟨?_, ?_, ?_⟩ <;> simp [World.frozen?, this]
theorem NetBox.set3 {w : World} {b T : Nat} {ov rv iv : Value} (h : NetBox w b T ov rv iv) (x y z : Value) : NetBox (((w.setCell ⟨b, 0, none⟩ x).setCell ⟨b, 1, none⟩ y).setCell ⟨b, 2, none⟩ z) b T x y z := by
  refine ⟨?_⟩
  have := h.cell
  simp [World.setCell, Array.getElem?_modify, this]
theorem info_own : (Try.prog.info? 79).map (fun i => (i.zero, i.size, i.bytes)) = some (some (.agg #[.int .i64 0, .int .i64 0, .int .i64 0, .int .i64 0, .int .i64 0]), 5, 40) := by kernel_rfl
set_option maxRecDepth 100000 in
set_option maxHeartbeats 8000000 in
theorem own_any (w : World) (ov rv iv : Value) (N : Net) (h : NetR w ov rv iv N) (hn3 : N.ops.length ≤ 1000) :
    Calls Try.prog 16 #[.agg #[ov, rv, iv]] w (fun e w' => ∃ ov', e = .returned (.agg #[ov', rv, iv]) ∧ OpsR w' ov' N.ops ∧ Below w.heap.size w w') := by
  obtain ⟨i0, hi0, hz0, hz1, hz2⟩ := info_parts info_own
  obtain ⟨h1, h2, h3⟩ := h
  obtain ⟨A, c, rfl, z1, z2⟩ := h1.form
  obtain ⟨A2, c2, rfl, z3, z4⟩ := ints_form h2
  obtain ⟨A3, c3, rfl, z5, z6⟩ := ints_form h3
  obtain ⟨n, hn⟩ : ∃ n, N.ops.length = n := ⟨_, rfl⟩
  rw [hn] at h1 z1 hn3 ⊢
  have HN := Lib.hid hn
  have H1 := Lib.hid h1
  obtain ⟨nr, hnr⟩ : ∃ n, N.roots.length = n := ⟨_, rfl⟩
  obtain ⟨ni, hni⟩ : ∃ n, N.ins.length = n := ⟨_, rfl⟩
  rw [hnr, hni]
  unfold maxLen at z2
  clear h1 h2 h3 hn hnr hni z3 z4 z5 z6
  have HST : Hid (∀ W, W = ((w.alloc (.cells #[.slice A n c, .slice A2 nr c2, .slice A3 ni c3] 25)).alloc (.cells #[.slice none 0 0, .slice none 0 0, .slice none 0 0] 30)).alloc (.cells #[.slice none 0 0, .slice A2 nr c2, .slice A3 ni c3] 30) →
      NetBox W w.heap.size 25 (.slice A n c) (.slice A2 nr c2) (.slice A3 ni c3) ∧ NetBox W (w.heap.size + 1) 30 (.slice none 0 0) (.slice none 0 0) (.slice none 0 0) ∧ NetBox W (w.heap.size + 1 + 1) 30 (.slice none 0 0) (.slice A2 nr c2) (.slice A3 ni c3) ∧ Below w.heap.size w W) := Lib.hid (fun W hW => by
    obtain ⟨k0, k1, k2, hb⟩ := blocks3 w W _ _ _ hW
    exact ⟨⟨k0⟩, ⟨k1⟩, ⟨k2⟩, hb⟩)
  go_enter Try.func16, Try.ntmps16
  go_wp2_with fail
  go_loopw [4] (fun vi wr => ∃ (i : Nat) (A4 : Option Addr) (c4 : Nat), i ≤ n ∧ vi = .int .i64 (i : Int) ∧ wr.ownsRow w.heap.size 79 5 (.slice A4 i c4) i (opsOf (N.ops.take i)) ∧ Below w.heap.size w wr ∧
    NetBox wr w.heap.size 25 (.slice A n c) (.slice A2 nr c2) (.slice A3 ni c3) ∧ NetBox wr (w.heap.size + 1) 30 (.slice none 0 0) (.slice none 0 0) (.slice none 0 0) ∧ NetBox wr (w.heap.size + 1 + 1) 30 (.slice A4 i c4) (.slice A2 nr c2) (.slice A3 ni c3)) (fun vi _ => n - (intOf vi).toNat)
  case atStart =>
    obtain ⟨k0, k1, k2, hb⟩ := HST.out _ rfl
    exact ⟨0, none, 0, Nat.zero_le _, rfl, by simp [opsOf]; exact World.ownsRow_nil _ _ _ _, hb, k0, k1, k2⟩
  case round =>
    obtain ⟨i, A4, c4, hi, rfl, ho, hb, hx0, hx1, hx2⟩ := hrel
    have HO := Lib.hid ho
    have HB := Lib.hid hb
    have HX0 := Lib.hid hx0
    have HX1 := Lib.hid hx1
    have HX2 := Lib.hid hx2
    obtain ⟨p0, p1, p2⟩ := hx0.ats
    obtain ⟨q0, q1, q2⟩ := hx1.ats
    obtain ⟨r0, r1, r2⟩ := hx2.ats
    obtain ⟨fq0, fq1, fq2⟩ := hx1.fzs
    obtain ⟨fr0, fr1, fr2⟩ := hx2.fzs
    have l0 := hx0.lt
    have l1 := hx1.lt
    have l2 := hx2.lt
    clear ho hb hx0 hx1 hx2
    by_cases hlt : i < n
    · obtain ⟨x, hx⟩ : ∃ x, N.ops[i]? = some x := ⟨_, List.getElem?_eq_getElem (by rw [HN.out]; exact hlt)⟩
      obtain ⟨g, o, rfl, hg, d0, d1, d2, d3, d4⟩ := (H1.out.below HB.out (Nat.le_refl _)).at hx
      have HTK : Hid (opsOf (N.ops.take (i + 1)) = opsOf (N.ops.take i) ++ opCells x) := Lib.hid (by rw [List.take_add_one, hx]; exact ops_snoc _ _)
      obtain ⟨xo, xa, xb, xc, xn⟩ := x
      dsimp only at d0 d1 d2 d3 d4
      have HCN : Hid (∀ (k : Nat) u, (opCells ⟨xo, xa, xb, xc, xn⟩)[k]? = some u → ((wr.alloc (.cells #[.int .i64 xo, .int .i64 xa, .int .i64 xb, .int .i64 xc, .int .i64 xn] 69)).alloc (.cells #[.int .i64 xo, .int .i64 xa, .int .i64 xb, .int .i64 xc, .int .i64 xn] 79)).cell? ((⟨wr.heap.size + 1, 0, none⟩ : Addr).add k) = some u) := Lib.hid (by
        have h5 := heap_alloc_new (wr.alloc (.cells #[.int .i64 xo, .int .i64 xa, .int .i64 xb, .int .i64 xc, .int .i64 xn] 69)) (.cells #[.int .i64 xo, .int .i64 xa, .int .i64 xb, .int .i64 xc, .int .i64 xn] 79)
        rw [show (wr.alloc (.cells #[.int .i64 xo, .int .i64 xa, .int .i64 xb, .int .i64 xc, .int .i64 xn] 69)).heap.size = wr.heap.size + 1 by simp] at h5
        exact World.news_of_block (cs := #[.int .i64 xo, .int .i64 xa, .int .i64 xb, .int .i64 xc, .int .i64 xn]) h5)
      have hszr : w.heap.size ≤ wr.heap.size := HB.out.size
      clear hx
      go_wp2_with (at_builtin; refine wpList_append_own_at _ rfl (.tmp 24) (.tmp 36) 28 rfl w.heap.size 79 i0 (.agg #[.int .i64 0, .int .i64 0, .int .i64 0, .int .i64 0, .int .i64 0]) 5 40 Try.underlying28 hi0 hz0 hz1 hz2 rfl (by decide) _ _ _ rfl ((HO.out.alloc _).alloc _) ⟨wr.heap.size + 1, 0, none⟩ 1 1 (opCells ⟨xo, xa, xb, xc, xn⟩) rfl rfl HCN.out ?b1 ?c1 ?d1 ?e1 ?_)
      case b1 => intro u hu; simp [opCells] at hu; rcases hu with rfl | rfl | rfl | rfl | rfl <;> rfl
      case c1 => unfold maxLen; omega
      case d1 => omega
      case e1 => first | omega | (simp; omega)
      intro v' w7 hown7 hgrow7 _ hat7
      have hne : ∀ k T a1 a2 a3, NetBox wr k T a1 a2 a3 → T ≠ 79 → (Value.slice A4 i c4).ownBlock ≠ some k := fun k T a1 a2 a3 hx hT e => by
        obtain ⟨cs, hc⟩ := own_cells HO.out e
        have := hx.cell
        rw [hc] at this; simp at this; exact hT this.2.symm
      have st : ∀ k, k < wr.heap.size → (Value.slice A4 i c4).ownBlock ≠ some k → w7.heap[k]? = wr.heap[k]? := fun k h1 h2 => (hgrow7.block k (by simp; omega) (fun e => h2 e.symm)).trans ((Below.heap_alloc _ _ _ (by simp; omega)).trans (Below.heap_alloc _ _ _ h1))
      have hn0 := hne _ _ _ _ _ HX0.out (by decide)
      have hn1 := hne _ _ _ _ _ HX1.out (by decide)
      have hn2 := hne _ _ _ _ _ HX2.out (by decide)
      have HX70 : Hid (NetBox w7 w.heap.size 25 (.slice (some ⟨g, o, none⟩) n c) (.slice A2 nr c2) (.slice A3 ni c3)) := Lib.hid ⟨(st _ l0 hn0).trans HX0.out.cell⟩
      have HX71 : Hid (NetBox w7 (w.heap.size + 1) 30 (.slice none 0 0) (.slice none 0 0) (.slice none 0 0)) := Lib.hid ⟨(st _ l1 hn1).trans HX1.out.cell⟩
      have HX72 : Hid (NetBox w7 (w.heap.size + 1 + 1) 30 (.slice A4 i c4) (.slice A2 nr c2) (.slice A3 ni c3)) := Lib.hid ⟨(st _ l2 hn2).trans HX2.out.cell⟩
      have HB7 : Hid (Below w.heap.size w w7) := Lib.hid (((HB.out.alloc hszr _).alloc (by simp; omega) _).grown hgrow7 (by simp; omega) (fun k hk => (HO.out.lt k hk).1))
      have HO7 : Hid (w7.ownsRow w.heap.size 79 5 v' (i + 1) (opsOf (N.ops.take (i + 1)))) := Lib.hid (by rw [HTK.out]; exact hown7)
      obtain ⟨A5, c5, rfl⟩ : ∃ A c, v' = .slice A (i + 1) c := by
        obtain ⟨-, h1 | ⟨g, cap, cur, e, -⟩⟩ := hown7
        · omega
        · exact ⟨_, _, e⟩
      have hv2 : (Value.slice A5 (i + 1) c5).ownBlock ≠ some (w.heap.size + 1 + 1) := fun e => by
        obtain ⟨cs, hc⟩ := own_cells HO7.out e
        have := HX72.out.cell
        rw [hc] at this; simp at this
      obtain ⟨s0, s1, s2⟩ := HX72.out.ats
      obtain ⟨f0, f1, f2⟩ := HX72.out.fzs
      have HE : Hid ((w7.setCell ⟨w.heap.size + 1 + 1, 0, none⟩ (.slice A5 (i + 1) c5)).ownsRow w.heap.size 79 5 (.slice A5 (i + 1) c5) (i + 1) (opsOf (N.ops.take (i + 1))) ∧ Below w.heap.size w (w7.setCell ⟨w.heap.size + 1 + 1, 0, none⟩ (.slice A5 (i + 1) c5)) ∧
          NetBox (w7.setCell ⟨w.heap.size + 1 + 1, 0, none⟩ (.slice A5 (i + 1) c5)) w.heap.size 25 (.slice (some ⟨g, o, none⟩) n c) (.slice A2 nr c2) (.slice A3 ni c3) ∧ NetBox (w7.setCell ⟨w.heap.size + 1 + 1, 0, none⟩ (.slice A5 (i + 1) c5)) (w.heap.size + 1) 30 (.slice none 0 0) (.slice none 0 0) (.slice none 0 0) ∧
          NetBox (w7.setCell ⟨w.heap.size + 1 + 1, 0, none⟩ (.slice A5 (i + 1) c5)) (w.heap.size + 1 + 1) 30 (.slice A5 (i + 1) c5) (.slice A2 nr c2) (.slice A3 ni c3)) := Lib.hid (by
        have sc : ∀ k, k ≠ w.heap.size + 1 + 1 → (w7.setCell ⟨w.heap.size + 1 + 1, 0, none⟩ (.slice A5 (i + 1) c5)).heap[k]? = w7.heap[k]? := fun k hk => Below.heap_setCell _ _ _ _ hk
        refine ⟨own_block HO7.out (fun k hk => sc k (fun e => hv2 (by rw [hk, e]))), HB7.out.setCell (p := ⟨w.heap.size + 1 + 1, 0, none⟩) (by simp; omega) _, ⟨(sc _ (by omega)).trans HX70.out.cell⟩, ⟨(sc _ (by omega)).trans HX71.out.cell⟩, ⟨?_⟩⟩
        have := HX72.out.cell
        simp [World.setCell, Array.getElem?_modify, this])
      clear hown7 hgrow7 hat7 hne st hn0 hn1 hn2 hv2
      go_wp2_with fail
      exact ⟨⟨i + 1, A5, c5, by omega, by go_num, HE.out.1, HE.out.2.1, HE.out.2.2.1, HE.out.2.2.2.1, HE.out.2.2.2.2⟩, by simp [intOf]; omega⟩
    · have hie : i = n := by omega
      subst hie
      have HE : Hid (OpsR wr (.slice A4 i c4) N.ops) := Lib.hid (by
        have := HO.out
        rw [← HN.out, List.take_length] at this
        have e := OpsR.of_own this
        rw [HN.out] at e; exact e)
      have HE2 : Hid (∀ k1 k2 k3 W, W = ((wr.setCell ⟨w.heap.size + 1, 0, none⟩ k1).setCell ⟨w.heap.size + 1, 1, none⟩ k2).setCell ⟨w.heap.size + 1, 2, none⟩ k3 → OpsR W (.slice A4 i c4) N.ops ∧ Below w.heap.size w W) := Lib.hid (fun k1 k2 k3 W hW => by
        subst hW
        have ho2 : (((wr.setCell ⟨w.heap.size + 1, 0, none⟩ k1).setCell ⟨w.heap.size + 1, 1, none⟩ k2).setCell ⟨w.heap.size + 1, 2, none⟩ k3).ownsRow w.heap.size 79 5 (.slice A4 i c4) i (opsOf (N.ops.take i)) := own_block HO.out (fun k hk => by
          have hk1 : k ≠ w.heap.size + 1 := fun e => by
            obtain ⟨cs, hc⟩ := own_cells HO.out hk
            have := HX1.out.cell
            rw [← e, hc] at this; simp at this
          rw [Below.heap_setCell _ _ _ _ hk1, Below.heap_setCell _ _ _ _ hk1, Below.heap_setCell _ _ _ _ hk1])
        rw [← HN.out, List.take_length] at ho2
        refine ⟨by have e := OpsR.of_own ho2
                   rw [HN.out] at e; exact e, ((HB.out.setCell (p := ⟨w.heap.size + 1, 0, none⟩) (by simp) _).setCell (p := ⟨w.heap.size + 1, 1, none⟩) (by simp) _).setCell (p := ⟨w.heap.size + 1, 2, none⟩) (by simp) _⟩)
      go_wp2_with fail
      obtain ⟨y0, y1, y2⟩ := (HX1.out.set3 (.slice A4 i c4) (.slice A2 nr c2) (.slice A3 ni c3)).ats
      exact bodyPost_ret (v := .agg #[.slice A4 i c4, .slice A2 nr c2, .slice A3 ni c3]) (by simp [results, Try.results16, go_sem, y0, y1, y2]) rfl ⟨_, rfl, (HE2.out _ _ _ _ rfl).1, (HE2.out _ _ _ _ rfl).2⟩
theorem info_told : (Try.prog.info? 69).map (fun i => (i.zero, i.size, i.bytes)) = some (some (.agg #[.int .i64 0, .int .i64 0, .int .i64 0, .int .i64 0, .int .i64 0]), 5, 40) := by kernel_rfl
set_option maxRecDepth 100000 in
set_option maxHeartbeats 8000000 in
theorem told_any (w : World) (ov rv iv : Value) (N : Net) (h : NetR w ov rv iv N) (hn3 : N.ops.length ≤ 1000) :
    Calls Try.prog 23 #[.agg #[ov, rv, iv]] w (fun e w' => ∃ ov', e = .returned (.agg #[ov', rv, iv]) ∧ OpsR w' ov' N.ops ∧ Below w.heap.size w w') := by
  obtain ⟨i0, hi0, hz0, hz1, hz2⟩ := info_parts info_told
  obtain ⟨h1, h2, h3⟩ := h
  obtain ⟨A, c, rfl, z1, z2⟩ := h1.form
  obtain ⟨A2, c2, rfl, z3, z4⟩ := ints_form h2
  obtain ⟨A3, c3, rfl, z5, z6⟩ := ints_form h3
  obtain ⟨n, hn⟩ : ∃ n, N.ops.length = n := ⟨_, rfl⟩
  rw [hn] at h1 z1 hn3 ⊢
  have HN := Lib.hid hn
  have H1 := Lib.hid h1
  obtain ⟨nr, hnr⟩ : ∃ n, N.roots.length = n := ⟨_, rfl⟩
  obtain ⟨ni, hni⟩ : ∃ n, N.ins.length = n := ⟨_, rfl⟩
  rw [hnr, hni]
  unfold maxLen at z2
  clear h1 h2 h3 hn hnr hni z3 z4 z5 z6
  have HST : Hid (∀ W, W = ((w.alloc (.cells #[.slice A n c, .slice A2 nr c2, .slice A3 ni c3] 30)).alloc (.cells #[.slice none 0 0, .slice none 0 0, .slice none 0 0] 25)).alloc (.cells #[.slice none 0 0, .slice A2 nr c2, .slice A3 ni c3] 25) →
      NetBox W w.heap.size 30 (.slice A n c) (.slice A2 nr c2) (.slice A3 ni c3) ∧ NetBox W (w.heap.size + 1) 25 (.slice none 0 0) (.slice none 0 0) (.slice none 0 0) ∧ NetBox W (w.heap.size + 1 + 1) 25 (.slice none 0 0) (.slice A2 nr c2) (.slice A3 ni c3) ∧ Below w.heap.size w W) := Lib.hid (fun W hW => by
    obtain ⟨k0, k1, k2, hb⟩ := blocks3 w W _ _ _ hW
    exact ⟨⟨k0⟩, ⟨k1⟩, ⟨k2⟩, hb⟩)
  go_enter Try.func23, Try.ntmps23
  go_wp2_with fail
  go_loopw [4] (fun vi wr => ∃ (i : Nat) (A4 : Option Addr) (c4 : Nat), i ≤ n ∧ vi = .int .i64 (i : Int) ∧ wr.ownsRow w.heap.size 69 5 (.slice A4 i c4) i (opsOf (N.ops.take i)) ∧ Below w.heap.size w wr ∧
    NetBox wr w.heap.size 30 (.slice A n c) (.slice A2 nr c2) (.slice A3 ni c3) ∧ NetBox wr (w.heap.size + 1) 25 (.slice none 0 0) (.slice none 0 0) (.slice none 0 0) ∧ NetBox wr (w.heap.size + 1 + 1) 25 (.slice A4 i c4) (.slice A2 nr c2) (.slice A3 ni c3)) (fun vi _ => n - (intOf vi).toNat)
  case atStart =>
    obtain ⟨k0, k1, k2, hb⟩ := HST.out _ rfl
    exact ⟨0, none, 0, Nat.zero_le _, rfl, by simp [opsOf]; exact World.ownsRow_nil _ _ _ _, hb, k0, k1, k2⟩
  case round =>
    obtain ⟨i, A4, c4, hi, rfl, ho, hb, hx0, hx1, hx2⟩ := hrel
    have HO := Lib.hid ho
    have HB := Lib.hid hb
    have HX0 := Lib.hid hx0
    have HX1 := Lib.hid hx1
    have HX2 := Lib.hid hx2
    obtain ⟨p0, p1, p2⟩ := hx0.ats
    obtain ⟨q0, q1, q2⟩ := hx1.ats
    obtain ⟨r0, r1, r2⟩ := hx2.ats
    obtain ⟨fq0, fq1, fq2⟩ := hx1.fzs
    obtain ⟨fr0, fr1, fr2⟩ := hx2.fzs
    have l0 := hx0.lt
    have l1 := hx1.lt
    have l2 := hx2.lt
    clear ho hb hx0 hx1 hx2
    by_cases hlt : i < n
    · obtain ⟨x, hx⟩ : ∃ x, N.ops[i]? = some x := ⟨_, List.getElem?_eq_getElem (by rw [HN.out]; exact hlt)⟩
      obtain ⟨g, o, rfl, hg, d0, d1, d2, d3, d4⟩ := (H1.out.below HB.out (Nat.le_refl _)).at hx
      have HTK : Hid (opsOf (N.ops.take (i + 1)) = opsOf (N.ops.take i) ++ opCells x) := Lib.hid (by rw [List.take_add_one, hx]; exact ops_snoc _ _)
      obtain ⟨xo, xa, xb, xc, xn⟩ := x
      dsimp only at d0 d1 d2 d3 d4
      have HCN : Hid (∀ (k : Nat) u, (opCells ⟨xo, xa, xb, xc, xn⟩)[k]? = some u → ((wr.alloc (.cells #[.int .i64 xo, .int .i64 xa, .int .i64 xb, .int .i64 xc, .int .i64 xn] 79)).alloc (.cells #[.int .i64 xo, .int .i64 xa, .int .i64 xb, .int .i64 xc, .int .i64 xn] 69)).cell? ((⟨wr.heap.size + 1, 0, none⟩ : Addr).add k) = some u) := Lib.hid (by
        have h5 := heap_alloc_new (wr.alloc (.cells #[.int .i64 xo, .int .i64 xa, .int .i64 xb, .int .i64 xc, .int .i64 xn] 79)) (.cells #[.int .i64 xo, .int .i64 xa, .int .i64 xb, .int .i64 xc, .int .i64 xn] 69)
        rw [show (wr.alloc (.cells #[.int .i64 xo, .int .i64 xa, .int .i64 xb, .int .i64 xc, .int .i64 xn] 79)).heap.size = wr.heap.size + 1 by simp] at h5
        exact World.news_of_block (cs := #[.int .i64 xo, .int .i64 xa, .int .i64 xb, .int .i64 xc, .int .i64 xn]) h5)
      have hszr : w.heap.size ≤ wr.heap.size := HB.out.size
      clear hx
      go_wp2_with (at_builtin; refine wpList_append_own_at _ rfl (.tmp 24) (.tmp 36) 22 rfl w.heap.size 69 i0 (.agg #[.int .i64 0, .int .i64 0, .int .i64 0, .int .i64 0, .int .i64 0]) 5 40 Try.underlying22 hi0 hz0 hz1 hz2 rfl (by decide) _ _ _ rfl ((HO.out.alloc _).alloc _) ⟨wr.heap.size + 1, 0, none⟩ 1 1 (opCells ⟨xo, xa, xb, xc, xn⟩) rfl rfl HCN.out ?b1 ?c1 ?d1 ?e1 ?_)
      case b1 => intro u hu; simp [opCells] at hu; rcases hu with rfl | rfl | rfl | rfl | rfl <;> rfl
      case c1 => unfold maxLen; omega
      case d1 => omega
      case e1 => first | omega | (simp; omega)
      intro v' w7 hown7 hgrow7 _ hat7
      have hne : ∀ k T a1 a2 a3, NetBox wr k T a1 a2 a3 → T ≠ 69 → (Value.slice A4 i c4).ownBlock ≠ some k := fun k T a1 a2 a3 hx hT e => by
        obtain ⟨cs, hc⟩ := own_cells HO.out e
        have := hx.cell
        rw [hc] at this; simp at this; exact hT this.2.symm
      have st : ∀ k, k < wr.heap.size → (Value.slice A4 i c4).ownBlock ≠ some k → w7.heap[k]? = wr.heap[k]? := fun k h1 h2 => (hgrow7.block k (by simp; omega) (fun e => h2 e.symm)).trans ((Below.heap_alloc _ _ _ (by simp; omega)).trans (Below.heap_alloc _ _ _ h1))
      have hn0 := hne _ _ _ _ _ HX0.out (by decide)
      have hn1 := hne _ _ _ _ _ HX1.out (by decide)
      have hn2 := hne _ _ _ _ _ HX2.out (by decide)
      have HX70 : Hid (NetBox w7 w.heap.size 30 (.slice (some ⟨g, o, none⟩) n c) (.slice A2 nr c2) (.slice A3 ni c3)) := Lib.hid ⟨(st _ l0 hn0).trans HX0.out.cell⟩
      have HX71 : Hid (NetBox w7 (w.heap.size + 1) 25 (.slice none 0 0) (.slice none 0 0) (.slice none 0 0)) := Lib.hid ⟨(st _ l1 hn1).trans HX1.out.cell⟩
      have HX72 : Hid (NetBox w7 (w.heap.size + 1 + 1) 25 (.slice A4 i c4) (.slice A2 nr c2) (.slice A3 ni c3)) := Lib.hid ⟨(st _ l2 hn2).trans HX2.out.cell⟩
      have HB7 : Hid (Below w.heap.size w w7) := Lib.hid (((HB.out.alloc hszr _).alloc (by simp; omega) _).grown hgrow7 (by simp; omega) (fun k hk => (HO.out.lt k hk).1))
      have HO7 : Hid (w7.ownsRow w.heap.size 69 5 v' (i + 1) (opsOf (N.ops.take (i + 1)))) := Lib.hid (by rw [HTK.out]; exact hown7)
      obtain ⟨A5, c5, rfl⟩ : ∃ A c, v' = .slice A (i + 1) c := by
        obtain ⟨-, h1 | ⟨g, cap, cur, e, -⟩⟩ := hown7
        · omega
        · exact ⟨_, _, e⟩
      have hv2 : (Value.slice A5 (i + 1) c5).ownBlock ≠ some (w.heap.size + 1 + 1) := fun e => by
        obtain ⟨cs, hc⟩ := own_cells HO7.out e
        have := HX72.out.cell
        rw [hc] at this; simp at this
      obtain ⟨s0, s1, s2⟩ := HX72.out.ats
      obtain ⟨f0, f1, f2⟩ := HX72.out.fzs
      have HE : Hid ((w7.setCell ⟨w.heap.size + 1 + 1, 0, none⟩ (.slice A5 (i + 1) c5)).ownsRow w.heap.size 69 5 (.slice A5 (i + 1) c5) (i + 1) (opsOf (N.ops.take (i + 1))) ∧ Below w.heap.size w (w7.setCell ⟨w.heap.size + 1 + 1, 0, none⟩ (.slice A5 (i + 1) c5)) ∧
          NetBox (w7.setCell ⟨w.heap.size + 1 + 1, 0, none⟩ (.slice A5 (i + 1) c5)) w.heap.size 30 (.slice (some ⟨g, o, none⟩) n c) (.slice A2 nr c2) (.slice A3 ni c3) ∧ NetBox (w7.setCell ⟨w.heap.size + 1 + 1, 0, none⟩ (.slice A5 (i + 1) c5)) (w.heap.size + 1) 25 (.slice none 0 0) (.slice none 0 0) (.slice none 0 0) ∧
          NetBox (w7.setCell ⟨w.heap.size + 1 + 1, 0, none⟩ (.slice A5 (i + 1) c5)) (w.heap.size + 1 + 1) 25 (.slice A5 (i + 1) c5) (.slice A2 nr c2) (.slice A3 ni c3)) := Lib.hid (by
        have sc : ∀ k, k ≠ w.heap.size + 1 + 1 → (w7.setCell ⟨w.heap.size + 1 + 1, 0, none⟩ (.slice A5 (i + 1) c5)).heap[k]? = w7.heap[k]? := fun k hk => Below.heap_setCell _ _ _ _ hk
        refine ⟨own_block HO7.out (fun k hk => sc k (fun e => hv2 (by rw [hk, e]))), HB7.out.setCell (p := ⟨w.heap.size + 1 + 1, 0, none⟩) (by simp; omega) _, ⟨(sc _ (by omega)).trans HX70.out.cell⟩, ⟨(sc _ (by omega)).trans HX71.out.cell⟩, ⟨?_⟩⟩
        have := HX72.out.cell
        simp [World.setCell, Array.getElem?_modify, this])
      clear hown7 hgrow7 hat7 hne st hn0 hn1 hn2 hv2
      go_wp2_with fail
      exact ⟨⟨i + 1, A5, c5, by omega, by go_num, HE.out.1, HE.out.2.1, HE.out.2.2.1, HE.out.2.2.2.1, HE.out.2.2.2.2⟩, by simp [intOf]; omega⟩
    · have hie : i = n := by omega
      subst hie
      have HE : Hid (OpsR wr (.slice A4 i c4) N.ops) := Lib.hid (by
        have := HO.out
        rw [← HN.out, List.take_length] at this
        have e := OpsR.of_own this
        rw [HN.out] at e; exact e)
      have HE2 : Hid (∀ k1 k2 k3 W, W = ((wr.setCell ⟨w.heap.size + 1, 0, none⟩ k1).setCell ⟨w.heap.size + 1, 1, none⟩ k2).setCell ⟨w.heap.size + 1, 2, none⟩ k3 → OpsR W (.slice A4 i c4) N.ops ∧ Below w.heap.size w W) := Lib.hid (fun k1 k2 k3 W hW => by
        subst hW
        have ho2 : (((wr.setCell ⟨w.heap.size + 1, 0, none⟩ k1).setCell ⟨w.heap.size + 1, 1, none⟩ k2).setCell ⟨w.heap.size + 1, 2, none⟩ k3).ownsRow w.heap.size 69 5 (.slice A4 i c4) i (opsOf (N.ops.take i)) := own_block HO.out (fun k hk => by
          have hk1 : k ≠ w.heap.size + 1 := fun e => by
            obtain ⟨cs, hc⟩ := own_cells HO.out hk
            have := HX1.out.cell
            rw [← e, hc] at this; simp at this
          rw [Below.heap_setCell _ _ _ _ hk1, Below.heap_setCell _ _ _ _ hk1, Below.heap_setCell _ _ _ _ hk1])
        rw [← HN.out, List.take_length] at ho2
        refine ⟨by have e := OpsR.of_own ho2
                   rw [HN.out] at e; exact e, ((HB.out.setCell (p := ⟨w.heap.size + 1, 0, none⟩) (by simp) _).setCell (p := ⟨w.heap.size + 1, 1, none⟩) (by simp) _).setCell (p := ⟨w.heap.size + 1, 2, none⟩) (by simp) _⟩)
      go_wp2_with fail
      obtain ⟨y0, y1, y2⟩ := (HX1.out.set3 (.slice A4 i c4) (.slice A2 nr c2) (.slice A3 ni c3)).ats
      exact bodyPost_ret (v := .agg #[.slice A4 i c4, .slice A2 nr c2, .slice A3 ni c3]) (by simp [results, Try.results23, go_sem, y0, y1, y2]) rfl ⟨_, rfl, (HE2.out _ _ _ _ rfl).1, (HE2.out _ _ _ _ rfl).2⟩
end Go.Proofs.Ytcphjehjdhgheaa.Nt
