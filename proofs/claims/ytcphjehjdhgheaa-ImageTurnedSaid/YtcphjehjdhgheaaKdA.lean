/- Code of the document's for the program, and the other way round. Conditions: it has at most 1000 instructions. -/
import Derived.Test.YtcphjehjdhgheaaKaA
import Derived.Test.YtcphjehjdhgheaaNtP
namespace Go.Proofs.Ytcphjehjdhgheaa.Nt
open Go.ChangeShapes Go.WideShapes Go.ChangeAt Go.RowKit Go.Proofs.Ytcphjehjdhgheaa.Tr
set_option linter.unusedVariables false
set_option linter.unusedSimpArgs false

theorem CodBox.fzd {w : World} {b T : Nat} {iv ov pv : Value} {r s : Int} (h : CodBox w b T iv r s ov pv) : w.frozen? ⟨b, 0, none⟩ = false ∧ w.frozen? ⟨b, 1, none⟩ = false ∧ w.frozen? ⟨b, 2, none⟩ = false ∧ w.frozen? ⟨b, 3, none⟩ = false ∧ w.frozen? ⟨b, 4, none⟩ = false := by
  have := h.cell
  refine ⟨?_, ?_, ?_, ?_, ?_⟩ <;> simp [World.frozen?, this]
abbrev set5 (W : World) (b : Nat) (v0 v1 v2 v3 v4 : Value) : World := ((((W.setCell ⟨b, 0, none⟩ v0).setCell ⟨b, 1, none⟩ v1).setCell ⟨b, 2, none⟩ v2).setCell ⟨b, 3, none⟩ v3).setCell ⟨b, 4, none⟩ v4
theorem CodBox.set5d {w : World} {b T : Nat} {iv ov pv : Value} {r s : Int} (h : CodBox w b T iv r s ov pv) (x y z : Value) (r' s' : Int) : CodBox (Nt.set5 w b x (.int .i64 r') (.int .i64 s') y z) b T x r' s' y z := by
  refine ⟨?_⟩
  have := h.cell
  simp [World.setCell, Array.getElem?_modify, this]
theorem info_mown : (Try.prog.info? 109).map (fun i => (i.zero, i.size, i.bytes)) = some (some (.agg #[.int .i64 0, .int .i64 0, .int .i64 0, .int .i64 0, .int .i64 0, .int .i64 0]), 6, 48) := by kernel_rfl
set_option maxRecDepth 100000 in
set_option maxHeartbeats 8000000 in
theorem mown_any (w : World) (iv ov pv : Value) (C : Cod) (h : CodR w iv ov pv C) (hn3 : C.ins.length ≤ 1000) :
    Calls Try.prog 34 #[.agg #[iv, .int .i64 C.regs, .int .i64 C.slots, ov, pv]] w (fun e w' => ∃ iv', e = .returned (.agg #[iv', .int .i64 C.regs, .int .i64 C.slots, ov, pv]) ∧ InsR w' iv' C.ins ∧ Below w.heap.size w w') := by
  obtain ⟨i0, hi0, hz0, hz1, hz2⟩ := info_parts info_mown
  obtain ⟨h1, h2, h3⟩ := h
  obtain ⟨A, c, rfl, z1, z2⟩ := h1.form
  obtain ⟨A2, c2, rfl, z3, z4⟩ := ints_form h2
  obtain ⟨A3, c3, rfl, z5, z6⟩ := ints_form h3
  obtain ⟨n, hn⟩ : ∃ n, C.ins.length = n := ⟨_, rfl⟩
  rw [hn] at h1 z1 hn3 ⊢
  have HN := Lib.hid hn
  have H1 := Lib.hid h1
  obtain ⟨nr, hnr⟩ : ∃ n, C.outs.length = n := ⟨_, rfl⟩
  obtain ⟨ni, hni⟩ : ∃ n, C.inp.length = n := ⟨_, rfl⟩
  obtain ⟨rg, hrg⟩ : ∃ r, C.regs = r := ⟨_, rfl⟩
  obtain ⟨sl, hsl⟩ : ∃ r, C.slots = r := ⟨_, rfl⟩
  rw [hnr, hni, hrg, hsl]
  unfold maxLen at z2
  clear h1 h2 h3 hn hnr hni hrg hsl z3 z4 z5 z6
  have HST : Hid (∀ W, W = ((w.alloc (.cells #[.slice A n c, .int .i64 rg, .int .i64 sl, .slice A2 nr c2, .slice A3 ni c3] 54)).alloc (.cells #[.slice none 0 0, .int .i64 0, .int .i64 0, .slice none 0 0, .slice none 0 0] 59)).alloc (.cells #[.slice none 0 0, .int .i64 rg, .int .i64 sl, .slice A2 nr c2, .slice A3 ni c3] 59) →
      CodBox W w.heap.size 54 (.slice A n c) rg sl (.slice A2 nr c2) (.slice A3 ni c3) ∧ CodBox W (w.heap.size + 1) 59 (.slice none 0 0) 0 0 (.slice none 0 0) (.slice none 0 0) ∧ CodBox W (w.heap.size + 1 + 1) 59 (.slice none 0 0) rg sl (.slice A2 nr c2) (.slice A3 ni c3) ∧ Below w.heap.size w W) := Lib.hid (fun W hW => by
    obtain ⟨k0, k1, k2, hb⟩ := blocks3 w W _ _ _ hW
    exact ⟨⟨k0⟩, ⟨k1⟩, ⟨k2⟩, hb⟩)
  go_enter Try.func34, Try.ntmps34
  go_wp2_with fail
  go_loopw [4] (fun vi wr => ∃ (i : Nat) (A4 : Option Addr) (c4 : Nat), i ≤ n ∧ vi = .int .i64 (i : Int) ∧ wr.ownsRow w.heap.size 109 6 (.slice A4 i c4) i (insOfL (C.ins.take i)) ∧ Below w.heap.size w wr ∧
    CodBox wr w.heap.size 54 (.slice A n c) rg sl (.slice A2 nr c2) (.slice A3 ni c3) ∧ CodBox wr (w.heap.size + 1) 59 (.slice none 0 0) 0 0 (.slice none 0 0) (.slice none 0 0) ∧ CodBox wr (w.heap.size + 1 + 1) 59 (.slice A4 i c4) rg sl (.slice A2 nr c2) (.slice A3 ni c3)) (fun vi _ => n - (intOf vi).toNat)
  case atStart =>
    obtain ⟨k0, k1, k2, hb⟩ := HST.out _ rfl
    exact ⟨0, none, 0, Nat.zero_le _, rfl, by simp [insOfL]; exact World.ownsRow_nil _ _ _ _, hb, k0, k1, k2⟩
  case round =>
    obtain ⟨i, A4, c4, hi, rfl, ho, hb, hx0, hx1, hx2⟩ := hrel
    have HO := Lib.hid ho
    have HB := Lib.hid hb
    have HX0 := Lib.hid hx0
    have HX1 := Lib.hid hx1
    have HX2 := Lib.hid hx2
    obtain ⟨p0, p1, p2, p3, p4⟩ := hx0.ats
    obtain ⟨q0, q1, q2, q3, q4⟩ := hx1.ats
    obtain ⟨r0, r1, r2, r3, r4⟩ := hx2.ats
    obtain ⟨fq0, fq1, fq2, fq3, fq4⟩ := hx1.fzd
    obtain ⟨fr0, fr1, fr2, fr3, fr4⟩ := hx2.fzd
    have l0 := hx0.lt
    have l1 := hx1.lt
    have l2 := hx2.lt
    clear ho hb hx0 hx1 hx2
    by_cases hlt : i < n
    · obtain ⟨x, hx⟩ : ∃ x, C.ins[i]? = some x := ⟨_, List.getElem?_eq_getElem (by rw [HN.out]; exact hlt)⟩
      obtain ⟨g, o, rfl, hg, d0, d1, d2, d3, d4, d5⟩ := (H1.out.below HB.out (Nat.le_refl _)).at hx
      have HTK : Hid (insOfL (C.ins.take (i + 1)) = insOfL (C.ins.take i) ++ insCells x) := Lib.hid (by rw [List.take_add_one, hx]; exact ins_snoc _ _)
      obtain ⟨xo, xd, xa, xb, xc, xn⟩ := x
      dsimp only at d0 d1 d2 d3 d4 d5
      have HCN : Hid (∀ (k : Nat) u, (insCells ⟨xo, xd, xa, xb, xc, xn⟩)[k]? = some u → ((wr.alloc (.cells #[.int .i64 xo, .int .i64 xd, .int .i64 xa, .int .i64 xb, .int .i64 xc, .int .i64 xn] 112)).alloc (.cells #[.int .i64 xo, .int .i64 xd, .int .i64 xa, .int .i64 xb, .int .i64 xc, .int .i64 xn] 109)).cell? ((⟨wr.heap.size + 1, 0, none⟩ : Addr).add k) = some u) := Lib.hid (by
        have h5 := heap_alloc_new (wr.alloc (.cells #[.int .i64 xo, .int .i64 xd, .int .i64 xa, .int .i64 xb, .int .i64 xc, .int .i64 xn] 112)) (.cells #[.int .i64 xo, .int .i64 xd, .int .i64 xa, .int .i64 xb, .int .i64 xc, .int .i64 xn] 109)
        rw [show (wr.alloc (.cells #[.int .i64 xo, .int .i64 xd, .int .i64 xa, .int .i64 xb, .int .i64 xc, .int .i64 xn] 112)).heap.size = wr.heap.size + 1 by simp] at h5
        exact World.news_of_block (cs := #[.int .i64 xo, .int .i64 xd, .int .i64 xa, .int .i64 xb, .int .i64 xc, .int .i64 xn]) h5)
      have hszr : w.heap.size ≤ wr.heap.size := HB.out.size
      clear hx
      go_wp2_with (at_builtin; refine wpList_append_own_at _ rfl (.tmp 28) (.tmp 42) 57 rfl w.heap.size 109 i0 (.agg #[.int .i64 0, .int .i64 0, .int .i64 0, .int .i64 0, .int .i64 0, .int .i64 0]) 6 48 Try.underlying57 hi0 hz0 hz1 hz2 rfl (by decide) _ _ _ rfl ((HO.out.alloc _).alloc _) ⟨wr.heap.size + 1, 0, none⟩ 1 1 (insCells ⟨xo, xd, xa, xb, xc, xn⟩) rfl rfl HCN.out ?b1 ?c1 ?d1 ?e1 ?_)
      case b1 => intro u hu; simp [insCells] at hu; rcases hu with rfl | rfl | rfl | rfl | rfl | rfl <;> rfl
      case c1 => unfold maxLen; omega
      case d1 => omega
      case e1 => first | omega | (simp; omega)
      intro v' w7 hown7 hgrow7 _ hat7
      have hne : ∀ k T a1 a2 a3 b1 b2, CodBox wr k T a1 b1 b2 a2 a3 → T ≠ 109 → (Value.slice A4 i c4).ownBlock ≠ some k := fun k T a1 a2 a3 b1 b2 hx hT e => by
        obtain ⟨cs, hc⟩ := own_cells HO.out e
        have := hx.cell
        rw [hc] at this; simp at this; exact hT this.2.symm
      have st : ∀ k, k < wr.heap.size → (Value.slice A4 i c4).ownBlock ≠ some k → w7.heap[k]? = wr.heap[k]? := fun k h1 h2 => (hgrow7.block k (by simp; omega) (fun e => h2 e.symm)).trans ((Below.heap_alloc _ _ _ (by simp; omega)).trans (Below.heap_alloc _ _ _ h1))
      have hn0 := hne _ _ _ _ _ _ _ HX0.out (by decide)
      have hn1 := hne _ _ _ _ _ _ _ HX1.out (by decide)
      have hn2 := hne _ _ _ _ _ _ _ HX2.out (by decide)
      have HX70 : Hid (CodBox w7 w.heap.size 54 (.slice (some ⟨g, o, none⟩) n c) rg sl (.slice A2 nr c2) (.slice A3 ni c3)) := Lib.hid ⟨(st _ l0 hn0).trans HX0.out.cell⟩
      have HX71 : Hid (CodBox w7 (w.heap.size + 1) 59 (.slice none 0 0) 0 0 (.slice none 0 0) (.slice none 0 0)) := Lib.hid ⟨(st _ l1 hn1).trans HX1.out.cell⟩
      have HX72 : Hid (CodBox w7 (w.heap.size + 1 + 1) 59 (.slice A4 i c4) rg sl (.slice A2 nr c2) (.slice A3 ni c3)) := Lib.hid ⟨(st _ l2 hn2).trans HX2.out.cell⟩
      have HB7 : Hid (Below w.heap.size w w7) := Lib.hid (((HB.out.alloc hszr _).alloc (by simp; omega) _).grown hgrow7 (by simp; omega) (fun k hk => (HO.out.lt k hk).1))
      have HO7 : Hid (w7.ownsRow w.heap.size 109 6 v' (i + 1) (insOfL (C.ins.take (i + 1)))) := Lib.hid (by rw [HTK.out]; exact hown7)
      obtain ⟨A5, c5, rfl⟩ : ∃ A c, v' = .slice A (i + 1) c := by
        obtain ⟨-, h1 | ⟨g, cap, cur, e, -⟩⟩ := hown7
        · omega
        · exact ⟨_, _, e⟩
      have hv2 : (Value.slice A5 (i + 1) c5).ownBlock ≠ some (w.heap.size + 1 + 1) := fun e => by
        obtain ⟨cs, hc⟩ := own_cells HO7.out e
        have := HX72.out.cell
        rw [hc] at this; simp at this
      obtain ⟨s0, s1, s2, s3, s4⟩ := HX72.out.ats
      obtain ⟨f0, f1, f2, f3, f4⟩ := HX72.out.fzd
      have HE : Hid ((w7.setCell ⟨w.heap.size + 1 + 1, 0, none⟩ (.slice A5 (i + 1) c5)).ownsRow w.heap.size 109 6 (.slice A5 (i + 1) c5) (i + 1) (insOfL (C.ins.take (i + 1))) ∧ Below w.heap.size w (w7.setCell ⟨w.heap.size + 1 + 1, 0, none⟩ (.slice A5 (i + 1) c5)) ∧
          CodBox (w7.setCell ⟨w.heap.size + 1 + 1, 0, none⟩ (.slice A5 (i + 1) c5)) w.heap.size 54 (.slice (some ⟨g, o, none⟩) n c) rg sl (.slice A2 nr c2) (.slice A3 ni c3) ∧ CodBox (w7.setCell ⟨w.heap.size + 1 + 1, 0, none⟩ (.slice A5 (i + 1) c5)) (w.heap.size + 1) 59 (.slice none 0 0) 0 0 (.slice none 0 0) (.slice none 0 0) ∧
          CodBox (w7.setCell ⟨w.heap.size + 1 + 1, 0, none⟩ (.slice A5 (i + 1) c5)) (w.heap.size + 1 + 1) 59 (.slice A5 (i + 1) c5) rg sl (.slice A2 nr c2) (.slice A3 ni c3)) := Lib.hid (by
        have sc : ∀ k, k ≠ w.heap.size + 1 + 1 → (w7.setCell ⟨w.heap.size + 1 + 1, 0, none⟩ (.slice A5 (i + 1) c5)).heap[k]? = w7.heap[k]? := fun k hk => Below.heap_setCell _ _ _ _ hk
        refine ⟨own_block HO7.out (fun k hk => sc k (fun e => hv2 (by rw [hk, e]))), HB7.out.setCell (p := ⟨w.heap.size + 1 + 1, 0, none⟩) (by simp; omega) _, ⟨(sc _ (by omega)).trans HX70.out.cell⟩, ⟨(sc _ (by omega)).trans HX71.out.cell⟩, ⟨?_⟩⟩
        have := HX72.out.cell
        simp [World.setCell, Array.getElem?_modify, this])
      clear hown7 hgrow7 hat7 hne st hn0 hn1 hn2 hv2
      go_wp2_with fail
      exact ⟨⟨i + 1, A5, c5, by omega, by go_num, HE.out.1, HE.out.2.1, HE.out.2.2.1, HE.out.2.2.2.1, HE.out.2.2.2.2⟩, by simp [intOf]; omega⟩
    · have hie : i = n := by omega
      subst hie
      have HE2 : Hid (∀ k0 k1 k2 k3 k4 W, W = Nt.set5 wr (w.heap.size + 1) k0 k1 k2 k3 k4 → InsR W (.slice A4 i c4) C.ins ∧ Below w.heap.size w W) := Lib.hid (fun k0 k1 k2 k3 k4 W hW => by
        subst hW
        have ho2 : (Nt.set5 wr (w.heap.size + 1) k0 k1 k2 k3 k4).ownsRow w.heap.size 109 6 (.slice A4 i c4) i (insOfL (C.ins.take i)) := own_block HO.out (fun k hk => by
          have hk1 : k ≠ w.heap.size + 1 := fun e => by
            obtain ⟨cs, hc⟩ := own_cells HO.out hk
            have := HX1.out.cell
            rw [← e, hc] at this; simp at this
          unfold Nt.set5
          rw [Below.heap_setCell _ _ _ _ hk1, Below.heap_setCell _ _ _ _ hk1, Below.heap_setCell _ _ _ _ hk1, Below.heap_setCell _ _ _ _ hk1, Below.heap_setCell _ _ _ _ hk1])
        rw [← HN.out, List.take_length] at ho2
        refine ⟨by have e := InsR.of_own ho2
                   rw [HN.out] at e; exact e, ((((HB.out.setCell (p := ⟨w.heap.size + 1, 0, none⟩) (by simp) _).setCell (p := ⟨w.heap.size + 1, 1, none⟩) (by simp) _).setCell (p := ⟨w.heap.size + 1, 2, none⟩) (by simp) _).setCell (p := ⟨w.heap.size + 1, 3, none⟩) (by simp) _).setCell (p := ⟨w.heap.size + 1, 4, none⟩) (by simp) _⟩)
      go_wp2_with fail
      obtain ⟨y0, y1, y2, y3, y4⟩ := (HX1.out.set5d (.slice A4 i c4) (.slice A2 nr c2) (.slice A3 ni c3) rg sl).ats
      exact bodyPost_ret (v := .agg #[.slice A4 i c4, .int .i64 rg, .int .i64 sl, .slice A2 nr c2, .slice A3 ni c3]) (by simp [results, Try.results34, go_sem, y0, y1, y2, y3, y4]) rfl ⟨_, rfl, (HE2.out _ _ _ _ _ _ rfl).1, (HE2.out _ _ _ _ _ _ rfl).2⟩
theorem info_mtold : (Try.prog.info? 112).map (fun i => (i.zero, i.size, i.bytes)) = some (some (.agg #[.int .i64 0, .int .i64 0, .int .i64 0, .int .i64 0, .int .i64 0, .int .i64 0]), 6, 48) := by kernel_rfl
set_option maxRecDepth 100000 in
set_option maxHeartbeats 8000000 in
theorem mtold_any (w : World) (iv ov pv : Value) (C : Cod) (h : CodR w iv ov pv C) (hn3 : C.ins.length ≤ 1000) :
    Calls Try.prog 38 #[.agg #[iv, .int .i64 C.regs, .int .i64 C.slots, ov, pv]] w (fun e w' => ∃ iv', e = .returned (.agg #[iv', .int .i64 C.regs, .int .i64 C.slots, ov, pv]) ∧ InsR w' iv' C.ins ∧ Below w.heap.size w w') := by
  obtain ⟨i0, hi0, hz0, hz1, hz2⟩ := info_parts info_mtold
  obtain ⟨h1, h2, h3⟩ := h
  obtain ⟨A, c, rfl, z1, z2⟩ := h1.form
  obtain ⟨A2, c2, rfl, z3, z4⟩ := ints_form h2
  obtain ⟨A3, c3, rfl, z5, z6⟩ := ints_form h3
  obtain ⟨n, hn⟩ : ∃ n, C.ins.length = n := ⟨_, rfl⟩
  rw [hn] at h1 z1 hn3 ⊢
  have HN := Lib.hid hn
  have H1 := Lib.hid h1
  obtain ⟨nr, hnr⟩ : ∃ n, C.outs.length = n := ⟨_, rfl⟩
  obtain ⟨ni, hni⟩ : ∃ n, C.inp.length = n := ⟨_, rfl⟩
  obtain ⟨rg, hrg⟩ : ∃ r, C.regs = r := ⟨_, rfl⟩
  obtain ⟨sl, hsl⟩ : ∃ r, C.slots = r := ⟨_, rfl⟩
  rw [hnr, hni, hrg, hsl]
  unfold maxLen at z2
  clear h1 h2 h3 hn hnr hni hrg hsl z3 z4 z5 z6
  have HST : Hid (∀ W, W = ((w.alloc (.cells #[.slice A n c, .int .i64 rg, .int .i64 sl, .slice A2 nr c2, .slice A3 ni c3] 59)).alloc (.cells #[.slice none 0 0, .int .i64 0, .int .i64 0, .slice none 0 0, .slice none 0 0] 54)).alloc (.cells #[.slice none 0 0, .int .i64 rg, .int .i64 sl, .slice A2 nr c2, .slice A3 ni c3] 54) →
      CodBox W w.heap.size 59 (.slice A n c) rg sl (.slice A2 nr c2) (.slice A3 ni c3) ∧ CodBox W (w.heap.size + 1) 54 (.slice none 0 0) 0 0 (.slice none 0 0) (.slice none 0 0) ∧ CodBox W (w.heap.size + 1 + 1) 54 (.slice none 0 0) rg sl (.slice A2 nr c2) (.slice A3 ni c3) ∧ Below w.heap.size w W) := Lib.hid (fun W hW => by
    obtain ⟨k0, k1, k2, hb⟩ := blocks3 w W _ _ _ hW
    exact ⟨⟨k0⟩, ⟨k1⟩, ⟨k2⟩, hb⟩)
  go_enter Try.func38, Try.ntmps38
  go_wp2_with fail
  go_loopw [4] (fun vi wr => ∃ (i : Nat) (A4 : Option Addr) (c4 : Nat), i ≤ n ∧ vi = .int .i64 (i : Int) ∧ wr.ownsRow w.heap.size 112 6 (.slice A4 i c4) i (insOfL (C.ins.take i)) ∧ Below w.heap.size w wr ∧
    CodBox wr w.heap.size 59 (.slice A n c) rg sl (.slice A2 nr c2) (.slice A3 ni c3) ∧ CodBox wr (w.heap.size + 1) 54 (.slice none 0 0) 0 0 (.slice none 0 0) (.slice none 0 0) ∧ CodBox wr (w.heap.size + 1 + 1) 54 (.slice A4 i c4) rg sl (.slice A2 nr c2) (.slice A3 ni c3)) (fun vi _ => n - (intOf vi).toNat)
  case atStart =>
    obtain ⟨k0, k1, k2, hb⟩ := HST.out _ rfl
    exact ⟨0, none, 0, Nat.zero_le _, rfl, by simp [insOfL]; exact World.ownsRow_nil _ _ _ _, hb, k0, k1, k2⟩
  case round =>
    obtain ⟨i, A4, c4, hi, rfl, ho, hb, hx0, hx1, hx2⟩ := hrel
    have HO := Lib.hid ho
    have HB := Lib.hid hb
    have HX0 := Lib.hid hx0
    have HX1 := Lib.hid hx1
    have HX2 := Lib.hid hx2
    obtain ⟨p0, p1, p2, p3, p4⟩ := hx0.ats
    obtain ⟨q0, q1, q2, q3, q4⟩ := hx1.ats
    obtain ⟨r0, r1, r2, r3, r4⟩ := hx2.ats
    obtain ⟨fq0, fq1, fq2, fq3, fq4⟩ := hx1.fzd
    obtain ⟨fr0, fr1, fr2, fr3, fr4⟩ := hx2.fzd
    have l0 := hx0.lt
    have l1 := hx1.lt
    have l2 := hx2.lt
    clear ho hb hx0 hx1 hx2
    by_cases hlt : i < n
    · obtain ⟨x, hx⟩ : ∃ x, C.ins[i]? = some x := ⟨_, List.getElem?_eq_getElem (by rw [HN.out]; exact hlt)⟩
      obtain ⟨g, o, rfl, hg, d0, d1, d2, d3, d4, d5⟩ := (H1.out.below HB.out (Nat.le_refl _)).at hx
      have HTK : Hid (insOfL (C.ins.take (i + 1)) = insOfL (C.ins.take i) ++ insCells x) := Lib.hid (by rw [List.take_add_one, hx]; exact ins_snoc _ _)
      obtain ⟨xo, xd, xa, xb, xc, xn⟩ := x
      dsimp only at d0 d1 d2 d3 d4 d5
      have HCN : Hid (∀ (k : Nat) u, (insCells ⟨xo, xd, xa, xb, xc, xn⟩)[k]? = some u → ((wr.alloc (.cells #[.int .i64 xo, .int .i64 xd, .int .i64 xa, .int .i64 xb, .int .i64 xc, .int .i64 xn] 109)).alloc (.cells #[.int .i64 xo, .int .i64 xd, .int .i64 xa, .int .i64 xb, .int .i64 xc, .int .i64 xn] 112)).cell? ((⟨wr.heap.size + 1, 0, none⟩ : Addr).add k) = some u) := Lib.hid (by
        have h5 := heap_alloc_new (wr.alloc (.cells #[.int .i64 xo, .int .i64 xd, .int .i64 xa, .int .i64 xb, .int .i64 xc, .int .i64 xn] 109)) (.cells #[.int .i64 xo, .int .i64 xd, .int .i64 xa, .int .i64 xb, .int .i64 xc, .int .i64 xn] 112)
        rw [show (wr.alloc (.cells #[.int .i64 xo, .int .i64 xd, .int .i64 xa, .int .i64 xb, .int .i64 xc, .int .i64 xn] 109)).heap.size = wr.heap.size + 1 by simp] at h5
        exact World.news_of_block (cs := #[.int .i64 xo, .int .i64 xd, .int .i64 xa, .int .i64 xb, .int .i64 xc, .int .i64 xn]) h5)
      have hszr : w.heap.size ≤ wr.heap.size := HB.out.size
      clear hx
      go_wp2_with (at_builtin; refine wpList_append_own_at _ rfl (.tmp 28) (.tmp 42) 52 rfl w.heap.size 112 i0 (.agg #[.int .i64 0, .int .i64 0, .int .i64 0, .int .i64 0, .int .i64 0, .int .i64 0]) 6 48 Try.underlying52 hi0 hz0 hz1 hz2 rfl (by decide) _ _ _ rfl ((HO.out.alloc _).alloc _) ⟨wr.heap.size + 1, 0, none⟩ 1 1 (insCells ⟨xo, xd, xa, xb, xc, xn⟩) rfl rfl HCN.out ?b1 ?c1 ?d1 ?e1 ?_)
      case b1 => intro u hu; simp [insCells] at hu; rcases hu with rfl | rfl | rfl | rfl | rfl | rfl <;> rfl
      case c1 => unfold maxLen; omega
      case d1 => omega
      case e1 => first | omega | (simp; omega)
      intro v' w7 hown7 hgrow7 _ hat7
      have hne : ∀ k T a1 a2 a3 b1 b2, CodBox wr k T a1 b1 b2 a2 a3 → T ≠ 112 → (Value.slice A4 i c4).ownBlock ≠ some k := fun k T a1 a2 a3 b1 b2 hx hT e => by
        obtain ⟨cs, hc⟩ := own_cells HO.out e
        have := hx.cell
        rw [hc] at this; simp at this; exact hT this.2.symm
      have st : ∀ k, k < wr.heap.size → (Value.slice A4 i c4).ownBlock ≠ some k → w7.heap[k]? = wr.heap[k]? := fun k h1 h2 => (hgrow7.block k (by simp; omega) (fun e => h2 e.symm)).trans ((Below.heap_alloc _ _ _ (by simp; omega)).trans (Below.heap_alloc _ _ _ h1))
      have hn0 := hne _ _ _ _ _ _ _ HX0.out (by decide)
      have hn1 := hne _ _ _ _ _ _ _ HX1.out (by decide)
      have hn2 := hne _ _ _ _ _ _ _ HX2.out (by decide)
      have HX70 : Hid (CodBox w7 w.heap.size 59 (.slice (some ⟨g, o, none⟩) n c) rg sl (.slice A2 nr c2) (.slice A3 ni c3)) := Lib.hid ⟨(st _ l0 hn0).trans HX0.out.cell⟩
      have HX71 : Hid (CodBox w7 (w.heap.size + 1) 54 (.slice none 0 0) 0 0 (.slice none 0 0) (.slice none 0 0)) := Lib.hid ⟨(st _ l1 hn1).trans HX1.out.cell⟩
      have HX72 : Hid (CodBox w7 (w.heap.size + 1 + 1) 54 (.slice A4 i c4) rg sl (.slice A2 nr c2) (.slice A3 ni c3)) := Lib.hid ⟨(st _ l2 hn2).trans HX2.out.cell⟩
      have HB7 : Hid (Below w.heap.size w w7) := Lib.hid (((HB.out.alloc hszr _).alloc (by simp; omega) _).grown hgrow7 (by simp; omega) (fun k hk => (HO.out.lt k hk).1))
      have HO7 : Hid (w7.ownsRow w.heap.size 112 6 v' (i + 1) (insOfL (C.ins.take (i + 1)))) := Lib.hid (by rw [HTK.out]; exact hown7)
      obtain ⟨A5, c5, rfl⟩ : ∃ A c, v' = .slice A (i + 1) c := by
        obtain ⟨-, h1 | ⟨g, cap, cur, e, -⟩⟩ := hown7
        · omega
        · exact ⟨_, _, e⟩
      have hv2 : (Value.slice A5 (i + 1) c5).ownBlock ≠ some (w.heap.size + 1 + 1) := fun e => by
        obtain ⟨cs, hc⟩ := own_cells HO7.out e
        have := HX72.out.cell
        rw [hc] at this; simp at this
      obtain ⟨s0, s1, s2, s3, s4⟩ := HX72.out.ats
      obtain ⟨f0, f1, f2, f3, f4⟩ := HX72.out.fzd
      have HE : Hid ((w7.setCell ⟨w.heap.size + 1 + 1, 0, none⟩ (.slice A5 (i + 1) c5)).ownsRow w.heap.size 112 6 (.slice A5 (i + 1) c5) (i + 1) (insOfL (C.ins.take (i + 1))) ∧ Below w.heap.size w (w7.setCell ⟨w.heap.size + 1 + 1, 0, none⟩ (.slice A5 (i + 1) c5)) ∧
          CodBox (w7.setCell ⟨w.heap.size + 1 + 1, 0, none⟩ (.slice A5 (i + 1) c5)) w.heap.size 59 (.slice (some ⟨g, o, none⟩) n c) rg sl (.slice A2 nr c2) (.slice A3 ni c3) ∧ CodBox (w7.setCell ⟨w.heap.size + 1 + 1, 0, none⟩ (.slice A5 (i + 1) c5)) (w.heap.size + 1) 54 (.slice none 0 0) 0 0 (.slice none 0 0) (.slice none 0 0) ∧
          CodBox (w7.setCell ⟨w.heap.size + 1 + 1, 0, none⟩ (.slice A5 (i + 1) c5)) (w.heap.size + 1 + 1) 54 (.slice A5 (i + 1) c5) rg sl (.slice A2 nr c2) (.slice A3 ni c3)) := Lib.hid (by
        have sc : ∀ k, k ≠ w.heap.size + 1 + 1 → (w7.setCell ⟨w.heap.size + 1 + 1, 0, none⟩ (.slice A5 (i + 1) c5)).heap[k]? = w7.heap[k]? := fun k hk => Below.heap_setCell _ _ _ _ hk
        refine ⟨own_block HO7.out (fun k hk => sc k (fun e => hv2 (by rw [hk, e]))), HB7.out.setCell (p := ⟨w.heap.size + 1 + 1, 0, none⟩) (by simp; omega) _, ⟨(sc _ (by omega)).trans HX70.out.cell⟩, ⟨(sc _ (by omega)).trans HX71.out.cell⟩, ⟨?_⟩⟩
        have := HX72.out.cell
        simp [World.setCell, Array.getElem?_modify, this])
      clear hown7 hgrow7 hat7 hne st hn0 hn1 hn2 hv2
      go_wp2_with fail
      exact ⟨⟨i + 1, A5, c5, by omega, by go_num, HE.out.1, HE.out.2.1, HE.out.2.2.1, HE.out.2.2.2.1, HE.out.2.2.2.2⟩, by simp [intOf]; omega⟩
    · have hie : i = n := by omega
      subst hie
      have HE2 : Hid (∀ k0 k1 k2 k3 k4 W, W = Nt.set5 wr (w.heap.size + 1) k0 k1 k2 k3 k4 → InsR W (.slice A4 i c4) C.ins ∧ Below w.heap.size w W) := Lib.hid (fun k0 k1 k2 k3 k4 W hW => by
        subst hW
        have ho2 : (Nt.set5 wr (w.heap.size + 1) k0 k1 k2 k3 k4).ownsRow w.heap.size 112 6 (.slice A4 i c4) i (insOfL (C.ins.take i)) := own_block HO.out (fun k hk => by
          have hk1 : k ≠ w.heap.size + 1 := fun e => by
            obtain ⟨cs, hc⟩ := own_cells HO.out hk
            have := HX1.out.cell
            rw [← e, hc] at this; simp at this
          unfold Nt.set5
          rw [Below.heap_setCell _ _ _ _ hk1, Below.heap_setCell _ _ _ _ hk1, Below.heap_setCell _ _ _ _ hk1, Below.heap_setCell _ _ _ _ hk1, Below.heap_setCell _ _ _ _ hk1])
        rw [← HN.out, List.take_length] at ho2
        refine ⟨by have e := InsR.of_own ho2
                   rw [HN.out] at e; exact e, ((((HB.out.setCell (p := ⟨w.heap.size + 1, 0, none⟩) (by simp) _).setCell (p := ⟨w.heap.size + 1, 1, none⟩) (by simp) _).setCell (p := ⟨w.heap.size + 1, 2, none⟩) (by simp) _).setCell (p := ⟨w.heap.size + 1, 3, none⟩) (by simp) _).setCell (p := ⟨w.heap.size + 1, 4, none⟩) (by simp) _⟩)
      go_wp2_with fail
      obtain ⟨y0, y1, y2, y3, y4⟩ := (HX1.out.set5d (.slice A4 i c4) (.slice A2 nr c2) (.slice A3 ni c3) rg sl).ats
      exact bodyPost_ret (v := .agg #[.slice A4 i c4, .int .i64 rg, .int .i64 sl, .slice A2 nr c2, .slice A3 ni c3]) (by simp [results, Try.results38, go_sem, y0, y1, y2, y3, y4]) rfl ⟨_, rfl, (HE2.out _ _ _ _ _ _ rfl).1, (HE2.out _ _ _ _ _ _ rfl).2⟩
def KSml (w : World) (n no ni : Nat) (R S : Int) (e : Ending) (w' : World) : Prop := ∃ b, e = .returned (.bool b) ∧ (b = true → n ≤ 600 ∧ R ≤ 300 ∧ S ≤ 300 ∧ no ≤ 60 ∧ ni ≤ 60) ∧ Below w.heap.size w w'
set_option maxHeartbeats 1600000 in
/-- Few enough. -/
theorem ksmall_any (w : World) (iv ov pv : Value) (C : Cod) (h : CodR w iv ov pv C) : Calls Try.prog 31 #[.agg #[iv, .int .i64 C.regs, .int .i64 C.slots, ov, pv]] w (KSml w C.ins.length C.outs.length C.inp.length C.regs C.slots) := by
  obtain ⟨h1, h2, h3⟩ := h
  obtain ⟨A, c, rfl, z1, z2⟩ := h1.form
  obtain ⟨A2, c2, rfl, z3, z4⟩ := ints_form h2
  obtain ⟨A3, c3, rfl, z5, z6⟩ := ints_form h3
  generalize C.ins.length = n at *
  generalize C.outs.length = no at *
  generalize C.inp.length = ni at *
  generalize C.regs = R at *
  generalize C.slots = S at *
  have HB := Lib.hid (below_new w (.cells #[.slice A n c, .int .i64 R, .int .i64 S, .slice A2 no c2, .slice A3 ni c3] 54))
  clear h1 h2 h3 z1 z2 z3 z4 z5 z6
  by_cases e1 : n ≤ 600
  · have d1 : decide ((n : Int) ≤ 600) = true := decide_eq_true (by omega)
    by_cases e2 : R ≤ 300
    · have d2 : decide (R ≤ 300) = true := decide_eq_true e2
      by_cases e3 : S ≤ 300
      · have d3 : decide (S ≤ 300) = true := decide_eq_true e3
        by_cases e4 : no ≤ 60
        · have d4 : decide ((no : Int) ≤ 60) = true := decide_eq_true (by omega)
          obtain ⟨b5, d5⟩ : ∃ b, decide ((ni : Int) ≤ 60) = b := ⟨_, rfl⟩
          have H5 : Hid (b5 = true → ni ≤ 60) := Lib.hid (fun h => by rw [← d5] at h; have := of_decide_eq_true h; omega)
          go_enter Try.func31, Try.ntmps31
          go_wp2
          go_ret
          exact ⟨b5, rfl, fun h => ⟨e1, e2, e3, e4, H5.out h⟩, HB.out⟩
        · have d4 : decide ((no : Int) ≤ 60) = false := decide_eq_false (by omega)
          go_enter Try.func31, Try.ntmps31
          go_wp2
          go_ret
          exact ⟨false, rfl, (fun h => by cases h), HB.out⟩
      · have d3 : decide (S ≤ 300) = false := decide_eq_false e3
        go_enter Try.func31, Try.ntmps31
        go_wp2
        go_ret
        exact ⟨false, rfl, (fun h => by cases h), HB.out⟩
    · have d2 : decide (R ≤ 300) = false := decide_eq_false e2
      go_enter Try.func31, Try.ntmps31
      go_wp2
      go_ret
      exact ⟨false, rfl, (fun h => by cases h), HB.out⟩
  · have d1 : decide ((n : Int) ≤ 600) = false := decide_eq_false (by omega)
    go_enter Try.func31, Try.ntmps31
    go_wp2
    go_ret
    exact ⟨false, rfl, (fun h => by cases h), HB.out⟩
end Go.Proofs.Ytcphjehjdhgheaa.Nt
