/- A reader of bytes: the next instruction. Conditions: what is left has at most a hundred million bytes. -/
import Derived.Test.YtcphjehjdhgheaaImT
namespace Go.Proofs.Ytcphjehjdhgheaa.Nt
open Go.ChangeShapes Go.WideShapes Go.ChangeAt Go.RowKit Go.Proofs.Ytcphjehjdhgheaa.Tr
set_option linter.unusedVariables false
set_option linter.unusedSimpArgs false

theorem runs_any (n : Int) (h : 0 ≤ n ∧ n ≤ 4294967295) (w : World) : Calls Try.prog 138 #[.int .i64 n] w fun e w' => e = .returned (.int .i64 (unsM n)) ∧ w' = w := by
  obtain ⟨d, r, hd, hr⟩ : ∃ d r : Int, n = 2 * d + r ∧ (r = 0 ∨ r = 1) := ⟨n / 2, n % 2, by omega, by omega⟩
  have ht : n.tmod 2 = r := by rw [Int.tmod_eq_emod_of_nonneg (by omega)]; omega
  rcases hr with rfl | rfl
  · have HE : Hid (unsM n = d) := Lib.hid (by unfold unsM; rw [if_neg (by omega)]; omega)
    have hq : n / 2 = d := by omega
    have hw : IntKind.i64.wrap d = d := by simp [IntKind.wrap, IntKind.bits, IntKind.signed]; omega
    clear hd
    go_enter Try.func138, Try.ntmps138
    go_wp2
    refine bodyPost_ret (v := .int .i64 d) (by simp [results, Try.results138, go_sem, hq, hw]) rfl ⟨by rw [HE.out], rfl⟩
  · have HE : Hid (unsM n = -(d + 1)) := Lib.hid (by unfold unsM; rw [if_pos (by omega)]; omega)
    have hw1 : IntKind.i64.wrap (n + 1) = 2 * (d + 1) := by simp [IntKind.wrap, IntKind.bits, IntKind.signed]; omega
    have hw2 : IntKind.i64.wrap (-(2 * (d + 1))) = -(2 * (d + 1)) := by simp [IntKind.wrap, IntKind.bits, IntKind.signed]; omega
    have hq : (-(2 * (d + 1))).tdiv 2 = -(d + 1) := by
      rw [Int.neg_tdiv, Int.tdiv_eq_ediv_of_nonneg (by omega)]; omega
    have hw3 : IntKind.i64.wrap (-(d + 1)) = -(d + 1) := by simp [IntKind.wrap, IntKind.bits, IntKind.signed]; omega
    clear hd
    go_enter Try.func138, Try.ntmps138
    go_wp2
    refine bodyPost_ret (v := .int .i64 (-(d + 1))) (by simp [results, Try.results138, go_sem, hw1, hw2, hq, hw3]) rfl ⟨by rw [HE.out], rfl⟩
theorem IxBox.fzs {w : World} {q : Nat} {x : Ins6} (h : IxBox w q x) : ∀ k, w.frozen? ⟨q, k, none⟩ = false := by
  unfold IxBox at h
  intro k
  simp [World.frozen?, h]
theorem IxBox.set {w : World} {q : Nat} {x : Ins6} (h : IxBox w q x) {k : Nat} (h1 : 1 ≤ k) (h5 : k ≤ 5) (v : Int) : IxBox (w.setCell ⟨q, k, none⟩ (.int .i64 v)) q (setF x k v) := by
  unfold IxBox at h ⊢
  match k, h1, h5 with
  | 1, _, _ => simp [World.setCell, Array.getElem?_modify, h, insCells, setF]
  | 2, _, _ => simp [World.setCell, Array.getElem?_modify, h, insCells, setF]
  | 3, _, _ => simp [World.setCell, Array.getElem?_modify, h, insCells, setF]
  | 4, _, _ => simp [World.setCell, Array.getElem?_modify, h, insCells, setF]
  | 5, _, _ => simp [World.setCell, Array.getElem?_modify, h, insCells, setF]
theorem RTo.set {q : Nat} {s : Rst} {u v : World} (h : RTo q s u v) {X : Nat} (hX : u.heap.size ≤ X) (hq : q < u.heap.size) (k : Nat) (val : Value) : RTo q s u (v.setCell ⟨X, k, none⟩ val) :=
  ⟨(Below.heap_setCell _ _ _ _ (by simp; omega)).trans h.1, ⟨by simpa using h.2.1.size, fun g h1 h2 => (Below.heap_setCell _ _ _ _ (by simp; omega)).trans (h.2.1.block g h1 h2)⟩, h.2.2.setCell (p := ⟨X, k, none⟩) (by simp; omega) _⟩
abbrev zer6 : Obj := .cells #[.int .i64 0, .int .i64 0, .int .i64 0, .int .i64 0, .int .i64 0, .int .i64 0] 109 (0, 0)
/-- While an instruction is read: the reader, the instruction so far, the place of the answer. -/
structure IS (w : World) (q X : Nat) (x : Ins6) (s : Rst) (wr : World) : Prop where
  rd : RTo q s w wr
  box : IxBox wr X x
  res : wr.heap[w.heap.size]? = some zer6
theorem IS.num {w wr w' : World} {q X : Nat} {x : Ins6} {s t : Rst} (h : IS w q X x s wr) (k : RTo q t wr w') (hq : q < w.heap.size) (hX : w.heap.size ≤ X) : IS w q X x t w' :=
  ⟨h.rd.then k, (k.2.1.block X (lt_of_block h.box) (by omega)).trans h.box, (k.2.1.block _ (lt_of_block h.res) (by omega)).trans h.res⟩
theorem IS.up {w wr w' : World} {q X : Nat} {x : Ins6} {s : Rst} (h : IS w q X x s wr) (k : Below wr.heap.size wr w') : IS w q X x s w' :=
  ⟨h.rd.up k, (k.block X (lt_of_block h.box)).trans h.box, (k.block _ (lt_of_block h.res)).trans h.res⟩
theorem IS.set {w wr : World} {q X : Nat} {x : Ins6} {s : Rst} (h : IS w q X x s wr) (hq : q < w.heap.size) (hX : w.heap.size < X) {k : Nat} (h1 : 1 ≤ k) (h5 : k ≤ 5) (v : Int) : IS w q X (setF x k v) s (wr.setCell ⟨X, k, none⟩ (.int .i64 v)) :=
  ⟨h.rd.set (Nat.le_of_lt hX) hq k _, h.box.set h1 h5 v, (Below.heap_setCell _ _ _ _ (by simp; omega)).trans h.res⟩
theorem set6 {w : World} {b T : Nat} {a0 a1 a2 a3 a4 a5 : Value} (h : w.heap[b]? = some (.cells #[a0, a1, a2, a3, a4, a5] T (0, 0))) (v0 v1 v2 v3 v4 v5 : Value) :
    (((((((w.setCell ⟨b, 0, none⟩ v0).setCell ⟨b, 1, none⟩ v1).setCell ⟨b, 2, none⟩ v2).setCell ⟨b, 3, none⟩ v3).setCell ⟨b, 4, none⟩ v4).setCell ⟨b, 5, none⟩ v5).heap[b]?) = some (.cells #[v0, v1, v2, v3, v4, v5] T (0, 0)) := by
  simp [World.setCell, Array.getElem?_modify, h]
theorem setF_op (x : Ins6) (k : Nat) (v : Int) : (setF x k v).op = x.op := by unfold setF; repeat' (first | rfl | split)
theorem regs_ge (op : Int) : ∀ k ∈ regsK op, 1 ≤ k ∧ k ≤ 4 := by
  intro k hk
  unfold regsK at hk
  split at hk
  · simp at hk; omega
  · split at hk
    · simp at hk; omega
    · split at hk
      · simp at hk; omega
      · have := List.mem_of_mem_take hk
        simp at this; omega
theorem dropI_at {α : Type} : ∀ {l : List α} {j : Nat} {k : α}, l[j]? = some k → l.drop j = k :: l.drop (j + 1) := by
  intro l
  induction l with
  | nil => intro j k h; simp at h
  | cons a r ih =>
    intro j k h
    cases j with
    | zero => simp at h; subst h; rfl
    | succ j => simp at h; exact ih h
/-- The answer is laid. -/
abbrev fin6 (W : World) (b : Nat) (x : Ins6) (op : Int) : World := (((((W.setCell ⟨b, 0, none⟩ (.int .i64 op)).setCell ⟨b, 1, none⟩ (.int .i64 x.d)).setCell ⟨b, 2, none⟩ (.int .i64 x.a)).setCell ⟨b, 3, none⟩ (.int .i64 x.b)).setCell ⟨b, 4, none⟩ (.int .i64 x.c)).setCell ⟨b, 5, none⟩ (.int .i64 x.n)
theorem IS.fin {w wr : World} {q X : Nat} {x : Ins6} {s : Rst} {op : Int} (h : IS w q X x s wr) (hq : q < w.heap.size) (ho : x.op = op) : RTo q s w (fin6 wr w.heap.size x op) ∧ IxBox (fin6 wr w.heap.size x op) w.heap.size x := by
  refine ⟨((((((h.rd.set (Nat.le_refl _) hq 0 _).set (Nat.le_refl _) hq 1 _).set (Nat.le_refl _) hq 2 _).set (Nat.le_refl _) hq 3 _).set (Nat.le_refl _) hq 4 _).set (Nat.le_refl _) hq 5 _), ?_⟩
  subst ho
  exact set6 h.res _ _ _ _ _ _
theorem res_ats {w : World} {b : Nat} (h : w.heap[b]? = some zer6) : (w.cell? ⟨b, 0, none⟩ = some (.int .i64 0) ∧ w.cell? ⟨b, 1, none⟩ = some (.int .i64 0) ∧ w.cell? ⟨b, 2, none⟩ = some (.int .i64 0) ∧ w.cell? ⟨b, 3, none⟩ = some (.int .i64 0) ∧ w.cell? ⟨b, 4, none⟩ = some (.int .i64 0) ∧ w.cell? ⟨b, 5, none⟩ = some (.int .i64 0)) ∧ (w.frozen? ⟨b, 0, none⟩ = false ∧ w.frozen? ⟨b, 1, none⟩ = false ∧ w.frozen? ⟨b, 2, none⟩ = false ∧ w.frozen? ⟨b, 3, none⟩ = false ∧ w.frozen? ⟨b, 4, none⟩ = false ∧ w.frozen? ⟨b, 5, none⟩ = false) := by
  refine ⟨⟨?_, ?_, ?_, ?_, ?_, ?_⟩, ?_, ?_, ?_, ?_, ?_, ?_⟩ <;> simp [World.cell?, World.frozen?, h]
set_option maxRecDepth 100000 in
set_option maxHeartbeats 8000000 in
theorem rinst_any (q : Nat) (s0 : Rst) (w : World) (h : RdBox w q s0) (hl9 : s0.1.length ≤ 100000000) : Calls Try.prog 121 #[.pointer (some ⟨q, 0, none⟩)] w fun r w' => r = .returned (insV (instR s0).1) ∧ RTo q (instR s0).2 w w' := by
  have H := Lib.hid h
  have hql := lt_of_block h
  obtain ⟨R, hR⟩ : ∃ R, instR s0 = R := ⟨_, rfl⟩
  have HR := Lib.hid hR
  rw [hR]
  obtain ⟨w0, hw0⟩ : ∃ W, w.alloc zer6 = W := ⟨_, rfl⟩
  have HB0 : Hid (Below w.heap.size w w0) := Lib.hid (by rw [← hw0]; exact below_new _ _)
  have HT0 : Hid (RTo q s0 w w0) := Lib.hid ((RTo.here h).up HB0.out)
  have HZ0 : Hid (w0.heap[w.heap.size]? = some zer6) := Lib.hid (by rw [← hw0]; exact heap_alloc_new _ _)
  have HNU := Lib.hid (rnum_any q s0 w0 HT0.out.1 hl9)
  obtain ⟨op, hop⟩ : ∃ n, (numberR s0).1 = n := ⟨_, rfl⟩
  obtain ⟨s1, hs1⟩ : ∃ s, (numberR s0).2 = s := ⟨_, rfl⟩
  have hopb := number_bnd s0
  have hs1l : s1.1.length ≤ 100000000 := by have := (numR_len 6 0 1 s0).1; rw [← hs1]; exact Nat.le_trans this hl9
  rw [hop, hs1] at HNU
  rw [hop] at hopb
  have HW0 := Lib.hid hw0
  have HRE : Hid (R = (let s2 := if (regsK op).length = 0 then (s1.1, failM s1.2 15) else s1; let t := fillR (regsK op) (⟨op, 0, 0, 0, 0, 0⟩, s2); if hasNB op = true then (setF t.1 5 (unsM (numberR t.2).1), (numberR t.2).2) else t)) := Lib.hid (by rw [← hR, ← hop, ← hs1]; rfl)
  clear h hR hop hs1
  go_enter Try.func121, Try.ntmps121
  go_wp2_with fail
  try rw [HW0.out]
  clear hw0
  refine HNU.out.mono ?_
  rintro e w1 ⟨rfl, h1⟩
  have HX1 := Lib.hid h1
  clear h1 HNU
  go_wp2_with fail
  obtain ⟨w2, hw2⟩ : ∃ W, w1.alloc (.cells #[.int .i64 op, .int .i64 0, .int .i64 0, .int .i64 0, .int .i64 0, .int .i64 0] 109) = W := ⟨_, rfl⟩
  obtain ⟨X, hX⟩ : ∃ X, w1.heap.size = X := ⟨_, rfl⟩
  have hXw : w.heap.size < X := by
    have a1 := lt_of_block HZ0.out
    have a2 := HX1.out.2.1.size
    omega
  have HS2 : Hid (IS w q X ⟨op, 0, 0, 0, 0, 0⟩ s1 w2) := Lib.hid (by
    have hb : Below w1.heap.size w1 w2 := by rw [← hw2]; exact below_new _ _
    refine ⟨(HT0.out.then HX1.out).up hb, ?_, ?_⟩
    · rw [← hw2, ← hX]; exact heap_alloc_new _ _
    · have e1 := (HX1.out.2.1.block w.heap.size (lt_of_block HZ0.out) (by omega)).trans HZ0.out
      exact (hb.block _ (lt_of_block e1)).trans e1)
  have HRG := Lib.hid (iregs_any w2 X ⟨op, 0, 0, 0, 0, 0⟩ HS2.out.box)
  dsimp only at HRG
  rw [hw2, hX]
  clear hw2 hX
  refine HRG.out.mono ?_
  rintro e w3 ⟨rv, rfl, ⟨gr, cr, cs, rfl, hgr, hcr, hc4, hrb, hrk⟩, hb3⟩
  have HS3 := Lib.hid (HS2.out.up hb3)
  have HRB := Lib.hid hrb
  have HRK := Lib.hid hrk
  have hXg : X < gr := by have := lt_of_block HS2.out.box; omega
  obtain ⟨m, hm⟩ : ∃ m, (regsK op).length = m := ⟨_, rfl⟩
  have HML := Lib.hid hm
  rw [hm] at hcr HRE ⊢
  have hm4 : m ≤ 4 := by omega
  clear hrb hrk hb3 hm HRG
  obtain ⟨s2, hs2⟩ : ∃ s, (if m = 0 then (s1.1, failM s1.2 15) else s1) = s := ⟨_, rfl⟩
  have hs2l : s2.1.length ≤ 100000000 := by rw [← hs2]; split <;> exact hs1l
  have HSE := Lib.hid hs2
  rw [hs2] at HRE
  clear hs2
  by_cases hm0 : m = 0
  case' pos =>
    have hmi : ((m : Int) == 0) = true := by simp [hm0]
    have HM0 := Lib.hid hm0
    clear hm0
    have HFA := Lib.hid (rfail_any q s1 15 w3 HS3.out.rd.1)
    go_wp2_with fail
    refine HFA.out.mono ?_
    rintro e w4 ⟨rfl, h4⟩
    have HS4 : Hid (IS w q X ⟨op, 0, 0, 0, 0, 0⟩ s2 w4) := Lib.hid (by
      rw [← HSE.out, if_pos HM0.out]
      exact HS3.out.num h4 hql (Nat.le_of_lt hXw))
    have HRB4 := Lib.hid ((h4.2.1.block gr (lt_of_block HRB.out) (by omega)).trans HRB.out)
    clear h4 HFA
    go_wp2_with fail
  case' neg =>
    have HS4 : Hid (IS w q X ⟨op, 0, 0, 0, 0, 0⟩ s2 w3) := Lib.hid (by
      rw [← HSE.out, if_neg hm0]
      exact HS3.out)
    have HRB4 := HRB
    have hmi : ((m : Int) == 0) = false := by simp; omega
    clear hm0
    go_wp2_with fail
  all_goals
    obtain ⟨T, hT⟩ : ∃ T, fillR (regsK op) (⟨op, 0, 0, 0, 0, 0⟩, s2) = T := ⟨_, rfl⟩
    have HTE := Lib.hid hT
    try simp only at HRE
    rw [hT] at HRE
    clear hT hmi
    go_loopw [6, 18] (fun vp vj wr => ∃ (j : Nat) (x : Ins6) (s : Rst) (v : Value), j ≤ m ∧ vj = .int .i64 (j : Int) ∧ v = vp ∧ IS w q X x s wr ∧ wr.heap[gr]? = some (.cells cs 141 (0, 0)) ∧ x.op = op ∧ fillR ((regsK op).drop j) (x, s) = T ∧ s.1.length ≤ 100000000) (fun _ vj _ => m - (intOf vj).toNat)
    case atStart => exact ⟨0, ⟨op, 0, 0, 0, 0, 0⟩, s2, _, Nat.zero_le _, rfl, rfl, HS4.out, HRB4.out, rfl, HTE.out, hs2l⟩
    case round =>
      obtain ⟨j, x, s, v, hj, rfl, rfl, his, hgrb, hxo, hfl, hsl⟩ := hrel
      have HIS := Lib.hid his
      have HGR := Lib.hid hgrb
      have HXO := Lib.hid hxo
      have HFL := Lib.hid hfl
      clear his hgrb hxo hfl
      by_cases hjm : j < m
      · obtain ⟨k, hk⟩ : ∃ k, (regsK op)[j]? = some k := ⟨_, List.getElem?_eq_getElem (by rw [HML.out]; exact hjm)⟩
        have hk4 := regs_ge op k (List.mem_of_getElem? hk)
        have cr0 := cell_block HGR.out (HRK.out j k hk)
        have HNX : Hid (fillR ((regsK op).drop (j + 1)) (setF x k (numberR s).1, (numberR s).2) = T) := Lib.hid (by
          rw [← HFL.out, dropI_at hk]; rfl)
        obtain ⟨y, hy⟩ : ∃ y, (numberR s).1 = y := ⟨_, rfl⟩
        obtain ⟨t, ht⟩ : ∃ t, (numberR s).2 = t := ⟨_, rfl⟩
        have HNU := Lib.hid (rnum_any q s _ HIS.out.rd.1 hsl)
        have htl : t.1.length ≤ 100000000 := by have := (numR_len 6 0 1 s).1; rw [← ht]; exact Nat.le_trans this hsl
        rw [hy, ht] at HNU HNX
        have hj2 : (j : Int) < (m : Int) := by omega
        clear hk hy ht
        go_wp2_with fail
        refine HNU.out.mono ?_
        rintro e w5 ⟨rfl, h5⟩
        have HI5 := Lib.hid (HIS.out.num h5 hql (Nat.le_of_lt hXw))
        have HG5 := Lib.hid ((h5.2.1.block gr (lt_of_block HGR.out) (by omega)).trans HGR.out)
        have c5 := HI5.out.box.fld (k := k) (by omega)
        have f5 := HI5.out.box.fzs k
        have HI6 := Lib.hid (HI5.out.set hql hXw hk4.1 (by omega) y)
        have HG6 : Hid ((w5.setCell ⟨X, k, none⟩ (.int .i64 y)).heap[gr]? = some (.cells cs 141 (0, 0))) := Lib.hid ((Below.heap_setCell _ _ _ _ (by simp; omega)).trans HG5.out)
        clear h5 HNU
        go_wp2_with fail
        go_roundw
        case rel => exact ⟨j + 1, _, t, _, by omega, by go_num, rfl, HI6.out, HG6.out, by rw [setF_op]; exact HXO.out, HNX.out, htl⟩
        case measure => simp [intOf]; omega
      · have hjme : j = m := by omega
        have HTX : Hid ((x, s) = T) := Lib.hid (by
          rw [← HFL.out, hjme, ← HML.out, List.drop_length]; rfl)
        have hj2 : ¬ (j : Int) < (m : Int) := by omega
        obtain ⟨c0, c1, c2, c3, c4, c5⟩ := HIS.out.box.ats
        rw [HXO.out] at c0
        obtain ⟨hn, hhn⟩ : ∃ h, hasNB op = h := ⟨_, rfl⟩
        have HHA : Hid (∀ W, Calls Try.prog 79 #[.int .i64 op] W fun e w' => e = .returned (.bool hn) ∧ w' = W) := Lib.hid (fun W => by rw [← hhn]; exact ihas_any op W)
        have HHN := Lib.hid hhn
        clear hhn hjme
        go_wp2_with fail
        refine (HHA.out _).mono ?_
        rintro e w5 ⟨rfl, rfl⟩
        cases hn with
        | false =>
          have HRF : Hid (R = (x, s)) := Lib.hid (by rw [HRE.out, HHN.out, HTX.out]; rfl)
          have HFI := Lib.hid (HIS.out.fin hql HXO.out)
          obtain ⟨⟨r0, r1, r2, r3, r4, r5⟩, g0, g1, g2, g3, g4, g5⟩ := res_ats HIS.out.res
          go_wp2_with fail
          obtain ⟨y0, y1, y2, y3, y4, y5⟩ := HFI.out.2.ats
          rw [HXO.out] at y0
          refine bodyPost_ret (v := .agg #[.int .i64 op, .int .i64 x.d, .int .i64 x.a, .int .i64 x.b, .int .i64 x.c, .int .i64 x.n]) (by simp [results, Try.results121, go_sem, y0, y1, y2, y3, y4, y5]) rfl ⟨by rw [HRF.out, ← HXO.out]; rfl, by rw [HRF.out]; exact HFI.out.1⟩
        | true =>
          obtain ⟨y, hy⟩ : ∃ y, (numberR s).1 = y := ⟨_, rfl⟩
          obtain ⟨t, ht⟩ : ∃ t, (numberR s).2 = t := ⟨_, rfl⟩
          have hyb := number_bnd s
          have HNU := Lib.hid (rnum_any q s _ HIS.out.rd.1 hsl)
          rw [hy, ht] at HNU
          rw [hy] at hyb
          have HRF : Hid (R = (setF x 5 (unsM y), t)) := Lib.hid (by rw [HRE.out, HHN.out, ← HTX.out, ← hy, ← ht]; rfl)
          have HUN := Lib.hid (fun W => runs_any y hyb W)
          obtain ⟨z, hz⟩ : ∃ z, unsM y = z := ⟨_, rfl⟩
          rw [hz] at HUN HRF
          clear hy ht hz c0 c1 c2 c3 c4 c5
          go_wp2_with fail
          refine HNU.out.mono ?_
          rintro e w5 ⟨rfl, h5⟩
          have HI5 := Lib.hid (HIS.out.num h5 hql (Nat.le_of_lt hXw))
          have c5 := HI5.out.box.fld (k := 5) (by omega)
          have f5 := HI5.out.box.fzs 5
          have HI6 := Lib.hid (HI5.out.set hql hXw (k := 5) (by omega) (by omega) z)
          obtain ⟨Y, hY⟩ : ∃ Y, setF x 5 z = Y := ⟨_, rfl⟩
          have HYO : Hid (Y.op = op) := Lib.hid (by rw [← hY, setF_op]; exact HXO.out)
          rw [hY] at HI6 HRF
          obtain ⟨c0, c1, c2, c3, c4, c5'⟩ := HI6.out.box.ats
          rw [HYO.out] at c0
          obtain ⟨⟨r0, r1, r2, r3, r4, r5⟩, g0, g1, g2, g3, g4, g5⟩ := res_ats HI6.out.res
          have HFI := Lib.hid (HI6.out.fin hql HYO.out)
          clear h5 HNU hY
          go_wp2_with fail
          refine (HUN.out _).mono ?_
          rintro e w6 ⟨rfl, rfl⟩
          go_wp2_with fail
          obtain ⟨y0, y1, y2, y3, y4, y5⟩ := HFI.out.2.ats
          rw [HYO.out] at y0
          refine bodyPost_ret (v := .agg #[.int .i64 op, .int .i64 Y.d, .int .i64 Y.a, .int .i64 Y.b, .int .i64 Y.c, .int .i64 Y.n]) (by simp [results, Try.results121, go_sem, y0, y1, y2, y3, y4, y5]) rfl ⟨by rw [HRF.out, ← HYO.out]; rfl, by rw [HRF.out]; exact HFI.out.1⟩
end Go.Proofs.Ytcphjehjdhgheaa.Nt
