/- Whether a net goes round, and what Check tells, by layer norm. Conditions: the net has at most 100000 inputs. -/
import Derived.Test.YtcphjehjdhgheaaNtI
import Derived.Deep.OwnRows
import Derived.Laws.EntriesVeiled
namespace Go.Proofs.Ytcphjehjdhgheaa.Nt
open Go.ChangeShapes Go.WideShapes Go.ChangeAt Go.RowKit Go.Proofs.Ytcphjehjdhgheaa.Tr
set_option linter.unusedVariables false
set_option linter.unusedSimpArgs false

theorem blocks4 (w Wn : World) (a b c d : Obj) (h : Wn = (((w.alloc a).alloc b).alloc c).alloc d) :
    Wn.heap[w.heap.size]? = some a ∧ Wn.heap[w.heap.size + 1]? = some b ∧ Wn.heap[w.heap.size + 1 + 1]? = some c ∧ Wn.heap[w.heap.size + 1 + 1 + 1]? = some d ∧ Below w.heap.size w Wn := by
  subst h
  have s1 : (w.alloc a).heap.size = w.heap.size + 1 := by simp
  have s2 : ((w.alloc a).alloc b).heap.size = w.heap.size + 2 := by simp
  have s3 : (((w.alloc a).alloc b).alloc c).heap.size = w.heap.size + 3 := by simp
  refine ⟨?_, ?_, ?_, ?_, ?_⟩
  · rw [(below_new _ d).block _ (by omega), (below_new _ c).block _ (by omega), (below_new _ b).block _ (by omega)]; exact heap_alloc_new _ _
  · rw [(below_new _ d).block _ (by omega), (below_new _ c).block _ (by omega)]
    have := heap_alloc_new (w.alloc a) b
    rw [s1] at this; exact this
  · rw [(below_new _ d).block _ (by omega)]
    have := heap_alloc_new ((w.alloc a).alloc b) c
    rw [s2] at this; exact this
  · have := heap_alloc_new (((w.alloc a).alloc b).alloc c) d
    rw [s3] at this; exact this
  · exact (((below_new w a).alloc (by omega) b).alloc (by omega) c).alloc (by omega) d
theorem made_row (n : Nat) : madeCells #[Value.int .i64 0] n = (intsOf (List.replicate n 0)).toArray := by
  have := made_ints n
  rw [← this]
set_option maxRecDepth 100000 in
set_option maxHeartbeats 4000000 in
theorem round_any (w : World) (ov rv iv : Value) (N : Net) (h : NetR w ov rv iv N) (hm : mayN N = true) : Calls Try.prog 90 #[.agg #[ov, rv, iv]] w (fun e w' => e = .returned (.bool (!okG (grN N))) ∧ Below w.heap.size w w') := by
  obtain ⟨h1, -, -⟩ := h
  obtain ⟨A, c, rfl, z1, z2⟩ := h1.form
  obtain ⟨n, hn⟩ : ∃ n, N.ops.length = n := ⟨_, rfl⟩
  have hbig : n ≤ 100000 := by
    unfold mayN at hm
    simp only [Bool.and_eq_true] at hm
    have := of_decide_eq_true hm.1.1; omega
  rw [hn] at h1 z1 ⊢
  have HM := Lib.hid hm
  have HN := Lib.hid hn
  have H1 := Lib.hid h1
  unfold maxLen at z2
  have hmk := run_make_row' (P := Try.prog) 23 3 (.int .i64 0) 8 Try.underlying23 info3 rfl .i64 .i64 n (by omega) (by omega)
  clear h1 hn hm
  go_enter Try.func90, Try.ntmps90
  have HST : Hid (∀ Wn, Wn = (((w.alloc (.cells #[.slice A n c, rv, iv] 30)).alloc (.cells (madeCells #[.int .i64 0] n) 3)).alloc (.cells #[.slice (some ⟨w.heap.size + 1, 0, none⟩) n n] 23)).alloc (.cells #[backV w.heap.size (w.heap.size + 1 + 1) (w.heap.size + 1 + 1 + 1)] 94) →
      DAt w N w.heap.size (w.heap.size + 1 + 1) (w.heap.size + 1 + 1 + 1) (w.heap.size + 1) n (.slice A n c) rv iv Wn (List.replicate n 0)) := Lib.hid (fun Wn hWn => by
    obtain ⟨k0, k1, k2, k3, hb⟩ := blocks4 w Wn _ _ _ _ hWn
    exact ⟨H1.out, hb, by omega, ⟨k0⟩, k2, k3, by rw [← made_row]; exact k1⟩)
  have hback := back_any w N HM.out w.heap.size (w.heap.size + 1 + 1) (w.heap.size + 1 + 1 + 1) (w.heap.size + 1) n (.slice A n c) rv iv HN.out
  have HBACK := Lib.hid hback
  clear hback
  go_wp2_with fail
  go_loopw [14] (fun vi wr => ∃ (i : Nat) (S : List Int) (t : List Nat), i ≤ n ∧ vi = .int .i64 (i : Int) ∧ DAt w N w.heap.size (w.heap.size + 1 + 1) (w.heap.size + 1 + 1 + 1) (w.heap.size + 1) n (.slice A n c) rv iv wr S ∧ Dfs (grN N) S [] t ∧ ∀ j, j < i → j ∈ t) (fun vi _ => n - (intOf vi).toNat)
  case atStart =>
    have hd := Dfs.begin (grN N)
    rw [show (grN N).n = n from HN.out] at hd
    exact ⟨0, _, [], Nat.zero_le _, rfl, HST.out _ rfl, hd, fun j h => by omega⟩
  case round =>
    obtain ⟨i, S, t, hi, rfl, hd, hdf, hall⟩ := hrel
    obtain ⟨c1, c2, c3⟩ := hd.cells
    have HD := Lib.hid hd
    have HDF := Lib.hid hdf
    have HALL := Lib.hid hall
    clear hd hdf hall
    by_cases hlt : i < n
    · have HC := Lib.hid (HBACK.out (unseen S) i S [] t wr hlt HD.out HDF.out (fun p Q e => by cases e) (Nat.le_refl _))
      go_wp2_with fail
      refine HC.out.mono ?_
      rintro e w1 ⟨hk, ⟨rfl, ho⟩ | ⟨rfl, S1, t1, a1, a2, a3, a4, a5⟩⟩
      · have HO := Lib.hid ho
        have HB : Hid (Below w.heap.size w w1) := Lib.hid (HD.out.old.trans (hk.below HD.out.old.size (fun k _ e => by rw [e]; omega)))
        clear ho hk
        go_wp2
        go_ret
        exact ⟨ret_bool (by rw [HO.out]; rfl), HB.out⟩
      · have HD1 := Lib.hid a1
        have HDF1 := Lib.hid a2
        have HALL1 : Hid (∀ j, j < i + 1 → j ∈ t1) := Lib.hid (fun j hj => by
          by_cases e : j = i
          · rw [e]; exact a3
          · exact a4 j (HALL.out j (by omega)))
        clear hk a1 a2 a3 a4 a5
        go_wp2
        exact ⟨⟨i + 1, S1, t1, by omega, by go_num, HD1.out, HDF1.out, HALL1.out⟩, by simp [intOf]; omega⟩
    · have HO : Hid (okG (grN N) = true) := Lib.hid (HDF.out.full (fun j hj => by
        have h : j < N.ops.length := hj
        rw [HN.out] at h
        exact HALL.out j (by omega)))
      go_wp2
      go_ret
      exact ⟨ret_bool (by rw [HO.out]; rfl), HD.out.old⟩
/-- norm.Check. -/
theorem check_any (w : World) (ov rv iv : Value) (N : Net) (h : NetR w ov rv iv N) (hni : N.ins.length ≤ 100000) : Calls Try.prog 45 #[.agg #[ov, rv, iv]] w (fun e w' => e = .returned (.int .i64 (checkN N)) ∧ Below w.heap.size w w') := by
  have HH := Lib.hid h
  obtain ⟨h1, h2, h3⟩ := h
  obtain ⟨w1, hw1⟩ : ∃ W, w.alloc (.cells #[ov, rv, iv] 30) = W := ⟨_, rfl⟩
  have HW1 := Lib.hid hw1
  have HB1 : Hid (Below w.heap.size w w1) := Lib.hid (by rw [← hw1]; exact below_new _ _)
  have HX1 : Hid (NetBox w1 w.heap.size 30 ov rv iv) := Lib.hid (by rw [← hw1]; exact box_new _ _ _ _ _)
  have HMA := Lib.hid (may_any w1 ov rv iv N (HH.out.below HB1.out (Nat.le_refl _)) hni)
  obtain ⟨mb, hmb⟩ : ∃ b, mayN N = b := ⟨_, rfl⟩
  rw [hmb] at HMA
  have HMB := Lib.hid hmb
  obtain ⟨p0, p1, p2⟩ := HX1.out.ats
  clear h1 h2 h3 hw1 hmb
  go_enter Try.func45, Try.ntmps45
  go_wp2_with fail
  rw [HW1.out]
  go_wp2_with fail
  refine HMA.out.mono ?_
  rintro e w2 ⟨rfl, hb2⟩
  have HB2 := Lib.hid hb2
  obtain ⟨q0, q1, q2⟩ := (HX1.out.below hb2 HX1.out.lt).ats
  clear hb2
  cases mb with
  | false =>
    have HC : Hid (checkN N = 1) := Lib.hid (by unfold checkN; rw [HMB.out]; rfl)
    go_wp2
    go_ret
    exact ⟨ret_int HC.out.symm, HB1.out.trans (HB2.out.mono HB1.out.size)⟩
  | true =>
    have HRO := Lib.hid (round_any w2 ov rv iv N ((HH.out.below HB1.out (Nat.le_refl _)).below HB2.out (Nat.le_refl _)) HMB.out)
    obtain ⟨ob, hob⟩ : ∃ b, okG (grN N) = b := ⟨_, rfl⟩
    rw [hob] at HRO
    have HOB := Lib.hid hob
    clear hob
    go_wp2_with fail
    refine HRO.out.mono ?_
    rintro e w3 ⟨rfl, hb3⟩
    have HB3 := Lib.hid ((HB1.out.trans (HB2.out.mono HB1.out.size)).trans (hb3.mono (Nat.le_trans HB1.out.size HB2.out.size)))
    clear hb3
    cases ob with
    | true =>
      have HC : Hid (checkN N = 0) := Lib.hid (check_ok.2 ⟨HMB.out, HOB.out⟩)
      go_wp2
      go_ret
      exact ⟨ret_int HC.out.symm, HB3.out⟩
    | false =>
      have HC : Hid (checkN N = 12) := Lib.hid (by unfold checkN; rw [HMB.out, HOB.out]; rfl)
      go_wp2
      go_ret
      exact ⟨ret_int HC.out.symm, HB3.out⟩
end Go.Proofs.Ytcphjehjdhgheaa.Nt
