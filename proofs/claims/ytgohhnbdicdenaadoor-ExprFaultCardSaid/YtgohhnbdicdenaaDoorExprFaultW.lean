/- ExprFault's walk: a fault is at a token that there is, or at the end; without its last token an expression is none, or a shorter one. Conditions: none. -/
import Derived.Test.YtgohhnbdicdenaaDoorPk30
namespace Go.Proofs.YtgohhnbdicdenaaDoor.exprFault
open Go.ChangeShapes Go.WideShapes Go.ChangeAt Go.RowKit
open Go.Proofs.YtgohhnbdicdenaaDoor.Ex
open Go.Proofs.YtgohhnbdicdenaaDoor.Tr (str ret_bool ret_int Bytes Nd Nodes mayB rmay_lit may_yes)
set_option linter.unusedVariables false
set_option linter.unusedSimpArgs false
attribute [local go_sem ↓] Lx.eql_fault Lx.guard_fault
def fB (l : List Ex.Tok) (F : Int) (k : Nat) : Bool := (F == -1) || (l.take k).any fun t => (t.at_ : Int) == F
theorem fB_next {l : List Ex.Tok} {F : Int} {k : Nat} {t : Ex.Tok} (h : l[k]? = some t) : fB l F (k + 1) = (fB l F k || ((t.at_ : Int) == F)) := by
  unfold fB; rw [List.take_add_one, h]; simp [Bool.or_assoc]
theorem fB_end {l : List Ex.Tok} {F : Int} {i : Nat} (h : F = atM l i) : fB l F l.length = true := by
  unfold fB; rw [List.take_length]
  unfold atM at h
  cases ht : l[i]? with
  | none => rw [ht] at h; simp [h]
  | some t =>
    rw [ht] at h
    have : l.any (fun t => (t.at_ : Int) == F) = true := List.any_eq_true.2 ⟨t, List.mem_of_getElem? ht, by simp [h]⟩
    rw [this]; simp
set_option maxRecDepth 100000 in
set_option maxHeartbeats 4000000 in
theorem walk (s : ByteArray) (hs : s.size ≤ maxLen) (w : World) (hv : Ex.VarAt w w.heap.size) : Calls Tryd.prog 6 #[.string s] w fun r w' => r = .returned (.bool true) ∧ Below w.heap.size w w' := by
  have HV := Lib.hid hv
  have HM := Lib.hid hs
  unfold maxLen at hs
  clear hv
  by_cases hbig : s.size ≤ 1000
  rotate_left
  · go_enter Tryd.func6, Tryd.ntmps6
    go_wp2_with fail
    refine (live_any _ HV.out).mono ?_
    rintro r w1 ⟨rfl, hb⟩
    go_wp2
    go_ret
    exact ⟨rfl, hb⟩
  obtain ⟨E, C, A, hX⟩ : ∃ E C A, readM s.toList = (E, C, A) := ⟨_, _, _, rfl⟩
  have HX := Lib.hid hX
  by_cases hC : C = 0
  · subst hC
    obtain ⟨l, hl, hpos, hless⟩ := less_law (s := s.toList) (by rw [hX])
    obtain ⟨E2, N2, C2, A2, hP⟩ : ∃ E N C A, parseM (l.take (l.length - 1)) 0 = (E, N, C, A) := ⟨_, _, _, _, rfl⟩
    rw [hP, hX] at hless
    simp only at hless
    have HP := Lib.hid hP
    have HL := Lib.hid hl
    have HOK := Lib.hid ((okr_of hl).take (l.length - 1))
    have hlen : l.length ≤ 100000 := (okr_of hl).len
    have hE5 : E.length ≤ 5000 := by have := read_len s.toList; rw [hX] at this; exact this
    clear hX hP hl
    go_enter Tryd.func6, Tryd.ntmps6
    go_wp2_with fail
    refine (read_at HX.out HM.out HV.out).mono ?_
    rintro r w1 ⟨v1, rfl, hp1, hb1⟩
    obtain ⟨⟨A1, c1, hv1, y1, y2, _⟩, _⟩ := hp1
    simp only at hv1
    subst hv1
    simp only at y1 ⊢
    unfold maxLen at y2
    have HB1 := Lib.hid (hb1.alloc hb1.size (.cells #[.int .i64 0, .int .i64 A] 27))
    have hs1 := HB1.out.size
    clear hb1
    go_wp2_with fail
    refine (rlex_ok _ HM.out HL.out).mono ?_
    rintro r w2 ⟨v2, rfl, ho2, hb2⟩
    have ht2 := Lx.Toks.of_own ho2
    have HT2 := Lib.hid ht2
    obtain ⟨A2', c2, rfl, y3, y4, _⟩ := ht2
    unfold maxLen at y4
    have X2 := blk2 hb2
    have a10 : w2.cell? ⟨w1.heap.size, 0, none⟩ = some (.int .i64 0) := (cell_at X2 0).trans rfl
    have HB2 := Lib.hid ((HB1.out.trans (hb2.mono hs1)).alloc (Nat.le_trans hs1 hb2.size) (.cells #[.int .i64 0, .int .i64 0] 27))
    have hs2 := HB2.out.size
    have hz2 := hb2.size
    simp at hz2
    have l12 : w1.heap.size < w2.heap.size := by omega
    have HT3 := Lib.hid (HT2.out.below (below_new w2 (.cells #[.int .i64 0, .int .i64 0] 27)) (Nat.le_refl _))
    have hw1 : IntKind.i64.wrap ((l.length : Int) - 1) = (l.length : Int) - 1 := IntWalk.i64_in _ (by omega)
    have hk : ((l.length : Int) - 1) = ((l.length - 1 : Nat) : Int) := by omega
    clear hb2 ho2 X2
    go_wp2_with fail
    refine (parse_lit (i := 0) rfl (toks_off (toks_take HT3.out (by omega))) (HV.out.up HB2.out) HOK.out HP.out).mono ?_
    rintro r w3 ⟨v3, rfl, hp3, hb3⟩
    obtain ⟨⟨A3, c3, hv3, y5, y6, _⟩, _⟩ := hp3
    simp only at hv3
    subst hv3
    simp only at y5 ⊢
    unfold maxLen at y6
    have HB3 := Lib.hid ((HB2.out.trans (hb3.mono hs2)).alloc (Nat.le_trans hs2 hb3.size) (.cells #[.int .i64 C2, .int .i64 A2] 27))
    clear hb3
    by_cases hC2 : C2 = 0
    · have hcd : (C2 != 0) = false := by simp [hC2]
      obtain ⟨q1, q2⟩ := hless hC2
      clear hless hC2
      have hwE : IntKind.i64.wrap ((E.length : Int) + 1) = (E.length : Int) + 1 := IntWalk.i64_in _ (by omega)
      have d1 : decide ((N2 : Int) < (l.length : Int)) = true := decide_eq_true (by omega)
      have d1' : decide (N2 < l.length) = true := decide_eq_true (by omega)
      have d2 : decide ((E2.length : Int) < (E.length : Int) + 1) = true := decide_eq_true (by omega)
      go_wp2_with fail
      refine (live_any _ (HV.out.up HB3.out)).mono ?_
      rintro r w4 ⟨rfl, hb4⟩
      go_wp2
      go_ret
      exact ⟨rfl, HB3.out.trans (hb4.mono HB3.out.size)⟩
    · have hcd : (C2 != 0) = true := by simp [hC2]
      clear hless hC2
      go_wp2_with fail
      refine (live_any _ (HV.out.up HB3.out)).mono ?_
      rintro r w4 ⟨rfl, hb4⟩
      go_wp2
      go_ret
      exact ⟨rfl, HB3.out.trans (hb4.mono HB3.out.size)⟩
  · have hcd : (C == 0) = false := by simpa using hC
    have hfl := fault_law (s := s.toList) (by rw [hX]; exact hC)
    rw [hX] at hfl
    clear hX hC
    rcases hfl with ⟨c, a, hl, hc0, he⟩ | ⟨l, hl, he, i, hi⟩
    · simp only [Prod.mk.injEq] at he
      obtain ⟨rfl, rfl, rfl⟩ := he
      have hcn : (C != 0) = true := by simpa using hc0
      have k1 : Lx.faultB C C A A = true := by simp [Lx.faultB]
      have HL := Lib.hid hl
      clear hl hc0
      go_enter Tryd.func6, Tryd.ntmps6
      go_wp2_with fail
      refine (read_at HX.out HM.out HV.out).mono ?_
      rintro r w1 ⟨v1, rfl, hp1, hb1⟩
      obtain ⟨⟨A1, c1, hv1, y1, y2, _⟩, _⟩ := hp1
      simp only at hv1
      subst hv1
      simp only at y1 ⊢
      unfold maxLen at y2
      have HB1 := Lib.hid (hb1.alloc hb1.size (.cells #[.int .i64 C, .int .i64 A] 27))
      have hs1 := HB1.out.size
      clear hb1
      go_wp2_with fail
      refine (rlex_bad _ HM.out HL.out).mono ?_
      rintro r w2 ⟨v2, rfl, ⟨A2', c2, rfl, y3, y4, _⟩, hb2⟩
      unfold maxLen at y4
      have X2 := blk2 hb2
      have a10 : w2.cell? ⟨w1.heap.size, 0, none⟩ = some (.int .i64 C) := (cell_at X2 0).trans rfl
      have a11 : w2.cell? ⟨w1.heap.size, 1, none⟩ = some (.int .i64 A) := (cell_at X2 1).trans rfl
      have HB2 := Lib.hid ((HB1.out.trans (hb2.mono hs1)).alloc (Nat.le_trans hs1 hb2.size) (.cells #[.int .i64 C, .int .i64 A] 27))
      have hz2 := hb2.size
      simp at hz2
      have l12 : w1.heap.size < w2.heap.size := by omega
      clear hb2 X2
      go_wp2_with fail
      refine (live_any _ (HV.out.up HB2.out)).mono ?_
      rintro r w4 ⟨rfl, hb4⟩
      go_wp2
      go_ret
      exact ⟨rfl, HB2.out.trans (hb4.mono HB2.out.size)⟩
    · simp only at he hi
      subst he
      have HEND := Lib.hid (fB_end hi)
      have HL := Lib.hid hl
      have hlen : l.length ≤ 100000 := (okr_of hl).len
      clear hl hi
      go_enter Tryd.func6, Tryd.ntmps6
      go_wp2_with fail
      refine (read_at HX.out HM.out HV.out).mono ?_
      rintro r w1 ⟨v1, rfl, hp1, hb1⟩
      obtain ⟨⟨A1, c1, hv1, y1, y2, _⟩, _⟩ := hp1
      simp only at hv1
      subst hv1
      simp only [List.length_nil] at y1 ⊢
      unfold maxLen at y2
      have HB1 := Lib.hid (hb1.alloc hb1.size (.cells #[.int .i64 C, .int .i64 A] 27))
      have hs1 := HB1.out.size
      clear hb1
      go_wp2_with fail
      refine (rlex_ok _ HM.out HL.out).mono ?_
      rintro r w2 ⟨v2, rfl, ho2, hb2⟩
      have HT2 := Lib.hid ((Lx.Toks.of_own ho2).below (below_new w2 (.cells #[.int .i64 0, .int .i64 0] 27)) (Nat.le_refl _))
      obtain ⟨A2', c2, rfl, y3, y4, _⟩ := Lx.Toks.of_own ho2
      unfold maxLen at y4
      have X2 := Lib.hid (stayA (o' := .cells #[.int .i64 0, .int .i64 0] 27) (blk2 hb2))
      have HB2 := Lib.hid ((HB1.out.trans (hb2.mono hs1)).alloc (Nat.le_trans hs1 hb2.size) (.cells #[.int .i64 0, .int .i64 0] 27))
      have hs2 := HB2.out.size
      have hz2 := hb2.size
      simp at hz2
      have l12 : w1.heap.size < w2.heap.size := by omega
      have a10' : w2.cell? ⟨w1.heap.size, 0, none⟩ = some (.int .i64 C) := (cell_at (blk2 hb2) 0).trans rfl
      have a11' : w2.cell? ⟨w1.heap.size, 1, none⟩ = some (.int .i64 A) := (cell_at (blk2 hb2) 1).trans rfl
      clear hb2 ho2
      go_wp2
      obtain ⟨wa, hwa⟩ : ∃ wa, w2.alloc (.cells #[.int .i64 0, .int .i64 0] 27) = wa := ⟨_, rfl⟩
      rw [hwa]
      rw [hwa] at HT2 X2 HB2 hs2
      have a11 : wa.cell? ⟨w1.heap.size, 1, none⟩ = some (.int .i64 A) := (cell_at X2.out 1).trans rfl
      have l1a : w1.heap.size < wa.heap.size := lt_of_block X2.out
      obtain ⟨_, _, ee, _, _, HA⟩ := HT2.out
      simp only [Value.slice.injEq] at ee
      obtain ⟨rfl, -, rfl⟩ := ee
      have HAH := Lib.hid HA
      clear HA HT2 hwa a10' a11'
      go_loopw [10, 11] (fun fd i wr => ∃ k n : Nat, k ≤ l.length ∧ i = .int .i64 k ∧ fd = .bool (fB l A k) ∧ wr = wa.drewN n) (fun _ i _ => l.length - (intOf i).toNat)
      case atStart => exact ⟨0, 0, Nat.zero_le _, rfl, by simp [fB], rfl⟩
      case round =>
        obtain ⟨k, n, hk, rfl, rfl, rfl⟩ := hrel
        by_cases hlt : k < l.length
        · obtain ⟨t, ht⟩ : ∃ t, l[k]? = some t := ⟨_, List.getElem?_eq_getElem hlt⟩
          obtain ⟨g, rfl, hg, b0, b1, b2⟩ := HAH.out k t ht
          have HN := Lib.hid (fB_next (F := A) ht)
          obtain ⟨K, T, P⟩ := t
          simp only at b0 b1 b2 HN
          clear ht
          obtain ⟨B, hB⟩ : ∃ B, fB l A k = B := ⟨_, rfl⟩
          obtain ⟨B2, hB2⟩ : ∃ B, ((P : Int) == A) = B := ⟨_, rfl⟩
          rw [hB, hB2] at HN
          rw [hB]
          clear hB
          cases B with
          | true =>
            go_wp2
            go_quiet (fail)
            go_wp2
            go_roundw
            case rel => exact ⟨k + 1, _, by omega, by go_num, by rw [HN.out]; rfl, rfl⟩
            case measure => simp [intOf]; omega
          | false =>
            go_wp2
            go_quiet (fail)
            go_wp2
            go_roundw
            case rel => exact ⟨k + 1, _, by omega, by go_num, by rw [HN.out]; rfl, rfl⟩
            case measure => simp [intOf]; omega
        · obtain rfl : k = l.length := by omega
          rw [HEND.out]
          go_wp2_with fail
          refine (live_any _ (HV.out.up (Tr.below_drewN HB2.out _))).mono ?_
          rintro r w4 ⟨rfl, hb4⟩
          go_wp2
          go_ret
          exact ⟨rfl, (Tr.below_drewN HB2.out _).trans (hb4.mono hs2)⟩
end Go.Proofs.YtgohhnbdicdenaaDoor.exprFault
