/- The statement LexBack holds for every input: tokens that are joined are the same ones again, but for where they stand. Conditions: none. -/
import Derived.Test.YtgligmdkikbdoaaRows
import Derived.WalkKit
import Derived.ProofKit
import Derived.OpenShut
import Derived.Below
import Derived.ChangeSame
import Derived.Test.YtgligmdkikbdoaaLexI
import Derived.Test.YtgligmdkikbdoaaLexJ
namespace Go.Proofs.Ytgligmdkikbdoaa.lexBack
open Go.ChangeShapes Go.WideShapes Go.ChangeAt Go.RowKit
set_option linter.unusedVariables false

theorem own : ownKnob Try.prog.godebug = none := by kernel_rfl

open Lx

theorem back_end {w w1 wr w5 : World} {o : Obj} {B : Nat} (hb : Below w.heap.size w w1) (hbr : Below B (w1.alloc o) wr) (hB : w1.heap.size ≤ B) (hb5 : Below wr.heap.size wr w5) : Below w.heap.size w w5 := by
  have z := hb.size
  have z2 := hbr.size
  simp at z2
  exact ((hb.alloc hb.size o).trans (hbr.mono (by omega))).trans (hb5.mono (by omega))

theorem toks_mid {w1 w2 w3 : World} {o : Obj} {v : Value} {L : List Tok} (h : Toks w1 v L) (hb2 : Below (w1.alloc o).heap.size (w1.alloc o) w2) (hb3 : Below w2.heap.size w2 w3) : Toks w3 v L := by
  have z := hb2.size
  simp at z
  exact ((h.below (below_new _ o) (Nat.le_refl _)).below hb2 (Nat.le_refl _)).below hb3 (Nat.le_refl _)
theorem below_mid {w w1 w2 w3 : World} {o : Obj} (hb : Below w.heap.size w w1) (hb2 : Below (w1.alloc o).heap.size (w1.alloc o) w2) (hb3 : Below w2.heap.size w2 w3) : Below w.heap.size w w3 := by
  have z := hb2.size
  have y := hb.size
  simp at z
  exact ((hb.alloc hb.size o).trans (hb2.mono (by simp; omega))).trans (hb3.mono (by omega))
theorem mid_cell {w1 w2 w3 : World} {o : Obj} {a : Addr} {u : Value} (h : w1.cell? a = some u) (ha : a.block < w1.heap.size) (hb2 : Below (w1.alloc o).heap.size (w1.alloc o) w2) (hb3 : Below w2.heap.size w2 w3) : w3.cell? a = some u := by
  have z := hb2.size
  simp at z
  rw [hb3.cell (by omega), hb2.cell (by simp; omega), World.cell?_alloc_lt _ _ _ ha, h]

set_option maxRecDepth 100000 in
set_option maxHeartbeats 4000000 in
theorem walk (s : ByteArray) (h : s.size ≤ maxLen) (w : World) : Calls Try.prog 10 #[.string s] w fun e w' => e = .returned (.bool true) ∧ Below w.heap.size w w' := by
  by_cases hbig : s.size ≤ 1000
  · have hlx := lex_gives s w h
    unfold maxLen at h
    obtain ⟨hj1, hj2, M, hM, hA⟩ := back s.toList (by rw [toList_len]; omega)
    revert hlx hj1 hj2 hM hA
    have hz : (lexM s.toList).code ≠ 0 → (lexM s.toList).toks = [] := by cases lexM s.toList <;> simp [Res.code, Res.toks]
    revert hz
    generalize (lexM s.toList).toks = L
    generalize (lexM s.toList).code = C
    generalize (lexM s.toList).at_ = P
    intro hz hlx hj1 hj2 hM hA
    have HL := Lib.hid hlx
    have HA := Lib.hid hA
    have HM := Lib.hid hM
    clear hlx hA hM
    by_cases hC : C = 0
    · subst hC
      clear hz
      go_enter Try.func10, Try.ntmps10
      go_wp2_with fail
      refine HL.out.mono ?_
      rintro e w1 ⟨v, rfl, ht, hb⟩
      have HT := Lib.hid ht
      have HB := Lib.hid hb
      clear ht hb HL
      go_wp2_with fail
      refine (join_any _ L _ (by exact HT.out.below (below_new _ _) (Nat.le_refl _)) (by omega) (by omega)).mono ?_
      rintro e w2 ⟨rfl, hb2⟩
      go_wp2_with fail
      refine (lex_gives _ _ (by rw [str_size]; unfold maxLen; omega)).mono ?_
      rw [str_toList, HM.out]
      rintro e w3 ⟨v3, rfl, ht3, hb3⟩
      have HT1 := Lib.hid (toks_mid HT.out hb2 hb3)
      have HB3 := Lib.hid (below_mid HB.out hb2 hb3)
      clear hb2 hb3 HM
      obtain ⟨A1, c1, rfl, x1, x2, x3⟩ := HT1.out
      obtain ⟨A2, c2, rfl, y1, y2, y3⟩ := ht3
      have X3 := Lib.hid x3
      have Y3 := Lib.hid (show ∀ (i : Nat) (t : Tok), M[i]? = some t → _ from y3)
      have hlm : M.length = L.length := HA.out.1.symm
      have e1 : (Res.ok M).toks.length = L.length := hlm
      have e2 : (Res.ok M).code = 0 := rfl
      rw [e1, e2]
      rw [e1] at y1
      clear x3 y3 e1 e2 HT HT1 HB
      unfold maxLen at x2 y2
      have HLM := Lib.hid hlm
      clear hlm
      go_wp2
      go_loopw [7] (fun i wr => ∃ k n : Nat, k ≤ L.length ∧ i = .int .i64 k ∧ wr = (w3.alloc (.cells #[.int .i64 0, .int .i64 (Res.ok M).at_] 35)).drewN n) (fun i _ => L.length - (intOf i).toNat)
      case atStart => exact ⟨0, 0, Nat.zero_le _, rfl, rfl⟩
      case round =>
        obtain ⟨k, n, hk, rfl, rfl⟩ := hrel
        by_cases hlt : k < L.length
        · obtain ⟨t, ht⟩ : ∃ t, L[k]? = some t := ⟨_, List.getElem?_eq_getElem hlt⟩
          obtain ⟨u, hu⟩ : ∃ u, M[k]? = some u := ⟨_, List.getElem?_eq_getElem (by rw [HLM.out]; exact hlt)⟩
          obtain ⟨q1, q2⟩ := HA.out.2 k t u ht hu
          obtain ⟨g, rfl, hg, a0, a1, a2⟩ := X3.out k t ht
          obtain ⟨g', rfl, hg', b0, b1, b2⟩ := Y3.out k u hu
          obtain ⟨K, T, Q⟩ := t
          obtain ⟨K', T', Q'⟩ := u
          simp only at q1 q2
          subst q1 q2
          simp only at a0 a1 a2 b0 b1 b2
          clear ht hu X3 Y3
          go_wp2
          go_quiet (fail)
          go_wp2
          refine ⟨⟨k + 1, n + nq, by omega, by go_num, rfl⟩, by simp [intOf]; omega⟩
        · go_wp2_with (go_at_call 23; refine (live_any _).mono ?_; rintro e w5 ⟨rfl, hb5⟩)
          go_ret
          exact ⟨rfl, back_end (B := w3.heap.size) HB3.out (below_drewN (Below.refl _ _) n) (Nat.le_refl _) hb5⟩
    · obtain rfl := hz hC
      have hC' : (C == 0) = false := by simpa using hC
      have hC2 : (C != 0) = true := by simpa using hC
      clear hC hz
      go_enter Try.func10, Try.ntmps10
      go_wp2_with fail
      refine HL.out.mono ?_
      rintro e w1 ⟨v, rfl, ht, hb⟩
      obtain ⟨A1, c1, rfl, x1, x2, x3⟩ := ht
      have HB := Lib.hid hb
      clear hb HL x3
      simp only [List.length_nil]
      go_wp2_with (go_at_call 23; refine (live_any _).mono ?_; rintro e w5 ⟨rfl, hb5⟩)
      go_ret
      exact ⟨rfl, back_end (B := w1.heap.size) HB.out (Below.refl _ _) (Nat.le_refl _) hb5⟩
  · go_enter Try.func10, Try.ntmps10
    go_wp2_with (go_at_call 23; refine (live_any _).mono ?_; rintro e w1 ⟨rfl, hb⟩)
    go_ret
    exact ⟨rfl, hb⟩


set_option maxRecDepth 100000 in
theorem lifted (os : Os) (started : os.Started) (H : Type) (enc : TypeId × Value → H) :
    ReturnsInHanded {} Try.checked os 10 .any (Rows.lexBackSpec.pre6 enc Try.prog Try.f10 Rows.lexBackRow.domain false) (Rows.lexBackSpec.post enc Try.prog Try.f10 false true false false) := by
  refine returnsInHanded_of_change (C := Try.checked) own started (by kernel_rfl) Try.func10
    (ChangeSpec.witness6 (enc := enc) (C := Try.checked) false ⟨#[], #[.string ⟨#[]⟩], []⟩ 8 (by kernel_rfl) (by kernel_rfl) (by kernel_rfl) (by kernel_rfl)) ?_
  intro W base args ds gs before hval0 hW hcnd _
  have hval : ∀ (j : Nat) t v, Try.f10.params[j]? = some t → args[j]? = some v → Value.okWide Try.prog W .any base t v := hval0
  have hW' := hW
  obtain ⟨p, q, hA0, hV, rfl, hfz, hnd⟩ := hW
  have hA : DataW.TrodAll enc Try.prog W 0 (fun _ => true) true Try.f10.params.toList args.toList ds p := hA0
  rw [Try.params10] at hA hval
  obtain ⟨v0, vs0, d0, ds0, p0, q0, hargs, rfl, rfl, h0, r0⟩ := trodAll_cons hA
  obtain ⟨rfl, rfl, rfl⟩ := trodAll_nil r0
  obtain rfl : args = #[v0] := by cases args; simp_all
  obtain ⟨rfl, rfl⟩ := trodVars_none hV
  obtain ⟨a0, rfl, rfl, rfl, w0⟩ := Go.ChangeMaps.open_string Try.underlying9 (hval 0 9 v0 rfl rfl) h0
  clear hA0 hval0
  simp only [List.append_nil] at hW'
  refine (walk a0 w0 W).mono fun e W' ⟨he, hg⟩ => ?_
  subst he
  exact ⟨_, rfl, Lx.post_kept (pa := []) (pv := []) hW' (fun _ => (trodAll_cons_mk (shut_bool Try.underlying4 _) trodAll_mk0)) (trodAll_cons_mk (Go.ChangeMaps.shut_string Try.underlying9 w0) trodAll_mk0) rfl hg⟩

theorem over : Rows.lexBackRow.holds Try.pinned (OpenSpec.ofChange Rows.lexBackSpec) :=
  OpenClaim.holds_of_wide 10 Try.f10 rfl rfl rfl rfl rfl rfl rfl ⟨rfl, rfl, rfl, rfl, rfl⟩ rfl rfl rfl rfl rfl (by kernel_rfl) Try.func10 (by kernel_rfl)
    (of_decide_eq_true (by kernel_rfl)) (by unfold Func.isWrapper; first | (rw [if_pos (by decide +kernel)]; kernel_rfl) | (rw [if_neg (by decide +kernel)]; exact ⟨rfl, rfl⟩))
    (fun os started H enc _ => lifted os started H enc)

theorem proved : Rows.LexBackSaid :=
  over
#print axioms proved
end Go.Proofs.Ytgligmdkikbdoaa.lexBack
