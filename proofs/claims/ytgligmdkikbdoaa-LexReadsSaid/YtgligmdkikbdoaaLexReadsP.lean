/- The statement LexReads holds for every input: any source's tokens, or where it has none, are the document's; so is whether it is a name, or a word. Conditions: none. -/
import Derived.Test.YtgligmdkikbdoaaRows
import Derived.WalkKit
import Derived.ProofKit
import Derived.OpenShut
import Derived.Below
import Derived.ChangeSame
import Derived.Test.YtgligmdkikbdoaaLexT
import Derived.Test.YtgligmdkikbdoaaLexZ
import Derived.Test.YtgligmdkikbdoaaLexJ
namespace Go.Proofs.Ytgligmdkikbdoaa.lexReads
open Go.ChangeShapes Go.WideShapes Go.ChangeAt Go.RowKit
set_option linter.unusedVariables false

theorem own : ownKnob Try.prog.godebug = none := by kernel_rfl

open Lx

theorem reads_mid {w w1 w2 : World} {c1 p1 : Int} {v1 : Value} {L : List Tok} (hb1 : Below w.heap.size w w1)
    (hb2 : Below (w1.alloc (.cells #[.int .i64 c1, .int .i64 p1] 35)).heap.size (w1.alloc (.cells #[.int .i64 c1, .int .i64 p1] 35)) w2) (ht1 : Toks w1 v1 L) :
    w1.heap.size < w2.heap.size ∧ w2.cell? ⟨w1.heap.size, 0, none⟩ = some (.int .i64 c1) ∧ w2.cell? ⟨w1.heap.size, 1, none⟩ = some (.int .i64 p1) ∧ Below w.heap.size w w2 ∧ Toks w2 v1 L := by
  have z1 := hb1.size
  have z2 := hb2.size
  simp at z2
  refine ⟨by omega, ?_, ?_, ?_, ?_⟩
  · rw [hb2.cell (by simp), World.cell?_alloc_at _ _ _ _ rfl]; rfl
  · rw [hb2.cell (by simp), World.cell?_alloc_at _ _ _ _ rfl]; rfl
  · exact (hb1.alloc z1 _).trans (hb2.mono (by simp; omega))
  · exact (ht1.below (below_new _ _) (Nat.le_refl _)).below hb2 (Nat.le_refl _)
theorem same_yes (u v : Value) (l : List Tok) (w : World) (hu : Toks w u l) (hv : Toks w v l) : Calls Try.prog 26 #[u, v] w fun e w' => e = .returned (.bool true) ∧ ∃ n, w' = w.drewN n := by
  have := same_any u v l l w hu hv
  rw [show decide (l = l) = true from by simp] at this; exact this
theorem reads_more {w w2 w3 : World} {o : Obj} {n : Nat} (hb : Below w.heap.size w w2) (h3 : Below ((w2.alloc o).drewN n).heap.size ((w2.alloc o).drewN n) w3) : Below w.heap.size w w3 := by
  have z := hb.size
  exact (below_drewN (hb.alloc z o) n).trans (h3.mono (by show _ ≤ (w2.alloc o).heap.size; simp; omega))
theorem reads_toks {w2 w3 : World} {o : Obj} {n : Nat} {v : Value} {L : List Tok} (ht : Toks w2 v L) (h3 : Below ((w2.alloc o).drewN n).heap.size ((w2.alloc o).drewN n) w3) : Toks w3 v L :=
  (toks_drewN (ht.below (below_new _ o) (Nat.le_refl _)) n).below h3 (Nat.le_refl _)
attribute [local go_sem ↓] neq_tok eql_tok guard_tok eql_fault guard_fault
theorem faultB_yes (c p : Int) : faultB c c p p = true := by simp [faultB]

set_option maxRecDepth 100000 in
set_option maxHeartbeats 8000000 in
theorem walk (s : ByteArray) (h : s.size ≤ maxLen) (w : World) : Calls Try.prog 9 #[.string s] w fun e w' => e = .returned (.bool true) ∧ Below w.heap.size w w' := by
  by_cases hbig : s.size ≤ 1000
  · have hlx := fun W => lex_gives s W h
    have hrx := fun W => (refLex_any s W h).mono fun _ _ hh => LexPost.gives hh
    have h27 := fun W => IsName_any s W h
    have h28 := fun W => refIsName_any s W h
    have h29 := fun W => isWord_any s W
    have h30 := fun W => refIsWord_any s W
    have hch := (lexM_chain s.toList (by rw [toList_len]; omega)).1
    have hjl := fun k => (joinM_len s.toList 0 _ (chain_take hch k) (Nat.zero_le _)).1
    have hnl := (joinM_len s.toList 0 _ hch (Nat.zero_le _))
    rw [toList_len] at hnl
    rw [toList_len] at hjl
    clear hch
    revert hlx hrx h27 h28 h29 h30 hjl hnl
    generalize (lexM s.toList).toks = L
    generalize (lexM s.toList).code = C
    generalize (lexM s.toList).at_ = P
    generalize nameB s.toList = N
    generalize wordB s.toList = D
    intro hlx hrx h27 h28 h29 h30 hjl hnl
    obtain ⟨hn1, hn2⟩ := hnl
    have l1 : L.length ≤ 1000000 := by omega
    have l2 : (joinM L).length ≤ 140737488355328 := by omega
    have HJ := Lib.hid (show ∀ k, (joinM (L.take k)).length ≤ 1000000 from fun k => by have := hjl k; omega)
    have HL := Lib.hid hlx
    have HR := Lib.hid hrx
    have H27 := Lib.hid h27
    have H28 := Lib.hid h28
    have H29 := Lib.hid h29
    have H30 := Lib.hid h30
    unfold maxLen at h
    clear hlx hrx h27 h28 h29 h30 hjl hn1 hn2
    go_enter Try.func9, Try.ntmps9
    go_wp2_with fail
    refine (HL.out _).mono ?_
    rintro e w1 ⟨v1, rfl, ht1, hb1⟩
    go_wp2_with fail
    refine (HR.out _).mono ?_
    rintro e w2 ⟨v2, rfl, ht2, hb2⟩
    obtain ⟨k1, c10, c11, B2, t1⟩ := reads_mid hb1 hb2 ht1
    have HB2 := Lib.hid B2
    have HT1 := Lib.hid t1
    have HT2 := Lib.hid ht2
    have hf := faultB_yes C P
    clear hb1 hb2 ht1 ht2 B2 t1
    go_wp2_with fail
    refine (same_yes _ _ L _ (by exact HT1.out.below (below_new _ _) (Nat.le_refl _)) (by exact HT2.out.below (below_new _ _) (Nat.le_refl _))).mono ?_
    rintro e w' ⟨rfl, n, rfl⟩
    go_wp2_with fail
    refine (H27.out _).mono ?_
    rintro e w' ⟨rfl, rfl⟩
    go_wp2_with fail
    refine (H28.out _).mono ?_
    rintro e w3 ⟨rfl, hb3⟩
    have B3 := Lib.hid (reads_more (n := n) HB2.out hb3)
    have T3 := Lib.hid (reads_toks (n := n) HT1.out hb3)
    have U3 := Lib.hid (reads_toks (n := n) HT2.out hb3)
    clear hb3
    cases N <;> cases D
    all_goals
      go_wp2_with fail
      refine (H29.out _).mono ?_
      rintro e w' ⟨rfl, rfl⟩
      go_wp2_with fail
      refine (H30.out _).mono ?_
      rintro e w4 ⟨rfl, hb4⟩
      go_wp2_with fail
      refine (join_any _ L _ (by exact T3.out.below hb4 (Nat.le_refl _)) l1 l2).mono ?_
      rintro e w5 ⟨rfl, hb5⟩
      go_wp2_with fail
      refine (refJoin_any _ L _ (by exact (U3.out.below hb4 (Nat.le_refl _)).below hb5 (Nat.le_refl _)) l1 HJ.out).mono ?_
      rintro e w' ⟨rfl, rfl⟩
      go_wp2_with (go_at_call 23; refine (live_any _).mono ?_; rintro e w6 ⟨rfl, hb6⟩)
      go_ret
      have z3 := B3.out.size
      have z4 := hb4.size
      have z5 := hb5.size
      exact ⟨rfl, ((B3.out.trans (hb4.mono z3)).trans (hb5.mono (by omega))).trans (hb6.mono (by omega))⟩
  · go_enter Try.func9, Try.ntmps9
    go_wp2_with (go_at_call 23; refine (live_any _).mono ?_; rintro e w1 ⟨rfl, hb⟩)
    go_ret
    exact ⟨rfl, hb⟩


set_option maxRecDepth 100000 in
theorem lifted (os : Os) (started : os.Started) (H : Type) (enc : TypeId × Value → H) :
    ReturnsInHanded {} Try.checked os 9 .any (Rows.lexReadsSpec.pre6 enc Try.prog Try.f9 Rows.lexReadsRow.domain false) (Rows.lexReadsSpec.post enc Try.prog Try.f9 false true false false) := by
  refine returnsInHanded_of_change (C := Try.checked) own started (by kernel_rfl) Try.func9
    (ChangeSpec.witness6 (enc := enc) (C := Try.checked) false ⟨#[], #[.string ⟨#[]⟩], []⟩ 8 (by kernel_rfl) (by kernel_rfl) (by kernel_rfl) (by kernel_rfl)) ?_
  intro W base args ds gs before hval0 hW hcnd _
  have hval : ∀ (j : Nat) t v, Try.f9.params[j]? = some t → args[j]? = some v → Value.okWide Try.prog W .any base t v := hval0
  have hW' := hW
  obtain ⟨p, q, hA0, hV, rfl, hfz, hnd⟩ := hW
  have hA : DataW.TrodAll enc Try.prog W 0 (fun _ => true) true Try.f9.params.toList args.toList ds p := hA0
  rw [Try.params9] at hA hval
  obtain ⟨v0, vs0, d0, ds0, p0, q0, hargs, rfl, rfl, h0, r0⟩ := trodAll_cons hA
  obtain ⟨rfl, rfl, rfl⟩ := trodAll_nil r0
  obtain rfl : args = #[v0] := by cases args; simp_all
  obtain ⟨rfl, rfl⟩ := trodVars_none hV
  obtain ⟨a0, rfl, rfl, rfl, w0⟩ := Go.ChangeMaps.open_string Try.underlying9 (hval 0 9 v0 rfl rfl) h0
  clear hA0 hval0
  simp only [List.append_nil] at hW'
  refine (walk a0 w0 W).mono fun e W' ⟨he, hg⟩ => ?_
  subst he
  exact ⟨_, rfl, Lx.post_kept (pa := []) (pv := []) hW' (fun _ => (trodAll_cons_mk (shut_bool Try.underlying4 _) trodAll_mk0)) (trodAll_cons_mk (Go.ChangeMaps.shut_string Try.underlying9 w0) trodAll_mk0) rfl hg⟩

theorem over : Rows.lexReadsRow.holds Try.pinned (OpenSpec.ofChange Rows.lexReadsSpec) :=
  OpenClaim.holds_of_wide 9 Try.f9 rfl rfl rfl rfl rfl rfl rfl ⟨rfl, rfl, rfl, rfl, rfl⟩ rfl rfl rfl rfl rfl (by kernel_rfl) Try.func9 (by kernel_rfl)
    (of_decide_eq_true (by kernel_rfl)) (by unfold Func.isWrapper; first | (rw [if_pos (by decide +kernel)]; kernel_rfl) | (rw [if_neg (by decide +kernel)]; exact ⟨rfl, rfl⟩))
    (fun os started H enc _ => lifted os started H enc)

theorem proved : Rows.LexReadsSaid :=
  over
#print axioms proved
end Go.Proofs.Ytgligmdkikbdoaa.lexReads
