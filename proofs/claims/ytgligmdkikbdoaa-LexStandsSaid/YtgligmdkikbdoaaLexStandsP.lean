/- The statement LexStands holds for every input: each token stands in the source where it says, behind the one ahead of it. Conditions: none. -/
import Derived.Test.YtgligmdkikbdoaaRows
import Derived.WalkKit
import Derived.ProofKit
import Derived.OpenShut
import Derived.Below
import Derived.ChangeSame
import Derived.Test.YtgligmdkikbdoaaLexI
import Derived.Test.YtgligmdkikbdoaaLexJ
namespace Go.Proofs.Ytgligmdkikbdoaa.lexStands
open Go.ChangeShapes Go.WideShapes Go.ChangeAt Go.RowKit
set_option linter.unusedVariables false

theorem own : ownKnob Try.prog.godebug = none := by kernel_rfl

open Lx

theorem stands_end {w w1 wr w5 : World} {o : Obj} (hb : Below w.heap.size w w1) (hbr : Below (w1.heap.size + 1) (w1.alloc o) wr) (hb5 : Below wr.heap.size wr w5) : Below w.heap.size w w5 := by
  have z := hb.size
  have z2 := hbr.size
  simp at z2
  exact ((hb.alloc hb.size o).trans (hbr.mono (by omega))).trans (hb5.mono (by omega))

set_option maxRecDepth 100000 in
set_option maxHeartbeats 4000000 in
theorem walk (s : ByteArray) (h : s.size ≤ maxLen) (w : World) : Calls Try.prog 11 #[.string s] w fun e w' => e = .returned (.bool true) ∧ Below w.heap.size w w' := by
  by_cases hbig : s.size ≤ 1000
  · have hlx := lex_gives s w h
    unfold maxLen at h
    obtain ⟨hch, hat⟩ := lexM_chain s.toList (by rw [toList_len]; omega)
    revert hlx hch hat
    generalize (lexM s.toList).toks = L
    generalize (lexM s.toList).code = C
    generalize (lexM s.toList).at_ = P
    intro hlx hch hat
    have HL := Lib.hid hlx
    have HCH := Lib.hid hch
    have HAT := Lib.hid hat
    clear hlx hch hat
    go_enter Try.func11, Try.ntmps11
    go_wp2_with fail
    refine HL.out.mono ?_
    rintro e w1 ⟨v, rfl, ht, hb⟩
    obtain ⟨A, c, rfl, h1, h2, h3⟩ := ht
    have HT := Lib.hid h3
    have HB := Lib.hid hb
    clear h3 hb HL
    unfold maxLen at h2
    go_wp2
    go_loopw [5, 6] (fun en i wr => ∃ k E : Nat, k ≤ L.length ∧ i = .int .i64 k ∧ en = .int .i64 E ∧ Chain s.toList E (L.drop k) ∧ Below (w1.heap.size + 1) (w1.alloc (.cells #[.int .i64 C, .int .i64 P] 35)) wr) (fun _ i _ => L.length - (intOf i).toNat)
    case atStart => exact ⟨0, 0, Nat.zero_le _, rfl, rfl, by simpa using HCH.out, Below.refl _ _⟩
    case round =>
      obtain ⟨k, E, hk, rfl, rfl, hch, hbr⟩ := hrel
      have HBR := Lib.hid hbr
      have hz := hbr.size
      simp at hz
      have hzz : w1.heap.size < wr.heap.size := by omega
      by_cases hlt : k < L.length
      · obtain ⟨t, ht⟩ : ∃ t, L[k]? = some t := ⟨_, List.getElem?_eq_getElem hlt⟩
        obtain ⟨g, rfl, hg, a0, a1, a2⟩ := HT.out k t ht
        rw [List.drop_eq_getElem_cons hlt, (List.getElem?_eq_some_iff.1 ht).2] at hch
        obtain ⟨q1, q2, q3, q4, q5⟩ := hch
        obtain ⟨K, T, Q⟩ := t
        simp only at a0 a1 a2 q1 q2 q3 q4 q5
        rw [toList_len] at q3
        have hgr : g < wr.heap.size := by omega
        have hc : ∀ o, wr.cell? ⟨g, o, none⟩ = w1.cell? ⟨g, o, none⟩ := fun o => (hbr.cell (by show g < _; omega)).trans (World.cell?_alloc_past _ _ _ hg)
        have b0 := (hc _).trans a0
        have b1 := (hc _).trans a1
        have b2 := (hc _).trans a2
        have hsz := str_size T
        have t1 : decide (Q < E) = false := by simp; omega
        have t2 : ((str T).toList == []) = false := by rw [str_toList]; cases T with | nil => simp at q2 | cons => rfl
        have t2' : (str T).toList.isEmpty = false := by rw [str_toList]; cases T with | nil => simp at q2 | cons => rfl
        have t3 : decide ((s.size : Int) < (Q : Int) + (T.length : Int)) = false := by simp; omega
        have t4 : (s.extract Q (Q + T.length)).toList = (str T).toList := by rw [extract_toList, str_toList, Nat.add_sub_cancel_left]; exact q4
        have t5 : ((s.extract Q (Q + T.length)).toList == (str T).toList) = true := by rw [t4]; simp
        have q6 : 0 ≤ (Q : Int) + (T.length : Int) := by omega
        have HQ5 := Lib.hid q5
        clear hc a0 a1 a2 hbr q5 q4 t4 ht
        go_wp2
        have y1 : IntKind.i64.wrap ((Q : Int) + (T.length : Int)) = (Q : Int) + (T.length : Int) := IntWalk.i64_in _ (by omega)
        have y3 : ((Q : Int) + (T.length : Int)).toNat = Q + T.length := by omega
        go_quiet (fail)
        clear y1 y3
        go_wp2
        refine ⟨⟨k + 1, Q + T.length, by omega, by go_num, by go_num, HQ5.out, ?_⟩, by simp [intOf]; omega⟩
        exact below_drewN (HBR.out.alloc (by omega) _) nq
      · have f0 : wr.cell? ⟨w1.heap.size, 0, none⟩ = some (.int .i64 C) := (hbr.cell (by show w1.heap.size < _; omega)).trans (by rw [World.cell?_alloc_at _ _ _ _ rfl]; rfl)
        have f1 : wr.cell? ⟨w1.heap.size, 1, none⟩ = some (.int .i64 P) := (hbr.cell (by show w1.heap.size < _; omega)).trans (by rw [World.cell?_alloc_at _ _ _ _ rfl]; rfl)
        clear hbr hch
        by_cases hC : C = 0
        · subst hC
          go_wp2_with (go_at_call 23; refine (live_any _).mono ?_; rintro e w5 ⟨rfl, hb5⟩)
          go_ret
          exact ⟨rfl, stands_end HB.out HBR.out hb5⟩
        · have hC' : (C == 0) = false := by simpa using hC
          obtain ⟨r1, r2⟩ := HAT.out hC
          rw [toList_len] at r2
          have r3 : -1 ≤ P := by omega
          clear hC
          go_wp2_with (go_at_call 23; refine (live_any _).mono ?_; rintro e w5 ⟨rfl, hb5⟩)
          go_ret
          exact ⟨rfl, stands_end HB.out HBR.out hb5⟩
  · go_enter Try.func11, Try.ntmps11
    go_wp2_with (go_at_call 23; refine (live_any _).mono ?_; rintro e w1 ⟨rfl, hb⟩)
    go_ret
    exact ⟨rfl, hb⟩


set_option maxRecDepth 100000 in
theorem lifted (os : Os) (started : os.Started) (H : Type) (enc : TypeId × Value → H) :
    ReturnsInHanded {} Try.checked os 11 .any (Rows.lexStandsSpec.pre6 enc Try.prog Try.f11 Rows.lexStandsRow.domain false) (Rows.lexStandsSpec.post enc Try.prog Try.f11 false true false false) := by
  refine returnsInHanded_of_change (C := Try.checked) own started (by kernel_rfl) Try.func11
    (ChangeSpec.witness6 (enc := enc) (C := Try.checked) false ⟨#[], #[.string ⟨#[]⟩], []⟩ 8 (by kernel_rfl) (by kernel_rfl) (by kernel_rfl) (by kernel_rfl)) ?_
  intro W base args ds gs before hval0 hW hcnd _
  have hval : ∀ (j : Nat) t v, Try.f11.params[j]? = some t → args[j]? = some v → Value.okWide Try.prog W .any base t v := hval0
  have hW' := hW
  obtain ⟨p, q, hA0, hV, rfl, hfz, hnd⟩ := hW
  have hA : DataW.TrodAll enc Try.prog W 0 (fun _ => true) true Try.f11.params.toList args.toList ds p := hA0
  rw [Try.params11] at hA hval
  obtain ⟨v0, vs0, d0, ds0, p0, q0, hargs, rfl, rfl, h0, r0⟩ := trodAll_cons hA
  obtain ⟨rfl, rfl, rfl⟩ := trodAll_nil r0
  obtain rfl : args = #[v0] := by cases args; simp_all
  obtain ⟨rfl, rfl⟩ := trodVars_none hV
  obtain ⟨a0, rfl, rfl, rfl, w0⟩ := Go.ChangeMaps.open_string Try.underlying9 (hval 0 9 v0 rfl rfl) h0
  clear hA0 hval0
  simp only [List.append_nil] at hW'
  refine (walk a0 w0 W).mono fun e W' ⟨he, hg⟩ => ?_
  subst he
  exact ⟨_, rfl, Lx.post_kept (pa := []) (pv := []) hW' (fun _ => (trodAll_cons_mk (shut_bool Try.underlying4 _) trodAll_mk0)) (trodAll_cons_mk (Go.ChangeMaps.shut_string Try.underlying9 w0) trodAll_mk0) rfl hg⟩

theorem over : Rows.lexStandsRow.holds Try.pinned (OpenSpec.ofChange Rows.lexStandsSpec) :=
  OpenClaim.holds_of_wide 11 Try.f11 rfl rfl rfl rfl rfl rfl rfl ⟨rfl, rfl, rfl, rfl, rfl⟩ rfl rfl rfl rfl rfl (by kernel_rfl) Try.func11 (by kernel_rfl)
    (of_decide_eq_true (by kernel_rfl)) (by unfold Func.isWrapper; first | (rw [if_pos (by decide +kernel)]; kernel_rfl) | (rw [if_neg (by decide +kernel)]; exact ⟨rfl, rfl⟩))
    (fun os started H enc _ => lifted os started H enc)

theorem proved : Rows.LexStandsSaid :=
  over
#print axioms proved
end Go.Proofs.Ytgligmdkikbdoaa.lexStands
