/- The statement LexLines holds for every input: of two sources, a line's end between them, the tokens are those of both. Conditions: none. -/
import Derived.Test.YtgligmdkikbdoaaRows
import Derived.WalkKit
import Derived.ProofKit
import Derived.OpenShut
import Derived.Below
import Derived.ChangeSame
import Derived.Test.YtgligmdkikbdoaaLexI
import Derived.Test.YtgligmdkikbdoaaLexJ
import Derived.Test.YtgligmdkikbdoaaLexQ
namespace Go.Proofs.Ytgligmdkikbdoaa.lexLines
open Go.ChangeShapes Go.WideShapes Go.ChangeAt Go.RowKit
set_option linter.unusedVariables false

theorem own : ownKnob Try.prog.godebug = none := by kernel_rfl

open Lx

theorem three_mid {w w1 w2 w3 : World} {c1 p1 c2 p2 : Int} {v1 v2 : Value} {L M : List Tok} (hb1 : Below w.heap.size w w1)
    (hb2 : Below (w1.alloc (.cells #[.int .i64 c1, .int .i64 p1] 35)).heap.size (w1.alloc (.cells #[.int .i64 c1, .int .i64 p1] 35)) w2)
    (hb3 : Below (w2.alloc (.cells #[.int .i64 c2, .int .i64 p2] 35)).heap.size (w2.alloc (.cells #[.int .i64 c2, .int .i64 p2] 35)) w3) (ht1 : Toks w1 v1 L) (ht2 : Toks w2 v2 M) :
    w1.heap.size < w3.heap.size ∧ w2.heap.size < w3.heap.size ∧
    w3.cell? ⟨w1.heap.size, 0, none⟩ = some (.int .i64 c1) ∧ w3.cell? ⟨w1.heap.size, 1, none⟩ = some (.int .i64 p1) ∧
    w3.cell? ⟨w2.heap.size, 0, none⟩ = some (.int .i64 c2) ∧ w3.cell? ⟨w2.heap.size, 1, none⟩ = some (.int .i64 p2) ∧ Below w.heap.size w w3 ∧ Toks w3 v1 L ∧ Toks w3 v2 M := by
  have z1 := hb1.size
  have z2 := hb2.size
  have z3 := hb3.size
  simp at z2 z3
  have k1 : w1.heap.size < w2.heap.size := by omega
  refine ⟨by omega, by omega, ?_, ?_, ?_, ?_, ?_, ?_, ?_⟩
  · rw [hb3.cell (by simp; omega), World.cell?_alloc_past _ _ _ k1, hb2.cell (by simp), World.cell?_alloc_at _ _ _ _ rfl]; rfl
  · rw [hb3.cell (by simp; omega), World.cell?_alloc_past _ _ _ k1, hb2.cell (by simp), World.cell?_alloc_at _ _ _ _ rfl]; rfl
  · rw [hb3.cell (by simp), World.cell?_alloc_at _ _ _ _ rfl]; rfl
  · rw [hb3.cell (by simp), World.cell?_alloc_at _ _ _ _ rfl]; rfl
  · exact ((hb1.alloc z1 _).trans (hb2.mono (by simp; omega))).trans (((Below.refl _ _).alloc (by omega) _).trans (hb3.mono (by simp; omega)))
  · exact ((((ht1.below (below_new _ _) (Nat.le_refl _)).below hb2 (Nat.le_refl _)).below (below_new _ _) (Nat.le_refl _)).below hb3 (Nat.le_refl _))
  · exact (ht2.below (below_new _ _) (Nat.le_refl _)).below hb3 (Nat.le_refl _)
theorem three_end {w w3 w5 : World} {o : Obj} (hb : Below w.heap.size w w3) (hb5 : Below (w3.alloc o).heap.size (w3.alloc o) w5) : Below w.heap.size w w5 :=
  (hb.alloc hb.size o).trans (hb5.mono (by have := hb.size; simp; omega))
theorem same_yes (u v : Value) (l : List Tok) (w : World) (hu : Toks w u l) (hv : Toks w v l) : Calls Try.prog 26 #[u, v] w fun e w' => e = .returned (.bool true) ∧ ∃ n, w' = w.drewN n := by
  have := same_any u v l l w hu hv
  rw [show decide (l = l) = true from by simp] at this; exact this
theorem lines_end {w w3 wr w5 : World} {o : Obj} {n : Nat} (hb : Below w.heap.size w w3) (hbr : Below (w3.heap.size + 1) ((w3.alloc o).drewN n) wr) (hb5 : Below wr.heap.size wr w5) : Below w.heap.size w w5 := by
  have z := hb.size
  have z2 := hbr.size
  simp at z2
  exact ((below_drewN (hb.alloc hb.size o) n).trans (hbr.mono (by omega))).trans (hb5.mono (by omega))
theorem toks_head {w : World} {A : Option Addr} {n c : Nat} {L M : List Tok} (h : Toks w (.slice A n c) (L ++ M)) : Toks w (.slice A L.length c) L := by
  obtain ⟨A', c', he, h1, h2, h3⟩ := h
  injection he with e1 e2 e3
  subst e1 e3
  refine ⟨_, _, rfl, by rw [List.length_append] at h1; omega, h2, fun i t hi => ?_⟩
  exact h3 i t (by rw [List.getElem?_append_left (List.getElem?_eq_some_iff.1 hi).1]; exact hi)

attribute [local go_sem ↓] neq_tok eql_tok guard_tok eql_fault guard_fault
theorem faultB_yes (c p : Int) : faultB c c p p = true := by simp [faultB]

set_option maxRecDepth 100000 in
set_option maxHeartbeats 8000000 in
theorem walk (a b : ByteArray) (ha : a.size ≤ maxLen) (hb : b.size ≤ maxLen) (w : World) : Calls Try.prog 12 #[.string a, .string b] w fun e w' => e = .returned (.bool true) ∧ Below w.heap.size w w' := by
  by_cases hbig : a.size ≤ 500 ∧ b.size ≤ 500
  · obtain ⟨ha5, hb5⟩ := hbig
    have hla := lex_gives a w ha
    have hlb := fun W => lex_gives b W hb
    have hsz : (a ++ ⟨#[10]⟩ ++ b).size = a.size + 1 + b.size := by rw [ByteArray.size_append, ByteArray.size_append]; rfl
    have hln := fun W => lex_gives (a ++ ⟨#[10]⟩ ++ b) W (by rw [hsz]; unfold maxLen; omega)
    have htl : (a ++ ⟨#[10]⟩ ++ b).toList = a.toList ++ 10 :: b.toList := by
      rw [app_toList, app_toList, show (ByteArray.mk #[10]).toList = [10] from str_toList [10]]; simp
    rw [htl, lines _ _ (by rw [List.length_append, List.length_cons, toList_len, toList_len]; omega), toList_len] at hln
    have hca := lexM_code a.toList (by rw [toList_len]; omega)
    have hcb := lexM_code b.toList (by rw [toList_len]; omega)
    rw [toList_len] at hca hcb
    have hqb := fun i t => chain_at (lexM_chain b.toList (by rw [toList_len]; omega)).1 i t
    have hla2 := chain_len (lexM_chain a.toList (by rw [toList_len]; omega)).1 (Nat.zero_le _)
    have hlb2 := chain_len (lexM_chain b.toList (by rw [toList_len]; omega)).1 (Nat.zero_le _)
    rw [toList_len] at hla2 hlb2
    rw [toList_len] at hqb
    revert hla hlb hln hca hcb hqb hla2 hlb2
    generalize lexM a.toList = ra
    generalize lexM b.toList = rb
    intro hla hlb hln hca hcb hqb hla2 hlb2
    unfold maxLen at ha hb
    clear hsz htl
    cases ra with
    | bad c p =>
      obtain ⟨hc, _, _⟩ := hca c p rfl
      have hc1 : (c != 0) = true := by simpa using hc
      have hf := faultB_yes c p
      have HLa := Lib.hid (show Calls Try.prog 24 #[.string a] w (LexGives w [] c p) from hla)
      have HLb := Lib.hid hlb
      have HLn := Lib.hid (show ∀ W, Calls Try.prog 24 #[.string (a ++ ⟨#[10]⟩ ++ b)] W (LexGives W [] c p) from hln)
      clear hla hlb hln hca hcb hc hqb hla2 hlb2
      go_enter Try.func12, Try.ntmps12
      go_wp2_with fail
      refine HLa.out.mono ?_
      rintro e w1 ⟨v1, rfl, ht1, hb1⟩
      go_wp2_with fail
      refine (HLb.out _).mono ?_
      rintro e w2 ⟨v2, rfl, ht2, hb2⟩
      go_wp2_with fail
      refine (HLn.out _).mono ?_
      rintro e w3 ⟨v3, rfl, ht3, hb3⟩
      obtain ⟨k1, k2, c10, c11, c20, c21, B3, t1, t2⟩ := three_mid hb1 hb2 hb3 ht1 ht2
      have HB3 := Lib.hid B3
      have HT1 := Lib.hid t1
      have HT2 := Lib.hid t2
      have HT3 := Lib.hid ht3
      clear B3 hb1 hb2 hb3 ht1 ht2 t1 t2 ht3 HLa HLb HLn
      go_wp2_with (go_at_call 23; refine (live_any _).mono ?_; rintro e w5 ⟨rfl, hb5⟩)
      go_ret
      exact ⟨rfl, three_end HB3.out hb5⟩
    | ok L =>
      cases rb with
      | bad c p =>
        obtain ⟨hc, hp0, hp1⟩ := hcb c p rfl
        have hc1 : (c != 0) = true := by simpa using hc
        have hf := faultB_yes c (p + (a.size : Int) + 1)
        have HLa := Lib.hid (show Calls Try.prog 24 #[.string a] w (LexGives w L 0 0) from hla)
        have HLb := Lib.hid (show ∀ W, Calls Try.prog 24 #[.string b] W (LexGives W [] c p) from hlb)
        have HLn := Lib.hid (show ∀ W, Calls Try.prog 24 #[.string (a ++ ⟨#[10]⟩ ++ b)] W (LexGives W [] c (p + (a.size : Int) + 1)) from fun W => by
          have := hln W
          simp only [Res.then, Res.shift, Res.glue, Res.toks, Res.code, Res.at_] at this
          rw [show p + (a.size : Int) + 1 = p + ((a.size + 1 : Nat) : Int) from by omega]; exact this)
        clear hla hlb hln hca hcb hc hqb hla2 hlb2
        go_enter Try.func12, Try.ntmps12
        go_wp2_with fail
        refine HLa.out.mono ?_
        rintro e w1 ⟨v1, rfl, ht1, hb1⟩
        go_wp2_with fail
        refine (HLb.out _).mono ?_
        rintro e w2 ⟨v2, rfl, ht2, hb2⟩
        go_wp2_with fail
        refine (HLn.out _).mono ?_
        rintro e w3 ⟨v3, rfl, ht3, hb3⟩
        obtain ⟨k1, k2, c10, c11, c20, c21, B3, t1, t2⟩ := three_mid hb1 hb2 hb3 ht1 ht2
        have HB3 := Lib.hid B3
        have HT1 := Lib.hid t1
        have HT2 := Lib.hid t2
        have HT3 := Lib.hid ht3
        clear B3 hb1 hb2 hb3 ht1 ht2 t1 t2 ht3 HLa HLb HLn
        go_wp2_with (go_at_call 23; refine (live_any _).mono ?_; rintro e w5 ⟨rfl, hb5⟩)
        go_ret
        exact ⟨rfl, three_end HB3.out hb5⟩
      | ok M =>
        have HLa := Lib.hid (show Calls Try.prog 24 #[.string a] w (LexGives w L 0 0) from hla)
        have HLb := Lib.hid (show ∀ W, Calls Try.prog 24 #[.string b] W (LexGives W M 0 0) from hlb)
        have HLn := Lib.hid (show ∀ W, Calls Try.prog 24 #[.string (a ++ ⟨#[10]⟩ ++ b)] W (LexGives W (L ++ M.map (Tok.shift (a.size + 1))) 0 0) from hln)
        have HQ := Lib.hid (show ∀ (i : Nat) (t : Tok), M[i]? = some t → t.at_ ≤ b.size from hqb)
        have l1 : L.length ≤ 500 := Nat.le_trans hla2 (by omega)
        have l2 : M.length ≤ 500 := Nat.le_trans hlb2 (by omega)
        clear hla hlb hln hca hcb hqb hla2 hlb2
        go_enter Try.func12, Try.ntmps12
        go_wp2_with fail
        refine HLa.out.mono ?_
        rintro e w1 ⟨v1, rfl, ht1, hb1⟩
        go_wp2_with fail
        refine (HLb.out _).mono ?_
        rintro e w2 ⟨v2, rfl, ht2, hb2⟩
        go_wp2_with fail
        refine (HLn.out _).mono ?_
        rintro e w3 ⟨v3, rfl, ht3, hb3⟩
        obtain ⟨k1, k2, c10, c11, c20, c21, B3, t1, t2⟩ := three_mid hb1 hb2 hb3 ht1 ht2
        have HB3 := Lib.hid B3
        have HT1 := Lib.hid t1
        have HT2 := Lib.hid t2
        have HT3 := Lib.hid ht3
        clear B3 hb1 hb2 hb3 ht1 ht2 t1 t2 ht3 HLa HLb HLn
        obtain ⟨A1, x1, rfl, x2, x3, x4⟩ := HT1.out
        obtain ⟨A2, y1, rfl, y2, y3, y4⟩ := HT2.out
        obtain ⟨A3, z1, rfl, z2, z3, z4⟩ := HT3.out
        have X4 := Lib.hid x4
        have Y4 := Lib.hid y4
        have Z4 := Lib.hid z4
        clear x4 y4 z4
        simp only [List.length_append, List.length_map] at z2
        have e1 : (L ++ M.map (Tok.shift (a.size + 1))).length = L.length + M.length := by simp
        rw [e1]
        rw [e1] at HT3
        clear e1
        unfold maxLen at x3 y3 z3
        go_wp2_with fail
        refine (same_yes _ _ L _ (by exact toks_head (HT3.out.below (below_new _ _) (Nat.le_refl _))) (by exact HT1.out.below (below_new _ _) (Nat.le_refl _))).mono ?_
        rintro e w4 ⟨rfl, n0, rfl⟩
        clear HT1 HT2 HT3
        go_wp2
        go_loopw [11] (fun i wr => ∃ k : Nat, k ≤ M.length ∧ i = .int .i64 k ∧ Below (w3.heap.size + 1) ((w3.alloc (.cells #[.int .i64 0, .int .i64 0] 35)).drewN n0) wr) (fun i _ => M.length - (intOf i).toNat)
        case atStart => exact ⟨0, Nat.zero_le _, rfl, Below.refl _ _⟩
        case round =>
          obtain ⟨k, hk, rfl, hbr⟩ := hrel
          have zr := hbr.size
          have zr' : w3.heap.size + 1 ≤ wr.heap.size := by simpa using zr
          clear zr
          have HBR := Lib.hid hbr
          by_cases hlt : k < M.length
          · obtain ⟨t, ht⟩ : ∃ t, M[k]? = some t := ⟨_, List.getElem?_eq_getElem hlt⟩
            have hQ := HQ.out k t ht
            have hn : (L ++ M.map (Tok.shift (a.size + 1)))[L.length + k]? = some (Tok.shift (a.size + 1) t) := by
              rw [List.getElem?_append_right (by omega), Nat.add_sub_cancel_left, List.getElem?_map, ht]; rfl
            obtain ⟨g, rfl, hg, a0, a1, a2⟩ := Y4.out k t ht
            obtain ⟨g', rfl, hg', b0, b1, b2⟩ := Z4.out _ _ hn
            obtain ⟨K, T, Q⟩ := t
            simp only [Tok.shift] at a0 a1 a2 b0 b1 b2 hQ
            have hc : ∀ x o, x < w3.heap.size → wr.cell? ⟨x, o, none⟩ = w3.cell? ⟨x, o, none⟩ := fun x o hx => (hbr.cell (by show x < _; omega)).trans (World.cell?_alloc_past _ _ _ hx)
            have a0' := (hc g _ hg).trans a0
            have a1' := (hc g _ hg).trans a1
            have a2' := (hc g _ hg).trans a2
            have b0' := (hc g' _ hg').trans b0
            have b1' := (hc g' _ hg').trans b1
            have b2' := ((hc g' _ hg').trans b2).trans (congrArg (fun z => some (Value.int .i64 z)) (show ((Q + (a.size + 1) : Nat) : Int) = (Q : Int) + (a.size : Int) + 1 from by omega))
            have hgr : g < wr.heap.size := by omega
            have hgr' : g' < wr.heap.size := by omega
            clear hc a0 a1 a2 b0 b1 b2 hn ht hbr X4 Y4 Z4
            have ht1 : tokB K K ((Q : Int) + (a.size : Int) + 1 - (a.size : Int) - 1) (Q : Int) (str T) (str T) = true := by
              unfold tokB; simp; omega
            go_wp2
            go_quiet (fail)
            go_wp2
            refine ⟨⟨k + 1, by omega, by go_num, ?_⟩, by simp [intOf]; omega⟩
            exact below_drewN (HBR.out.alloc (by omega) _) nq
          · clear hbr
            go_wp2_with (go_at_call 23; refine (live_any _).mono ?_; rintro e w5 ⟨rfl, hb5⟩)
            go_ret
            exact ⟨rfl, lines_end HB3.out HBR.out hb5⟩
  · have hbig' : 500 < a.size ∨ a.size ≤ 500 ∧ 500 < b.size := by omega
    clear hbig
    rcases hbig' with h1 | ⟨h1, h2⟩
    · have h1' : decide ((500 : Int) < a.size) = true := by simp; omega
      go_enter Try.func12, Try.ntmps12
      go_wp2_with (go_at_call 23; refine (live_any _).mono ?_; rintro e w1 ⟨rfl, hb⟩)
      go_ret
      exact ⟨rfl, hb⟩
    · have h1' : decide ((500 : Int) < a.size) = false := by simp; omega
      have h2' : decide ((500 : Int) < b.size) = true := by simp; omega
      go_enter Try.func12, Try.ntmps12
      go_wp2_with (go_at_call 23; refine (live_any _).mono ?_; rintro e w1 ⟨rfl, hb⟩)
      go_ret
      exact ⟨rfl, hb⟩


set_option maxRecDepth 100000 in
theorem lifted (os : Os) (started : os.Started) (H : Type) (enc : TypeId × Value → H) :
    ReturnsInHanded {} Try.checked os 12 .any (Rows.lexLinesSpec.pre6 enc Try.prog Try.f12 Rows.lexLinesRow.domain false) (Rows.lexLinesSpec.post enc Try.prog Try.f12 false true false false) := by
  refine returnsInHanded_of_change (C := Try.checked) own started (by kernel_rfl) Try.func12
    (ChangeSpec.witness6 (enc := enc) (C := Try.checked) false ⟨#[], #[.string ⟨#[]⟩, .string ⟨#[]⟩], []⟩ 8 (by kernel_rfl) (by kernel_rfl) (by kernel_rfl) (by kernel_rfl)) ?_
  intro W base args ds gs before hval0 hW hcnd _
  have hval : ∀ (j : Nat) t v, Try.f12.params[j]? = some t → args[j]? = some v → Value.okWide Try.prog W .any base t v := hval0
  have hW' := hW
  obtain ⟨p, q, hA0, hV, rfl, hfz, hnd⟩ := hW
  have hA : DataW.TrodAll enc Try.prog W 0 (fun _ => true) true Try.f12.params.toList args.toList ds p := hA0
  rw [Try.params12] at hA hval
  obtain ⟨v0, vs0, d0, ds0, p0, q0, hargs, rfl, rfl, h0, r0⟩ := trodAll_cons hA
  obtain ⟨v1, vs1, d1, ds1, p1, q1, rfl, rfl, rfl, h1, r1⟩ := trodAll_cons r0
  obtain ⟨rfl, rfl, rfl⟩ := trodAll_nil r1
  obtain rfl : args = #[v0, v1] := by cases args; simp_all
  obtain ⟨rfl, rfl⟩ := trodVars_none hV
  obtain ⟨a0, rfl, rfl, rfl, w0⟩ := Go.ChangeMaps.open_string Try.underlying9 (hval 0 9 v0 rfl rfl) h0
  obtain ⟨a1, rfl, rfl, rfl, w1⟩ := Go.ChangeMaps.open_string Try.underlying9 (hval 1 9 v1 rfl rfl) h1
  clear hA0 hval0
  simp only [List.append_nil] at hW'
  refine (walk a0 a1 w0 w1 W).mono fun e W' ⟨he, hg⟩ => ?_
  subst he
  exact ⟨_, rfl, Lx.post_kept (pa := []) (pv := []) hW' (fun _ => (trodAll_cons_mk (shut_bool Try.underlying4 _) trodAll_mk0)) (trodAll_cons_mk (Go.ChangeMaps.shut_string Try.underlying9 w0) (trodAll_cons_mk (Go.ChangeMaps.shut_string Try.underlying9 w1) trodAll_mk0)) rfl hg⟩

theorem over : Rows.lexLinesRow.holds Try.pinned (OpenSpec.ofChange Rows.lexLinesSpec) :=
  OpenClaim.holds_of_wide 12 Try.f12 rfl rfl rfl rfl rfl rfl rfl ⟨rfl, rfl, rfl, rfl, rfl⟩ rfl rfl rfl rfl rfl (by kernel_rfl) Try.func12 (by kernel_rfl)
    (of_decide_eq_true (by kernel_rfl)) (by unfold Func.isWrapper; first | (rw [if_pos (by decide +kernel)]; kernel_rfl) | (rw [if_neg (by decide +kernel)]; exact ⟨rfl, rfl⟩))
    (fun os started H enc _ => lifted os started H enc)

theorem proved : Rows.LexLinesSaid :=
  over
#print axioms proved
end Go.Proofs.Ytgligmdkikbdoaa.lexLines
