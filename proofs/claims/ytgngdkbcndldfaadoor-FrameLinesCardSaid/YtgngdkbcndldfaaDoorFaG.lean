/- The document's words of a line, and its row. Conditions: lengths within a machine's. -/
import Derived.Test.YtgngdkbcndldfaaDoorFaF
namespace Go.Proofs.YtgngdkbcndldfaaDoor.Fr
open Go.ChangeShapes Go.WideShapes Go.ChangeAt Go.RowKit Go.Proofs.YtgngdkbcndldfaaDoor.Tr
set_option linter.unusedVariables false
set_option linter.unusedSimpArgs false

/-- The word that is under way at i, begun at x (below 0: none). -/
def pendF (S : Bs) (x : Int) (i : Nat) : Bs := if x < 0 then [] else pieceF S x.toNat i
structure WdAt (S : Bs) (L : List Bs) (x : Int) (i : Nat) : Prop where
  words : i ≤ S.length → wordsM S = L ++ wordsG (pendF S x i) (S.drop i)
  done : i = S.length + 1 → wordsM S = L
  lo : -1 ≤ x
  hi : x < i
  few : L.length ≤ i
theorem WdAt.start (S : Bs) : WdAt S [] (-1) 0 := ⟨fun _ => by simp [pendF, wordsM], fun h => by omega, by omega, by omega, by simp⟩
theorem pend_none {S : Bs} {x : Int} {i : Nat} (h : x < 0) : pendF S x i = [] := by unfold pendF; rw [if_pos h]
theorem pend_some {S : Bs} {x : Int} {i : Nat} (h : 0 ≤ x) : pendF S x i = pieceF S x.toNat i := by unfold pendF; rw [if_neg (by omega)]
theorem WdAt.blank {S : Bs} {L : List Bs} {x : Int} {i : Nat} (h : WdAt S L x i) (hi : i < S.length) (hc : S[i]'hi = 32) (hx : x < 0) : WdAt S L x (i + 1) := by
  refine ⟨fun _ => ?_, fun e => by omega, h.lo, by have := h.hi; omega, by have := h.few; omega⟩
  rw [h.words (Nat.le_of_lt hi), List.drop_eq_getElem_cons hi, hc, pend_none hx, wordsG_blank0, pend_none hx]
theorem WdAt.cut {S : Bs} {L : List Bs} {x : Int} {i : Nat} (h : WdAt S L x i) (hi : i < S.length) (hc : S[i]'hi = 32) (hx : 0 ≤ x) : WdAt S (L ++ [pieceF S x.toNat i]) (-1) (i + 1) := by
  have hh := h.hi
  refine ⟨fun _ => ?_, fun e => by omega, by omega, by omega, by have := h.few; simp; omega⟩
  have hne : pieceF S x.toNat i ≠ [] := pieceF_ne S _ i (by omega) (Nat.le_of_lt hi)
  rw [h.words (Nat.le_of_lt hi), List.drop_eq_getElem_cons hi, hc, pend_some hx, wordsG_blank _ _ hne, pend_none (by omega)]
  simp
theorem WdAt.begin' {S : Bs} {L : List Bs} {x : Int} {i : Nat} (h : WdAt S L x i) (hi : i < S.length) (hc : S[i]'hi ≠ 32) (hx : x < 0) : WdAt S L (i : Int) (i + 1) := by
  refine ⟨fun _ => ?_, fun e => by omega, by omega, by omega, by have := h.few; omega⟩
  rw [h.words (Nat.le_of_lt hi), List.drop_eq_getElem_cons hi, pend_none hx, pend_some (by omega), Int.toNat_natCast, piece_next S i i (Nat.le_refl _) hi]
  simp only [wordsG, if_neg hc]
  simp [pieceF]
theorem WdAt.on {S : Bs} {L : List Bs} {x : Int} {i : Nat} (h : WdAt S L x i) (hi : i < S.length) (hc : S[i]'hi ≠ 32) (hx : 0 ≤ x) : WdAt S L x (i + 1) := by
  have hh := h.hi
  refine ⟨fun _ => ?_, fun e => by omega, h.lo, by omega, by have := h.few; omega⟩
  rw [h.words (Nat.le_of_lt hi), List.drop_eq_getElem_cons hi, pend_some hx, pend_some hx, piece_next S x.toNat i (by omega) hi]
  simp only [wordsG, if_neg hc]
theorem WdAt.last {S : Bs} {L : List Bs} {x : Int} (h : WdAt S L x S.length) (hx : 0 ≤ x) : WdAt S (L ++ [pieceF S x.toNat S.length]) (-1) (S.length + 1) := by
  have hh := h.hi
  refine ⟨fun _ => by omega, fun _ => ?_, by omega, by omega, by have := h.few; simp; omega⟩
  have hne : pieceF S x.toNat S.length ≠ [] := pieceF_ne S _ _ (by omega) (Nat.le_refl _)
  rw [h.words (Nat.le_refl _), List.drop_eq_nil_of_le (Nat.le_refl _), wordsG_end, pend_some hx, if_neg hne]
theorem WdAt.ended {S : Bs} {L : List Bs} {x : Int} (h : WdAt S L x S.length) (hx : x < 0) : WdAt S L x (S.length + 1) := by
  refine ⟨fun _ => by omega, fun _ => ?_, h.lo, by have := h.hi; omega, by have := h.few; omega⟩
  rw [h.words (Nat.le_refl _), List.drop_eq_nil_of_le (Nat.le_refl _), wordsG_end, pend_none hx]
  simp

set_option maxRecDepth 100000 in
set_option maxHeartbeats 2000000 in
theorem dwords_any (w : World) (S : Bs) (hS : S.length ≤ 1000000) :
    Calls Tryd.prog 33 #[.string (bs S)] w (StrPost (wordsM S) w) := by
  obtain ⟨i0, hi0, hz0, hz1, hz3⟩ := info_parts infoStr
  obtain ⟨n, hn⟩ : ∃ n, S.length = n := ⟨_, rfl⟩
  have HN := Lib.hid hn
  have hsz : (bs S).size = n := by rw [bs_size, hn]
  rw [hn] at hS
  clear hn
  go_enter Tryd.func33, Tryd.ntmps33
  go_wp2_with fail
  go_loopw [3, 4, 5, 6] (fun v va vi ve wr => ∃ (i : Nat) (x : Int) (L : List Bs), WdAt S L x i ∧ i ≤ n + 1 ∧ -1 ≤ x ∧ x < i ∧ L.length ≤ i ∧ va = .int .i64 x ∧ vi = .int .i64 (i : Int) ∧ wr.ownsRow w.heap.size 9 1 v L.length (strsOf L) ∧ Below w.heap.size w wr) (fun _ _ vi _ _ => n + 1 - (intOf vi).toNat)
  case atStart => exact ⟨0, -1, [], WdAt.start S, Nat.zero_le _, by omega, by omega, Nat.zero_le _, rfl, rfl, World.ownsRow_nil _ _ _ _, Below.refl _ _⟩
  case round =>
    obtain ⟨i, x, L, hL, hin, hx1, hx2, hla, rfl, rfl, hr, hb⟩ := hrel
    have HL := Lib.hid hL
    have HO := Lib.hid hr
    have HB := Lib.hid hb
    have hw := hb.size
    obtain ⟨q, hq⟩ : ∃ q, L.length = q := ⟨_, rfl⟩
    have HQ := Lib.hid hq
    rw [hq] at HO hla
    clear hL hr hb hq
    by_cases hlt : i ≤ n
    · by_cases hx0 : 0 ≤ x
      · obtain ⟨a, rfl⟩ : ∃ a : Nat, x = (a : Int) := ⟨x.toNat, by omega⟩
        have hai : a < i := by omega
        by_cases hend : i = n ∨ ∃ h : i < S.length, S[i]'h = 32
        · have hcut : Hid (WdAt S (L ++ [pieceF S a i]) (-1) (i + 1)) := Lib.hid (by
            rcases hend with e | ⟨h, e⟩
            · have h1 := HL.out
              rw [e, ← HN.out] at h1 ⊢
              exact h1.last hx0
            · exact HL.out.cut h e hx0)
          have hex : (bs S).extract a i = bs (pieceF S a i) := bs_cut S a i
          have HSN := Lib.hid (strs_snoc L (pieceF S a i))
          have hgo : ∀ (Q : Prop), (i = n → Q) → (((i : Int) == (n : Int)) = false → ∀ (h : i < (bs S).size), ((((bs S)[i]'h).toNat : Int) = 32) → Q) → Q := by
            intro Q q1 q2
            by_cases e : i = n
            · exact q1 e
            · rcases hend with e' | ⟨h, e'⟩
              · exact absurd e' e
              · refine q2 (beq_eq_false_iff_ne.2 (by omega)) (by rw [hsz, ← HN.out]; exact h) ?_
                rw [bs_at S i _ h, e']; rfl
          clear hend
          refine hgo _ (fun he => ?_) (fun he hi hc => ?_)
          all_goals
            clear hgo
            try subst he
            go_wp2_with (at_builtin; refine wpList_append_lies _ rfl (.tmp 28) (.tmp 33) 41 rfl w.heap.size 9 i0 _ 1 16 Tryd.underlying41 hi0 hz0 hz1 hz3 rfl (by decide) u3 q _ rfl (HO.out.alloc _) ⟨wr.heap.size, 0, none⟩ 1 1 [.string (bs (pieceF S a i))] rfl rfl ?a2 ?b2 (by omega) ?c2 ?d2 ?e2 (wr.heap.size + 1) ?f2 ?_)
            case a2 => exact World.news_of_block (t := 9) (fr := (0, 0)) (heap_alloc_new _ _)
            case b2 => simp [Value.oneCell']
            case c2 => unfold maxLen; omega
            case d2 => omega
            case e2 => simp; omega
            case f2 => simp
            intro gg cap w4 hown4 hg4 hat _
            rw [← HSN.out] at hown4
            have HE : Hid (w4.ownsRow w.heap.size 9 1 (.slice (some ⟨gg, 0, none⟩) (q + 1) cap) (q + 1) (strsOf (L ++ [pieceF S a i])) ∧ Below w.heap.size w w4) := Lib.hid ⟨hown4, (HB.out.trans ((below_new wr _).mono hw)).grown hg4 (by simp; omega) (fun g e => (HO.out.lt g e).1)⟩
            clear hown4 hg4 hat
            go_wp2
            refine ⟨⟨i + 1, -1, L ++ [pieceF S a i], hcut.out, by omega, by omega, by omega, by rw [List.length_append, HQ.out]; simp; omega, by go_num, by go_num, ?_, HE.out.2⟩, by first | (simp [intOf]; done) | (simp [intOf]; omega)⟩
            rw [List.length_append, HQ.out]
            exact HE.out.1
        · have hne : ((i : Int) == (n : Int)) = false := beq_eq_false_iff_ne.2 (by intro e; exact hend (.inl (by omega)))
          have hiS : i < S.length := by rw [HN.out]; exact Nat.lt_of_le_of_ne hlt (fun e => hend (.inl e))
          have hc32 : S[i]'hiS ≠ 32 := fun e => hend (.inr ⟨hiS, e⟩)
          have hlt2 : i < n := by rw [← HN.out]; exact hiS
          have hc8 : ((((bs S)[i]'(by rw [hsz]; exact hlt2)).toNat : Int) == 32) = false := by
            rw [bs_at S i _ hiS]
            have := byte_is (S[i]'hiS) 32
            rw [show ((32 : UInt8).toNat : Int) = 32 from rfl] at this
            rw [this]
            exact decide_eq_false hc32
          have HX := Lib.hid (HL.out.on hiS hc32 hx0)
          clear hend hc32
          go_wp2
          refine ⟨⟨i + 1, (a : Int), L, HX.out, by omega, by omega, by omega, by rw [HQ.out]; omega, rfl, by go_num, by rw [HQ.out]; exact HO.out, HB.out⟩, by first | (simp [intOf]; done) | (simp [intOf]; omega)⟩
      · obtain rfl : x = -1 := by omega
        by_cases hend : i = n ∨ ∃ h : i < S.length, S[i]'h = 32
        · have hcut : Hid (WdAt S L (-1) (i + 1)) := Lib.hid (by
            rcases hend with e | ⟨h, e⟩
            · have h1 := HL.out
              rw [e, ← HN.out] at h1 ⊢
              exact h1.ended (by omega)
            · exact HL.out.blank h e (by omega))
          have hgo : ∀ (Q : Prop), (i = n → Q) → (((i : Int) == (n : Int)) = false → ∀ (h : i < (bs S).size), ((((bs S)[i]'h).toNat : Int) = 32) → Q) → Q := by
            intro Q q1 q2
            by_cases e : i = n
            · exact q1 e
            · rcases hend with e' | ⟨h, e'⟩
              · exact absurd e' e
              · refine q2 (beq_eq_false_iff_ne.2 (by omega)) (by rw [hsz, ← HN.out]; exact h) ?_
                rw [bs_at S i _ h, e']; rfl
          clear hend
          refine hgo _ (fun he => ?_) (fun he hi hc => ?_)
          all_goals
            clear hgo
            try subst he
            go_wp2
            refine ⟨⟨i + 1, -1, L, hcut.out, by omega, by omega, by omega, by rw [HQ.out]; omega, rfl, by go_num, by rw [HQ.out]; exact HO.out, HB.out⟩, by first | (simp [intOf]; done) | (simp [intOf]; omega)⟩
        · have hne : ((i : Int) == (n : Int)) = false := beq_eq_false_iff_ne.2 (by intro e; exact hend (.inl (by omega)))
          have hiS : i < S.length := by rw [HN.out]; exact Nat.lt_of_le_of_ne hlt (fun e => hend (.inl e))
          have hc32 : S[i]'hiS ≠ 32 := fun e => hend (.inr ⟨hiS, e⟩)
          have hlt2 : i < n := by rw [← HN.out]; exact hiS
          have hc8 : ((((bs S)[i]'(by rw [hsz]; exact hlt2)).toNat : Int) == 32) = false := by
            rw [bs_at S i _ hiS]
            have := byte_is (S[i]'hiS) 32
            rw [show ((32 : UInt8).toNat : Int) = 32 from rfl] at this
            rw [this]
            exact decide_eq_false hc32
          have HX := Lib.hid (HL.out.begin' hiS hc32 (by omega))
          clear hend hc32
          go_wp2
          refine ⟨⟨i + 1, (i : Int), L, HX.out, by omega, by omega, by omega, by rw [HQ.out]; omega, rfl, by go_num, by rw [HQ.out]; exact HO.out, HB.out⟩, by first | (simp [intOf]; done) | (simp [intOf]; omega)⟩
    · obtain rfl : i = n + 1 := by omega
      have HW := Lib.hid (HL.out.done (by rw [HN.out]))
      have HE : Hid (Strs wr u3 (wordsM S)) := Lib.hid (Strs.of_own (b := w.heap.size) (by rw [HW.out, HQ.out]; exact HO.out))
      go_wp2_with fail
      refine bodyPost_ret (v := u3) (by simp [results, Tryd.results33, go_sem]) rfl ⟨_, rfl, HE.out, HB.out⟩
end Go.Proofs.YtgngdkbcndldfaaDoor.Fr
