/- Texts in memory; the document's lines of a text. Conditions: lengths within a machine's. -/
import Derived.Test.YtgngdkbcndldfaaDoorFaB
namespace Go.Proofs.YtgngdkbcndldfaaDoor.Fr
open Go.ChangeShapes Go.WideShapes Go.ChangeAt Go.RowKit Go.Proofs.YtgngdkbcndldfaaDoor.Tr
set_option linter.unusedVariables false
set_option linter.unusedSimpArgs false

def bs (l : Bs) : ByteArray := ⟨l.toArray⟩
theorem bs_app (l m : Bs) : bs l ++ bs m = bs (l ++ m) := by unfold bs; rw [ByteArray.mk_append_mk]; first | done | rfl | simp
theorem bs_size (l : Bs) : (bs l).size = l.length := by simp [bs, ByteArray.size]
theorem bs_list (l : Bs) : (bs l).toList = l := by
  rw [Lib.toList_data]
  simp [bs]
theorem bs_data (l : Bs) : (bs l).data.toList = l := by simp [bs]
theorem bs_of (s : ByteArray) : bs s.data.toList = s := by
  apply ByteArray.ext
  simp [bs]
theorem bs_at (T : Bs) (i : Nat) (h : i < (bs T).size) (h2 : i < T.length) : (bs T)[i]'h = T[i]'h2 := rfl
theorem bs_cut (l : Bs) (a b : Nat) : (bs l).extract a b = bs (pieceF l a b) := by
  apply ByteArray.ext
  apply Array.ext'
  rw [extract_list, bs_data]
  simp [bs]
theorem bs_inj {l m : Bs} : bs l = bs m ↔ l = m := ⟨fun e => by rw [← bs_data l, e, bs_data], fun e => by rw [e]⟩
theorem bs_eqb (l m : Bs) : (decide (bs l = bs m)) = decide (l = m) := decide_eq_decide.2 bs_inj
/-- A slice value reads as a list of texts. -/
def Strs (w : World) (v : Value) (l : List Bs) : Prop :=
  ∃ A c, v = .slice A l.length c ∧ l.length ≤ c ∧ c ≤ maxLen ∧ ∀ i x, l[i]? = some x → ∃ g o, A = some ⟨g, o, none⟩ ∧ g < w.heap.size ∧ w.cell? ⟨g, o + i, none⟩ = some (.string (bs x))
def strsOf (l : List Bs) : List Value := l.map (fun s => .string (bs s))
theorem strs_snoc (l : List Bs) (x : Bs) : strsOf (l ++ [x]) = strsOf l ++ [.string (bs x)] := by simp [strsOf]
theorem Strs.of_own {w : World} {b : Nat} {v : Value} {l : List Bs} (h : w.ownsRow b 9 1 v l.length (strsOf l)) : Strs w v l := by
  obtain ⟨hl, h0 | ⟨g, cap, cur, rfl, hb, hh, hnc, hcm, hcs, hct⟩⟩ := h
  · obtain ⟨rfl, h0⟩ := h0
    have : l = [] := List.length_eq_zero_iff.1 h0
    subst this
    exact ⟨none, 0, rfl, by simp, by unfold maxLen; omega, fun i t h => by simp at h⟩
  · have h : w.ownsRow b 9 1 (.slice (some ⟨g, 0, none⟩) l.length cap) l.length (strsOf l) := ⟨hl, .inr ⟨g, cap, cur, rfl, hb, hh, hnc, hcm, hcs, hct⟩⟩
    refine ⟨some ⟨g, 0, none⟩, cap, rfl, hnc, hcm, fun i x hi => ⟨g, 0, rfl, lt_of_block hh, ?_⟩⟩
    have hil : i < l.length := (List.getElem?_eq_some_iff.1 hi).1
    rw [Nat.zero_add, h.cellAt _ (by omega)]
    unfold strsOf
    rw [List.getElem?_map, hi]; rfl
theorem Strs.form {w : World} {v : Value} {l : List Bs} (h : Strs w v l) : ∃ A c, v = .slice A l.length c ∧ l.length ≤ c ∧ c ≤ maxLen := by obtain ⟨A, c, e, h1, h2, -⟩ := h; exact ⟨A, c, e, h1, h2⟩
theorem Strs.keep {w w' : World} {v : Value} {l : List Bs} (h : Strs w v l) (hs : w.heap.size ≤ w'.heap.size) (hk : ∀ p : Addr, p.block < w.heap.size → w'.cell? p = w.cell? p) : Strs w' v l := by
  obtain ⟨A, c, rfl, h1, h2, h3⟩ := h
  refine ⟨A, c, rfl, h1, h2, fun i t hi => ?_⟩
  obtain ⟨g, o, hg, hlt, c0⟩ := h3 i t hi
  exact ⟨g, o, hg, by omega, (hk _ hlt).trans c0⟩
theorem Strs.below {w w' : World} {B : Nat} {v : Value} {l : List Bs} (h : Strs w v l) (hb : Below B w w') (hB : w.heap.size ≤ B) : Strs w' v l :=
  h.keep hb.size fun p hp => hb.cell (by omega)
theorem Strs.at {w : World} {A : Option Addr} {n c i : Nat} {l : List Bs} {x : Bs} (h : Strs w (.slice A n c) l) (hi : l[i]? = some x) : ∃ g o, A = some ⟨g, o, none⟩ ∧ g < w.heap.size ∧ w.cell? ⟨g, o + i, none⟩ = some (.string (bs x)) := by
  obtain ⟨A', c', e, -, -, h3⟩ := h
  simp only [Value.slice.injEq] at e
  obtain ⟨rfl, -, -⟩ := e
  exact h3 i x hi
theorem infoStr : (Tryd.prog.info? 9).map (fun i => (i.zero, i.size, i.bytes)) = some (some (.string ⟨#[]⟩), 1, 16) := by kernel_rfl

/-- How far the lines are: those ahead of at, and no line's end from at to i. -/
structure LnAt (S : Bs) (L : List Bs) (at_ i : Nat) : Prop where
  lines : linesM S = L ++ linesM (S.drop at_)
  no : (10 : UInt8) ∉ pieceF S at_ i
  le : at_ ≤ i
  lel : i ≤ S.length
  few : L.length ≤ at_
theorem LnAt.start (S : Bs) : LnAt S [] 0 0 := ⟨by simp, by simp [pieceF], Nat.le_refl _, Nat.zero_le _, Nat.le_refl _⟩
theorem piece_next (S : Bs) (a i : Nat) (h : a ≤ i) (hi : i < S.length) : pieceF S a (i + 1) = pieceF S a i ++ [S[i]'hi] := by
  unfold pieceF
  rw [show i + 1 - a = (i - a) + 1 by omega, List.take_add_one]
  congr 1
  rw [List.getElem?_drop, show a + (i - a) = i by omega, List.getElem?_eq_getElem hi]; rfl
theorem piece_drop (S : Bs) (a i : Nat) (h : a ≤ i) (hi : i ≤ S.length) : S.drop a = pieceF S a i ++ S.drop i := by
  unfold pieceF
  have e : S.drop i = (S.drop a).drop (i - a) := by rw [List.drop_drop]; congr 1; omega
  rw [e, List.take_append_drop]
theorem LnAt.pass {S : Bs} {L : List Bs} {a i : Nat} (h : LnAt S L a i) (hi : i < S.length) (hc : S[i]'hi ≠ 10) : LnAt S L a (i + 1) :=
  ⟨h.lines, by rw [piece_next S a i h.le hi]; simp; exact ⟨h.no, fun e => hc e.symm⟩, by have := h.le; omega, hi, h.few⟩
theorem LnAt.cut {S : Bs} {L : List Bs} {a i : Nat} (h : LnAt S L a i) (hi : i < S.length) (hc : S[i]'hi = 10) : LnAt S (L ++ [pieceF S a i]) (i + 1) (i + 1) := by
  refine ⟨?_, by simp [pieceF], Nat.le_refl _, hi, by have := h.few; have := h.le; simp; omega⟩
  have e : S.drop a = pieceF S a i ++ 10 :: S.drop (i + 1) := by
    rw [piece_drop S a i h.le (Nat.le_of_lt hi), List.drop_eq_getElem_cons hi, hc]
  rw [h.lines, e, lines_cut _ _ h.no]
  simp
theorem LnAt.last {S : Bs} {L : List Bs} {a : Nat} (h : LnAt S L a S.length) (ha : a < S.length) : linesM S = L ++ [S.drop a] := by
  have e : pieceF S a S.length = S.drop a := by unfold pieceF; rw [List.take_of_length_le (by simp)]
  have hno := h.no
  rw [e] at hno
  rw [h.lines, lines_last _ hno (by intro x; have := congrArg List.length x; simp at this; omega)]
theorem LnAt.done {S : Bs} {L : List Bs} {a : Nat} (h : LnAt S L a S.length) (ha : ¬ a < S.length) : linesM S = L := by
  rw [h.lines, List.drop_eq_nil_of_le (by omega)]
  simp [linesM]
theorem byte_is (c d : UInt8) : ((c.toNat : Int) == (d.toNat : Int)) = decide (c = d) := by
  rw [Bool.eq_iff_iff]; simp only [beq_iff_eq, decide_eq_true_eq]
  rw [← UInt8.toNat_inj]; omega

set_option maxRecDepth 100000 in
set_option maxHeartbeats 1600000 in
theorem dlines_any (w : World) (S : Bs) (hS : S.length ≤ 1000000) :
    Calls Tryd.prog 18 #[.string (bs S)] w (fun e w' => ∃ v, e = .returned v ∧ Strs w' v (linesM S) ∧ Below w.heap.size w w') := by
  obtain ⟨i0, hi0, hz0, hz1, hz3⟩ := info_parts infoStr
  obtain ⟨n, hn⟩ : ∃ n, S.length = n := ⟨_, rfl⟩
  have HN := Lib.hid hn
  have hsz : (bs S).size = n := by rw [bs_size, hn]
  rw [hn] at hS
  clear hn
  go_enter Tryd.func18, Tryd.ntmps18
  go_wp2_with fail
  go_loopw [3, 4, 5] (fun v va vi wr => ∃ (i a : Nat) (L : List Bs), LnAt S L a i ∧ i ≤ n ∧ a ≤ i ∧ L.length ≤ a ∧ va = .int .i64 (a : Int) ∧ vi = .int .i64 (i : Int) ∧ wr.ownsRow w.heap.size 9 1 v L.length (strsOf L) ∧ Below w.heap.size w wr) (fun _ _ vi _ => n - (intOf vi).toNat)
  case atStart => exact ⟨0, 0, [], LnAt.start S, Nat.zero_le _, Nat.le_refl _, Nat.le_refl _, rfl, rfl, World.ownsRow_nil _ _ _ _, Below.refl _ _⟩
  case round =>
    obtain ⟨i, a, L, hL, hin, hai, hla, rfl, rfl, hr, hb⟩ := hrel
    have HL := Lib.hid hL
    have HO := Lib.hid hr
    have HB := Lib.hid hb
    have hw := hb.size
    obtain ⟨q, hq⟩ : ∃ q, L.length = q := ⟨_, rfl⟩
    have HQ := Lib.hid hq
    rw [hq] at HO hla
    clear hL hr hb hq
    by_cases hlt : i < n
    · have hiS : i < S.length := by rw [HN.out]; exact hlt
      by_cases hc : S[i]'hiS = 10
      · have hc8 : (((bs S)[i]'(by rw [hsz]; exact hlt)).toNat : Int) = 10 := by rw [bs_at S i _ hiS, hc]; rfl
        have hex : (bs S).extract a i = bs (pieceF S a i) := bs_cut S a i
        have HX := Lib.hid (HL.out.cut hiS hc)
        have HSN := Lib.hid (strs_snoc L (pieceF S a i))
        clear hc
        go_wp2_with (at_builtin; refine wpList_append_lies _ rfl (.tmp 16) (.tmp 21) 41 rfl w.heap.size 9 i0 _ 1 16 Tryd.underlying41 hi0 hz0 hz1 hz3 rfl (by decide) u3 q _ rfl (HO.out.alloc _) ⟨wr.heap.size, 0, none⟩ 1 1 [.string (bs (pieceF S a i))] rfl rfl ?a2 ?b2 (by omega) ?c2 ?d2 ?e2 (wr.heap.size + 1) ?f2 ?_)
        case a2 => exact World.news_of_block (t := 9) (fr := (0, 0)) (heap_alloc_new _ _)
        case b2 => simp [Value.oneCell']
        case c2 => unfold maxLen; omega
        case d2 => omega
        case e2 => simp; omega
        case f2 => simp
        intro gg cap w4 hown4 hg4 hat _
        rw [← HSN.out] at hown4
        have HE : Hid (w4.ownsRow w.heap.size 9 1 (.slice (some ⟨gg, 0, none⟩) (q + 1) cap) (q + 1) (strsOf (L ++ [pieceF S a i])) ∧ Below w.heap.size w w4) := Lib.hid ⟨hown4, (HB.out.trans ((below_new wr _).mono hw)).grown hg4 (by simp; omega) (fun g e => (HO.out.lt g e).1)⟩
        clear hown4 hg4 hat
        go_wp2
        refine ⟨⟨i + 1, i + 1, L ++ [pieceF S a i], HX.out, by omega, Nat.le_refl _, by rw [List.length_append, HQ.out]; simp; omega, by go_num, by go_num, ?_, HE.out.2⟩, by simp [intOf]; omega⟩
        rw [List.length_append, HQ.out]
        exact HE.out.1
      · have hc8 : (((((bs S)[i]'(by rw [hsz]; exact hlt)).toNat : Int)) == 10) = false := by
          rw [bs_at S i _ hiS]
          have := byte_is (S[i]'hiS) 10
          rw [show ((10 : UInt8).toNat : Int) = 10 from rfl] at this
          rw [this]
          exact decide_eq_false hc
        have HX := Lib.hid (HL.out.pass hiS hc)
        clear hc
        go_wp2
        refine ⟨⟨i + 1, a, L, HX.out, by omega, by omega, by rw [HQ.out]; omega, rfl, by go_num, by rw [HQ.out]; exact HO.out, HB.out⟩, by simp [intOf]; omega⟩
    · obtain rfl : i = n := by omega
      rw [← HN.out] at HL
      by_cases ha : a < i
      · have hlast := HL.out.last (by rw [HN.out]; exact ha)
        have hex : (bs S).extract a i = bs (S.drop a) := by
          rw [bs_cut]; congr 1; unfold pieceF; rw [List.take_of_length_le (by rw [List.length_drop, HN.out]; exact Nat.le_refl _)]
        have HSN := Lib.hid (strs_snoc L (S.drop a))
        have HLM := Lib.hid hlast
        clear hlast
        go_wp2_with (at_builtin; refine wpList_append_lies _ rfl (.tmp 29) (.tmp 33) 41 rfl w.heap.size 9 i0 _ 1 16 Tryd.underlying41 hi0 hz0 hz1 hz3 rfl (by decide) u3 q _ rfl (HO.out.alloc _) ⟨wr.heap.size, 0, none⟩ 1 1 [.string (bs (S.drop a))] rfl rfl ?a3 ?b3 (by omega) ?c3 ?d3 ?e3 (wr.heap.size + 1) ?f3 ?_)
        case a3 => exact World.news_of_block (t := 9) (fr := (0, 0)) (heap_alloc_new _ _)
        case b3 => simp [Value.oneCell']
        case c3 => unfold maxLen; omega
        case d3 => omega
        case e3 => simp; omega
        case f3 => simp
        intro gg cap w4 hown4 hg4 hat _
        rw [← HSN.out, ← HLM.out] at hown4
        have HE : Hid (Strs w4 (.slice (some ⟨gg, 0, none⟩) (q + 1) cap) (linesM S) ∧ Below w.heap.size w w4) := Lib.hid ⟨Strs.of_own (b := w.heap.size) (by rw [show (linesM S).length = q + 1 by rw [HLM.out, List.length_append, HQ.out]; rfl]; exact hown4), (HB.out.trans ((below_new wr _).mono hw)).grown hg4 (by simp; omega) (fun g e => (HO.out.lt g e).1)⟩
        clear hown4 hg4 hat
        go_wp2_with fail
        refine bodyPost_ret (v := .slice (some ⟨gg, 0, none⟩) (q + 1) cap) (by simp [results, Tryd.results18, go_sem]) rfl ⟨_, rfl, HE.out.1, HE.out.2⟩
      · have HLM := Lib.hid (HL.out.done (by rw [HN.out]; exact ha))
        have HE : Hid (Strs wr u3 (linesM S)) := Lib.hid (Strs.of_own (b := w.heap.size) (by rw [HLM.out, HQ.out]; exact HO.out))
        go_wp2_with fail
        refine bodyPost_ret (v := u3) (by simp [results, Tryd.results18, go_sem]) rfl ⟨_, rfl, HE.out, HB.out⟩
end Go.Proofs.YtgngdkbcndldfaaDoor.Fr
