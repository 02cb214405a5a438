/- The function call lays the parts of a Call, an Args behind each, and the Call. Conditions: the slices are read as lists; the parts stand apart from what they are laid behind. -/
import Derived.Test.YtmggedjolocgdaaTreeZ
namespace Go.Proofs.Ytmggedjolocgdaa.Tr
open Go.ChangeShapes Go.WideShapes Go.ChangeAt Go.RowKit
set_option linter.unusedVariables false
set_option linter.unusedSimpArgs false

/-- A slice value reads as a list of expressions, all of it below a block. -/
def Parts (w : World) (b : Nat) (v : Value) (ls : List (List Nd)) : Prop :=
  ∃ A c, v = .slice A ls.length c ∧ ls.length ≤ c ∧ c ≤ maxLen ∧ ∀ i l, ls[i]? = some l → ∃ g o u, A = some ⟨g, o, none⟩ ∧ g < b ∧ g < w.heap.size ∧ w.cell? ⟨g, o + i, none⟩ = some u ∧ Nodes w u l ∧
    (0 < l.length → ∀ g o n c, u = .slice (some ⟨g, o, none⟩) n c → g < b)
theorem Nodes.low {w w' : World} {u : Value} {l : List Nd} {b : Nat} (h : Nodes w u l) (hl : 0 < l.length → ∀ g o n c, u = .slice (some ⟨g, o, none⟩) n c → g < b) (hs : w.heap.size ≤ w'.heap.size) (hk : ∀ g, g < b → g < w.heap.size → w'.heap[g]? = w.heap[g]?) : Nodes w' u l := by
  obtain ⟨A, c, rfl, h1, h2, h3⟩ := h
  refine ⟨A, c, rfl, h1, h2, fun i t hi => ?_⟩
  obtain ⟨g, o, rfl, hlt, c0, c1, c2, c3, c4, c5⟩ := h3 i t hi
  have q : ∀ k, w'.cell? ⟨g, k, none⟩ = w.cell? ⟨g, k, none⟩ := fun k => World.cell?_of_block (w := w) (a := ⟨g, k, none⟩) (hk g (hl (by have := (List.getElem?_eq_some_iff.1 hi).1; omega) _ _ _ _ rfl) hlt)
  exact ⟨g, o, rfl, by omega, (q _).trans c0, (q _).trans c1, (q _).trans c2, (q _).trans c3, (q _).trans c4, (q _).trans c5⟩
/-- One part more of a Call: the nodes, the last one's number. -/
def callStep (s : List Nd × Int) (p : List Nd) : List Nd × Int :=
  (behindM s.1 p ++ [overM 28 0 [] [((behindM s.1 p).length : Int) - 1, s.2]], ((behindM s.1 p).length : Int))
def callF (out : List Nd) (ls : List (List Nd)) : List Nd × Int := ls.foldl callStep (out, -1)
def callM (out : List Nd) (n : Int) (s : Bytes) (ls : List (List Nd)) : List Nd := (callF out ls).1 ++ [overM 27 n s [(callF out ls).2]]
theorem callF_next (out : List Nd) (ls : List (List Nd)) (k : Nat) (p : List Nd) (h : ls[k]? = some p) : callF out (ls.take (k + 1)) = callStep (callF out (ls.take k)) p := by
  unfold callF; rw [List.take_add_one, h, show (some p).toList = [p] from rfl, List.foldl_append]; rfl
theorem behind_len (a p : List Nd) : (behindM a p).length = a.length + p.length := by unfold behindM; simp
theorem callF_len (out : List Nd) (ls : List (List Nd)) : (callF out ls).1.length = out.length + (ls.map (fun p => p.length + 1)).sum := by
  unfold callF
  generalize (-1 : Int) = z
  induction ls generalizing out z with
  | nil => simp
  | cons p r ih =>
    rw [List.foldl_cons]
    show (r.foldl callStep (behindM out p ++ _, _)).1.length = _
    rw [ih, List.length_append, behind_len, List.map_cons, List.sum_cons]; simp; omega
theorem callF_mono (out : List Nd) (ls : List (List Nd)) (k : Nat) : (callF out (ls.take k)).1.length ≤ (callF out ls).1.length := by
  rw [callF_len, callF_len]
  conv => rhs; rw [← List.take_append_drop k ls]
  rw [List.map_append, List.sum_append]; omega
theorem callF_step_len (out : List Nd) (ls : List (List Nd)) (k : Nat) (p : List Nd) (h : ls[k]? = some p) : (callF out (ls.take k)).1.length + p.length + 1 ≤ (callF out ls).1.length := by
  have := callF_mono out ls (k + 1)
  rw [callF_next out ls k p h] at this
  unfold callStep at this
  rw [List.length_append, behind_len] at this
  simpa using this
theorem grown_trans {w wr w3 : World} {row row2 : Option Nat} (g1 : w.grownBy wr row) (g2 : wr.grownBy w3 row2) (hr : ∀ k, row2 = some k → row = some k ∨ w.heap.size ≤ k) : w.grownBy w3 row := by
  have hs := g1.size
  have hs2 := g2.size
  refine ⟨g2.os.trans g1.os, g2.tape.trans g1.tape, g2.output.trans g1.output, by omega, fun k hk hn => ?_⟩
  rw [g2.block k (by omega) (fun h2 => by
    rcases hr k h2.symm with h3 | h3
    · exact hn h3.symm
    · omega)]
  exact g1.block k hk hn
theorem over2 (o n x y : Int) (s : ByteArray) (v : Value) (w : World) (hv : Ints w v [x, y]) : Calls Try.prog 45 #[.int .i64 o, .int .i64 n, .string s, v] w
    fun e w' => e = .returned (.agg #[.int .i64 o, .int .i64 x, .int .i64 y, .int .i64 (-1), .int .i64 n, .string s]) ∧ Below w.heap.size w w' := over_any o n s v [x, y] w hv (by simp)
theorem over1 (o n x : Int) (s : ByteArray) (v : Value) (w : World) (hv : Ints w v [x]) : Calls Try.prog 45 #[.int .i64 o, .int .i64 n, .string s, v] w
    fun e w' => e = .returned (.agg #[.int .i64 o, .int .i64 x, .int .i64 (-1), .int .i64 (-1), .int .i64 n, .string s]) ∧ Below w.heap.size w w' := over_any o n s v [x] w hv (by simp)
/-- The loop's relation: the first parts are laid. -/
structure CallRel (w : World) (b : Nat) (av : Value) (out : List Nd) (ls : List (List Nd)) (k : Nat) (wr : World) (ov : Value) : Prop where
  le : k ≤ ls.length
  own : wr.ownsRow b 30 6 ov (callF out (ls.take k)).1.length (ndsOf (callF out (ls.take k)).1)
  grown : w.grownBy wr av.ownBlock
  blk : ∀ j, ov.ownBlock = some j → av.ownBlock = some j ∨ w.heap.size ≤ j
/-- What a call leaves that lays nodes into a row. -/
def RowPost (w : World) (b : Nat) (av : Value) (l : List Nd) (r : Ending) (w' : World) : Prop :=
  ∃ ov', r = .returned ov' ∧ w'.ownsRow b 30 6 ov' l.length (ndsOf l) ∧ w.grownBy w' av.ownBlock ∧ ∀ k, ov'.ownBlock = some k → av.ownBlock = some k ∨ w.heap.size ≤ k
/-- An append's end, where the world stands behind one that is grown. -/
theorem row_end {w wr w3 w4 : World} {b : Nat} {av ov : Value} {l : List Nd} {N gg cap : Nat} {y : Nd} {o : Obj} (g1 : w.grownBy wr av.ownBlock) (hblk : ∀ j, ov.ownBlock = some j → av.ownBlock = some j ∨ w.heap.size ≤ j)
    (hb3 : Below wr.heap.size wr w3) (hg : (w3.alloc o).grownBy w4 ov.ownBlock) (hN : l.length = N)
    (hown : w4.ownsRow b 30 6 (.slice (some ⟨gg, 0, none⟩) (N + 1) cap) (N + 1) (ndsOf l ++ ndCells y)) (hat : ov.ownBlock = some gg ∨ gg = w3.heap.size + 1) :
    w4.ownsRow b 30 6 (.slice (some ⟨gg, 0, none⟩) (N + 1) cap) (l ++ [y]).length (ndsOf (l ++ [y])) ∧ w.grownBy w4 av.ownBlock ∧ ∀ k, (Value.slice (some ⟨gg, 0, none⟩) (N + 1) cap).ownBlock = some k → av.ownBlock = some k ∨ w.heap.size ≤ k := by
  have hs := g1.size
  have hs3 := hb3.size
  refine ⟨?_, grown_chain g1 hb3 hg hblk, fun j hj => ?_⟩
  · rw [nds_snoc, List.length_append, hN]; exact hown
  · have hj' : gg = j := by simpa [Value.ownBlock] using hj
    subst hj'
    rcases hat with h1 | h1
    · exact hblk _ h1
    · exact .inr (by omega)

set_option maxRecDepth 100000 in
set_option maxHeartbeats 1000000 in
theorem call_any (av pv : Value) (out : List Nd) (ls : List (List Nd)) (n : Int) (s : Bytes) (b : Nat) (w : World) (hown : w.ownsRow b 30 6 av out.length (ndsOf out)) (hb : b ≤ w.heap.size) (hp : Parts w b pv ls) (hn : (callF out ls).1.length ≤ 90000) :
    Calls Try.prog 44 #[av, .int .i64 n, .string (str s), pv] w (RowPost w b av (callM out n s ls)) := by
  obtain ⟨A, c, rfl, h1, h2, hA⟩ := hp
  unfold maxLen at h2
  have HA := Lib.hid hA
  have HOB := Lib.hid (show ∀ k, av.ownBlock = some k → b ≤ k from fun k hk => (hown.lt k hk).1)
  have HREL0 : Hid (CallRel w b av out ls 0 w av) := Lib.hid ⟨Nat.zero_le _, by simpa [callF] using hown, World.grownBy.refl _ _, fun j hj => .inl hj⟩
  obtain ⟨i1, hi', hz0', hz1', hz2'⟩ := info_parts info30
  clear hA hown
  go_enter Try.func44, Try.ntmps44
  go_wp2
  go_loopw [0, 9, 14] (fun s0 la i wr => ∃ (k : Nat) (ov : Value), ov = s0 ∧ la = .int .i64 (callF out (ls.take k)).2 ∧ i = .int .i64 k ∧ CallRel w b av out ls k wr ov) (fun _ _ i _ => ls.length - (intOf i).toNat)
  case atStart => exact ⟨0, _, rfl, by simp [callF], rfl, HREL0.out⟩
  case round =>
    obtain ⟨k, ov, rfl, rfl, rfl, hrel⟩ := hrel
    have hk := hrel.le
    have HREL := Lib.hid hrel
    have hs := hrel.grown.size
    have HLO := Lib.hid (show ∀ g, g < b → g < w.heap.size → wr.heap[g]? = w.heap[g]? from fun g h1 h2 => hrel.grown.block g h2 (fun h => by have := HOB.out g h.symm; omega))
    clear hrel
    by_cases hlt : k < ls.length
    · obtain ⟨p, hp⟩ : ∃ p, ls[k]? = some p := ⟨_, List.getElem?_eq_getElem hlt⟩
      obtain ⟨g, o, u, rfl, hgb, hg, d0, hu, hul⟩ := HA.out k p hp
      have c0 := (World.cell?_of_block (w := w) (a := ⟨g, o + k, none⟩) (HLO.out g hgb hg)).trans d0
      have HU := Lib.hid (hu.low hul hs HLO.out)
      have HUL := Lib.hid hul
      have HP := Lib.hid hp
      clear hp hu d0 hul
      have HLEN := Lib.hid (callF_step_len out ls k p HP.out)
      have hln := Nat.le_trans HLEN.out hn
      go_wp2_with fail
      refine (laid_any ov u (callF out (ls.take k)).1 p b _ HREL.out.own (by omega) HU.out HUL.out (by omega)).mono ?_
      rintro r w3 ⟨ov2, rfl, hown3, hg3, hblk3⟩
      obtain ⟨A3, c3, rfl, z1, z2, _⟩ := Nodes.of_own hown3
      have hs3 := hg3.size
      obtain ⟨N, hN⟩ : ∃ N, ((callF out (ls.take k)).1 ++ p.map (onNd ((callF out (ls.take k)).1.length : Int))).length = N := ⟨_, rfl⟩
      have HN := Lib.hid hN
      have hNm : N ≤ 90000 := by rw [← hN, List.length_append, List.length_map]; omega
      have HG3 := Lib.hid (grown_trans HREL.out.grown hg3 HREL.out.blk)
      have HB3 := Lib.hid (show ∀ j, (Value.slice A3 ((callF out (ls.take k)).1 ++ p.map (onNd ((callF out (ls.take k)).1.length : Int))).length c3).ownBlock = some j → av.ownBlock = some j ∨ w.heap.size ≤ j from fun j hj => by
        rcases hblk3 j hj with h1 | h1
        · exact HREL.out.blk j h1
        · exact .inr (by omega))
      have HO3 := Lib.hid hown3
      have HNX := Lib.hid (callF_next out ls k p HP.out)
      clear hown3 hg3 hblk3 hln hN
      rw [HN.out] at z1
      unfold maxLen at z2
      obtain ⟨la, hla⟩ : ∃ la, (callF out (ls.take k)).2 = la := ⟨_, rfl⟩
      have HLA := Lib.hid hla
      clear hla
      rw [HN.out]
      go_wp2_with fail
      refine (over2 28 0 _ _ ⟨#[]⟩ _ _ (by exact Ints.of_own (ints_lit w3 [(N : Int) - 1, (callF out (ls.take k)).2] (by unfold maxLen; simp)))).mono ?_
      rintro r w4 ⟨rfl, hb4⟩
      have hb34 := (below_new w3 (.cells (intsOf [(N : Int) - 1, (callF out (ls.take k)).2]).toArray 3)).trans (hb4.mono (by simp))
      have hs4 := hb34.size
      have HB34 := Lib.hid hb34
      have HO4 := Lib.hid (own_below HO3.out hb34)
      rw [HN.out] at HO4
      clear hb4 hb34
      go_wp2_with (at_builtin; refine wpList_append_lies _ rfl (.tmp 21) (.tmp 28) 23 rfl b 30 i1 _ 6 56 Try.underlying23 hi' hz0' hz1' hz2' rfl (by decide) _ N _ rfl (HO4.out.alloc _) ⟨w4.heap.size, 0, none⟩ 1 1 (ndCells (overM 28 0 [] [(N : Int) - 1, (callF out (ls.take k)).2])) rfl rfl ?a2 ?b2 (by omega) ?c2 ?d2 ?e2 (w4.heap.size + 1) ?f2 ?_)
      case a2 => exact World.news_of_block (t := 30) (fr := (0, 0)) (heap_alloc_new _ _)
      case b2 => simp [ndCells, Value.oneCell']
      case c2 => unfold maxLen; omega
      case d2 => omega
      case e2 => simp; omega
      case f2 => simp
      intro gg cap w5 hown5 hg5 hat _
      rw [HN.out] at HB3
      have R0 := row_end HG3.out HB3.out HB34.out hg5 HN.out hown5 hat
      have HST : Hid (callF out (ls.take (k + 1)) = (((callF out (ls.take k)).1 ++ p.map (onNd ((callF out (ls.take k)).1.length : Int))) ++ [overM 28 0 [] [(N : Int) - 1, (callF out (ls.take k)).2]], (N : Int))) := Lib.hid (by
        rw [HNX.out]; unfold callStep behindM; rw [HN.out])
      have R := Lib.hid (show CallRel w b av out ls (k + 1) w5 (.slice (some ⟨gg, 0, none⟩) (N + 1) cap) from ⟨by omega, by rw [HST.out]; exact R0.1, R0.2.1, R0.2.2⟩)
      clear R0 hown5 hg5 hat
      go_wp2
      refine ⟨⟨k + 1, _, rfl, ?_, by go_num, R.out⟩, by simp [intOf]; omega⟩
      rw [HST.out]
    · have hkl : k = ls.length := by omega
      subst hkl
      have HTK := Lib.hid (show ls.take ls.length = ls from List.take_length)
      have hown3 := HREL.out.own
      rw [HTK.out] at hown3
      obtain ⟨N, hN⟩ : ∃ N, (callF out ls).1.length = N := ⟨_, rfl⟩
      have HN := Lib.hid hN
      have HO3 := Lib.hid hown3
      rw [hN] at hn
      clear hown3 hN
      go_wp2_with fail
      refine (over1 27 n _ _ _ _ (by exact Ints.of_own (ints_lit wr [(callF out ls).2] (by unfold maxLen; simp)))).mono ?_
      rintro r w4 ⟨rfl, hb4⟩
      have hb34 := (below_new wr (.cells (intsOf [(callF out ls).2]).toArray 3)).trans (hb4.mono (by simp))
      have hs4 := hb34.size
      have HB34 := Lib.hid hb34
      have HO4 := Lib.hid (own_below HO3.out hb34)
      rw [HN.out] at HO4
      clear hb4 hb34
      go_wp2_with (at_builtin; refine wpList_append_lies _ rfl (.tmp 34) (.tmp 40) 23 rfl b 30 i1 _ 6 56 Try.underlying23 hi' hz0' hz1' hz2' rfl (by decide) _ N _ rfl (HO4.out.alloc _) ⟨w4.heap.size, 0, none⟩ 1 1 (ndCells (overM 27 n s [(callF out ls).2])) rfl rfl ?a2 ?b2 (by omega) ?c2 ?d2 ?e2 (w4.heap.size + 1) ?f2 ?_)
      case a2 => exact World.news_of_block (t := 30) (fr := (0, 0)) (heap_alloc_new _ _)
      case b2 => simp [ndCells, Value.oneCell']
      case c2 => unfold maxLen; omega
      case d2 => omega
      case e2 => simp; omega
      case f2 => simp
      intro gg cap w5 hown5 hg5 hat _
      have R0 := Lib.hid (row_end HREL.out.grown HREL.out.blk HB34.out hg5 HN.out hown5 hat)
      clear hown5 hg5 hat
      go_wp2
      go_ret
      exact ⟨_, rfl, R0.out.1, R0.out.2.1, R0.out.2.2⟩
end Go.Proofs.Ytmggedjolocgdaa.Tr
