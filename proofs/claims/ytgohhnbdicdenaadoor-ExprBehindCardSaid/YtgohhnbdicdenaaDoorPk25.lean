/- The function Join of layer lex returns the tokens' texts, a blank between any two. Conditions: the slice reads as a list of tokens; the texts together are not too long. -/
import Derived.Test.YtgohhnbdicdenaaDoorPk14
import Derived.Test.YtgohhnbdicdenaaDoorPk01
import Derived.Test.YtgohhnbdicdenaaDoorPk24
namespace Go.Proofs.YtgohhnbdicdenaaDoor.Lx
open Go.ChangeShapes Go.WideShapes Go.ChangeAt Go.RowKit
set_option linter.unusedVariables false

theorem info9 : (Tryd.prog.info? 9).map (fun i => (i.zero, i.size, i.bytes)) = some (some (.string ⟨#[]⟩), 1, 16) := by kernel_rfl

/-- The texts that are laid so far, and empty ones behind them. -/
def laid (l : List Tok) (k : Nat) : List Value := (l.take k).map (fun t => .string (str t.text)) ++ List.replicate (l.length - k) (.string ⟨#[]⟩)
theorem laid_zero (l : List Tok) : laid l 0 = List.replicate l.length (.string ⟨#[]⟩) := by simp [laid]
theorem laid_all (l : List Tok) : laid l l.length = l.map (fun t => .string (str t.text)) := by simp [laid]
theorem laid_set (l : List Tok) (k : Nat) (t : Tok) (h : l[k]? = some t) : (laid l k).set k (.string (str t.text)) = laid l (k + 1) := by
  have hk : k < l.length := (List.getElem?_eq_some_iff.1 h).1
  have e1 : l.length - k = (l.length - (k + 1)) + 1 := by omega
  have e2 : ((l.take k).map (fun t => Value.string (str t.text))).length = k := by simp; omega
  unfold laid
  rw [e1, List.replicate_succ, List.set_append_right _ _ (by rw [e2]; exact Nat.le_refl _), e2, Nat.sub_self, List.set_cons_zero, List.take_add_one, h, List.map_append, List.append_assoc]
  rfl

theorem sjoin_any (g : Nat) (l : List Tok) (b : Nat) (w : World) (hown : w.ownsRow b 9 1 (.slice (some ⟨g, 0, none⟩) l.length l.length) l.length (laid l l.length)) (hn : l.length ≤ 1000000) (hj : (joinM l).length ≤ 140737488355328) :
    Calls Tryd.prog 67 #[.slice (some ⟨g, 0, none⟩) l.length l.length, .string ⟨#[32]⟩] w fun e w' => e = .returned (.string (str (joinM l))) ∧ Below w.heap.size w w' := by
  have hm : (l.map (fun t => str t.text)).map (·.data.toList) = l.map (·.text) := by
    rw [List.map_map]; apply List.map_congr_left; intro t _; exact List.toList_toArray
  have hc : ∀ (j : Nat) x, (l.map (fun t => str t.text))[j]? = some x → w.cell? ⟨g, 0 + j, none⟩ = some (.string x) := fun j x hx => by
    rw [List.getElem?_map] at hx
    cases ht : l[j]? with
    | none => rw [ht] at hx; simp at hx
    | some t =>
      rw [ht] at hx; simp at hx; subst hx
      have hjl : j < l.length := (List.getElem?_eq_some_iff.1 ht).1
      rw [Nat.zero_add, hown.cellAt j (by omega), laid_all, List.getElem?_map, ht]; rfl
  have := Tryd.strings_Join g 0 l.length (l.map (fun t => str t.text)) ⟨#[32]⟩ w hc (hown.lt g rfl).2 (by simp; omega) (by simp) (by rw [hm]; exact hj)
  rw [hm, List.length_map] at this
  exact this
set_option maxHeartbeats 1600000 in
theorem join_any (v : Value) (l : List Tok) (w : World) (hv : Toks w v l) (hn : l.length ≤ 1000000) (hj : (joinM l).length ≤ 140737488355328) :
    Calls Tryd.prog 39 #[v] w fun e w' => e = .returned (.string (str (joinM l))) ∧ Below w.heap.size w w' := by
  obtain ⟨A, c, rfl, h1, h2, hA⟩ := hv
  unfold maxLen at h2
  have HA := Lib.hid hA
  clear hA
  obtain ⟨i0, hi, hz0, hz1, hz2⟩ := info_parts info9
  go_enter Tryd.func39, Tryd.ntmps39
  go_wp2_with (at_make; refine wpList_make_full _ rfl _ _ 33 rfl w.heap.size 9 i0 _ 1 Tryd.underlying33 hi hz0 hz1 _ _ _ _ l.length rfl rfl rfl rfl (by rw [hz2]; omega) (by unfold maxLen; omega) (Nat.le_refl _) ?_)
  intro w1 hown hgrow
  have hb1 : Below w.heap.size w w1 := (Below.refl _ _).grown hgrow (Nat.le_refl _) (fun k hk => by simp at hk)
  have hown0 : w1.ownsRow w.heap.size 9 1 (.slice (some ⟨w.heap.size, 0, none⟩) l.length l.length) l.length (laid l 0) := by
    rw [laid_zero]
    rw [← toList_madeCells_one]; exact hown
  clear hown hgrow
  go_wp2
  go_loopw [11] (fun i wr => ∃ k : Nat, k ≤ l.length ∧ i = .int .i64 k ∧ wr.ownsRow w.heap.size 9 1 (.slice (some ⟨w.heap.size, 0, none⟩) l.length l.length) l.length (laid l k) ∧ Below w.heap.size w wr) (fun i _ => l.length - (intOf i).toNat)
  case atStart => exact ⟨0, Nat.zero_le _, rfl, hown0, hb1⟩
  case round =>
    obtain ⟨k, hk, rfl, hown, hb⟩ := hrel
    clear hown0 hb1
    by_cases hlt : k < l.length
    · obtain ⟨t, ht⟩ : ∃ t, l[k]? = some t := ⟨_, List.getElem?_eq_getElem hlt⟩
      obtain ⟨g, rfl, hg, a0, a1, a2⟩ := HA.out k t ht
      obtain ⟨K, T, P⟩ := t
      simp only at a0 a1 a2
      have hcb := fun o => hb.cell (p := ⟨g, o, none⟩) hg
      have b0 := (hcb _).trans a0
      have b1 := (hcb _).trans a1
      have b2 := (hcb _).trans a2
      have hgz : g < wr.heap.size := Nat.lt_of_lt_of_le hg hb.size
      have hwz := hown.lt _ rfl
      have hwz2 : w.heap.size < wr.heap.size := hwz.2
      have hsc : (laid l k)[k]? = some (.string ⟨#[]⟩) := by
        unfold laid
        rw [List.getElem?_append_right (by simp; omega), List.getElem?_replicate]
        simp; omega
      have c0 := (hown.cellAt k (by omega)).trans hsc
      have f0 := hown.frozenAt k
      have HT := Lib.hid ht
      have HO := Lib.hid hown
      clear ht hown hcb a0 a1 a2 hsc hwz
      go_wp2
      refine ⟨⟨k + 1, by omega, by go_num, ?_, (hb.setCell (Nat.le_refl _) _).alloc (by simpa using Nat.le_of_lt hwz2) _⟩, by simp [intOf]; omega⟩
      have := (HO.out.stored k (.string (str T))).1
      rw [laid_set l k _ HT.out] at this
      exact this.alloc _
    · obtain rfl : k = l.length := by omega
      have HO := Lib.hid hown
      clear hown
      go_wp2_with (go_at_call 67; refine (sjoin_any w.heap.size l _ wr HO.out hn hj).mono ?_; rintro e w2 ⟨rfl, hb2⟩)
      go_ret
      exact ⟨rfl, hb.trans (hb2.mono hb.size)⟩
end Go.Proofs.YtgohhnbdicdenaaDoor.Lx

/- The function live of the statements of layer lex answers true and leaves what was there as it was. Conditions: none. -/
namespace Go.Proofs.YtgohhnbdicdenaaDoor.Lx
open Go.ChangeShapes Go.WideShapes Go.ChangeAt Go.RowKit
set_option linter.unusedVariables false

def s1 : Bytes := [97, 45, 62, 112, 114, 101, 32, 98, 32, 45, 45, 32, 120, 10, 49, 50]
def l1 : List Tok := [⟨1, [97], 0⟩, ⟨4, [45, 62], 1⟩, ⟨3, [112, 114, 101], 3⟩, ⟨1, [98], 7⟩, ⟨2, [49, 50], 14⟩]
theorem lexM1 : lexM s1 = .ok l1 := by decide +kernel
theorem lexM2 : lexM [97, 32, 48, 55] = .bad 2 2 := by decide +kernel
theorem lexM3 : lexM [97, 32, 35] = .bad 5 2 := by decide +kernel

/-- What a call of Lex leaves, as a caller reads it. -/
def LexGives (W : World) (l : List Tok) (c a : Int) (e : Ending) (w' : World) : Prop :=
  ∃ v, e = .returned (.tuple #[v, .agg #[.int .i64 c, .int .i64 a]]) ∧ Toks w' v l ∧ Below W.heap.size W w'
theorem LexPost.gives {W : World} {r : Res} {e : Ending} {w' : World} (h : LexPost W r e w') : LexGives W r.toks r.code r.at_ e w' := by
  obtain ⟨v, he, ho, hb⟩ := h
  exact ⟨v, he, Toks.of_own ho, hb⟩
theorem lex_gives (s : ByteArray) (w : World) (h : s.size ≤ maxLen) : Calls Tryd.prog 26 #[.string s] w (LexGives w (lexM s.toList).toks (lexM s.toList).code (lexM s.toList).at_) :=
  (lex_any s w h).mono fun _ _ h => h.gives
theorem app_toList (a b : ByteArray) : (a ++ b).toList = a.toList ++ b.toList := by
  rw [ByteArray.toList_eq, ByteArray.toList_eq, ByteArray.toList_eq, ByteArray.data_append, Array.toList_append]
theorem below_new (w : World) (o : Obj) : Below w.heap.size w (w.alloc o) := (Below.refl _ _).alloc (Nat.le_refl _) _
theorem below_drewN {B : Nat} {a w : World} (h : Below B a w) (n : Nat) : Below B a (w.drewN n) :=
  h.trans { os := rfl, tape := rfl, output := rfl, size := Nat.le_refl _, block := fun _ _ => rfl }

theorem lex1_any (w : World) : Calls Tryd.prog 26 #[.string ⟨#[97, 45, 62, 112, 114, 101, 32, 98, 32, 45, 45, 32, 120, 10, 49, 50]⟩] w (LexGives w l1 0 0) := by
  have := lex_gives (str s1) w (by rw [str_size]; unfold maxLen s1; simp)
  rw [str_toList, lexM1] at this; exact this
theorem lex2_any (w : World) : Calls Tryd.prog 26 #[.string ⟨#[97, 32, 48, 55]⟩] w (LexGives w [] 2 2) := by
  have := lex_gives (str [97, 32, 48, 55]) w (by rw [str_size]; unfold maxLen; simp)
  rw [str_toList, lexM2] at this; exact this
theorem lex3_any (w : World) : Calls Tryd.prog 26 #[.string ⟨#[97, 32, 35]⟩] w (LexGives w [] 5 2) := by
  have := lex_gives (str [97, 32, 35]) w (by rw [str_size]; unfold maxLen; simp)
  rw [str_toList, lexM3] at this; exact this
theorem name1_any (w : World) : Calls Tryd.prog 40 #[.string ⟨#[120, 95, 49]⟩] w fun e w' => e = .returned (.bool true) ∧ w = w' := by
  have := IsName_any (str [120, 95, 49]) w (by rw [str_size]; unfold maxLen; simp)
  rw [str_toList, show nameB [120, 95, 49] = true from by decide +kernel] at this; exact this
theorem name2_any (w : World) : Calls Tryd.prog 40 #[.string ⟨#[110, 111, 100, 101]⟩] w fun e w' => e = .returned (.bool false) ∧ w = w' := by
  have := IsName_any (str [110, 111, 100, 101]) w (by rw [str_size]; unfold maxLen; simp)
  rw [str_toList, show nameB [110, 111, 100, 101] = false from by decide +kernel] at this; exact this
theorem word1_any (w : World) : Calls Tryd.prog 68 #[.string ⟨#[110, 111, 100, 101]⟩] w fun e w' => e = .returned (.bool true) ∧ w = w' := by
  have := isWord_any (str [110, 111, 100, 101]) w
  rw [str_toList, show wordB [110, 111, 100, 101] = true from by decide +kernel] at this; exact this
theorem join1_any (v : Value) (w : World) (hv : Toks w v l1) : Calls Tryd.prog 39 #[v] w fun e w' => e = .returned (.string ⟨#[97, 32, 45, 62, 32, 112, 114, 101, 32, 98, 32, 49, 50]⟩) ∧ Below w.heap.size w w' := by
  have e : joinM l1 = [97, 32, 45, 62, 32, 112, 114, 101, 32, 98, 32, 49, 50] := by decide +kernel
  have := join_any v l1 w hv (by decide) (by rw [e]; simp)
  rw [e] at this; exact this

theorem live_mid {w1 w2 w3 : World} (hb2 : Below (w1.alloc (.cells #[.int .i64 0, .int .i64 0] 27)).heap.size (w1.alloc (.cells #[.int .i64 0, .int .i64 0] 27)) w2)
    (hb3 : Below (w2.alloc (.cells #[.int .i64 2, .int .i64 2] 27)).heap.size (w2.alloc (.cells #[.int .i64 2, .int .i64 2] 27)) w3) :
    w1.heap.size < w2.heap.size ∧ w2.heap.size < w3.heap.size ∧ w1.heap.size < w3.heap.size ∧
    w3.cell? ⟨w1.heap.size, 0, none⟩ = some (.int .i64 0) ∧ w3.cell? ⟨w1.heap.size, 1, none⟩ = some (.int .i64 0) ∧
    w3.cell? ⟨w2.heap.size, 0, none⟩ = some (.int .i64 2) ∧ w3.cell? ⟨w2.heap.size, 1, none⟩ = some (.int .i64 2) ∧ Below w1.heap.size w1 w3 := by
  have z2 := hb2.size
  have z3 := hb3.size
  simp at z2 z3
  have k1 : w1.heap.size < w2.heap.size := by omega
  refine ⟨k1, by omega, by omega, ?_, ?_, ?_, ?_, ?_⟩
  · rw [hb3.cell (by simp; omega), World.cell?_alloc_past _ _ _ k1, hb2.cell (by simp), World.cell?_alloc_at _ _ _ _ rfl]; rfl
  · rw [hb3.cell (by simp; omega), World.cell?_alloc_past _ _ _ k1, hb2.cell (by simp), World.cell?_alloc_at _ _ _ _ rfl]; rfl
  · rw [hb3.cell (by simp), World.cell?_alloc_at _ _ _ _ rfl]; rfl
  · rw [hb3.cell (by simp), World.cell?_alloc_at _ _ _ _ rfl]; rfl
  · exact (((Below.refl _ _).alloc (Nat.le_refl _) _).trans (hb2.mono (by simp))).trans (((Below.refl _ _).alloc (by omega) _).trans (hb3.mono (by simp; omega)))
theorem live_below (w : World) (o o' : Obj) : Below w.heap.size w ((w.alloc o).alloc o') := ((Below.refl _ _).alloc (Nat.le_refl _) _).alloc (by simp) _
theorem live_lit (w : World) (o : Obj) : Toks ((w.alloc o).alloc (.cells #[.int .i64 1, .string ⟨#[97]⟩, .int .i64 0, .int .i64 4, .string ⟨#[45, 62]⟩, .int .i64 1, .int .i64 3,
      .string ⟨#[112, 114, 101]⟩, .int .i64 3, .int .i64 1, .string ⟨#[98]⟩, .int .i64 7, .int .i64 2, .string ⟨#[49, 50]⟩, .int .i64 14] 43)) (.slice (some ⟨w.heap.size + 1, 0, none⟩) 5 5) l1 := by
  have h := World.ownsRow_lit (base := 0) (e := 43) (size := 3) (w.alloc o) #[.int .i64 1, .string ⟨#[97]⟩, .int .i64 0, .int .i64 4, .string ⟨#[45, 62]⟩, .int .i64 1, .int .i64 3,
      .string ⟨#[112, 114, 101]⟩, .int .i64 3, .int .i64 1, .string ⟨#[98]⟩, .int .i64 7, .int .i64 2, .string ⟨#[49, 50]⟩, .int .i64 14] 5 (Nat.zero_le _) (by unfold maxLen; omega) rfl
  rw [show (w.alloc o).heap.size = w.heap.size + 1 from by simp] at h
  exact Toks.of_own (b := 0) h

theorem toks_drewN {w : World} {v : Value} {l : List Tok} (h : Toks w v l) (n : Nat) : Toks (w.drewN n) v l := h
theorem live_end {w1 w3 w5 : World} {o o' : Obj} {n : Nat} (h : Below w1.heap.size w1 w3) (hb5 : Below (((w3.alloc o).alloc o').drewN n).heap.size (((w3.alloc o).alloc o').drewN n) w5) : Below w1.heap.size w1 w5 := by
  have hs := h.size
  refine (below_drewN ((h.alloc hs _).alloc (by simp; omega) _) n).trans (hb5.mono ?_)
  show _ ≤ ((w3.alloc o).alloc o').heap.size
  simp; omega
end Go.Proofs.YtgohhnbdicdenaaDoor.Lx

/- Contract of Read: what it tells. Conditions: the source is no longer than a string can be; the variable of the error of a number's form holds an error or none. -/
namespace Go.Proofs.YtgohhnbdicdenaaDoor.Ex
open Go.ChangeShapes Go.WideShapes Go.ChangeAt Go.RowKit
open Go.Proofs.YtgohhnbdicdenaaDoor.Tr (str ret_bool ret_int Bytes Nd joinM roomM own_block)
set_option linter.unusedVariables false
set_option linter.unusedSimpArgs false

/-- What Read tells. -/
def ReadTo (w : World) (x : List Nd × Int × Int) (e : Ending) (w' : World) : Prop :=
  ∃ ev, e = .returned (.tuple #[ev, .agg #[.int .i64 x.2.1, .int .i64 x.2.2]]) ∧ PtW w' (ev, ⟨x.1, 0, 0⟩) ∧ Below w.heap.size w w'
theorem parse_at {l : List Tok} {lv : Value} {i : Int} {w : World} (hi : i = ((0 : Nat) : Int)) (hv : TokOff w w.heap.size lv l) (hvar : VarAt w w.heap.size) (hok : OkR ⟨l, 0, 0, 0, 0⟩) {x : Pt × Rd} (h : run (fuelOf l 0) (.lev 1) ⟨l, 0, 0, 0, 0⟩ = some x) {y : List Nd × Nat × Int × Int} (hy : parseOf l 0 x = y) :
    Calls Tryd.prog 18 #[lv, .int .i64 i] w (ParseTo w y) := by
  subst hi; subst hy; exact parse_any l lv 0 w hv hvar hok x h
theorem toks_off {w : World} {v : Value} {l : List Tok} (h : Lx.Toks w v l) : TokOff w w.heap.size v l := by
  obtain ⟨A, c, h0, h1, h2, h3⟩ := h
  refine ⟨A, c, h0, h1, h2, fun i t hi => ?_⟩
  obtain ⟨g, e1, e2, e3⟩ := h3 i t hi
  exact ⟨g, e1, e2, e2, e3⟩
theorem parse_next {l : List Tok} {x : Pt × Rd} (hok : OkR ⟨l, 0, 0, 0, 0⟩) (h : run (fuelOf l 0) (.lev 1) ⟨l, 0, 0, 0, 0⟩ = some x) : (parseOf l 0 x).2.1 ≤ 1000000 := by
  obtain ⟨p, r⟩ := x
  have h1 := ((hok.step (run_step _ _ _ _ _ h hok.fine (by simp [Task.pre])).1)).nx
  simp only [parseOf]
  split
  · simp
  · split
    · simp
    · split
      · simp
      · exact h1
end Go.Proofs.YtgohhnbdicdenaaDoor.Ex

/- Contract of Read. Conditions: the source is no longer than a string can be; the variable of the error of a number's form holds an error or none. -/
namespace Go.Proofs.YtgohhnbdicdenaaDoor.Ex
open Go.ChangeShapes Go.WideShapes Go.ChangeAt Go.RowKit
open Go.Proofs.YtgohhnbdicdenaaDoor.Tr (str ret_bool ret_int Bytes Nd joinM roomM own_block)
set_option linter.unusedVariables false
set_option linter.unusedSimpArgs false

set_option maxRecDepth 100000 in
set_option maxHeartbeats 4000000 in
theorem read_ca (S : ByteArray) (w : World) (h : S.size ≤ maxLen) (hvar : VarAt w w.heap.size) (c a : Int) (hl : Lx.lexM S.toList = .bad c a) (hc : c ≠ 0) : Calls Tryd.prog 13 #[.string S] w (ReadTo w (readM S.toList)) := by
  have HVAR := Lib.hid hvar
  have HC : Hid (Calls Tryd.prog 26 #[.string S] (w.alloc (.cells #[.int .i64 0, .int .i64 0] 27)) (Lx.LexGives (w.alloc (.cells #[.int .i64 0, .int .i64 0] 27)) [] c a)) := Lib.hid (by have := Lx.lex_gives S (w.alloc (.cells #[.int .i64 0, .int .i64 0] 27)) h; rw [hl] at this; exact this)
  have HE : Hid (readM S.toList = ([], c, a)) := Lib.hid (by unfold readM; rw [hl])
  rw [HE.out]
  have hcd : (c == 0) = false := by rw [beq_eq_false_iff_ne]; exact hc
  clear hl hc
  clear h hvar
  go_enter Tryd.func13, Tryd.ntmps13
  go_wp2_with fail
  refine HC.out.mono ?_
  rintro e w1 ⟨v, rfl, ht, hb1⟩
  have HT := Lib.hid ht
  obtain ⟨A, cc, rfl, t1, t2, -⟩ := ht
  unfold maxLen at t2
  have X6 : Hid (w1.heap[w.heap.size]? = some (.cells #[.int .i64 0, .int .i64 0] 27 (0, 0))) := Lib.hid ((hb1.block w.heap.size (by simp)).trans (heap_alloc_new w _))
  have HB1 : Hid (Below w.heap.size w w1) := Lib.hid ((below_new w _).trans (hb1.mono (by simp)))
  have hl1 : w.heap.size < w1.heap.size := lt_of_block X6.out
  clear hb1
  have c60 : w1.cell? ⟨w.heap.size, 0, none⟩ = some (.int .i64 0) := (cell_at X6.out 0).trans rfl
  have c61 : w1.cell? ⟨w.heap.size, 1, none⟩ = some (.int .i64 0) := (cell_at X6.out 1).trans rfl
  have f60 : w1.frozen? ⟨w.heap.size, 0, none⟩ = false := free_at X6.out 0
  have f61 : w1.frozen? ⟨w.heap.size, 1, none⟩ = false := free_at X6.out 1
  go_wp2_with fail
  go_region
  all_goals go_wp2
  all_goals
    refine bodyPost_ret (v := .tuple #[.slice none 0 0, .agg #[.int .i64 c, .int .i64 a]]) ?_ rfl ⟨_, rfl, PtW.nil _ ⟨[], 0, 0⟩ rfl, ?_⟩
    · obtain ⟨k0, k1⟩ := pair_cells (o := .cells #[.int .i64 c, .int .i64 a] 27) (.int .i64 c) (.int .i64 a) X6.out
      clear c60 c61 f60 f61
      simp [results, Tryd.results13, go_sem, k0, k1]
    · repeat (first | exact HB1.out | refine Below.alloc ?_ (by simp [World.setCell]; omega) _ | refine Below.setCell ?_ (by exact Nat.le_refl _) _ | refine Below.drew ?_)
end Go.Proofs.YtgohhnbdicdenaaDoor.Ex

/- Contract of Read. Conditions: the source is no longer than a string can be; the variable of the error of a number's form holds an error or none. -/
namespace Go.Proofs.YtgohhnbdicdenaaDoor.Ex
open Go.ChangeShapes Go.WideShapes Go.ChangeAt Go.RowKit
open Go.Proofs.YtgohhnbdicdenaaDoor.Tr (str ret_bool ret_int Bytes Nd joinM roomM own_block)
set_option linter.unusedVariables false
set_option linter.unusedSimpArgs false

set_option maxRecDepth 100000 in
set_option maxHeartbeats 4000000 in
theorem read_cb (S : ByteArray) (w : World) (h : S.size ≤ maxLen) (hvar : VarAt w w.heap.size) (l : List Tok) (hl : Lx.lexM S.toList = .ok l) (x : Pt × Rd) (hx : run (fuelOf l 0) (.lev 1) ⟨l, 0, 0, 0, 0⟩ = some x) (E : List Nd) (N : Nat) (C D : Int) (hP : parseOf l 0 x = (E, N, C, D)) (hC : C = 0) (hlt : N < l.length) : Calls Tryd.prog 13 #[.string S] w (ReadTo w (readM S.toList)) := by
  have HVAR := Lib.hid hvar
  have HC : Hid (Calls Tryd.prog 26 #[.string S] (w.alloc (.cells #[.int .i64 0, .int .i64 0] 27)) (Lx.LexGives (w.alloc (.cells #[.int .i64 0, .int .i64 0] 27)) l 0 0)) := Lib.hid (by have := Lx.lex_gives S (w.alloc (.cells #[.int .i64 0, .int .i64 0] 27)) h; rw [hl] at this; exact this)
  have HOK := Lib.hid (okr_of hl)
  have HX := Lib.hid hx
  have HP := Lib.hid hP
  have hN : N ≤ 1000000 := by have := parse_next HOK.out hx; rw [hP] at this; exact this
  have hPM : parseM l 0 = (E, N, C, D) := by unfold parseM; rw [hx]; exact hP
  have hcd : (C == 0) = true := by rw [beq_iff_eq]; exact hC
  have hnd : decide ((N : Int) < (l.length : Int)) = true := by rw [decide_eq_true_iff]; omega
  have hnd2 : decide (N < l.length) = true := by rw [decide_eq_true_iff]; exact hlt
  have HE : Hid (readM S.toList = ([], 5, atM l N)) := Lib.hid (by unfold readM; rw [hl]; simp only [hPM]; rw [if_pos ⟨hC, hlt⟩])
  clear hC
  rw [HE.out]
  clear hl hx hP hPM
  clear h hvar
  go_enter Tryd.func13, Tryd.ntmps13
  go_wp2_with fail
  refine HC.out.mono ?_
  rintro e w1 ⟨v, rfl, ht, hb1⟩
  have HT := Lib.hid ht
  obtain ⟨A, cc, rfl, t1, t2, -⟩ := ht
  unfold maxLen at t2
  have X6 : Hid (w1.heap[w.heap.size]? = some (.cells #[.int .i64 0, .int .i64 0] 27 (0, 0))) := Lib.hid ((hb1.block w.heap.size (by simp)).trans (heap_alloc_new w _))
  have HB1 : Hid (Below w.heap.size w w1) := Lib.hid ((below_new w _).trans (hb1.mono (by simp)))
  have hl1 : w.heap.size < w1.heap.size := lt_of_block X6.out
  clear hb1
  go_wp2_with fail
  refine (parse_at rfl ((toks_off HT.out).rise (below_new w1 (.cells #[.int .i64 0, .int .i64 0] 27)) (Below.refl _ _)) (HVAR.out.rise (HB1.out.alloc (by omega) (.cells #[.int .i64 0, .int .i64 0] 27)) (Below.refl _ _)) HOK.out HX.out HP.out).mono ?_
  rintro e w3 ⟨ev, rfl, hpt, hb3⟩
  have HPT := Lib.hid hpt
  have HB3 := Lib.hid hb3
  have XF : Hid (w3.heap[w1.heap.size]? = some (.cells #[.int .i64 0, .int .i64 0] 27 (0, 0))) := Lib.hid ((hb3.block w1.heap.size (by simp)).trans (heap_alloc_new w1 _))
  have X63 : Hid (w3.heap[w.heap.size]? = some (.cells #[.int .i64 0, .int .i64 0] 27 (0, 0))) := Lib.hid ((hb3.block w.heap.size (by simp; omega)).trans (stayA X6.out))
  have HBW : Hid (Below w.heap.size w w3) := Lib.hid ((HB1.out.alloc (by omega) _).trans (hb3.mono (by simp; omega)))
  have HB13 : Hid (Below w1.heap.size w1 w3) := Lib.hid ((below_new w1 _).trans (hb3.mono (by simp)))
  have hs3 := hb3.size
  simp at hs3
  obtain ⟨⟨Ae, ce, hev, y1, y2, -⟩, -⟩ := hpt
  simp only at hev y1
  subst hev
  unfold maxLen at y2
  clear hb3
  have l13 : w1.heap.size < w3.heap.size := lt_of_block XF.out
  have l03 : w.heap.size < w3.heap.size := by omega
  have hne : w.heap.size ≠ w1.heap.size := by omega
  have c60 : w3.cell? ⟨w.heap.size, 0, none⟩ = some (.int .i64 0) := (cell_at X63.out 0).trans rfl
  have c61 : w3.cell? ⟨w.heap.size, 1, none⟩ = some (.int .i64 0) := (cell_at X63.out 1).trans rfl
  have f60 : w3.frozen? ⟨w.heap.size, 0, none⟩ = false := free_at X63.out 0
  have f61 : w3.frozen? ⟨w.heap.size, 1, none⟩ = false := free_at X63.out 1
  have c50 : w3.cell? ⟨w1.heap.size, 0, none⟩ = some (.int .i64 0) := (cell_at XF.out 0).trans rfl
  have c51 : w3.cell? ⟨w1.heap.size, 1, none⟩ = some (.int .i64 0) := (cell_at XF.out 1).trans rfl
  have f50 : w3.frozen? ⟨w1.heap.size, 0, none⟩ = false := free_at XF.out 0
  have f51 : w3.frozen? ⟨w1.heap.size, 1, none⟩ = false := free_at XF.out 1
  have XR : Hid (((w3.setCell ⟨w1.heap.size, 0, none⟩ (.int .i64 C)).setCell ⟨w1.heap.size, 1, none⟩ (.int .i64 D)).heap[w.heap.size]? = some (.cells #[.int .i64 0, .int .i64 0] 27 (0, 0))) := Lib.hid (by rw [Below.heap_setCell _ _ _ _ (by simpa using hne), Below.heap_setCell _ _ _ _ (by simpa using hne)]; exact X63.out)
  have HPF : Hid (PtW ((w3.setCell ⟨w1.heap.size, 0, none⟩ (.int .i64 C)).setCell ⟨w1.heap.size, 1, none⟩ (.int .i64 D)) (.slice Ae E.length ce, ⟨E, 0, 0⟩)) := Lib.hid ((HPT.out.set XF.out (by decide) _).set (setObj_heap (v := .int .i64 C) XF.out (k := 0) (by simp)) (by decide) _)
  have HBF : Hid (Below w.heap.size w ((w3.setCell ⟨w1.heap.size, 0, none⟩ (.int .i64 C)).setCell ⟨w1.heap.size, 1, none⟩ (.int .i64 D))) := Lib.hid ((HBW.out.setCell (by simp; omega) _).setCell (by simp; omega) _)
  have HBG : Hid (Below w1.heap.size w1 ((w3.setCell ⟨w1.heap.size, 0, none⟩ (.int .i64 C)).setCell ⟨w1.heap.size, 1, none⟩ (.int .i64 D))) := Lib.hid ((HB13.out.setCell (by simp) _).setCell (by simp) _)
  go_wp2_with fail
  refine (at_i rfl ((toks_off HT.out).rise HBG.out (Below.refl _ _)) hN).mono ?_
  rintro e w5 ⟨rfl, rfl⟩
  go_wp2
  refine bodyPost_ret (v := .tuple #[.slice none 0 0, .agg #[.int .i64 (5), .int .i64 (atM l N)]]) ?_ rfl ⟨_, rfl, PtW.nil _ ⟨[], 0, 0⟩ rfl, ?_⟩
  · obtain ⟨k0, k1⟩ := two_cells XR.out (.int .i64 (5)) (.int .i64 (atM l N))
    clear c60 c61 f60 f61 c50 c51 f50 f51
    simp [results, Tryd.results13, go_sem, k0, k1]
  · repeat (first | exact HBF.out | refine Below.setCell ?_ (by exact Nat.le_refl _) _ | refine Below.drew ?_)
end Go.Proofs.YtgohhnbdicdenaaDoor.Ex

