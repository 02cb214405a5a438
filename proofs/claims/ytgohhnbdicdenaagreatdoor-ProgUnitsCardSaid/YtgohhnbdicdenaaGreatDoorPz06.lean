/- The function Lex of layer lex returns the tokens that lexM says, in memory of its own. Conditions: a text's length within a machine's. -/
import Derived.Test.YtgohhnbdicdenaaGreatDoorPz05
import Derived.Test.YtgohhnbdicdenaaGreatDoorPz01
import Derived.OneCell
import Derived.OwnWalk
import Derived.RegionTactic
import Derived.Deep.QuietTactic
import Derived.BigQuiet
import Derived.Test.YtgohhnbdicdenaaGreatDoorPz04
import Derived.Deep.RegionHeld3
import Derived.StillTailTactics
import Derived.BigRegion
import Derived.Maps.Keyed
import Derived.Ground.MpProg
import Derived.Shelf.Pu.ParseUintPublic10
import Derived.Test.YtgohhnbdicdenaaGreatDoorProg
namespace Go.Proofs.YtgohhnbdicdenaaGreatDoor.Lx
open Go.ChangeShapes Go.WideShapes Go.ChangeAt Go.RowKit
set_option linter.unusedVariables false

theorem info42 : (Tryz.prog.info? 54).map (fun i => (i.zero, i.size, i.bytes)) = some (some (.agg #[.int .i64 0, .string ⟨#[]⟩, .int .i64 0]), 3, 32) := by kernel_rfl

def tokCells (t : Tok) : List Value := [.int .i64 t.kind, .string (str t.text), .int .i64 (t.at_ : Int)]
def cellsOf (l : List Tok) : List Value := l.flatMap tokCells

/-- What a call that hands back tokens leaves. -/
def LexPost (W : World) (r : Res) (e : Ending) (w' : World) : Prop :=
  ∃ v, e = .returned (.tuple #[v, .agg #[.int .i64 r.code, .int .i64 r.at_]]) ∧ w'.ownsRow W.heap.size 54 3 v r.toks.length (cellsOf r.toks) ∧ Below W.heap.size W w'

def atOf (w : World) (a : Addr) : Int := intOf ((w.cell? a).getD undef)

theorem digits_str (l : Bytes) (K E : Int) (w : World) (h : l.length ≤ maxLen) (hp : 0 < l.length) (hk : digM l = (K, E)) :
    Calls Tryz.prog 66 #[.string (str l)] w fun e w' => e = .returned (.tuple #[.int .i64 K, .int .i64 E]) ∧ w = w' := by
  have := digits_any (str l) w (by rw [str_size]; exact h) (by rw [str_size]; exact hp)
  rw [str_toList, hk] at this; exact this
theorem letters_str (l : Bytes) (K E : Int) (w : World) (h : l.length ≤ maxLen) (hk : letM l = (K, E)) :
    Calls Tryz.prog 67 #[.string (str l)] w fun e w' => e = .returned (.tuple #[.int .i64 K, .int .i64 E]) ∧ w = w' := by
  have := letters_any (str l) w (by rw [str_size]; exact h)
  rw [str_toList, hk] at this; exact this
theorem sign_str (l : Bytes) (K E : Int) (w : World) (hk : sigM l = (K, E)) :
    Calls Tryz.prog 69 #[.string (str l)] w fun e w' => e = .returned (.tuple #[.int .i64 K, .int .i64 E]) ∧ w = w' := by
  have := sign_any (str l) w
  rw [str_toList, hk] at this; exact this
theorem longestSign_at (s : ByteArray) (p : Nat) (T : Bytes) (w : World) (h : s.size ≤ maxLen) (hp : p < s.size) (hT : signOf (s.toList.drop p) = T) :
    Calls Tryz.prog 68 #[.string (s.extract p s.size)] w fun e w' => e = .returned (.string (str T)) ∧ w = w' := by
  have e : (s.extract p s.size).size = s.size - p := by rw [ByteArray.size_extract]; omega
  have := longestSign_any (s.extract p s.size) w (by rw [e]; omega) (by rw [e]; omega)
  rw [extract_end, hT] at this; exact this
theorem rowDigit_at (s : ByteArray) (p : Nat) (T : Bytes) (a b : Addr) (w : World) (h : s.size ≤ maxLen) (hp : p ≤ s.size) (ca : w.cell? a = some (.int .i64 p)) (cb : w.cell? b = some (.string s)) (hT : (s.toList.drop p).takeWhile digitB = T) :
    Calls Tryz.prog 65 #[.func (.func 46) #[] #[], .pointer (some a), .pointer (some b)] w fun e w' => e = .returned (.string (str T)) ∧ w = w' := by
  rw [← hT]; exact rowDigit_any s p a b w h hp ca cb
theorem rowOfName_at (s : ByteArray) (p : Nat) (T : Bytes) (a b : Addr) (w : World) (h : s.size ≤ maxLen) (hp : p ≤ s.size) (ca : w.cell? a = some (.int .i64 p)) (cb : w.cell? b = some (.string s)) (hT : (s.toList.drop p).takeWhile ofNameB = T) :
    Calls Tryz.prog 65 #[.func (.func 48) #[] #[], .pointer (some a), .pointer (some b)] w fun e w' => e = .returned (.string (str T)) ∧ w = w' := by
  rw [← hT]; exact rowOfName_any s p a b w h hp ca cb
theorem passed_at (s : ByteArray) (p : Nat) (q : Nat) (w : World) (h : s.size ≤ maxLen) (hp : p ≤ s.size) (hq : p + skip false (s.toList.drop p) = q) :
    Calls Tryz.prog 64 #[.string s, .int .i64 p] w fun e w' => e = .returned (.int .i64 q) ∧ w = w' := by
  rw [← hq]; exact passed_any s p w h hp

theorem own_base {w : World} {b b' : Nat} {e : TypeId} {size n : Nat} {v : Value} {xs : List Value} (h : w.ownsRow b e size v n xs) (hb : b' ≤ b) : w.ownsRow b' e size v n xs := by
  refine ⟨h.1, ?_⟩
  rcases h.2 with h0 | ⟨g, cap, cur, h1, h2, h3⟩
  · exact .inl h0
  · exact .inr ⟨g, cap, cur, h1, by omega, h3⟩

/-- The loop's relation. -/
def LexRel (s : ByteArray) (W : World) (v : Value) (wr : World) : Prop :=
  ∃ (p : Nat) (acc : List Tok), p ≤ s.size ∧ acc.length ≤ p ∧ lexM s.toList = Res.glue acc (lexL (s.toList.drop p) p) ∧
    wr.heap[W.heap.size]? = some (.cells #[.string s] 9 (0, 0)) ∧ wr.heap[W.heap.size + 1]? = some (.cells #[.int .i64 0, .int .i64 0] 33 (0, 0)) ∧
    wr.heap[W.heap.size + 1 + 1]? = some (.cells #[.int .i64 (p : Int)] 3 (0, 0)) ∧ wr.ownsRow (W.heap.size + 3) 54 3 v acc.length (cellsOf acc) ∧ Below W.heap.size W wr

theorem passed_int (s : ByteArray) (n : Int) (p : Nat) (q : Nat) (w : World) (hn : n = (p : Int)) (h : s.size ≤ maxLen) (hp : p ≤ s.size) (hq : p + skip false (s.toList.drop p) = q) :
    Calls Tryz.prog 64 #[.string s, .int .i64 n] w fun e w' => e = .returned (.int .i64 q) ∧ w = w' := by
  subst hn; exact passed_at s p q w h hp hq

theorem cells_snoc (acc : List Tok) (t : Tok) : cellsOf (acc ++ [t]) = cellsOf acc ++ tokCells t := by simp [cellsOf]

/-- What stands behind the append of a token. -/
theorem lex_mid {W wr w1 : World} {u : Value} {n : Nat} {xs : List Value} {c d : Array Value} {s : ByteArray} {p : Nat}
    (hb0 : wr.heap[W.heap.size]? = some (.cells #[.string s] 9 (0, 0))) (hb1 : wr.heap[W.heap.size + 1]? = some (.cells #[.int .i64 0, .int .i64 0] 33 (0, 0)))
    (hb2 : wr.heap[W.heap.size + 1 + 1]? = some (.cells #[.int .i64 (p : Int)] 3 (0, 0))) (hbel : Below W.heap.size W wr)
    (hown : wr.ownsRow (W.heap.size + 3) 54 3 u n xs) (hg : ((wr.alloc (.cells c 54)).alloc (.cells d 54)).grownBy w1 u.ownBlock) :
    w1.heap[W.heap.size]? = some (.cells #[.string s] 9 (0, 0)) ∧ w1.heap[W.heap.size + 1]? = some (.cells #[.int .i64 0, .int .i64 0] 33 (0, 0)) ∧
    w1.heap[W.heap.size + 1 + 1]? = some (.cells #[.int .i64 (p : Int)] 3 (0, 0)) ∧ w1.heap[wr.heap.size]? = some (.cells c 54 (0, 0)) ∧ Below W.heap.size W w1 := by
  have l0 := lt_of_block hb0
  have l1 := lt_of_block hb1
  have l2 := lt_of_block hb2
  have hne : ∀ j, j < W.heap.size + 3 → some j ≠ u.ownBlock := fun j hj h => by have := hown.lt j h.symm; omega
  have hk : ∀ j, j < wr.heap.size → some j ≠ u.ownBlock → w1.heap[j]? = wr.heap[j]? := fun j hj hn => by
    rw [hg.block j (by simp; omega) hn, Below.heap_alloc _ _ _ (by simp; omega), Below.heap_alloc _ _ _ hj]
  refine ⟨(hk _ l0 (hne _ (by omega))).trans hb0, (hk _ l1 (hne _ (by omega))).trans hb1, (hk _ l2 (hne _ (by omega))).trans hb2, ?_, ?_⟩
  · rw [hg.block _ (by simp; omega) (fun h => by have := hown.lt _ h.symm; omega), Below.heap_alloc _ _ _ (by simp)]
    exact heap_alloc_new wr _
  · exact ((hbel.alloc (by omega) _).alloc (by simp; omega) _).grown hg (by simp; omega) (fun j hj => by have := hown.lt j hj; omega)

theorem lex_step {W w1 : World} {v : Value} {s : ByteArray} {p q : Nat} {acc : List Tok} {T : Bytes} {K : Int} (hlt : p < s.size) (hal : acc.length ≤ p)
    (hlex : lexM s.toList = Res.glue acc (lexL (s.toList.drop p) p)) (hone : one (s.toList.drop p) = (T, K, 0)) (hq : p + T.length + skip false (s.toList.drop (p + T.length)) = q)
    (hb0 : w1.heap[W.heap.size]? = some (.cells #[.string s] 9 (0, 0))) (hb1 : w1.heap[W.heap.size + 1]? = some (.cells #[.int .i64 0, .int .i64 0] 33 (0, 0)))
    (hb2 : w1.heap[W.heap.size + 1 + 1]? = some (.cells #[.int .i64 (p : Int)] 3 (0, 0))) (hbel : Below W.heap.size W w1)
    (hown : w1.ownsRow (W.heap.size + 3) 54 3 v (acc.length + 1) (cellsOf acc ++ [.int .i64 K, .string (str T), .int .i64 (p : Int)])) :
    LexRel s W v (w1.setCell ⟨W.heap.size + 1 + 1, 0, none⟩ (.int .i64 (q : Int))) ∧ p < q ∧ q ≤ s.size := by
  have hpos : 0 < T.length := by
    have := one_pos s[p] (s.toList.drop (p + 1)) (by rw [← drop_cons s p hlt, hone])
    rw [← drop_cons s p hlt, hone] at this; exact this
  have hle := one_le (s.toList.drop p)
  rw [hone, List.length_drop, toList_len] at hle
  have hsk := skipF_le false (s.toList.drop (p + T.length))
  rw [List.length_drop, toList_len] at hsk
  have hqs : q ≤ s.size := by simp only at hle; omega
  refine ⟨⟨q, acc ++ [⟨K, T, p⟩], hqs, by simp; omega, ?_, ?_, ?_, one_setCell hb2, ?_, hbel.setCell (by show _ ≤ W.heap.size + 1 + 1; omega) _⟩, by omega, hqs⟩
  · rw [hlex, drop_cons s p hlt, lexL_cons _ _ _ (by rw [← drop_cons s p hlt, hone]), ← drop_cons s p hlt, hone, Res.glue_cons]
    simp only [List.drop_drop]
    rw [hq]
  · rw [Below.heap_setCell _ _ _ _ (by simp; omega)]; exact hb0
  · rw [Below.heap_setCell _ _ _ _ (by simp)]; exact hb1
  · rw [cells_snoc, List.length_append]
    exact ownsRow_setCell_below hown (by show W.heap.size + 1 + 1 < _; omega) _

theorem at_step {wr w1 : World} {a : Addr} {p n : Nat} {u : Value} (c : wr.cell? a = some (.int .i64 (p : Int))) (e : w1.cell? a = some u) (q : Nat) (h1 : p < q) (h2 : q ≤ n) :
    n - (atOf (w1.setCell a (.int .i64 (q : Int))) a).toNat < n - (atOf wr a).toNat := by
  unfold atOf
  rw [c, World.cell?_setCell_same _ _ _ e]
  simp [intOf]; omega

theorem lex_bad {s : ByteArray} {p : Nat} {acc : List Tok} {T : Bytes} {K E : Int} (hlt : p < s.size) (hlex : lexM s.toList = Res.glue acc (lexL (s.toList.drop p) p)) (hone : one (s.toList.drop p) = (T, K, E)) (hE : E ≠ 0) :
    lexM s.toList = .bad E p := by
  rw [hlex, drop_cons s p hlt, lexL_bad _ _ _ (by rw [← drop_cons s p hlt, hone]; exact hE), ← drop_cons s p hlt, hone]; rfl

set_option maxRecDepth 100000 in
set_option maxHeartbeats 4000000 in
theorem lex_any (s : ByteArray) (w : World) (h : s.size ≤ maxLen) : Calls Tryz.prog 34 #[.string s] w (LexPost w (lexM s.toList)) := by
  obtain ⟨i0, hi, hz0, hz1, hz2⟩ := info_parts info42
  unfold maxLen at h
  by_cases hbig : s.size ≤ 100000
  · have h' : s.size ≤ maxLen := by unfold maxLen; omega
    go_enter Tryz.func34, Tryz.ntmps34
    go_wp2_with (go_at_call 64; refine (passed_any _ 0 _ h' (Nat.zero_le _)).mono ?_; rintro e w' ⟨rfl, rfl⟩)
    go_loopw [6] (fun v wr => LexRel s w v wr) (fun _ wr => s.size - (atOf wr ⟨w.heap.size + 1 + 1, 0, none⟩).toNat)
    case atStart =>
      have hk := skipF_le false s.toList
      rw [toList_len] at hk
      refine ⟨skip false s.toList, [], hk, Nat.zero_le _, ?_, ?_, ?_, ?_, World.ownsRow_nil _ _ _ _, (((Below.refl _ _).alloc (Nat.le_refl _) _).alloc (by simp) _).alloc (by simp; omega) _⟩
      · rw [lexM_eq _ (by rw [toList_len]; omega)]; cases lexL (s.toList.drop (skip false s.toList)) (skip false s.toList) <;> rfl
      · rw [Below.heap_alloc _ _ _ (by simp; omega), Below.heap_alloc _ _ _ (by simp)]; exact heap_alloc_new w _
      · rw [Below.heap_alloc _ _ _ (by simp)]; exact (congrArg (fun i => ((w.alloc (.cells #[.string s] 9)).alloc (.cells #[.int .i64 0, .int .i64 0] 33)).heap[i]?) (show w.heap.size + 1 = (w.alloc (.cells #[.string s] 9)).heap.size by simp)).trans (heap_alloc_new _ _)
      · exact (congrArg (fun i => (((w.alloc (.cells #[.string s] 9)).alloc (.cells #[.int .i64 0, .int .i64 0] 33)).alloc (.cells #[.int .i64 (skip false s.toList : Int)] 3)).heap[i]?) (show w.heap.size + 1 + 1 = ((w.alloc (.cells #[.string s] 9)).alloc (.cells #[.int .i64 0, .int .i64 0] 33)).heap.size by simp)).trans (heap_alloc_new _ _)
    case round =>
      obtain ⟨p, acc, hp, hal, hlex, hb0, hb1, hb2, hown, hbel⟩ := hrel
      have hsz := lt_of_block hb2
      have hs0 := lt_of_block hb0
      have hs1 := lt_of_block hb1
      have hn0 : w.heap.size ≠ wr.heap.size := by omega
      have hn2 : w.heap.size + 1 + 1 ≠ wr.heap.size := by omega
      have c0 := cell_of_one hb0
      have c2 := cell_of_one hb2
      have f2 := free_of_one hb2
      have HL := Lib.hid hlex
      have H0 := Lib.hid hb0
      have H1 := Lib.hid hb1
      have H2 := Lib.hid hb2
      clear hlex hb0 hb1 hb2
      by_cases hlt : p < s.size
      · have HC := Lib.hid (drop_cons s p hlt)
        rcases Bool.eq_false_or_eq_true (digitB s[p]) with hd | hd
        · obtain ⟨T, hT⟩ : ∃ T, (s.toList.drop p).takeWhile digitB = T := ⟨_, rfl⟩
          obtain ⟨K, E, hk⟩ : ∃ K E, digM T = (K, E) := ⟨_, _, rfl⟩
          have hone : one (s.toList.drop p) = (T, K, E) := by
            unfold one; rw [HC.out, List.headD_cons, if_pos hd, ← HC.out, hT, hk]
          have hTp : 0 < T.length := by rw [← hT, HC.out, List.takeWhile_cons, hd]; simp
          have hTl : T.length ≤ s.size - p := by rw [← hT]; refine Nat.le_trans (takeWhile_le _ _) ?_; rw [List.length_drop, toList_len]; omega
          have HT := Lib.hid hT
          have HK := Lib.hid hk
          have HO := Lib.hid hone
          clear hT hk hone
          by_cases hE : E = 0
          · subst hE
            go_wp2_with (first | (go_at_call 46; refine (isDigit_any _ _).mono ?_; rintro e w' ⟨rfl, rfl⟩) | (go_at_call 65; refine (rowDigit_at s p T _ _ _ h' hp (by go_simp) (by go_simp) HT.out).mono ?_; rintro e w' ⟨rfl, rfl⟩) | (go_at_call 66; refine (digits_str T K 0 _ (by unfold maxLen; omega) hTp HK.out).mono ?_; rintro e w' ⟨rfl, rfl⟩) | (at_builtin; refine wpList_append_own _ rfl (.tmp 69) (.tmp 71) 30 rfl (w.heap.size + 3) 54 i0 _ 3 32 Tryz.underlying30 hi hz0 hz1 hz2 rfl (by decide) _ _ _ rfl ((hown.alloc _).alloc _) ⟨wr.heap.size + 1, 0, none⟩ 1 1 [.int .i64 K, .string (str T), .int .i64 p] rfl rfl ?a1 ?b1 ?c1 ?d1 ?e1 ?_))
            case a1 => intro j u hj; match j, hj with | 0, hj => (simp at hj; subst hj; simp [Addr.add]) | 1, hj => (simp at hj; subst hj; simp [Addr.add]) | 2, hj => (simp at hj; subst hj; simp [Addr.add])
            case b1 => intro u hu; simp at hu; rcases hu with rfl | rfl | rfl <;> rfl
            case c1 => unfold maxLen; omega
            case d1 => omega
            case e1 => simp; omega
            intro v' w1 hown' hgrow _
            obtain ⟨d0, d1, d2, d3, d4⟩ := lex_mid H0.out H1.out H2.out hbel hown hgrow
            obtain ⟨q, hq⟩ : ∃ q, p + T.length + skip false (s.toList.drop (p + T.length)) = q := ⟨_, rfl⟩
            have hsz1 := lt_of_block d2
            have e0 := cell_of_one d0
            have e2 := cell_of_one d2
            have g2 := free_of_one d2
            have e3 : w1.cell? ⟨wr.heap.size, 1, none⟩ = some (.string (str T)) := by simp [World.cell?, d3]
            have R := Lib.hid (lex_step hlt hal HL.out HO.out hq d0 d1 d2 d4 hown')
            have HM := Lib.hid (at_step c2 e2 q R.out.2.1 R.out.2.2)
            have HQ := Lib.hid hq
            have hss := str_size T
            clear hq hown hown' hgrow c0 c2 f2 d0 d1 d2 d3 d4
            go_wp2_with (go_at_call 64; refine (passed_int s _ (p + T.length) q _ (by omega) h' (by omega) HQ.out).mono ?_; rintro e w' ⟨rfl, rfl⟩)
            go_roundw
            case rel => exact R.out.1
            case measure => exact HM.out
          · have hE1 : (E != 0) = true := bne_iff_ne.2 hE
            have HB := Lib.hid (lex_bad hlt HL.out HO.out hE)
            clear hE
            rw [HB.out]
            have c10 : wr.cell? ⟨w.heap.size + 1, 0, none⟩ = some (.int .i64 0) := by simp [World.cell?, H1.out]
            have c11 : wr.cell? ⟨w.heap.size + 1, 1, none⟩ = some (.int .i64 0) := by simp [World.cell?, H1.out]
            have f10 : wr.frozen? ⟨w.heap.size + 1, 0, none⟩ = false := by simp [World.frozen?, H1.out]
            have f11 : wr.frozen? ⟨w.heap.size + 1, 1, none⟩ = false := by simp [World.frozen?, H1.out]
            clear hown
            go_wp2_with (first | (go_at_call 46; refine (isDigit_any _ _).mono ?_; rintro e w' ⟨rfl, rfl⟩) | (go_at_call 65; refine (rowDigit_at s p T _ _ _ h' hp (by go_simp) (by go_simp) HT.out).mono ?_; rintro e w' ⟨rfl, rfl⟩) | (go_at_call 66; refine (digits_str T K E _ (by unfold maxLen; omega) hTp HK.out).mono ?_; rintro e w' ⟨rfl, rfl⟩))
            go_region
            all_goals go_wp2
            all_goals exact bodyPost_ret (v := .tuple #[.slice none 0 0, .agg #[.int .i64 E, .int .i64 (p : Int)]]) (by simp [results, Tryz.results34, go_sem, c10, c11, hs1]) rfl ⟨_, rfl, World.ownsRow_nil _ _ _ _, (((hbel.setCell (by show _ ≤ w.heap.size + 1; omega) _).setCell (by show _ ≤ w.heap.size + 1; omega) _).alloc (by simp; omega) _).drew⟩
        · rcases Bool.eq_false_or_eq_true (ofNameB s[p]) with hn | hn
          · obtain ⟨T, hT⟩ : ∃ T, (s.toList.drop p).takeWhile ofNameB = T := ⟨_, rfl⟩
            obtain ⟨K, E, hk⟩ : ∃ K E, letM T = (K, E) := ⟨_, _, rfl⟩
            have hone : one (s.toList.drop p) = (T, K, E) := by
              unfold one; rw [HC.out, List.headD_cons, if_neg (by rw [hd]; simp), if_pos hn, ← HC.out, hT, hk]
            have hTp : 0 < T.length := by rw [← hT, HC.out, List.takeWhile_cons, hn]; simp
            have hTl : T.length ≤ s.size - p := by rw [← hT]; refine Nat.le_trans (takeWhile_le _ _) ?_; rw [List.length_drop, toList_len]; omega
            have HT := Lib.hid hT
            have HK := Lib.hid hk
            have HO := Lib.hid hone
            clear hT hk hone
            by_cases hE : E = 0
            · subst hE
              go_wp2_with (first | (go_at_call 46; refine (isDigit_any _ _).mono ?_; rintro e w' ⟨rfl, rfl⟩) | (go_at_call 48; refine (isOfName_any _ _).mono ?_; rintro e w' ⟨rfl, rfl⟩) | (go_at_call 65; refine (rowOfName_at s p T _ _ _ h' hp (by go_simp) (by go_simp) HT.out).mono ?_; rintro e w' ⟨rfl, rfl⟩) | (go_at_call 67; refine (letters_str T K 0 _ (by unfold maxLen; omega) HK.out).mono ?_; rintro e w' ⟨rfl, rfl⟩) | (at_builtin; refine wpList_append_own _ rfl (.tmp 69) (.tmp 71) 30 rfl (w.heap.size + 3) 54 i0 _ 3 32 Tryz.underlying30 hi hz0 hz1 hz2 rfl (by decide) _ _ _ rfl ((hown.alloc _).alloc _) ⟨wr.heap.size + 1, 0, none⟩ 1 1 [.int .i64 K, .string (str T), .int .i64 p] rfl rfl ?a2 ?b2 ?c2 ?d2 ?e2 ?_))
              case a2 => intro j u hj; match j, hj with | 0, hj => (simp at hj; subst hj; simp [Addr.add]) | 1, hj => (simp at hj; subst hj; simp [Addr.add]) | 2, hj => (simp at hj; subst hj; simp [Addr.add])
              case b2 => intro u hu; simp at hu; rcases hu with rfl | rfl | rfl <;> rfl
              case c2 => unfold maxLen; omega
              case d2 => omega
              case e2 => simp; omega
              intro v' w1 hown' hgrow _
              obtain ⟨d0, d1, d2, d3, d4⟩ := lex_mid H0.out H1.out H2.out hbel hown hgrow
              obtain ⟨q, hq⟩ : ∃ q, p + T.length + skip false (s.toList.drop (p + T.length)) = q := ⟨_, rfl⟩
              have hsz1 := lt_of_block d2
              have e0 := cell_of_one d0
              have e2 := cell_of_one d2
              have g2 := free_of_one d2
              have e3 : w1.cell? ⟨wr.heap.size, 1, none⟩ = some (.string (str T)) := by simp [World.cell?, d3]
              have R := Lib.hid (lex_step hlt hal HL.out HO.out hq d0 d1 d2 d4 hown')
              have HM := Lib.hid (at_step c2 e2 q R.out.2.1 R.out.2.2)
              have HQ := Lib.hid hq
              have hss := str_size T
              clear hq hown hown' hgrow c0 c2 f2 d0 d1 d2 d3 d4
              go_wp2_with (go_at_call 64; refine (passed_int s _ (p + T.length) q _ (by omega) h' (by omega) HQ.out).mono ?_; rintro e w' ⟨rfl, rfl⟩)
              go_roundw
              case rel => exact R.out.1
              case measure => exact HM.out
            · have hE1 : (E != 0) = true := bne_iff_ne.2 hE
              have HB := Lib.hid (lex_bad hlt HL.out HO.out hE)
              clear hE
              rw [HB.out]
              have c10 : wr.cell? ⟨w.heap.size + 1, 0, none⟩ = some (.int .i64 0) := by simp [World.cell?, H1.out]
              have c11 : wr.cell? ⟨w.heap.size + 1, 1, none⟩ = some (.int .i64 0) := by simp [World.cell?, H1.out]
              have f10 : wr.frozen? ⟨w.heap.size + 1, 0, none⟩ = false := by simp [World.frozen?, H1.out]
              have f11 : wr.frozen? ⟨w.heap.size + 1, 1, none⟩ = false := by simp [World.frozen?, H1.out]
              clear hown
              go_wp2_with (first | (go_at_call 46; refine (isDigit_any _ _).mono ?_; rintro e w' ⟨rfl, rfl⟩) | (go_at_call 48; refine (isOfName_any _ _).mono ?_; rintro e w' ⟨rfl, rfl⟩) | (go_at_call 65; refine (rowOfName_at s p T _ _ _ h' hp (by go_simp) (by go_simp) HT.out).mono ?_; rintro e w' ⟨rfl, rfl⟩) | (go_at_call 67; refine (letters_str T K E _ (by unfold maxLen; omega) HK.out).mono ?_; rintro e w' ⟨rfl, rfl⟩))
              go_region
              all_goals go_wp2
              all_goals exact bodyPost_ret (v := .tuple #[.slice none 0 0, .agg #[.int .i64 E, .int .i64 (p : Int)]]) (by simp [results, Tryz.results34, go_sem, c10, c11, hs1]) rfl ⟨_, rfl, World.ownsRow_nil _ _ _ _, (((hbel.setCell (by show _ ≤ w.heap.size + 1; omega) _).setCell (by show _ ≤ w.heap.size + 1; omega) _).alloc (by simp; omega) _).drew⟩
          · obtain ⟨T, hT⟩ : ∃ T, signOf (s.toList.drop p) = T := ⟨_, rfl⟩
            obtain ⟨K, E, hk⟩ : ∃ K E, sigM T = (K, E) := ⟨_, _, rfl⟩
            have hone : one (s.toList.drop p) = (T, K, E) := by
              unfold one; rw [HC.out, List.headD_cons, if_neg (by rw [hd]; simp), if_neg (by rw [hn]; simp), ← HC.out, hT, hk]
            have hTl : T.length ≤ s.size - p := by rw [← hT]; refine Nat.le_trans (sign_le _) ?_; rw [List.length_drop, toList_len]; omega
            have HT := Lib.hid hT
            have HK := Lib.hid hk
            have HO := Lib.hid hone
            clear hT hk hone
            by_cases hE : E = 0
            · subst hE
              go_wp2_with (first | (go_at_call 46; refine (isDigit_any _ _).mono ?_; rintro e w' ⟨rfl, rfl⟩) | (go_at_call 48; refine (isOfName_any _ _).mono ?_; rintro e w' ⟨rfl, rfl⟩) | (go_at_call 68; refine (longestSign_at s p T _ h' hlt HT.out).mono ?_; rintro e w' ⟨rfl, rfl⟩) | (go_at_call 69; refine (sign_str T K 0 _ HK.out).mono ?_; rintro e w' ⟨rfl, rfl⟩) | (at_builtin; refine wpList_append_own _ rfl (.tmp 69) (.tmp 71) 30 rfl (w.heap.size + 3) 54 i0 _ 3 32 Tryz.underlying30 hi hz0 hz1 hz2 rfl (by decide) _ _ _ rfl ((hown.alloc _).alloc _) ⟨wr.heap.size + 1, 0, none⟩ 1 1 [.int .i64 K, .string (str T), .int .i64 p] rfl rfl ?a3 ?b3 ?c3 ?d3 ?e3 ?_))
              case a3 => intro j u hj; match j, hj with | 0, hj => (simp at hj; subst hj; simp [Addr.add]) | 1, hj => (simp at hj; subst hj; simp [Addr.add]) | 2, hj => (simp at hj; subst hj; simp [Addr.add])
              case b3 => intro u hu; simp at hu; rcases hu with rfl | rfl | rfl <;> rfl
              case c3 => unfold maxLen; omega
              case d3 => omega
              case e3 => simp; omega
              intro v' w1 hown' hgrow _
              obtain ⟨d0, d1, d2, d3, d4⟩ := lex_mid H0.out H1.out H2.out hbel hown hgrow
              obtain ⟨q, hq⟩ : ∃ q, p + T.length + skip false (s.toList.drop (p + T.length)) = q := ⟨_, rfl⟩
              have hsz1 := lt_of_block d2
              have e0 := cell_of_one d0
              have e2 := cell_of_one d2
              have g2 := free_of_one d2
              have e3 : w1.cell? ⟨wr.heap.size, 1, none⟩ = some (.string (str T)) := by simp [World.cell?, d3]
              have R := Lib.hid (lex_step hlt hal HL.out HO.out hq d0 d1 d2 d4 hown')
              have HM := Lib.hid (at_step c2 e2 q R.out.2.1 R.out.2.2)
              have HQ := Lib.hid hq
              have hss := str_size T
              clear hq hown hown' hgrow c0 c2 f2 d0 d1 d2 d3 d4
              go_wp2_with (go_at_call 64; refine (passed_int s _ (p + T.length) q _ (by omega) h' (by omega) HQ.out).mono ?_; rintro e w' ⟨rfl, rfl⟩)
              go_roundw
              case rel => exact R.out.1
              case measure => exact HM.out
            · have hE1 : (E != 0) = true := bne_iff_ne.2 hE
              have HB := Lib.hid (lex_bad hlt HL.out HO.out hE)
              clear hE
              rw [HB.out]
              have c10 : wr.cell? ⟨w.heap.size + 1, 0, none⟩ = some (.int .i64 0) := by simp [World.cell?, H1.out]
              have c11 : wr.cell? ⟨w.heap.size + 1, 1, none⟩ = some (.int .i64 0) := by simp [World.cell?, H1.out]
              have f10 : wr.frozen? ⟨w.heap.size + 1, 0, none⟩ = false := by simp [World.frozen?, H1.out]
              have f11 : wr.frozen? ⟨w.heap.size + 1, 1, none⟩ = false := by simp [World.frozen?, H1.out]
              clear hown
              go_wp2_with (first | (go_at_call 46; refine (isDigit_any _ _).mono ?_; rintro e w' ⟨rfl, rfl⟩) | (go_at_call 48; refine (isOfName_any _ _).mono ?_; rintro e w' ⟨rfl, rfl⟩) | (go_at_call 68; refine (longestSign_at s p T _ h' hlt HT.out).mono ?_; rintro e w' ⟨rfl, rfl⟩) | (go_at_call 69; refine (sign_str T K E _ HK.out).mono ?_; rintro e w' ⟨rfl, rfl⟩))
              go_region
              all_goals go_wp2
              all_goals exact bodyPost_ret (v := .tuple #[.slice none 0 0, .agg #[.int .i64 E, .int .i64 (p : Int)]]) (by simp [results, Tryz.results34, go_sem, c10, c11, hs1]) rfl ⟨_, rfl, World.ownsRow_nil _ _ _ _, (((hbel.setCell (by show _ ≤ w.heap.size + 1; omega) _).setCell (by show _ ≤ w.heap.size + 1; omega) _).alloc (by simp; omega) _).drew⟩
      · have hfin : lexM s.toList = .ok acc := by
          rw [HL.out, List.drop_eq_nil_of_le (by rw [toList_len]; omega), lexL_nil]; simp [Res.glue]
        have HF := Lib.hid hfin
        have c10 : wr.cell? ⟨w.heap.size + 1, 0, none⟩ = some (.int .i64 0) := by simp [World.cell?, H1.out]
        have c11 : wr.cell? ⟨w.heap.size + 1, 1, none⟩ = some (.int .i64 0) := by simp [World.cell?, H1.out]
        have f10 : wr.frozen? ⟨w.heap.size + 1, 0, none⟩ = false := by simp [World.frozen?, H1.out]
        have f11 : wr.frozen? ⟨w.heap.size + 1, 1, none⟩ = false := by simp [World.frozen?, H1.out]
        clear hfin
        go_wp2
        rw [HF.out]
        refine bodyPost_ret (v := .tuple #[u6, .agg #[.int .i64 0, .int .i64 0]]) (by simp [results, Tryz.results34, go_sem, c10, c11]) rfl ⟨_, rfl, ?_, (hbel.setCell (by show _ ≤ w.heap.size + 1; omega) _).setCell (by show _ ≤ w.heap.size + 1; omega) _⟩
        exact own_base (ownsRow_setCell_below (ownsRow_setCell_below hown (by show w.heap.size + 1 < _; omega) _) (by show w.heap.size + 1 < _; omega) _) (by omega)
  · go_enter Tryz.func34, Tryz.ntmps34
    go_wp2
    have hm : lexM s.toList = .bad 7 (-1) := by unfold lexM; rw [if_pos (by rw [toList_len]; omega)]
    rw [hm]
    exact bodyPost_ret (v := .tuple #[.slice none 0 0, .agg #[.int .i64 7, .int .i64 (-1)]]) (by simp [results, Tryz.results34, go_sem]) rfl ⟨_, rfl, World.ownsRow_nil _ _ _ _, ((Below.refl _ _).alloc (Nat.le_refl _) _).alloc (by simp) _⟩
end Go.Proofs.YtgohhnbdicdenaaGreatDoor.Lx

/- Lists of tokens in memory; the function Same of the document's answer tells whether two are the same. Conditions: both are read as lists of tokens. -/
namespace Go.Proofs.YtgohhnbdicdenaaGreatDoor.Lx
open Go.ChangeShapes Go.WideShapes Go.ChangeAt Go.RowKit
set_option linter.unusedVariables false

/-- A slice value reads as a list of tokens. -/
def Toks (w : World) (v : Value) (l : List Tok) : Prop :=
  ∃ A c, v = .slice A l.length c ∧ l.length ≤ c ∧ c ≤ maxLen ∧ ∀ i t, l[i]? = some t → ∃ g, A = some ⟨g, 0, none⟩ ∧ g < w.heap.size ∧
    w.cell? ⟨g, i * 3, none⟩ = some (.int .i64 t.kind) ∧ w.cell? ⟨g, i * 3 + 1, none⟩ = some (.string (str t.text)) ∧ w.cell? ⟨g, i * 3 + 2, none⟩ = some (.int .i64 (t.at_ : Int))

theorem cells_at (l : List Tok) (i : Nat) (t : Tok) (h : l[i]? = some t) :
    (cellsOf l)[i * 3]? = some (.int .i64 t.kind) ∧ (cellsOf l)[i * 3 + 1]? = some (.string (str t.text)) ∧ (cellsOf l)[i * 3 + 2]? = some (.int .i64 (t.at_ : Int)) := by
  induction l generalizing i with
  | nil => simp at h
  | cons a r ih =>
    cases i with
    | zero => simp at h; subst h; simp [cellsOf, tokCells]
    | succ i =>
      simp at h
      have e : ∀ k, (cellsOf (a :: r))[(i + 1) * 3 + k]? = (cellsOf r)[i * 3 + k]? := fun k => by
        show ([_, _, _] ++ cellsOf r)[(i + 1) * 3 + k]? = _
        rw [List.getElem?_append_right (by simp; omega)]
        congr 1; simp; omega
      have := ih i h
      exact ⟨(e 0).trans this.1, (e 1).trans this.2.1, (e 2).trans this.2.2⟩

theorem Toks.of_own {w : World} {b : Nat} {v : Value} {l : List Tok} (h : w.ownsRow b 54 3 v l.length (cellsOf l)) : Toks w v l := by
  obtain ⟨hl, h0 | ⟨g, cap, cur, rfl, hb, hh, hnc, hcm, hcs, hct⟩⟩ := h
  · obtain ⟨rfl, h0⟩ := h0
    have : l = [] := List.length_eq_zero_iff.1 h0
    subst this
    exact ⟨none, 0, rfl, by simp, by unfold maxLen; omega, fun i t h => by simp at h⟩
  · have h : w.ownsRow b 54 3 (.slice (some ⟨g, 0, none⟩) l.length cap) l.length (cellsOf l) := ⟨hl, .inr ⟨g, cap, cur, rfl, hb, hh, hnc, hcm, hcs, hct⟩⟩
    refine ⟨some ⟨g, 0, none⟩, cap, rfl, hnc, hcm, fun i t hi => ⟨g, rfl, lt_of_block hh, ?_⟩⟩
    have hil : i < l.length := (List.getElem?_eq_some_iff.1 hi).1
    obtain ⟨c0, c1, c2⟩ := cells_at l i t hi
    exact ⟨(h.cellAt _ (by omega)).trans c0, (h.cellAt _ (by omega)).trans c1, (h.cellAt _ (by omega)).trans c2⟩
theorem Toks.below {w w' : World} {B : Nat} {v : Value} {l : List Tok} (h : Toks w v l) (hb : Below B w w') (hB : w.heap.size ≤ B) : Toks w' v l := by
  obtain ⟨A, c, rfl, h1, h2, h3⟩ := h
  refine ⟨A, c, rfl, h1, h2, fun i t hi => ?_⟩
  obtain ⟨g, hg, hlt, c0, c1, c2⟩ := h3 i t hi
  have hs := hb.size
  exact ⟨g, hg, by omega, (hb.cell (by show g < _; omega)).trans c0, (hb.cell (by show g < _; omega)).trans c1, (hb.cell (by show g < _; omega)).trans c2⟩

theorem und42 : Tryz.prog.underlying 54 = some (.struct (Tryz.prog.fieldsOf 54)) := by kernel_rfl
theorem stood42 : Tryz.prog.stoodInHeld 54 = false := by kernel_rfl
theorem guard42 : Tryz.prog.eqGuardType Tryz.prog.depth 54 = false := by kernel_rfl
theorem und35 : Tryz.prog.underlying 33 = some (.struct (Tryz.prog.fieldsOf 33)) := by kernel_rfl
theorem stood35 : Tryz.prog.stoodInHeld 33 = false := by kernel_rfl
theorem guard35 : Tryz.prog.eqGuardType Tryz.prog.depth 33 = false := by kernel_rfl

theorem equal_tok (d : Nat) (K1 K2 P1 P2 : Int) (T1 T2 : ByteArray) (w : World) :
    (Op.equalIn (d + 2) 54 (.agg #[.int .i64 K1, .string T1, .int .i64 P1]) (.agg #[.int .i64 K2, .string T2, .int .i64 P2])).run Tryz.prog w =
      .ok (K1 == K2 && (T1.toList == T2.toList && P1 == P2)) w := by
  rw [run_equalIn_agg w (d + 1) 54 _ _ und42 stood42]
  simp only [Program.fieldsOf, Tryz.underlying54]
  rcases Bool.eq_false_or_eq_true (K1 == K2) with h1 | h1 <;> rcases Bool.eq_false_or_eq_true (T1.toList == T2.toList) with h2 | h2 <;> rcases Bool.eq_false_or_eq_true (P1 == P2) with h3 | h3 <;>
    simp [go_sem, h1, h2, h3, Tryz.underlying3, Tryz.underlying9]
/-- Whether two tokens are the same, of their cells. -/
def tokB (K1 K2 P1 P2 : Int) (T1 T2 : ByteArray) : Bool := K1 == K2 && (T1.toList == T2.toList && P1 == P2)
theorem neq_tok (K1 K2 P1 P2 : Int) (T1 T2 : ByteArray) (w : World) :
    (binOp .neq 54 (.agg #[.int .i64 K1, .string T1, .int .i64 P1]) (.agg #[.int .i64 K2, .string T2, .int .i64 P2])).run Tryz.prog w = .ok (.bool (!tokB K1 K2 P1 P2 T1 T2)) w := by
  rw [run_neq_struct, show (10000 : Nat) = 9998 + 2 from rfl, equal_tok]; rfl
theorem eql_tok (K1 K2 P1 P2 : Int) (T1 T2 : ByteArray) (w : World) :
    (binOp .eql 54 (.agg #[.int .i64 K1, .string T1, .int .i64 P1]) (.agg #[.int .i64 K2, .string T2, .int .i64 P2])).run Tryz.prog w = .ok (.bool (tokB K1 K2 P1 P2 T1 T2)) w := by
  rw [run_eql_struct, show (10000 : Nat) = 9998 + 2 from rfl, equal_tok]; rfl
theorem guard_tok (op : BinOp) (x y : Operand) (xs ys : Array Value) (w : World) : (eqGuard op 54 x y (.agg xs) (.agg ys)).run Tryz.prog w = .ok () w := run_eqGuard_agg w op 54 x y xs ys guard42
theorem equal_fault (d : Nat) (K1 K2 P1 P2 : Int) (w : World) :
    (Op.equalIn (d + 2) 33 (.agg #[.int .i64 K1, .int .i64 P1]) (.agg #[.int .i64 K2, .int .i64 P2])).run Tryz.prog w = .ok (K1 == K2 && P1 == P2) w := by
  rw [run_equalIn_agg w (d + 1) 33 _ _ und35 stood35]
  simp only [Program.fieldsOf, Tryz.underlying33]
  rcases Bool.eq_false_or_eq_true (K1 == K2) with h1 | h1 <;> rcases Bool.eq_false_or_eq_true (P1 == P2) with h3 | h3 <;>
    simp [go_sem, h1, h3, Tryz.underlying3, Tryz.underlying31]
def faultB (K1 K2 P1 P2 : Int) : Bool := K1 == K2 && P1 == P2
theorem eql_fault (K1 K2 P1 P2 : Int) (w : World) :
    (binOp .eql 33 (.agg #[.int .i64 K1, .int .i64 P1]) (.agg #[.int .i64 K2, .int .i64 P2])).run Tryz.prog w = .ok (.bool (faultB K1 K2 P1 P2)) w := by
  rw [run_eql_struct, show (10000 : Nat) = 9998 + 2 from rfl, equal_fault]; rfl
theorem guard_fault (op : BinOp) (x y : Operand) (xs ys : Array Value) (w : World) : (eqGuard op 33 x y (.agg xs) (.agg ys)).run Tryz.prog w = .ok () w := run_eqGuard_agg w op 33 x y xs ys guard35
attribute [local go_sem ↓] neq_tok eql_tok guard_tok eql_fault guard_fault
theorem take_next {α : Type} {l m : List α} {k : Nat} {a : α} (h : l.take k = m.take k) (h1 : l[k]? = some a) (h2 : m[k]? = some a) : l.take (k + 1) = m.take (k + 1) := by
  rw [List.take_add_one, List.take_add_one, h, h1, h2]
end Go.Proofs.YtgohhnbdicdenaaGreatDoor.Lx

/- The functions Same and held and both functions Kids return what the plain functions say. Conditions: slices are read as lists. -/
namespace Go.Proofs.YtgohhnbdicdenaaGreatDoor.Tr
open Go.ChangeShapes Go.WideShapes Go.ChangeAt Go.RowKit
set_option linter.unusedVariables false

theorem und30 : Tryz.prog.underlying 58 = some (.struct (Tryz.prog.fieldsOf 58)) := by kernel_rfl
theorem stood30 : Tryz.prog.stoodInHeld 58 = false := by kernel_rfl
theorem guard30 : Tryz.prog.eqGuardType Tryz.prog.depth 58 = false := by kernel_rfl
/-- Whether two nodes are the same, of their cells. -/
def ndB (o a b c n o' a' b' c' n' : Int) (s s' : ByteArray) : Bool := o == o' && (a == a' && (b == b' && (c == c' && (n == n' && s.toList == s'.toList))))
theorem equal_nd (d : Nat) (o a b c n o' a' b' c' n' : Int) (s s' : ByteArray) (w : World) :
    (Op.equalIn (d + 2) 58 (.agg #[.int .i64 o, .int .i64 a, .int .i64 b, .int .i64 c, .int .i64 n, .string s]) (.agg #[.int .i64 o', .int .i64 a', .int .i64 b', .int .i64 c', .int .i64 n', .string s'])).run Tryz.prog w =
      .ok (ndB o a b c n o' a' b' c' n' s s') w := by
  rw [run_equalIn_agg w (d + 1) 58 _ _ und30 stood30]
  simp only [Program.fieldsOf, Tryz.underlying58]
  unfold ndB
  rcases Bool.eq_false_or_eq_true (o == o') with h1 | h1
  rotate_left
  · simp [go_sem, h1, Tryz.underlying3, Tryz.underlying9]
  rcases Bool.eq_false_or_eq_true (a == a') with h2 | h2
  rotate_left
  · simp [go_sem, h1, h2, Tryz.underlying3, Tryz.underlying9]
  rcases Bool.eq_false_or_eq_true (b == b') with h3 | h3
  rotate_left
  · simp [go_sem, h1, h2, h3, Tryz.underlying3, Tryz.underlying9]
  rcases Bool.eq_false_or_eq_true (c == c') with h4 | h4
  rotate_left
  · simp [go_sem, h1, h2, h3, h4, Tryz.underlying3, Tryz.underlying9]
  rcases Bool.eq_false_or_eq_true (n == n') with h5 | h5
  rotate_left
  · simp [go_sem, h1, h2, h3, h4, h5, Tryz.underlying3, Tryz.underlying9]
  rcases Bool.eq_false_or_eq_true (s.toList == s'.toList) with h6 | h6
  rotate_left
  · simp [go_sem, h1, h2, h3, h4, h5, h6, Tryz.underlying3, Tryz.underlying9]
  simp [go_sem, h1, h2, h3, h4, h5, h6, Tryz.underlying3, Tryz.underlying9]
theorem neq_nd (o a b c n o' a' b' c' n' : Int) (s s' : ByteArray) (w : World) :
    (binOp .neq 58 (.agg #[.int .i64 o, .int .i64 a, .int .i64 b, .int .i64 c, .int .i64 n, .string s]) (.agg #[.int .i64 o', .int .i64 a', .int .i64 b', .int .i64 c', .int .i64 n', .string s'])).run Tryz.prog w = .ok (.bool (!ndB o a b c n o' a' b' c' n' s s')) w := by
  rw [run_neq_struct, show (10000 : Nat) = 9998 + 2 from rfl, equal_nd]; rfl
theorem eql_nd (o a b c n o' a' b' c' n' : Int) (s s' : ByteArray) (w : World) :
    (binOp .eql 58 (.agg #[.int .i64 o, .int .i64 a, .int .i64 b, .int .i64 c, .int .i64 n, .string s]) (.agg #[.int .i64 o', .int .i64 a', .int .i64 b', .int .i64 c', .int .i64 n', .string s'])).run Tryz.prog w = .ok (.bool (ndB o a b c n o' a' b' c' n' s s')) w := by
  rw [run_eql_struct, show (10000 : Nat) = 9998 + 2 from rfl, equal_nd]; rfl
theorem guard_nd (op : BinOp) (x y : Operand) (xs ys : Array Value) (w : World) : (eqGuard op 58 x y (.agg xs) (.agg ys)).run Tryz.prog w = .ok () w := run_eqGuard_agg w op 58 x y xs ys guard30
theorem ndB_str (x y : Nd) : ndB x.op x.a x.b x.c x.n y.op y.a y.b y.c y.n (str x.name) (str y.name) = decide (x = y) := by
  unfold ndB; rw [str_toList, str_toList, Bool.eq_iff_iff]
  obtain ⟨o, a, b, c, n, s⟩ := x
  obtain ⟨o', a', b', c', n', s'⟩ := y
  simp [Nd.mk.injEq]

attribute [local go_sem ↓] neq_nd eql_nd guard_nd
set_option maxHeartbeats 1600000 in
theorem same_any (u v : Value) (l m : List Nd) (w : World) (hu : Nodes w u l) (hv : Nodes w v m) :
    Calls Tryz.prog 37 #[u, v] w fun e w' => e = .returned (.bool (decide (l = m))) ∧ ∃ n, w' = w.drewN n := by
  obtain ⟨A, c, rfl, h1, h2, hA⟩ := hu
  obtain ⟨B, d, rfl, h3, h4, hB⟩ := hv
  unfold maxLen at h2 h4
  have HA := Lib.hid hA
  have HB := Lib.hid hB
  clear hA hB
  by_cases hlm : l.length = m.length
  · have hE : ((l.length : Int) != (m.length : Int)) = false := by simp [hlm]
    have HLM := Lib.hid hlm
    clear hlm
    go_enter Tryz.func37, Tryz.ntmps37
    go_wp2
    go_loopw [5] (fun i wr => ∃ k n : Nat, k ≤ l.length ∧ i = .int .i64 k ∧ wr = w.drewN n ∧ l.take k = m.take k) (fun i _ => l.length - (intOf i).toNat)
    case atStart => exact ⟨0, 0, Nat.zero_le _, rfl, rfl, by simp⟩
    case round =>
      obtain ⟨k, n, hk, rfl, rfl, ht⟩ := hrel
      have HT := Lib.hid ht
      clear ht
      by_cases hlt : k < l.length
      · have hlt2 : k < m.length := by rw [← HLM.out]; exact hlt
        obtain ⟨t1, ht1⟩ : ∃ t, l[k]? = some t := ⟨_, List.getElem?_eq_getElem hlt⟩
        obtain ⟨t2, ht2⟩ : ∃ t, m[k]? = some t := ⟨_, List.getElem?_eq_getElem hlt2⟩
        obtain ⟨g, o, rfl, hg, a0, a1, a2, a3, a4, a5⟩ := HA.out k t1 ht1
        obtain ⟨g', o', rfl, hg', b0, b1, b2, b3, b4, b5⟩ := HB.out k t2 ht2
        have H1 := Lib.hid ht1
        have H2 := Lib.hid ht2
        clear ht1 ht2
        rcases Bool.eq_false_or_eq_true (ndB t1.op t1.a t1.b t1.c t1.n t2.op t2.a t2.b t2.c t2.n (str t1.name) (str t2.name)) with hq | hq
        · have HQ := Lib.hid (show l.take (k + 1) = m.take (k + 1) from take_next HT.out H1.out (by rw [H2.out]; rw [ndB_str] at hq; rw [of_decide_eq_true hq]))
          go_wp2
          go_quiet (fail)
          go_wp2
          go_roundw
          case rel => exact ⟨k + 1, _, by omega, by go_num, rfl, HQ.out⟩
          case measure => simp [intOf]; omega
        · have HQ := Lib.hid (show decide (l = m) = false from decide_eq_false (by
            rintro rfl
            have := H1.out.symm.trans H2.out
            rw [ndB_str] at hq
            exact absurd (Option.some.inj this) (of_decide_eq_false hq)))
          go_wp2
          go_quiet (fail)
          go_wp2
          go_ret
          exact ⟨ret_bool HQ.out.symm, n + nq, by rw [World.drewN_drewN]⟩
      · have HQ := Lib.hid (show decide (l = m) = true from decide_eq_true (by
          have := HT.out
          rw [List.take_of_length_le (by omega), List.take_of_length_le (by rw [← HLM.out]; omega)] at this
          exact this))
        go_wp2
        go_ret
        exact ⟨ret_bool HQ.out.symm, n, rfl⟩
  · have hE : ((l.length : Int) != (m.length : Int)) = true := by rw [bne_iff_ne]; omega
    have e : decide (l = m) = false := decide_eq_false (by rintro rfl; exact hlm rfl)
    rw [e]
    go_enter Tryz.func37, Tryz.ntmps37
    go_wp2
    go_ret
    exact ⟨rfl, 0, rfl⟩
end Go.Proofs.YtgohhnbdicdenaaGreatDoor.Tr

/- A reader of layer expr in memory; contracts of its functions At, token and text. Conditions: the tokens are read as a list. -/
namespace Go.Proofs.YtgohhnbdicdenaaGreatDoor.Ex
open Go.ChangeShapes Go.WideShapes Go.ChangeAt Go.RowKit
open Go.Proofs.YtgohhnbdicdenaaGreatDoor.Tr (str ret_bool ret_int Bytes Nd)
set_option linter.unusedVariables false
set_option linter.unusedSimpArgs false

/-- A slice reads as tokens that do not lie in a block. -/
def TokOff (w : World) (b : Nat) (v : Value) (l : List Tok) : Prop :=
  ∃ A c, v = .slice A l.length c ∧ l.length ≤ c ∧ c ≤ maxLen ∧ ∀ i t, l[i]? = some t → ∃ g, A = some ⟨g, 0, none⟩ ∧ g < b ∧ g < w.heap.size ∧
    w.cell? ⟨g, i * 3, none⟩ = some (.int .i64 t.kind) ∧ w.cell? ⟨g, i * 3 + 1, none⟩ = some (.string (str t.text)) ∧ w.cell? ⟨g, i * 3 + 2, none⟩ = some (.int .i64 (t.at_ : Int))
theorem TokOff.keep {w w' : World} {b : Nat} {v : Value} {l : List Tok} (h : TokOff w b v l) (hs : w.heap.size ≤ w'.heap.size) (hk : ∀ g, g < b → g < w.heap.size → w'.heap[g]? = w.heap[g]?) : TokOff w' b v l := by
  obtain ⟨A, c, rfl, h1, h2, h3⟩ := h
  refine ⟨A, c, rfl, h1, h2, fun i t hi => ?_⟩
  obtain ⟨g, hg, hne, hlt, c0, c1, c2⟩ := h3 i t hi
  have q : ∀ k, w'.cell? ⟨g, k, none⟩ = w.cell? ⟨g, k, none⟩ := fun k => World.cell?_of_block (w := w) (a := ⟨g, k, none⟩) (hk g hne hlt)
  exact ⟨g, hg, hne, by omega, (q _).trans c0, (q _).trans c1, (q _).trans c2⟩
theorem TokOff.nil (w : World) (b : Nat) : TokOff w b (.slice none 0 0) [] := ⟨none, 0, rfl, by simp, by unfold maxLen; omega, fun i t h => by simp at h⟩

/-- The map of a level's operators. -/
def MapAt (w : World) (b n : Nat) (v : Value) : Prop := ∃ m es k, v = .map (some m) ∧ m < b ∧ m < w.heap.size ∧ w.heap[m]? = some (.map es k) ∧ es.toList.map (fun e => (e.key, e.val)) = (signsM n).map (fun x => (.string (str x.1), .agg #[.int .i64 x.2.1, .bool x.2.2]))
theorem MapAt.keep {w w' : World} {b n : Nat} {v : Value} (h : MapAt w b n v) (hs : w.heap.size ≤ w'.heap.size) (hk : ∀ g, g < b → g < w.heap.size → w'.heap[g]? = w.heap[g]?) : MapAt w' b n v := by
  obtain ⟨m, es, k, rfl, h1, h2, h3, h4⟩ := h
  exact ⟨m, es, k, rfl, h1, by omega, (hk m h1 h2).trans h3, h4⟩
/-- The variable of the error of a number's form holds an error or none. -/
def VarAt (w : World) (b : Nat) : Prop := 5 < b ∧ 5 < w.heap.size ∧ ∃ ev, w.cell? ⟨5, 0, none⟩ = some ev ∧ (ev = .nilIface ∨ ∃ te pe, ev = .iface te pe)
theorem VarAt.keep {w w' : World} {b : Nat} (h : VarAt w b) (hs : w.heap.size ≤ w'.heap.size) (hk : ∀ g, g < b → g < w.heap.size → w'.heap[g]? = w.heap[g]?) : VarAt w' b := by
  obtain ⟨h1, h2, ev, h3, h4⟩ := h
  exact ⟨h1, by omega, ev, (World.cell?_of_block (w := w) (a := ⟨5, 0, none⟩) (hk 5 h1 h2)).trans h3, h4⟩

def rdCells (lv : Value) (mv : Nat → Value) (r : Rd) : Array Value :=
  #[lv, .int .i64 (r.next : Int), .int .i64 (r.begun : Int), .int .i64 r.code, .int .i64 r.at_, mv 0, mv 1, mv 2, mv 3, mv 4, mv 5, mv 6, mv 7, mv 8, mv 9]
structure RdAt (w : World) (b : Nat) (mv : Nat → Value) (r : Rd) : Prop where
  blk : ∃ lv, w.heap[b]? = some (.cells (rdCells lv mv r) 165 (0, 0)) ∧ TokOff w b lv r.l
  maps : ∀ n, 1 ≤ n → n ≤ 9 → MapAt w b n (mv n)
  var : VarAt w b
theorem RdAt.keep {w w' : World} {b : Nat} {mv : Nat → Value} {r : Rd} (h : RdAt w b mv r) (hs : w.heap.size ≤ w'.heap.size) (hk : ∀ g, g < b → g < w.heap.size → w'.heap[g]? = w.heap[g]?) (hb : w'.heap[b]? = w.heap[b]?) : RdAt w' b mv r := by
  obtain ⟨lv, h1, h2⟩ := h.blk
  exact ⟨⟨lv, hb.trans h1, h2.keep hs hk⟩, fun n h3 h4 => (h.maps n h3 h4).keep hs hk, h.var.keep hs hk⟩
theorem RdAt.lt {w : World} {b : Nat} {mv : Nat → Value} {r : Rd} (h : RdAt w b mv r) : b < w.heap.size := by
  obtain ⟨lv, h1, _⟩ := h.blk; exact lt_of_block h1
theorem RdAt.below {w w' : World} {b : Nat} {mv : Nat → Value} {r : Rd} (h : RdAt w b mv r) (hb : Below w.heap.size w w') : RdAt w' b mv r :=
  h.keep hb.size (fun g _ hg => hb.block g hg) (hb.block b h.lt)
/-- What turns a reader alone. -/
structure RdTo (w w' : World) (b : Nat) (mv : Nat → Value) (r' : Rd) : Prop where
  rd : RdAt w' b mv r'
  grown : w.grownBy w' (some b)
theorem RdTo.below {w w1 w' : World} {b : Nat} {mv : Nat → Value} {r' : Rd} (hb : Below w.heap.size w w1) (hlt : b < w.heap.size) (h : RdTo w1 w' b mv r') : RdTo w w' b mv r' :=
  ⟨h.rd, ⟨h.grown.os.trans hb.os, h.grown.tape.trans hb.tape, h.grown.output.trans hb.output, Nat.le_trans hb.size h.grown.size, fun i hi hne => (h.grown.block i (Nat.lt_of_lt_of_le hi hb.size) hne).trans (hb.block i hi)⟩⟩
theorem RdTo.refl {w : World} {b : Nat} {mv : Nat → Value} {r : Rd} (h : RdAt w b mv r) : RdTo w w b mv r := ⟨h, World.grownBy.refl w _⟩
theorem RdTo.of_below {w w' : World} {b : Nat} {mv : Nat → Value} {r : Rd} (h : RdAt w b mv r) (hb : Below w.heap.size w w') : RdTo w w' b mv r :=
  ⟨h.below hb, ⟨hb.os, hb.tape, hb.output, hb.size, fun i hi _ => hb.block i hi⟩⟩
theorem RdTo.trans {w w1 w2 : World} {b : Nat} {mv : Nat → Value} {r1 r2 : Rd} (h : RdTo w w1 b mv r1) (k : RdTo w1 w2 b mv r2) : RdTo w w2 b mv r2 :=
  ⟨k.rd, ⟨k.grown.os.trans h.grown.os, k.grown.tape.trans h.grown.tape, k.grown.output.trans h.grown.output, Nat.le_trans h.grown.size k.grown.size, fun i hi hne => (k.grown.block i (Nat.lt_of_lt_of_le hi h.grown.size) hne).trans (h.grown.block i hi hne)⟩⟩
theorem RdTo.then_below {w w1 w2 : World} {b : Nat} {mv : Nat → Value} {r1 : Rd} (h : RdTo w w1 b mv r1) (k : Below w1.heap.size w1 w2) : RdTo w w2 b mv r1 := h.trans (RdTo.of_below h.rd k)

theorem rd_cell {w : World} {b : Nat} {lv : Value} {mv : Nat → Value} {r : Rd} (h : w.heap[b]? = some (.cells (rdCells lv mv r) 165 (0, 0))) (k : Nat) : w.cell? ⟨b, k, none⟩ = (rdCells lv mv r)[k]? := by
  simp [World.cell?, h]
theorem rd_free {w : World} {b : Nat} {lv : Value} {mv : Nat → Value} {r : Rd} (h : w.heap[b]? = some (.cells (rdCells lv mv r) 165 (0, 0))) (k : Nat) : w.frozen? ⟨b, k, none⟩ = false := by
  simp [World.frozen?, h]

/-- A part in memory: its nodes lie in a row of nodes. -/
def PtW (w : World) (x : Value × Pt) : Prop := Tr.Nodes w x.1 x.2.e ∧ (0 < x.2.e.length → ∀ g o n c, x.1 = .slice (some ⟨g, o, none⟩) n c → ∃ (cs : Array Value) (f : Nat × Nat), w.heap[g]? = some (Obj.cells cs 58 f))
theorem PtW.keep {w w' : World} {x : Value × Pt} (h : PtW w x) (hs : w.heap.size ≤ w'.heap.size) (hk : ∀ g : Nat, (∃ (cs : Array Value) (f : Nat × Nat), w.heap[g]? = some (Obj.cells cs 58 f)) → w'.heap[g]? = w.heap[g]?) : PtW w' x := by
  obtain ⟨⟨A, c, e, h1, h2, h3⟩, h4⟩ := h
  refine ⟨⟨A, c, e, h1, h2, fun i t hi => ?_⟩, fun h0 g o n c e => ?_⟩
  · obtain ⟨g, o, rfl, hlt, c0, c1, c2, c3, c4, c5⟩ := h3 i t hi
    have q : ∀ k, w'.cell? ⟨g, k, none⟩ = w.cell? ⟨g, k, none⟩ := fun k => World.cell?_of_block (w := w) (a := ⟨g, k, none⟩) (hk g (h4 (by have := (List.getElem?_eq_some_iff.1 hi).1; omega) g o _ _ e))
    exact ⟨g, o, rfl, by omega, (q _).trans c0, (q _).trans c1, (q _).trans c2, (q _).trans c3, (q _).trans c4, (q _).trans c5⟩
  · obtain ⟨cs, f, hc⟩ := h4 h0 g o n c e
    exact ⟨cs, f, (hk g ⟨cs, f, hc⟩).trans hc⟩
theorem PtW.below {w w' : World} {x : Value × Pt} (h : PtW w x) (hb : Below w.heap.size w w') : PtW w' x :=
  h.keep hb.size (fun g ⟨_, _, hc⟩ => hb.block g (lt_of_block hc))
theorem PtW.set {w : World} {x : Value × Pt} (h : PtW w x) {B k T : Nat} {cs : Array Value} {f : Nat × Nat} (hB : w.heap[B]? = some (.cells cs T f)) (hT : T ≠ 58) (v : Value) : PtW (w.setCell ⟨B, k, none⟩ v) x :=
  h.keep (by simp [World.setCell]) (fun g ⟨cs', f', hc⟩ => Below.heap_setCell _ _ _ _ (by
    rintro rfl
    rw [hB] at hc
    simp only [Option.some.injEq, Obj.cells.injEq] at hc
    exact hT hc.2.1))
theorem PtW.grown {w w' : World} {x : Value × Pt} {b : Nat} {mv : Nat → Value} {r : Rd} (h : PtW w x) (hr : RdAt w b mv r) (hg : w.grownBy w' (some b)) : PtW w' x :=
  h.keep hg.size (fun g ⟨cs, f, hc⟩ => hg.block g (lt_of_block hc) (fun e => by
    obtain ⟨lv, h1, _⟩ := hr.blk
    injection e with e
    subst e
    rw [h1] at hc
    simp only [Option.some.injEq, Obj.cells.injEq] at hc
    exact absurd hc.2.1 (by decide)))
theorem PtW.own {w : World} {b : Nat} {v : Value} {p : Pt} (h : w.ownsRow b 58 6 v p.e.length (Tr.ndsOf p.e)) : PtW w (v, p) := by
  refine ⟨Tr.Nodes.of_own h, fun h0 g o n c e => ?_⟩
  obtain ⟨hl, h0' | ⟨g', cap, cur, hv, hb, hh, _⟩⟩ := h
  · simp only at e; rw [h0'.1] at e; cases e
  · simp only at e
    rw [hv] at e
    simp only [Value.slice.injEq, Option.some.injEq, Addr.mk.injEq] at e
    obtain ⟨⟨rfl, _⟩, _⟩ := e
    exact ⟨_, _, hh⟩
theorem PtW.nil (w : World) (p : Pt) (h : p.e = []) : PtW w (.slice none 0 0, p) := by
  refine ⟨?_, fun h0 => by simp only [h] at h0; simp at h0⟩
  simp only [h]
  exact ⟨none, 0, rfl, by simp, by unfold maxLen; omega, fun i t h => by simp at h⟩
theorem below_new (w : World) (o : Obj) : Below w.heap.size w (w.alloc o) := (Below.refl _ _).alloc (Nat.le_refl _) _

set_option maxHeartbeats 800000 in
theorem at_any (v : Value) (l : List Tok) (b i : Nat) (w : World) (hv : TokOff w b v l) (hi : i ≤ 1000000) :
    Calls Tryz.prog 98 #[v, .int .i64 (i : Int)] w fun e w' => e = .returned (.int .i64 (atM l i)) ∧ w = w' := by
  obtain ⟨A, c, rfl, h1, h2, hA⟩ := hv
  unfold maxLen at h2
  have HA := Lib.hid hA
  clear hA
  have d0 : decide ((i : Int) < 0) = false := by simp
  by_cases hlt : i < l.length
  · obtain ⟨t, ht⟩ : ∃ t, l[i]? = some t := ⟨_, List.getElem?_eq_getElem hlt⟩
    obtain ⟨g, rfl, _, hg, c0, c1, c2⟩ := HA.out i t ht
    have HT := Lib.hid (show atM l i = (t.at_ : Int) by unfold atM; rw [ht])
    clear ht
    go_enter Tryz.func98, Tryz.ntmps98
    go_wp2
    go_ret
    exact ⟨ret_int HT.out.symm, rfl⟩
  · have HT := Lib.hid (show atM l i = -1 by unfold atM; rw [List.getElem?_eq_none (by omega)])
    go_enter Tryz.func98, Tryz.ntmps98
    go_wp2
    go_ret
    exact ⟨ret_int HT.out.symm, rfl⟩
/-- What the next token is told as. -/
def TokPost (w : World) (t : Tok) (ok : Bool) (e : Ending) (w' : World) : Prop :=
  e = .returned (.tuple #[.agg #[.int .i64 t.kind, .string (str t.text), .int .i64 (t.at_ : Int)], .bool ok]) ∧ Below w.heap.size w w'
theorem three_below (w : World) (o : Obj) (n : Nat) (u0 u1 u2 : Value) : Below w.heap.size w (((((w.alloc o).drewN n).setCell ⟨w.heap.size, 0, none⟩ u0).setCell ⟨w.heap.size, 1, none⟩ u1).setCell ⟨w.heap.size, 2, none⟩ u2) :=
  (((Tr.below_drewN (below_new w o) n).setCell (Nat.le_refl _) _).setCell (Nat.le_refl _) _).setCell (Nat.le_refl _) _
set_option maxHeartbeats 1600000 in
theorem token_any (b : Nat) (mv : Nat → Value) (r : Rd) (w : World) (hr : RdAt w b mv r) (hn : r.next ≤ 1000000) :
    Calls Tryz.prog 163 #[.pointer (some ⟨b, 0, none⟩)] w (TokPost w r.cur (decide (r.next < r.l.length))) := by
  obtain ⟨lv, hb, A, c, rfl, h1, h2, hA⟩ := hr.blk
  unfold maxLen at h2
  have hlt := hr.lt
  have c0 : w.cell? ⟨b, 0, none⟩ = some (.slice A r.l.length c) := rd_cell hb 0
  have c1 : w.cell? ⟨b, 1, none⟩ = some (.int .i64 (r.next : Int)) := rd_cell hb 1
  have HA := Lib.hid hA
  clear hA hr hb
  have hbn : b ≠ w.heap.size := by omega
  have d0 : decide ((r.next : Int) < 0) = false := by simp
  by_cases hl : r.next < r.l.length
  · obtain ⟨t, ht⟩ : ∃ t, r.l[r.next]? = some t := ⟨_, List.getElem?_eq_getElem hl⟩
    obtain ⟨g, rfl, _, hg, e0, e1, e2⟩ := HA.out _ t ht
    have hgn : g ≠ w.heap.size := by omega
    have HT := Lib.hid (show r.cur = t by unfold Rd.cur; rw [ht]; rfl)
    have HO := Lib.hid (show decide (r.next < r.l.length) = true by simp [hl])
    clear ht
    obtain ⟨K, T, P⟩ := t
    simp only at e0 e1 e2
    rw [HT.out, HO.out]
    go_enter Tryz.func163, Tryz.ntmps163
    go_wp2
    go_quiet (fail)
    go_wp2
    go_region
    go_wp2
    exact bodyPost_ret (v := .tuple #[.agg #[.int .i64 K, .string (str T), .int .i64 (P : Int)], .bool true]) (by simp [results, Tryz.results163, go_sem]) rfl ⟨rfl, three_below _ _ _ _ _ _⟩
  · have HT := Lib.hid (show r.cur = noTok by unfold Rd.cur; rw [List.getElem?_eq_none (by omega)]; rfl)
    have HO := Lib.hid (show decide (r.next < r.l.length) = false by simp [hl])
    have d1 : decide (r.l.length ≤ r.next) = true := by simp; omega
    rw [HT.out, HO.out]
    go_enter Tryz.func163, Tryz.ntmps163
    go_wp2
    go_quiet (fail)
    go_wp2
    exact bodyPost_ret (v := .tuple #[.agg #[.int .i64 0, .string ⟨#[]⟩, .int .i64 0], .bool false]) (by simp [results, Tryz.results163, go_sem]) rfl ⟨rfl, three_below _ _ _ _ _ _⟩

/-- What the next token's text is told as. -/
def TextPost (w : World) (t : Bytes) (ok : Bool) (e : Ending) (w' : World) : Prop :=
  e = .returned (.tuple #[.string (str t), .bool ok]) ∧ Below w.heap.size w w'
theorem mid_text {w w1 : World} {n : Nat} (hb : Below w.heap.size w w1) (o : Obj) : Below w.heap.size w ((w1.alloc o).drewN n) :=
  Tr.below_drewN (hb.alloc hb.size o) n
set_option maxHeartbeats 1600000 in
theorem text_any (b : Nat) (mv : Nat → Value) (r : Rd) (w : World) (hr : RdAt w b mv r) (hn : r.next ≤ 1000000) :
    Calls Tryz.prog 162 #[.pointer (some ⟨b, 0, none⟩)] w (TextPost w r.cur.text r.ws) := by
  have HR := Lib.hid hr
  have HW := Lib.hid (show r.ws = (decide (r.next < r.l.length) && (r.cur.kind == 3 || r.cur.kind == 4)) from rfl)
  clear hr
  obtain ⟨t, ht⟩ : ∃ t, r.cur = t := ⟨_, rfl⟩
  obtain ⟨ok, hok⟩ : ∃ ok, decide (r.next < r.l.length) = ok := ⟨_, rfl⟩
  have HT := Lib.hid ht
  have HOK := Lib.hid hok
  rw [ht, hok] at HW
  rw [ht, HW.out]
  have HC := token_any b mv r w HR.out hn
  rw [ht, hok] at HC
  clear ht hok HW
  obtain ⟨K, T, P⟩ := t
  simp only
  have HC' := Lib.hid HC
  clear HC
  cases ok with
  | false =>
    go_enter Tryz.func162, Tryz.ntmps162
    go_wp2_with fail
    refine HC'.out.mono ?_
    rintro e w1 ⟨rfl, hb⟩
    have HB := Lib.hid hb
    clear hb
    go_wp2
    go_quiet (fail)
    go_wp2
    go_ret2
    exact ⟨rfl, mid_text HB.out _⟩
  | true =>
    rcases Bool.eq_false_or_eq_true (K == 3) with h3 | h3
    all_goals rcases Bool.eq_false_or_eq_true (K == 4) with h4 | h4
    all_goals
      have HE := Lib.hid (show (true && (K == 3 || K == 4)) = (K == 3 || K == 4) from rfl)
      rw [HE.out, h3, h4]
      go_enter Tryz.func162, Tryz.ntmps162
      go_wp2_with fail
      refine HC'.out.mono ?_
      rintro e w1 ⟨rfl, hb⟩
      have HB := Lib.hid hb
      clear hb
      go_wp2
      go_quiet (fail)
      go_wp2
      go_ret2
      exact ⟨rfl, mid_text HB.out _⟩
end Go.Proofs.YtgohhnbdicdenaaGreatDoor.Ex

/- Contracts of a reader's functions take, fail, need and takeSign. Conditions: a reader lies in memory. -/
namespace Go.Proofs.YtgohhnbdicdenaaGreatDoor.Ex
open Go.ChangeShapes Go.WideShapes Go.ChangeAt Go.RowKit
open Go.Proofs.YtgohhnbdicdenaaGreatDoor.Tr (str ret_bool ret_int Bytes Nd)
set_option linter.unusedVariables false
set_option linter.unusedSimpArgs false

theorem setObj_heap {w : World} {b k : Nat} {cs : Array Value} {t : TypeId} {v : Value} (h : w.heap[b]? = some (.cells cs t (0, 0))) (hk : k < cs.size) : (w.setCell ⟨b, k, none⟩ v).heap[b]? = some (.cells (cs.setIfInBounds k v) t (0, 0)) := by
  have hl := lt_of_block h
  unfold World.setCell
  simp only [Array.getElem?_modify]
  simp only [if_true, h]; rfl
/-- A field of the reader is turned. -/
theorem RdAt.set {w : World} {b : Nat} {mv : Nat → Value} {r r' : Rd} {k : Nat} {v : Value} (h : RdAt w b mv r) (hk : k < 15) (hl : r'.l = r.l) (hc : ∀ lv, (rdCells lv mv r).setIfInBounds k v = rdCells lv mv r') : RdTo w (w.setCell ⟨b, k, none⟩ v) b mv r' := by
  obtain ⟨lv, h1, h2⟩ := h.blk
  have hlt := h.lt
  have hs : w.heap.size = (w.setCell ⟨b, k, none⟩ v).heap.size := by simp [World.setCell]
  have ho : ∀ g, g ≠ b → (w.setCell ⟨b, k, none⟩ v).heap[g]? = w.heap[g]? := fun g hg => Below.heap_setCell w ⟨b, k, none⟩ v g (by simpa using hg)
  refine ⟨⟨⟨lv, ?_, ?_⟩, fun n h3 h4 => (h.maps n h3 h4).keep (by omega) (fun g hg _ => ho g (Nat.ne_of_lt hg)), h.var.keep (by omega) (fun g hg _ => ho g (Nat.ne_of_lt hg))⟩, ⟨rfl, rfl, rfl, by omega, fun i _ hne => ho i (fun e => hne (by rw [e]))⟩⟩
  · rw [setObj_heap h1 (by simpa [rdCells] using hk), hc]
  · rw [hl]; exact h2.keep (by omega) (fun g hg _ => ho g (Nat.ne_of_lt hg))
theorem RdAt.advTo {w : World} {b : Nat} {mv : Nat → Value} {r : Rd} (h : RdAt w b mv r) : RdTo w (w.setCell ⟨b, 1, none⟩ (.int .i64 ((r.next : Int) + 1))) b mv r.adv :=
  h.set (by decide) rfl (fun lv => by simp [rdCells, Rd.adv])

/-- What a function leaves that tells a Bool and turns a reader. -/
def BoolTo (w : World) (b : Nat) (mv : Nat → Value) (B : Bool) (r' : Rd) (e : Ending) (w' : World) : Prop := e = .returned (.bool B) ∧ RdTo w w' b mv r'
set_option maxHeartbeats 1600000 in
theorem take_any (b : Nat) (mv : Nat → Value) (r : Rd) (s : Bytes) (w : World) (hr : RdAt w b mv r) (hn : r.next ≤ 1000000) :
    Calls Tryz.prog 164 #[.pointer (some ⟨b, 0, none⟩), .string (str s)] w (BoolTo w b mv (r.isB s) (if r.isB s then r.adv else r)) := by
  have HR := Lib.hid hr
  have hlt := hr.lt
  have HC := Lib.hid (text_any b mv r w hr hn)
  clear hr
  obtain ⟨B, hB⟩ : ∃ B, r.isB s = B := ⟨_, rfl⟩
  have HB := Lib.hid hB
  rw [hB]
  clear hB
  obtain ⟨ok, hok⟩ : ∃ ok, r.ws = ok := ⟨_, rfl⟩
  obtain ⟨t, ht⟩ : ∃ t, r.cur.text = t := ⟨_, rfl⟩
  have HE : Hid (r.isB s = (ok && t == s)) := Lib.hid (by unfold Rd.isB; rw [hok, ht])
  rw [hok, ht] at HC
  clear hok ht
  have HO : Hid (∀ w1, Below w.heap.size w w1 → ∃ lv, w1.cell? ⟨b, 1, none⟩ = some (.int .i64 (r.next : Int)) ∧ w1.frozen? ⟨b, 1, none⟩ = false) := Lib.hid (fun w1 hb => by
    obtain ⟨lv, h1, _⟩ := (HR.out.below hb).blk
    exact ⟨lv, rd_cell h1 1, rd_free h1 1⟩)
  cases ok with
  | false =>
    have HE2 : Hid (B = false) := Lib.hid (by rw [← HB.out, HE.out]; rfl)
    rw [HE2.out]
    go_enter Tryz.func164, Tryz.ntmps164
    go_wp2_with fail
    refine HC.out.mono ?_
    rintro e w1 ⟨rfl, hb⟩
    have HBL := Lib.hid hb
    clear hb
    go_wp2
    go_ret
    exact ⟨rfl, RdTo.of_below HR.out HBL.out⟩
  | true =>
    by_cases hts : t = s
    · have HE2 : Hid (B = true) := Lib.hid (by rw [← HB.out, HE.out, hts]; simp)
      rw [HE2.out]
      subst hts
      have hd : (!(str t).toList == (str t).toList) = false := by simp
      go_enter Tryz.func164, Tryz.ntmps164
      go_wp2_with fail
      refine HC.out.mono ?_
      rintro e w1 ⟨rfl, hb⟩
      obtain ⟨_, c1, f1⟩ := HO.out w1 hb
      have HBL := Lib.hid hb
      clear hb
      go_wp2
      go_ret
      exact ⟨rfl, RdTo.below HBL.out hlt (HR.out.below HBL.out).advTo⟩
    · have HE2 : Hid (B = false) := Lib.hid (by rw [← HB.out, HE.out]; simpa using hts)
      rw [HE2.out]
      have hd : (!(str t).toList == (str s).toList) = true := by simp [Tr.str_toList, hts]
      clear hts
      go_enter Tryz.func164, Tryz.ntmps164
      go_wp2_with fail
      refine HC.out.mono ?_
      rintro e w1 ⟨rfl, hb⟩
      have HBL := Lib.hid hb
      clear hb
      go_wp2
      go_ret
      exact ⟨rfl, RdTo.of_below HR.out HBL.out⟩

theorem TokOff.new {w : World} {b : Nat} {v : Value} {l : List Tok} (h : TokOff w b v l) (o : Obj) : TokOff (w.alloc o).drew b v l :=
  h.keep (w' := (w.alloc o).drew) (by show _ ≤ (w.alloc o).heap.size; simp) (fun g _ hg => Below.heap_alloc w o g hg)
theorem RdAt.cutTo {w : World} {b : Nat} {mv : Nat → Value} {r : Rd} (h : RdAt w b mv r) :
    RdTo w (w.setCell ⟨b, 0, none⟩ (.slice none 0 0)) b mv ⟨[], r.next, r.begun, r.code, r.at_⟩ := by
  obtain ⟨lv, h1, h2⟩ := h.blk
  have hlt := h.lt
  have hs : w.heap.size = (w.setCell ⟨b, 0, none⟩ (.slice none 0 0)).heap.size := by simp [World.setCell]
  have ho : ∀ g, g ≠ b → (w.setCell ⟨b, 0, none⟩ (.slice none 0 0)).heap[g]? = w.heap[g]? := fun g hg => Below.heap_setCell w ⟨b, 0, none⟩ _ g (by simpa using hg)
  refine ⟨⟨⟨.slice none 0 0, ?_, TokOff.nil _ _⟩, fun n h3 h4 => (h.maps n h3 h4).keep (by omega) (fun g hg _ => ho g (Nat.ne_of_lt hg)), h.var.keep (by omega) (fun g hg _ => ho g (Nat.ne_of_lt hg))⟩, ⟨rfl, rfl, rfl, by omega, fun i _ hne => ho i (fun e => hne (by rw [e]))⟩⟩
  rw [setObj_heap h1 (by simp [rdCells])]; simp [rdCells]
theorem RdAt.failTo {w : World} {b : Nat} {mv : Nat → Value} {r : Rd} (h : RdAt w b mv r) (e : Int) (h0 : r.code = 0) :
    RdTo w (((w.setCell ⟨b, 3, none⟩ (.int .i64 e)).setCell ⟨b, 4, none⟩ (.int .i64 (atM r.l r.next))).setCell ⟨b, 0, none⟩ (.slice none 0 0)) b mv (r.fail e) := by
  have t1 := h.set (r' := ⟨r.l, r.next, r.begun, e, r.at_⟩) (k := 3) (v := .int .i64 e) (by decide) rfl (fun lv => by simp [rdCells])
  have t2 := t1.rd.set (r' := ⟨r.l, r.next, r.begun, e, atM r.l r.next⟩) (k := 4) (v := .int .i64 (atM r.l r.next)) (by decide) rfl (fun lv => by simp [rdCells])
  have t3 := t2.rd.cutTo
  have := (t1.trans t2).trans t3
  unfold Rd.fail; rw [if_pos h0]; exact this
theorem RdAt.endTo {w : World} {b : Nat} {mv : Nat → Value} {r : Rd} (h : RdAt w b mv r) (e : Int) (h0 : r.code ≠ 0) :
    RdTo w (w.setCell ⟨b, 0, none⟩ (.slice none 0 0)) b mv (r.fail e) := by
  unfold Rd.fail; rw [if_neg h0]; exact h.cutTo
theorem below_drew1 (w : World) (o : Obj) : Below w.heap.size w (w.alloc o).drew := Tr.below_drewN (n := 1) (below_new w o)
/-- What a reader's end leaves: a part that is none. -/
def PartTo (w : World) (b : Nat) (mv : Nat → Value) (p : Pt) (r' : Rd) (e : Ending) (w' : World) : Prop :=
  ∃ ev, e = .returned (.agg #[ev, .int .i64 (p.nodes : Int), .int .i64 (p.deep : Int)]) ∧ PtW w' (ev, p) ∧ RdTo w w' b mv r'
set_option maxHeartbeats 1600000 in
theorem fail_any (b : Nat) (mv : Nat → Value) (r : Rd) (e : Int) (w : World) (hr : RdAt w b mv r) (hn : r.next ≤ 1000000) :
    Calls Tryz.prog 154 #[.pointer (some ⟨b, 0, none⟩), .int .i64 e] w (PartTo w b mv Pt.zero (r.fail e)) := by
  have HR := Lib.hid hr
  have hlt := hr.lt
  obtain ⟨lv, h1, h2⟩ := hr.blk
  have c0 : w.cell? ⟨b, 0, none⟩ = some lv := rd_cell h1 0
  have c1 : w.cell? ⟨b, 1, none⟩ = some (.int .i64 (r.next : Int)) := rd_cell h1 1
  have c3 : w.cell? ⟨b, 3, none⟩ = some (.int .i64 r.code) := rd_cell h1 3
  have c4 : w.cell? ⟨b, 4, none⟩ = some (.int .i64 r.at_) := rd_cell h1 4
  have f0 : w.frozen? ⟨b, 0, none⟩ = false := rd_free h1 0
  have f3 : w.frozen? ⟨b, 3, none⟩ = false := rd_free h1 3
  have f4 : w.frozen? ⟨b, 4, none⟩ = false := rd_free h1 4
  have H2 := Lib.hid h2
  clear hr h1 h2
  have hbn : b ≠ w.heap.size := by omega
  by_cases h0 : r.code = 0
  · have hd : (r.code == 0) = true := by simpa using h0
    have H0 := Lib.hid h0
    clear h0
    go_enter Tryz.func154, Tryz.ntmps154
    go_wp2
    go_region_with ((go_at_call 98; refine (at_any _ r.l b _ _ (H2.out.new _) hn).mono ?_; rintro e w' ⟨rfl, rfl⟩))
    all_goals go_wp2
    all_goals exact bodyPost_ret (v := .agg #[.slice none 0 0, .int .i64 0, .int .i64 0]) (by simp [results, Tryz.results154, go_sem]) rfl ⟨_, rfl, PtW.nil _ _ rfl, (HR.out.failTo e H0.out).then_below (below_drew1 _ _)⟩
  · have hd : (r.code == 0) = false := by simpa using h0
    have H0 := Lib.hid h0
    clear h0
    go_enter Tryz.func154, Tryz.ntmps154
    go_wp2
    exact bodyPost_ret (v := .agg #[.slice none 0 0, .int .i64 0, .int .i64 0]) (by simp [results, Tryz.results154, go_sem]) rfl ⟨_, rfl, PtW.nil _ _ rfl, (HR.out.endTo e H0.out).then_below (below_new _ _)⟩

set_option maxHeartbeats 800000 in
theorem need_any (b : Nat) (mv : Nat → Value) (r : Rd) (s : Bytes) (w : World) (hr : RdAt w b mv r) (hn : r.next ≤ 1000000) :
    Calls Tryz.prog 165 #[.pointer (some ⟨b, 0, none⟩), .string (str s)] w (fun e w' => e = .returned (.tuple #[]) ∧ RdTo w w' b mv (r.need s)) := by
  have HC := Lib.hid (take_any b mv r s w hr hn)
  have HR := Lib.hid hr
  have HN := Lib.hid (show r.need s = if r.isB s then r.adv else r.fail 5 from rfl)
  clear hr
  rw [HN.out]
  obtain ⟨B, hB⟩ : ∃ B, r.isB s = B := ⟨_, rfl⟩
  rw [hB] at HC ⊢
  clear hB
  cases B with
  | true =>
    go_enter Tryz.func165, Tryz.ntmps165
    go_wp2_with fail
    refine HC.out.mono ?_
    rintro e w1 ⟨rfl, hb⟩
    have HB := Lib.hid hb
    clear hb
    go_wp2
    go_end0
    exact ⟨rfl, HB.out⟩
  | false =>
    go_enter Tryz.func165, Tryz.ntmps165
    go_wp2_with fail
    refine HC.out.mono ?_
    rintro e w1 ⟨rfl, hb⟩
    have HB := Lib.hid hb
    clear hb
    go_wp2_with fail
    refine (fail_any b mv r 5 _ HB.out.rd hn).mono ?_
    rintro e w2 ⟨ev, rfl, -, ht⟩
    have HT := Lib.hid (HB.out.trans ht)
    clear ht
    go_wp2
    go_end0
    exact ⟨rfl, HT.out⟩

theorem findNow_map : ∀ (es : List MapEntry) (L : List (Bytes × Int × Bool)) (s : Bytes) (i : Nat), es.map (fun e => (e.key, e.val)) = L.map (fun x => (.string (str x.1), .agg #[.int .i64 x.2.1, .bool x.2.2])) →
    (L.lookup s = none → Instr.findNow .string (.string (str s)) es i = some none) ∧
    (∀ v, L.lookup s = some v → ∃ k, Instr.findNow .string (.string (str s)) es i = some (some (k, .agg #[.int .i64 v.1, .bool v.2])))
  | [], L, s, i, h => by
    have : L = [] := by simpa using h.symm
    subst this
    exact ⟨fun _ => rfl, fun v hv => by simp at hv⟩
  | e :: es, [], s, i, h => by simp at h
  | e :: es, (t, o, b) :: L, s, i, h => by
    simp only [List.map_cons, List.cons.injEq, Prod.mk.injEq] at h
    obtain ⟨⟨h1, h2⟩, h3⟩ := h
    have ih := findNow_map es L s (i + 1) h3
    unfold Instr.findNow
    rw [h1, h2]
    have hk : Instr.sameNow .string (.string (str s)) (.string (str t)) = some (str s == str t) := rfl
    rw [hk, List.lookup_cons]
    by_cases hst : s = t
    · subst hst
      have e1 : (str s == str s) = true := by show (s.toArray == s.toArray) = true; simp
      rw [e1]
      simp
    · have e1 : (str s == str t) = false := by
        show (s.toArray == t.toArray) = false
        rw [beq_eq_false_iff_ne]
        intro he
        exact hst (by have := congrArg Array.toList he; simpa using this)
      have e2 : (s == t) = false := by simpa using hst
      rw [e1, e2]
      exact ih
end Go.Proofs.YtgohhnbdicdenaaGreatDoor.Ex

/- Contract of a reader's function takeSign. Conditions: a reader lies in memory. -/
namespace Go.Proofs.YtgohhnbdicdenaaGreatDoor.Ex
open Go.ChangeShapes Go.WideShapes Go.ChangeAt Go.RowKit
open Go.Proofs.YtgohhnbdicdenaaGreatDoor.Tr (str ret_bool ret_int Bytes Nd)
set_option linter.unusedVariables false
set_option linter.unusedSimpArgs false

theorem check_key (em : Bool) (s : ByteArray) (W : World) : (Instr.checkKey em 10000 9 (.string s)).run Tryz.prog W = .ok () W := by
  have h : ∀ d, (Instr.checkKey em (d + 1) 9 (.string s)).run Tryz.prog W = .ok () W := fun d => by simp [Instr.checkKey, run_underlying Tryz.underlying9]
  exact h 9999
theorem find_key {s : ByteArray} {es : List MapEntry} {x : Option (Nat × Value)} (h : Instr.findNow .string (.string s) es 0 = some x) (W : World) : (Instr.findKey 9 (.string s) es).run Tryz.prog W = .ok x W := by
  simp [Instr.findKey, run_underlying Tryz.underlying9, h]
theorem look_sign {W : World} {m k n : Nat} {es : Array MapEntry} (hb : W.heap[m]? = some (.map es k)) (he : es.toList.map (fun e => (e.key, e.val)) = (signsM n).map (fun x => (.string (str x.1), .agg #[.int .i64 x.2.1, .bool x.2.2]))) (s : Bytes) :
    (Instr.lookup 161 (.map (some m)) (.string (str s)) true).run Tryz.prog W = .ok (.tuple #[.agg #[.int .i64 (((signsM n).lookup s).getD (0, false)).1, .bool (((signsM n).lookup s).getD (0, false)).2], .bool ((signsM n).lookup s).isSome]) W := by
  obtain ⟨h0, h1⟩ := findNow_map es.toList (signsM n) s 0 he
  have hz : (zeroValue 171).run Tryz.prog W = .ok (.agg #[.int .i64 0, .bool false]) W := by kernel_rfl
  cases hl : (signsM n).lookup s with
  | none =>
    have := find_key (h0 hl) W
    simp [Instr.lookup, run_underlying Tryz.underlying161, MapKept.run_getObj_map hb, check_key, this, hz, Result.andThen]
  | some v =>
    obtain ⟨i, hi⟩ := h1 v hl
    have := find_key hi W
    simp [Instr.lookup, run_underlying Tryz.underlying161, MapKept.run_getObj_map hb, check_key, this, Result.andThen]

theorem pair_cells {w1 : World} {B : Nat} {o : Obj} {u0 u1 : Value} (v0 v1 : Value) {T : TypeId} (hh : w1.heap[B]? = some (.cells #[u0, u1] T (0, 0))) :
    (((w1.setCell ⟨B, 0, none⟩ v0).setCell ⟨B, 1, none⟩ v1).alloc o).cell? ⟨B, 0, none⟩ = some v0 ∧ (((w1.setCell ⟨B, 0, none⟩ v0).setCell ⟨B, 1, none⟩ v1).alloc o).cell? ⟨B, 1, none⟩ = some v1 := by
  have hlt := lt_of_block hh
  have h2 := setObj_heap (v := v1) (setObj_heap (v := v0) hh (k := 0) (by simp)) (k := 1) (by simp)
  have h3 := (Below.heap_alloc ((w1.setCell ⟨B, 0, none⟩ v0).setCell ⟨B, 1, none⟩ v1) o B (by simp [World.setCell]; exact hlt)).trans h2
  constructor <;> simp [World.cell?, h3]
theorem RdAt.turn {w W : World} {b : Nat} {mv : Nat → Value} {r r' : Rd} (h : RdAt w b mv r) (hg : w.grownBy W (some b)) (hl : r'.l = r.l) (hc : ∀ lv, w.heap[b]? = some (.cells (rdCells lv mv r) 165 (0, 0)) → W.heap[b]? = some (.cells (rdCells lv mv r') 165 (0, 0))) : RdTo w W b mv r' := by
  obtain ⟨lv, h1, h2⟩ := h.blk
  have hk : ∀ g, g ≠ b → g < w.heap.size → W.heap[g]? = w.heap[g]? := fun g hne hlt => hg.block g hlt (fun e => hne (by injection e))
  have hk' : ∀ g, g < b → g < w.heap.size → W.heap[g]? = w.heap[g]? := fun g h3 h4 => hk g (Nat.ne_of_lt h3) h4
  exact ⟨⟨⟨lv, hc lv h1, by rw [hl]; exact h2.keep hg.size hk'⟩, fun n h3 h4 => (h.maps n h3 h4).keep hg.size hk', h.var.keep hg.size hk'⟩, hg⟩
theorem adv_mid {w w1 : World} {b : Nat} {mv : Nat → Value} {r : Rd} {O U : Value} {o : Obj} (h : RdAt w b mv r) (hb : Below w.heap.size w w1) :
    RdTo w ((((w1.setCell ⟨b, 1, none⟩ (.int .i64 ((r.next : Int) + 1))).setCell ⟨w.heap.size, 0, none⟩ O).setCell ⟨w.heap.size, 1, none⟩ U).alloc o) b mv r.adv := by
  have hlt := h.lt
  have hs := hb.size
  have T := RdTo.below hb hlt (h.below hb).advTo
  have hn : ∀ (W : World) (k : Nat) (v : Value) (g : Nat), g < w.heap.size → (W.setCell ⟨w.heap.size, k, none⟩ v).heap[g]? = W.heap[g]? := fun W k v g hg => Below.heap_setCell _ _ _ _ (by simp; omega)
  have hall : ∀ g, g < w.heap.size → ((((w1.setCell ⟨b, 1, none⟩ (.int .i64 ((r.next : Int) + 1))).setCell ⟨w.heap.size, 0, none⟩ O).setCell ⟨w.heap.size, 1, none⟩ U).alloc o).heap[g]? = (w1.setCell ⟨b, 1, none⟩ (.int .i64 ((r.next : Int) + 1))).heap[g]? := fun g hg => by
    rw [Below.heap_alloc _ _ _ (by simp [World.setCell]; omega), hn _ _ _ _ hg, hn _ _ _ _ hg]
  refine h.turn ⟨T.grown.os, T.grown.tape, T.grown.output, by simp [World.setCell]; omega, fun i hi hne => (hall i hi).trans (T.grown.block i hi hne)⟩ rfl (fun lv h1 => ?_)
  rw [hall b hlt, setObj_heap ((hb.block b hlt).trans h1) (by simp [rdCells])]
  simp [rdCells, Rd.adv]
/-- What takeSign tells. -/
def SignTo (w : World) (b : Nat) (mv : Nat → Value) (s : Option (Int × Bool)) (r : Rd) (e : Ending) (w' : World) : Prop :=
  e = .returned (.tuple #[.agg #[.int .i64 (s.getD (0, false)).1, .bool (s.getD (0, false)).2], .bool s.isSome]) ∧ RdTo w w' b mv (if s.isSome then r.adv else r)
theorem mv_cell {w : World} {b : Nat} {lv : Value} {mv : Nat → Value} {r : Rd} (h : w.heap[b]? = some (.cells (rdCells lv mv r) 165 (0, 0))) (n : Nat) (hn : n ≤ 9) : w.cell? ⟨b, 5 + n, none⟩ = some (mv n) := by
  rw [rd_cell h]
  match n, hn with
  | 0, _ => rfl
  | 1, _ => rfl
  | 2, _ => rfl
  | 3, _ => rfl
  | 4, _ => rfl
  | 5, _ => rfl
  | 6, _ => rfl
  | 7, _ => rfl
  | 8, _ => rfl
  | 9, _ => rfl
set_option maxHeartbeats 1600000 in
theorem takeSign_any (b : Nat) (mv : Nat → Value) (r : Rd) (n : Nat) (w : World) (hr : RdAt w b mv r) (hn : r.next ≤ 1000000) (h1 : 1 ≤ n) (h9 : n ≤ 9) :
    Calls Tryz.prog 156 #[.pointer (some ⟨b, 0, none⟩), .int .i64 (n : Int)] w (SignTo w b mv (r.sign n) r) := by
  have HR := Lib.hid hr
  have hlt := hr.lt
  have HC := Lib.hid (fun o => text_any b mv r (w.alloc o) (hr.below (below_new w o)) hn)
  clear hr
  obtain ⟨ok, hok⟩ : ∃ ok, r.ws = ok := ⟨_, rfl⟩
  obtain ⟨t, ht⟩ : ∃ t, r.cur.text = t := ⟨_, rfl⟩
  have HE : Hid (r.sign n = if ok then (signsM n).lookup t else none) := Lib.hid (by unfold Rd.sign; rw [hok, ht])
  rw [hok, ht] at HC
  clear hok ht
  obtain ⟨S, hS⟩ : ∃ S, (signsM n).lookup t = S := ⟨_, rfl⟩
  have HS := Lib.hid hS
  rw [hS] at HE
  clear hS
  obtain ⟨O, hO⟩ : ∃ O, (S.getD (0, false)).1 = O := ⟨_, rfl⟩
  obtain ⟨U, hU⟩ : ∃ U, (S.getD (0, false)).2 = U := ⟨_, rfl⟩
  obtain ⟨F, hF⟩ : ∃ F, S.isSome = F := ⟨_, rfl⟩
  have HO := Lib.hid hO
  have HU := Lib.hid hU
  have HF := Lib.hid hF
  clear hO hU hF
  obtain ⟨m, es, k, hm, hmb, hml, hmh, hme⟩ := HR.out.maps n h1 h9
  have HMV := Lib.hid hm
  have HML := Lib.hid hml
  have HL : Hid (∀ W : World, W.heap[m]? = some (.map es k) → (Instr.lookup 161 (.map (some m)) (.string (str t)) true).run Tryz.prog W = .ok (.tuple #[.agg #[.int .i64 O, .bool U], .bool F]) W) :=
    Lib.hid (fun W hW => by rw [← HO.out, ← HU.out, ← HF.out, ← HS.out]; exact look_sign hW hme t)
  have HX : Hid (∀ w1, Below w.heap.size w w1 → w1.cell? ⟨b, 1, none⟩ = some (.int .i64 (r.next : Int)) ∧ w1.frozen? ⟨b, 1, none⟩ = false ∧ w1.cell? ⟨b, 5 + n, none⟩ = some (.map (some m)) ∧ w1.heap[m]? = some (.map es k)) := Lib.hid (fun w1 hb => by
    obtain ⟨lv, k1, _⟩ := (HR.out.below hb).blk
    exact ⟨rd_cell k1 1, rd_free k1 1, by rw [mv_cell k1 n h9, HMV.out], (hb.block m HML.out).trans hmh⟩)
  clear hm hml hmh hme hmb
  have i0 : (0 : Int) ≤ (n : Int) := by omega
  have i9 : (n : Int) < 10 := by omega
  have HZ : Hid (∀ w1 (o : Obj), Below (w.alloc o).heap.size (w.alloc o) w1 → Below w.heap.size w w1 ∧ w.heap.size < w1.heap.size ∧ b < w1.heap.size ∧ w1.heap[w.heap.size]? = some o) := Lib.hid (fun w1 o hb => by
    have hs := hb.size
    simp at hs
    exact ⟨(below_new w o).trans (hb.mono (by simp)), by omega, by omega, (hb.block w.heap.size (by simp)).trans (heap_alloc_new w o)⟩)
  cases ok with
  | false =>
    have HE2 : Hid (r.sign n = none) := Lib.hid (by rw [HE.out]; rfl)
    rw [HE2.out]
    go_enter Tryz.func156, Tryz.ntmps156
    go_wp2_with fail
    refine (HC.out _).mono ?_
    rintro e w1 ⟨rfl, hb⟩
    obtain ⟨hbl, hz, hbz, hh⟩ := HZ.out w1 _ hb
    obtain ⟨c1, f1, cm, hm⟩ := HX.out w1 hbl
    have hlook := HL.out w1 hm
    have d0 : w1.cell? ⟨w.heap.size, 0, none⟩ = some (.int .i64 0) := by simp [World.cell?, hh]
    have d1 : w1.cell? ⟨w.heap.size, 1, none⟩ = some (.bool false) := by simp [World.cell?, hh]
    have e0 : w1.frozen? ⟨w.heap.size, 0, none⟩ = false := by simp [World.frozen?, hh]
    have e1 : w1.frozen? ⟨w.heap.size, 1, none⟩ = false := by simp [World.frozen?, hh]
    have HBL := Lib.hid hbl
    have HH := Lib.hid hh
    clear hb hbl hh
    go_wp2
    obtain ⟨g0, g1⟩ := pair_cells (o := .cells #[.int .i64 O, .bool U] 171) (.int .i64 0) (.bool false) HH.out
    exact bodyPost_ret (v := .tuple #[.agg #[.int .i64 0, .bool false], .bool false]) (by simp [results, Tryz.results156, go_sem, g0, g1]) rfl ⟨rfl, RdTo.of_below HR.out (((HBL.out.setCell (Nat.le_refl _) _).setCell (Nat.le_refl _) _).alloc (by simp; omega) _)⟩
  | true =>
    cases F with
    | false =>
      have HE2 : Hid (r.sign n = none) := Lib.hid (by
        rw [HE.out, if_pos rfl]
        cases S with
        | none => rfl
        | some x => simp at HF; exact absurd HF.out (by simp))
      rw [HE2.out]
      go_enter Tryz.func156, Tryz.ntmps156
      go_wp2_with fail
      refine (HC.out _).mono ?_
      rintro e w1 ⟨rfl, hb⟩
      obtain ⟨hbl, hz, hbz, hh⟩ := HZ.out w1 _ hb
      obtain ⟨c1, f1, cm, hm⟩ := HX.out w1 hbl
      have hlook := HL.out w1 hm
      have d0 : w1.cell? ⟨w.heap.size, 0, none⟩ = some (.int .i64 0) := by simp [World.cell?, hh]
      have d1 : w1.cell? ⟨w.heap.size, 1, none⟩ = some (.bool false) := by simp [World.cell?, hh]
      have e0 : w1.frozen? ⟨w.heap.size, 0, none⟩ = false := by simp [World.frozen?, hh]
      have e1 : w1.frozen? ⟨w.heap.size, 1, none⟩ = false := by simp [World.frozen?, hh]
      have HBL := Lib.hid hbl
      have HH := Lib.hid hh
      clear hb hbl hh
      go_wp2
      obtain ⟨g0, g1⟩ := pair_cells (o := .cells #[.int .i64 O, .bool U] 171) (.int .i64 0) (.bool false) HH.out
      exact bodyPost_ret (v := .tuple #[.agg #[.int .i64 0, .bool false], .bool false]) (by simp [results, Tryz.results156, go_sem, g0, g1]) rfl ⟨rfl, RdTo.of_below HR.out (((HBL.out.setCell (Nat.le_refl _) _).setCell (Nat.le_refl _) _).alloc (by simp; omega) _)⟩
    | true =>
      have HE2 : Hid (r.sign n = some (O, U)) := Lib.hid (by
        rw [HE.out, if_pos rfl]
        cases S with
        | none => exact absurd HF.out (by simp)
        | some x => rw [← HO.out, ← HU.out]; rfl)
      rw [HE2.out]
      go_enter Tryz.func156, Tryz.ntmps156
      go_wp2_with fail
      refine (HC.out _).mono ?_
      rintro e w1 ⟨rfl, hb⟩
      obtain ⟨hbl, hz, hbz, hh⟩ := HZ.out w1 _ hb
      obtain ⟨c1, f1, cm, hm⟩ := HX.out w1 hbl
      have hlook := HL.out w1 hm
      have d0 : w1.cell? ⟨w.heap.size, 0, none⟩ = some (.int .i64 0) := by simp [World.cell?, hh]
      have d1 : w1.cell? ⟨w.heap.size, 1, none⟩ = some (.bool false) := by simp [World.cell?, hh]
      have e0 : w1.frozen? ⟨w.heap.size, 0, none⟩ = false := by simp [World.frozen?, hh]
      have e1 : w1.frozen? ⟨w.heap.size, 1, none⟩ = false := by simp [World.frozen?, hh]
      have HBL := Lib.hid hbl
      have HH := Lib.hid hh
      clear hb hbl hh
      go_wp2
      have HH2 : Hid ((w1.setCell ⟨b, 1, none⟩ (.int .i64 ((r.next : Int) + 1))).heap[w.heap.size]? = some (.cells #[.int .i64 0, .bool false] 171 (0, 0))) := Lib.hid (by rw [Below.heap_setCell _ _ _ _ (by simp; omega)]; exact HH.out)
      obtain ⟨g0, g1⟩ := pair_cells (o := .cells #[.int .i64 O, .bool U] 171) (.int .i64 O) (.bool U) HH2.out
      refine bodyPost_ret (v := .tuple #[.agg #[.int .i64 O, .bool U], .bool true]) ?_ rfl ⟨rfl, adv_mid HR.out HBL.out⟩
      clear hlook c1 f1 cm hm d0 d1 e0 e1
      simp [results, Tryz.results156, go_sem, g0, g1]
end Go.Proofs.YtgohhnbdicdenaaGreatDoor.Ex

/- Contracts of library functions at this program, by application of the compiled library. Conditions: as each says. -/
namespace Go.Proofs
open Go.Shelf
def Tryz.laysPu14_ren : Go.Shelf.Ren := ⟨fun | 14 => 167 | 16 => 170 | 17 => 171 | 19 => 177 | 20 => 178 | 21 => 179 | 22 => 180 | 23 => 181 | 24 => 182 | 25 => 190 | 27 => 79 | 26 => 191 | 28 => 102 | 29 => 117 | 30 => 131 | 31 => 132 | 32 => 133 | 33 => 134 | 35 => 141 | 34 => 140 | 36 => 142 | 37 => 143 | 38 => 144 | 39 => 148 | 40 => 149 | n => n, fun | 9 => 9 | 3 => 3 | 22 => 147 | 24 => 117 | 25 => 188 | 4 => 4 | 34 => 197 | 5 => 5 | 36 => 159 | 37 => 113 | 0 => 0 | 39 => 199 | 21 => 21 | 44 => 206 | 47 => 128 | 50 => 211 | 48 => 209 | 2 => 2 | 52 => 146 | 55 => 150 | 59 => 155 | 60 => 156 | 20 => 20 | 61 => 157 | 65 => 174 | 66 => 175 | 67 => 104 | n => n, fun | 0 => 5 | 1 => 6 | 2 => 2 | 3 => 3 | 4 => 4 | n => n⟩
theorem Tryz.laysPu14 : Go.Proofs.LaysPu.n14 Tryz.prog Tryz.laysPu14_ren := {
  mixed := by kernel_rfl
  f14 := Tryz.func167.trans (congrArg some (by kernel_rfl))
  f16 := Tryz.func170.trans (congrArg some (by kernel_rfl))
  f17 := Tryz.func171.trans (congrArg some (by kernel_rfl))
  f19 := Tryz.func177.trans (congrArg some (by kernel_rfl))
  f20 := Tryz.func178.trans (congrArg some (by kernel_rfl))
  f21 := Tryz.func179.trans (congrArg some (by kernel_rfl))
  f22 := Tryz.func180.trans (congrArg some (by kernel_rfl))
  f23 := Tryz.func181.trans (congrArg some (by kernel_rfl))
  f24 := Tryz.func182.trans (congrArg some (by kernel_rfl))
  f25 := Tryz.func190.trans (congrArg some (by kernel_rfl))
  f26 := Tryz.func191.trans (congrArg some (by kernel_rfl))
  f27 := Tryz.func79.trans (congrArg some (by kernel_rfl))
  f28 := Tryz.func102.trans (congrArg some (by kernel_rfl))
  f29 := Tryz.func117.trans (congrArg some (by kernel_rfl))
  f30 := Tryz.func131.trans (congrArg some (by kernel_rfl))
  f31 := Tryz.func132.trans (congrArg some (by kernel_rfl))
  f32 := Tryz.func133.trans (congrArg some (by kernel_rfl))
  f33 := Tryz.func134.trans (congrArg some (by kernel_rfl))
  f34 := Tryz.func140.trans (congrArg some (by kernel_rfl))
  f35 := Tryz.func141.trans (congrArg some (by kernel_rfl))
  f36 := Tryz.func142.trans (congrArg some (by kernel_rfl))
  f37 := Tryz.func143.trans (congrArg some (by kernel_rfl))
  f38 := Tryz.func144.trans (congrArg some (by kernel_rfl))
  f39 := Tryz.func148.trans (congrArg some (by kernel_rfl))
  f40 := Tryz.func149.trans (congrArg some (by kernel_rfl))
  t0 := Tryz.underlying0
  a0 := Tryz.isAgg0
  z0 := Tryz.sizeOf0
  v0 := Tryz.zeroValue0
  i0 := by kernel_rfl
  t2 := Tryz.underlying2
  a2 := Tryz.isAgg2
  z2 := Tryz.sizeOf2
  v2 := Tryz.zeroValue2
  i2 := by kernel_rfl
  t3 := Tryz.underlying3
  a3 := Tryz.isAgg3
  z3 := Tryz.sizeOf3
  v3 := Tryz.zeroValue3
  i3 := by kernel_rfl
  t4 := Tryz.underlying4
  a4 := Tryz.isAgg4
  z4 := Tryz.sizeOf4
  v4 := Tryz.zeroValue4
  i4 := by kernel_rfl
  t5 := Tryz.underlying5
  a5 := Tryz.isAgg5
  z5 := Tryz.sizeOf5
  v5 := Tryz.zeroValue5
  i5 := by kernel_rfl
  t9 := Tryz.underlying9
  a9 := Tryz.isAgg9
  z9 := Tryz.sizeOf9
  v9 := Tryz.zeroValue9
  i9 := by kernel_rfl
  t20 := Tryz.underlying20
  a20 := Tryz.isAgg20
  z20 := Tryz.sizeOf20
  v20 := Tryz.zeroValue20
  i20 := by kernel_rfl
  t21 := Tryz.underlying21
  a21 := Tryz.isAgg21
  z21 := Tryz.sizeOf21
  v21 := Tryz.zeroValue21
  i21 := by kernel_rfl
  t22 := Tryz.underlying147
  a22 := Tryz.isAgg147
  z22 := Tryz.sizeOf147
  v22 := Tryz.zeroValue147
  i22 := by kernel_rfl
  t24 := Tryz.underlying117
  a24 := Tryz.isAgg117
  z24 := Tryz.sizeOf117
  v24 := Tryz.zeroValue117
  i24 := by kernel_rfl
  t25 := Tryz.underlying188
  a25 := Tryz.isAgg188
  z25 := Tryz.sizeOf188
  v25 := Tryz.zeroValue188
  i25 := by kernel_rfl
  t34 := Tryz.underlying197
  a34 := Tryz.isAgg197
  z34 := Tryz.sizeOf197
  v34 := Tryz.zeroValue197
  i34 := by kernel_rfl
  c34 := by kernel_rfl
  t36 := Tryz.underlying159
  a36 := Tryz.isAgg159
  z36 := Tryz.sizeOf159
  v36 := Tryz.zeroValue159
  i36 := by kernel_rfl
  t37 := Tryz.underlying113
  a37 := Tryz.isAgg113
  z37 := Tryz.sizeOf113
  v37 := Tryz.zeroValue113
  i37 := by kernel_rfl
  t39 := Tryz.underlying199
  a39 := Tryz.isAgg199
  z39 := Tryz.sizeOf199
  v39 := Tryz.zeroValue199
  i39 := by kernel_rfl
  t44 := Tryz.underlying206
  a44 := Tryz.isAgg206
  z44 := Tryz.sizeOf206
  v44 := Tryz.zeroValue206
  i44 := by kernel_rfl
  t47 := Tryz.underlying128
  a47 := Tryz.isAgg128
  z47 := Tryz.sizeOf128
  v47 := Tryz.zeroValue128
  i47 := by kernel_rfl
  t48 := Tryz.underlying209
  a48 := Tryz.isAgg209
  z48 := Tryz.sizeOf209
  v48 := Tryz.zeroValue209
  i48 := by kernel_rfl
  t50 := Tryz.underlying211
  a50 := Tryz.isAgg211
  z50 := Tryz.sizeOf211
  v50 := Tryz.zeroValue211
  i50 := by kernel_rfl
  t52 := Tryz.underlying146
  a52 := Tryz.isAgg146
  z52 := Tryz.sizeOf146
  v52 := Tryz.zeroValue146
  i52 := by kernel_rfl
  t55 := Tryz.underlying150
  a55 := Tryz.isAgg150
  z55 := Tryz.sizeOf150
  v55 := Tryz.zeroValue150
  i55 := by kernel_rfl
  t59 := Tryz.underlying155
  a59 := Tryz.isAgg155
  z59 := Tryz.sizeOf155
  v59 := Tryz.zeroValue155
  i59 := by kernel_rfl
  t60 := Tryz.underlying156
  a60 := Tryz.isAgg156
  z60 := Tryz.sizeOf156
  v60 := Tryz.zeroValue156
  i60 := by kernel_rfl
  t61 := Tryz.underlying157
  a61 := Tryz.isAgg157
  z61 := Tryz.sizeOf157
  t65 := Tryz.underlying174
  a65 := Tryz.isAgg174
  z65 := Tryz.sizeOf174
  v65 := Tryz.zeroValue174
  i65 := by kernel_rfl
  t66 := Tryz.underlying175
  a66 := Tryz.isAgg175
  z66 := Tryz.sizeOf175
  v66 := Tryz.zeroValue175
  i66 := by kernel_rfl
  t67 := Tryz.underlying104
  a67 := Tryz.isAgg104
  z67 := Tryz.sizeOf104
  v67 := Tryz.zeroValue104
  i67 := by kernel_rfl
  g0 := by kernel_rfl
  m0 := by kernel_rfl
  g1 := by kernel_rfl
  m1 := by kernel_rfl
  g2 := by kernel_rfl
  m2 := by kernel_rfl
  g3 := by kernel_rfl
  m3 := by kernel_rfl
  g4 := by kernel_rfl
  m4 := by kernel_rfl }
open Go.RowKit in
theorem Tryz.strconv_ParseUint_10_at64_ok (s : ByteArray) (hmax : s.size ≤ 9223372036854775806) (u : Nat) (h : Lib.parseUintB 64 s.data.toList = .ok u) (w : World) :
    Calls Tryz.prog 167 #[.string s, .int .i64 10, .int .i64 64] w fun e w' => e = .returned (.tuple #[.int .u64 u, .nilIface]) ∧ (w' = w ∨ w' = Lib.bytesWorld w 5 s) := Any.strconv_ParseUint_10_at64_ok Tryz.laysPu14 s hmax u h w
open Go.RowKit in
theorem Tryz.strconv_ParseUint_10_at64_syntax (s : ByteArray) (hlim : s.size ≤ 281474976710656) (h : Lib.parseUintB 64 s.data.toList = .«syntax») (ev : Value) (w : World) (hv : w.cell? ⟨5, 0, none⟩ = some ev) (hev : ev = .nilIface ∨ ∃ te pe, ev = .iface te pe) :
    Calls Tryz.prog 167 #[.string s, .int .i64 10, .int .i64 64] w fun e w' => ∃ N, e = .returned (.tuple #[.int .u64 0, .iface 199 (.pointer (some ⟨N, 0, none⟩))]) ∧ w.heap.size ≤ N ∧ w'.heap[N]? = some (.cells #[.string ⟨#[80, 97, 114, 115, 101, 85, 105, 110, 116]⟩, .string s, ev] 206 (0, 0)) ∧ Below w.heap.size w w' := Any.strconv_ParseUint_10_at64_syntax Tryz.laysPu14 s hlim h ev w hv hev
open Go.RowKit in
theorem Tryz.strconv_ParseUint_10_at64_range (s : ByteArray) (hlim : s.size ≤ 281474976710656) (h : Lib.parseUintB 64 s.data.toList = .range) (ev : Value) (w : World) (hv : w.cell? ⟨6, 0, none⟩ = some ev) (hev : ev = .nilIface ∨ ∃ te pe, ev = .iface te pe) :
    Calls Tryz.prog 167 #[.string s, .int .i64 10, .int .i64 64] w fun e w' => ∃ N, e = .returned (.tuple #[.int .u64 18446744073709551615, .iface 199 (.pointer (some ⟨N, 0, none⟩))]) ∧ w.heap.size ≤ N ∧ w'.heap[N]? = some (.cells #[.string ⟨#[80, 97, 114, 115, 101, 85, 105, 110, 116]⟩, .string s, ev] 206 (0, 0)) ∧ Below w.heap.size w w' := Any.strconv_ParseUint_10_at64_range Tryz.laysPu14 s hlim h ev w hv hev
end Go.Proofs

/- Contract of a reader's function number. Conditions: a reader lies in memory; its tokens are ones that lex tells. -/
namespace Go.Proofs.YtgohhnbdicdenaaGreatDoor.Ex
open Go.ChangeShapes Go.WideShapes Go.ChangeAt Go.RowKit
open Go.Proofs.YtgohhnbdicdenaaGreatDoor.Tr (str ret_bool ret_int Bytes Nd)
set_option linter.unusedVariables false
set_option linter.unusedSimpArgs false

theorem val_snoc_le (l : Bytes) (acc : Nat) : acc ≤ l.foldl (fun n c => 10 * n + (c.toNat - 48)) acc := by
  induction l generalizing acc with
  | nil => exact Nat.le_refl _
  | cons c r ih => rw [List.foldl_cons]; exact Nat.le_trans (by omega) (ih _)
theorem parse_digits (l : Bytes) (h : l.all Lx.digitB = true) (M : Nat) (hM : M ≤ 18446744073709551615) : ∀ acc, l.foldl (fun n c => 10 * n + (c.toNat - 48)) acc ≤ 2147483647 → 2147483647 ≤ M →
    Lib.parseUintM M acc l = .ok (l.foldl (fun n c => 10 * n + (c.toNat - 48)) acc) := by
  induction l with
  | nil => intro acc _ _; rfl
  | cons c r ih =>
    intro acc hv hm
    simp only [List.all_cons, Bool.and_eq_true] at h
    have hd := Lx.digit_bd c h.1
    rw [List.foldl_cons] at hv ⊢
    have h1 := val_snoc_le r (10 * acc + (c.toNat - 48))
    unfold Lib.parseUintM
    rw [if_pos hd, if_neg (by omega), if_neg (by omega)]
    have e : acc * 10 + (c.toNat - 48) = 10 * acc + (c.toNat - 48) := by omega
    rw [e]
    exact ih h.2 _ hv hm
theorem parse_ok (l : Bytes) (h : l.all Lx.digitB = true) (h0 : l ≠ []) (hv : Lx.val l ≤ 2147483647) : Lib.parseUintB 64 l = .ok (Lx.val l) := by
  unfold Lib.parseUintB
  rw [if_neg h0]
  exact parse_digits l h _ (by omega) 0 hv (by omega)
theorem parse_bad (l : Bytes) (h : Lx.digitB (l.headD 0) = false) : Lib.parseUintB 64 l = .«syntax» := by
  unfold Lib.parseUintB
  split
  · rfl
  · cases l with
    | nil => contradiction
    | cons c r =>
      unfold Lib.parseUintM
      rw [if_neg]
      intro hc
      simp [Lx.digitB, UInt8.le_iff_toNat_le] at h
      have := h hc.1
      omega
/-- Tokens as lex tells them. -/
def GoodL (l : List Tok) : Prop := ∀ t ∈ l, Lx.Good t.kind t.text
theorem good_cur {r : Rd} (h : GoodL r.l) : (r.cur.kind = 2 → r.cur.text.all Lx.digitB = true ∧ r.cur.text ≠ [] ∧ Lx.val r.cur.text ≤ 2147483647) ∧ (r.cur.kind ≠ 2 → Lx.digitB (r.cur.text.headD 0) = false) := by
  unfold Rd.cur
  cases ht : r.l[r.next]? with
  | none => exact ⟨fun h => by simp [noTok] at h, fun _ => by decide⟩
  | some t =>
    have hg := h t (List.mem_of_getElem? ht)
    show (t.kind = 2 → t.text.all Lx.digitB = true ∧ t.text ≠ [] ∧ Lx.val t.text ≤ 2147483647) ∧ (t.kind ≠ 2 → Lx.digitB (t.text.headD 0) = false)
    rcases hg with ⟨h1, h2, h3⟩ | ⟨h1, h2, h3, h4⟩ | ⟨h1, h2⟩
    · have hk := Lx.digM_kind t.text (by rw [h3])
      rw [h3] at hk
      simp only at hk
      refine ⟨fun _ => ⟨h1, h2, ?_⟩, fun hne => absurd hk hne⟩
      have := Lx.digM_val t.text h1 h2
      rw [h3] at this
      split at this
      · simp at this
      · omega
    · exact ⟨fun hk => by
        have := Lx.letM_kind t.text (by rw [h4])
        rw [h4] at this
        simp only at this
        omega, fun _ => h3⟩
    · refine ⟨fun hk => by omega, fun _ => ?_⟩
      have : ∀ x ∈ Lx.signTexts, Lx.digitB (x.headD 0) = false := by decide
      exact this _ h1
theorem two_below {w w1 w2 : World} {o : Obj} (hb : Below w.heap.size w w1) (hb2 : Below (w1.alloc o).heap.size (w1.alloc o) w2) : Below w.heap.size w w2 ∧ w2.heap[w1.heap.size]? = some o := by
  have h1 := hb.size
  exact ⟨(hb.alloc h1 o).trans (hb2.mono (by simp; omega)), (hb2.block w1.heap.size (by simp)).trans (heap_alloc_new w1 o)⟩
/-- strconv.ParseUint, its world left open. -/
theorem uint_ok (T : Bytes) (u : Nat) (w : World) (hl : T.length ≤ 1000000) (h : Lib.parseUintB 64 T = .ok u) :
    Calls Tryz.prog 167 #[.string (str T), .int .i64 10, .int .i64 64] w fun e w' => e = .returned (.tuple #[.int .u64 u, .nilIface]) ∧ Below w.heap.size w w' :=
  (Tryz.strconv_ParseUint_10_at64_ok (str T) (by rw [Tr.str_size]; omega) u (by simpa [str] using h) w).mono (by
    rintro e w' ⟨rfl, h | h⟩
    · subst h; exact ⟨rfl, Below.refl _ _⟩
    · subst h; exact ⟨rfl, Lib.bytesWorld_below _ _ _⟩)
theorem uint_bad (T : Bytes) (w : World) (b : Nat) (hv : VarAt w b) (hl : T.length ≤ 1000000) (h : Lib.parseUintB 64 T = .«syntax») :
    Calls Tryz.prog 167 #[.string (str T), .int .i64 10, .int .i64 64] w fun e w' => ∃ N, e = .returned (.tuple #[.int .u64 0, .iface 199 (.pointer (some ⟨N, 0, none⟩))]) ∧ Below w.heap.size w w' := by
  obtain ⟨_, _, ev, h1, h2⟩ := hv
  exact (Tryz.strconv_ParseUint_10_at64_syntax (str T) (by rw [Tr.str_size]; omega) (by simpa [str] using h) ev w h1 h2).mono (by
    rintro e w' ⟨N, rfl, -, -, hb⟩; exact ⟨N, rfl, hb⟩)
set_option maxHeartbeats 1600000 in
theorem number_any (b : Nat) (mv : Nat → Value) (r : Rd) (most : Nat) (w : World) (hr : RdAt w b mv r) (hn : r.next ≤ 1000000) (hg : GoodL r.l) (hl : r.cur.text.length ≤ 1000000) (hm : most ≤ 2147483647) :
    Calls Tryz.prog 158 #[.pointer (some ⟨b, 0, none⟩), .int .i64 (most : Int)] w (fun e w' => e = .returned (.int .i64 (r.num most : Nat)) ∧ RdTo w w' b mv (r.numR most)) := by
  have HR := Lib.hid hr
  have hlt := hr.lt
  have HC := Lib.hid (token_any b mv r w hr hn)
  obtain ⟨g2, gn⟩ := good_cur hg
  have HNM := Lib.hid (show r.num most = if numB most r.cur then Lx.val r.cur.text else 0 from rfl)
  have HNR := Lib.hid (show r.numR most = if numB most r.cur then r.adv else r.fail 5 from rfl)
  clear hr
  rw [HNM.out, HNR.out]
  obtain ⟨t, ht⟩ : ∃ t, r.cur = t := ⟨_, rfl⟩
  obtain ⟨ok, hok⟩ : ∃ ok, decide (r.next < r.l.length) = ok := ⟨_, rfl⟩
  rw [ht] at HC g2 gn hl ⊢
  rw [hok] at HC
  clear ht hok HNM HNR
  obtain ⟨K, T, P⟩ := t
  simp only at g2 gn hl ⊢
  have HX : Hid (∀ w1, Below w.heap.size w w1 → w1.cell? ⟨b, 1, none⟩ = some (.int .i64 (r.next : Int)) ∧ w1.frozen? ⟨b, 1, none⟩ = false) := Lib.hid (fun w1 hb => by
    obtain ⟨lv, k1, _⟩ := (HR.out.below hb).blk
    exact ⟨rd_cell k1 1, rd_free k1 1⟩)
  by_cases hk : K = 2
  · obtain ⟨h1, h2, h3⟩ := g2 hk
    have HP := Lib.hid (parse_ok T h1 h2 h3)
    subst hk
    obtain ⟨V, hV⟩ : ∃ V, Lx.val T = V := ⟨_, rfl⟩
    rw [hV] at HP h3
    have HB : Hid (numB most ⟨2, T, P⟩ = decide (V ≤ most)) := Lib.hid (by simp [numB, hV])
    rw [HB.out, hV]
    clear hV h1 h2 g2 gn
    by_cases hvm : V ≤ most
    · have hd : decide (most < V) = false := by simp; omega
      rw [if_pos (by simpa using hvm), if_pos (by simpa using hvm)]
      go_enter Tryz.func158, Tryz.ntmps158
      go_wp2_with fail
      refine HC.out.mono ?_
      rintro e w1 ⟨rfl, hb⟩
      have HBL := Lib.hid hb
      clear hb
      go_wp2_with fail
      refine (uint_ok T V _ hl HP.out).mono ?_
      rintro e w2 ⟨rfl, hb2⟩
      obtain ⟨hbl, hh⟩ := two_below HBL.out hb2
      obtain ⟨c1, f1⟩ := HX.out w2 hbl
      have d0 : w2.cell? ⟨w1.heap.size, 0, none⟩ = some (.int .i64 2) := by simp [World.cell?, hh]
      have HB2 := Lib.hid hbl
      clear hb2 hbl hh
      go_wp2
      go_ret
      exact ⟨rfl, RdTo.below HB2.out hlt (HR.out.below HB2.out).advTo⟩
    · have hd : decide (most < V) = true := by simp; omega
      rw [if_neg (by simpa using hvm), if_neg (by simpa using hvm)]
      go_enter Tryz.func158, Tryz.ntmps158
      go_wp2_with fail
      refine HC.out.mono ?_
      rintro e w1 ⟨rfl, hb⟩
      have HBL := Lib.hid hb
      clear hb
      go_wp2_with fail
      refine (uint_ok T V _ hl HP.out).mono ?_
      rintro e w2 ⟨rfl, hb2⟩
      obtain ⟨hbl, hh⟩ := two_below HBL.out hb2
      obtain ⟨c1, f1⟩ := HX.out w2 hbl
      have d0 : w2.cell? ⟨w1.heap.size, 0, none⟩ = some (.int .i64 2) := by simp [World.cell?, hh]
      have HB2 := Lib.hid hbl
      clear hb2 hbl hh
      go_wp2_with fail
      refine (fail_any b mv r 5 _ (HR.out.below HB2.out) hn).mono ?_
      rintro e w3 ⟨ev, rfl, -, ht⟩
      have HT := Lib.hid (RdTo.below HB2.out hlt ht)
      clear ht
      go_wp2
      go_ret
      exact ⟨rfl, HT.out⟩
  · have HP := Lib.hid (parse_bad T (gn hk))
    have hkd : (K != 2) = true := by simpa using hk
    have HB : Hid (numB most ⟨K, T, P⟩ = false) := Lib.hid (by simp [numB, hk])
    rw [HB.out]
    clear g2 gn hk
    simp only [Bool.false_eq_true, if_false]
    go_enter Tryz.func158, Tryz.ntmps158
    go_wp2_with fail
    refine HC.out.mono ?_
    rintro e w1 ⟨rfl, hb⟩
    have HBL := Lib.hid hb
    clear hb
    go_wp2_with fail
    refine (uint_bad T _ b ((HR.out.below HBL.out).var.keep (by simp) (fun g _ hg => Below.heap_alloc _ _ _ hg)) hl HP.out).mono ?_
    rintro e w2 ⟨N, rfl, hb2⟩
    obtain ⟨hbl, hh⟩ := two_below HBL.out hb2
    obtain ⟨c1, f1⟩ := HX.out w2 hbl
    have d0 : w2.cell? ⟨w1.heap.size, 0, none⟩ = some (.int .i64 K) := by simp [World.cell?, hh]
    have HB2 := Lib.hid hbl
    clear hb2 hbl hh
    go_wp2_with fail
    refine (fail_any b mv r 5 _ (HR.out.below HB2.out) hn).mono ?_
    rintro e w3 ⟨ev, rfl, -, ht⟩
    have HT := Lib.hid (RdTo.below HB2.out hlt ht)
    clear ht
    go_wp2
    go_ret
    exact ⟨rfl, HT.out⟩
end Go.Proofs.YtgohhnbdicdenaaGreatDoor.Ex

