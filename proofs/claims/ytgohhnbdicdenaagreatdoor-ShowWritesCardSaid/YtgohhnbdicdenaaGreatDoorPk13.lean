/- The function Lex of layer lex returns the tokens that lexM says, in memory of its own. Conditions: a text's length within a machine's. -/
import Derived.Test.YtgohhnbdicdenaaGreatDoorPk12
import Derived.Test.YtgohhnbdicdenaaGreatDoorPk01
import Derived.OneCell
import Derived.OwnWalk
import Derived.RegionTactic
import Derived.Deep.QuietTactic
import Derived.BigQuiet
namespace Go.Proofs.YtgohhnbdicdenaaGreatDoor.Lx
open Go.ChangeShapes Go.WideShapes Go.ChangeAt Go.RowKit
set_option linter.unusedVariables false

theorem info42 : (Tryz.prog.info? 54).map (fun i => (i.zero, i.size, i.bytes)) = some (some (.agg #[.int .i64 0, .string ⟨#[]⟩, .int .i64 0]), 3, 32) := by kernel_rfl

def tokCells (t : Tok) : List Value := [.int .i64 t.kind, .string (str t.text), .int .i64 (t.at_ : Int)]
def cellsOf (l : List Tok) : List Value := l.flatMap tokCells

/-- What a call that hands back tokens leaves. -/
def LexPost (W : World) (r : Res) (e : Ending) (w' : World) : Prop :=
  ∃ v, e = .returned (.tuple #[v, .agg #[.int .i64 r.code, .int .i64 r.at_]]) ∧ w'.ownsRow W.heap.size 54 3 v r.toks.length (cellsOf r.toks) ∧ Below W.heap.size W w'

def atOf (w : World) (a : Addr) : Int := intOf ((w.cell? a).getD undef)

theorem digits_str (l : Bytes) (K E : Int) (w : World) (h : l.length ≤ maxLen) (hp : 0 < l.length) (hk : digM l = (K, E)) :
    Calls Tryz.prog 66 #[.string (str l)] w fun e w' => e = .returned (.tuple #[.int .i64 K, .int .i64 E]) ∧ w = w' := by
  have := digits_any (str l) w (by rw [str_size]; exact h) (by rw [str_size]; exact hp)
  rw [str_toList, hk] at this; exact this
theorem letters_str (l : Bytes) (K E : Int) (w : World) (h : l.length ≤ maxLen) (hk : letM l = (K, E)) :
    Calls Tryz.prog 67 #[.string (str l)] w fun e w' => e = .returned (.tuple #[.int .i64 K, .int .i64 E]) ∧ w = w' := by
  have := letters_any (str l) w (by rw [str_size]; exact h)
  rw [str_toList, hk] at this; exact this
theorem sign_str (l : Bytes) (K E : Int) (w : World) (hk : sigM l = (K, E)) :
    Calls Tryz.prog 69 #[.string (str l)] w fun e w' => e = .returned (.tuple #[.int .i64 K, .int .i64 E]) ∧ w = w' := by
  have := sign_any (str l) w
  rw [str_toList, hk] at this; exact this
theorem longestSign_at (s : ByteArray) (p : Nat) (T : Bytes) (w : World) (h : s.size ≤ maxLen) (hp : p < s.size) (hT : signOf (s.toList.drop p) = T) :
    Calls Tryz.prog 68 #[.string (s.extract p s.size)] w fun e w' => e = .returned (.string (str T)) ∧ w = w' := by
  have e : (s.extract p s.size).size = s.size - p := by rw [ByteArray.size_extract]; omega
  have := longestSign_any (s.extract p s.size) w (by rw [e]; omega) (by rw [e]; omega)
  rw [extract_end, hT] at this; exact this
theorem rowDigit_at (s : ByteArray) (p : Nat) (T : Bytes) (a b : Addr) (w : World) (h : s.size ≤ maxLen) (hp : p ≤ s.size) (ca : w.cell? a = some (.int .i64 p)) (cb : w.cell? b = some (.string s)) (hT : (s.toList.drop p).takeWhile digitB = T) :
    Calls Tryz.prog 65 #[.func (.func 46) #[] #[], .pointer (some a), .pointer (some b)] w fun e w' => e = .returned (.string (str T)) ∧ w = w' := by
  rw [← hT]; exact rowDigit_any s p a b w h hp ca cb
theorem rowOfName_at (s : ByteArray) (p : Nat) (T : Bytes) (a b : Addr) (w : World) (h : s.size ≤ maxLen) (hp : p ≤ s.size) (ca : w.cell? a = some (.int .i64 p)) (cb : w.cell? b = some (.string s)) (hT : (s.toList.drop p).takeWhile ofNameB = T) :
    Calls Tryz.prog 65 #[.func (.func 48) #[] #[], .pointer (some a), .pointer (some b)] w fun e w' => e = .returned (.string (str T)) ∧ w = w' := by
  rw [← hT]; exact rowOfName_any s p a b w h hp ca cb
theorem passed_at (s : ByteArray) (p : Nat) (q : Nat) (w : World) (h : s.size ≤ maxLen) (hp : p ≤ s.size) (hq : p + skip false (s.toList.drop p) = q) :
    Calls Tryz.prog 64 #[.string s, .int .i64 p] w fun e w' => e = .returned (.int .i64 q) ∧ w = w' := by
  rw [← hq]; exact passed_any s p w h hp

theorem own_base {w : World} {b b' : Nat} {e : TypeId} {size n : Nat} {v : Value} {xs : List Value} (h : w.ownsRow b e size v n xs) (hb : b' ≤ b) : w.ownsRow b' e size v n xs := by
  refine ⟨h.1, ?_⟩
  rcases h.2 with h0 | ⟨g, cap, cur, h1, h2, h3⟩
  · exact .inl h0
  · exact .inr ⟨g, cap, cur, h1, by omega, h3⟩

/-- The loop's relation. -/
def LexRel (s : ByteArray) (W : World) (v : Value) (wr : World) : Prop :=
  ∃ (p : Nat) (acc : List Tok), p ≤ s.size ∧ acc.length ≤ p ∧ lexM s.toList = Res.glue acc (lexL (s.toList.drop p) p) ∧
    wr.heap[W.heap.size]? = some (.cells #[.string s] 9 (0, 0)) ∧ wr.heap[W.heap.size + 1]? = some (.cells #[.int .i64 0, .int .i64 0] 33 (0, 0)) ∧
    wr.heap[W.heap.size + 1 + 1]? = some (.cells #[.int .i64 (p : Int)] 3 (0, 0)) ∧ wr.ownsRow (W.heap.size + 3) 54 3 v acc.length (cellsOf acc) ∧ Below W.heap.size W wr

theorem passed_int (s : ByteArray) (n : Int) (p : Nat) (q : Nat) (w : World) (hn : n = (p : Int)) (h : s.size ≤ maxLen) (hp : p ≤ s.size) (hq : p + skip false (s.toList.drop p) = q) :
    Calls Tryz.prog 64 #[.string s, .int .i64 n] w fun e w' => e = .returned (.int .i64 q) ∧ w = w' := by
  subst hn; exact passed_at s p q w h hp hq

theorem cells_snoc (acc : List Tok) (t : Tok) : cellsOf (acc ++ [t]) = cellsOf acc ++ tokCells t := by simp [cellsOf]

/-- What stands behind the append of a token. -/
theorem lex_mid {W wr w1 : World} {u : Value} {n : Nat} {xs : List Value} {c d : Array Value} {s : ByteArray} {p : Nat}
    (hb0 : wr.heap[W.heap.size]? = some (.cells #[.string s] 9 (0, 0))) (hb1 : wr.heap[W.heap.size + 1]? = some (.cells #[.int .i64 0, .int .i64 0] 33 (0, 0)))
    (hb2 : wr.heap[W.heap.size + 1 + 1]? = some (.cells #[.int .i64 (p : Int)] 3 (0, 0))) (hbel : Below W.heap.size W wr)
    (hown : wr.ownsRow (W.heap.size + 3) 54 3 u n xs) (hg : ((wr.alloc (.cells c 54)).alloc (.cells d 54)).grownBy w1 u.ownBlock) :
    w1.heap[W.heap.size]? = some (.cells #[.string s] 9 (0, 0)) ∧ w1.heap[W.heap.size + 1]? = some (.cells #[.int .i64 0, .int .i64 0] 33 (0, 0)) ∧
    w1.heap[W.heap.size + 1 + 1]? = some (.cells #[.int .i64 (p : Int)] 3 (0, 0)) ∧ w1.heap[wr.heap.size]? = some (.cells c 54 (0, 0)) ∧ Below W.heap.size W w1 := by
  have l0 := lt_of_block hb0
  have l1 := lt_of_block hb1
  have l2 := lt_of_block hb2
  have hne : ∀ j, j < W.heap.size + 3 → some j ≠ u.ownBlock := fun j hj h => by have := hown.lt j h.symm; omega
  have hk : ∀ j, j < wr.heap.size → some j ≠ u.ownBlock → w1.heap[j]? = wr.heap[j]? := fun j hj hn => by
    rw [hg.block j (by simp; omega) hn, Below.heap_alloc _ _ _ (by simp; omega), Below.heap_alloc _ _ _ hj]
  refine ⟨(hk _ l0 (hne _ (by omega))).trans hb0, (hk _ l1 (hne _ (by omega))).trans hb1, (hk _ l2 (hne _ (by omega))).trans hb2, ?_, ?_⟩
  · rw [hg.block _ (by simp; omega) (fun h => by have := hown.lt _ h.symm; omega), Below.heap_alloc _ _ _ (by simp)]
    exact heap_alloc_new wr _
  · exact ((hbel.alloc (by omega) _).alloc (by simp; omega) _).grown hg (by simp; omega) (fun j hj => by have := hown.lt j hj; omega)

theorem lex_step {W w1 : World} {v : Value} {s : ByteArray} {p q : Nat} {acc : List Tok} {T : Bytes} {K : Int} (hlt : p < s.size) (hal : acc.length ≤ p)
    (hlex : lexM s.toList = Res.glue acc (lexL (s.toList.drop p) p)) (hone : one (s.toList.drop p) = (T, K, 0)) (hq : p + T.length + skip false (s.toList.drop (p + T.length)) = q)
    (hb0 : w1.heap[W.heap.size]? = some (.cells #[.string s] 9 (0, 0))) (hb1 : w1.heap[W.heap.size + 1]? = some (.cells #[.int .i64 0, .int .i64 0] 33 (0, 0)))
    (hb2 : w1.heap[W.heap.size + 1 + 1]? = some (.cells #[.int .i64 (p : Int)] 3 (0, 0))) (hbel : Below W.heap.size W w1)
    (hown : w1.ownsRow (W.heap.size + 3) 54 3 v (acc.length + 1) (cellsOf acc ++ [.int .i64 K, .string (str T), .int .i64 (p : Int)])) :
    LexRel s W v (w1.setCell ⟨W.heap.size + 1 + 1, 0, none⟩ (.int .i64 (q : Int))) ∧ p < q ∧ q ≤ s.size := by
  have hpos : 0 < T.length := by
    have := one_pos s[p] (s.toList.drop (p + 1)) (by rw [← drop_cons s p hlt, hone])
    rw [← drop_cons s p hlt, hone] at this; exact this
  have hle := one_le (s.toList.drop p)
  rw [hone, List.length_drop, toList_len] at hle
  have hsk := skipF_le false (s.toList.drop (p + T.length))
  rw [List.length_drop, toList_len] at hsk
  have hqs : q ≤ s.size := by simp only at hle; omega
  refine ⟨⟨q, acc ++ [⟨K, T, p⟩], hqs, by simp; omega, ?_, ?_, ?_, one_setCell hb2, ?_, hbel.setCell (by show _ ≤ W.heap.size + 1 + 1; omega) _⟩, by omega, hqs⟩
  · rw [hlex, drop_cons s p hlt, lexL_cons _ _ _ (by rw [← drop_cons s p hlt, hone]), ← drop_cons s p hlt, hone, Res.glue_cons]
    simp only [List.drop_drop]
    rw [hq]
  · rw [Below.heap_setCell _ _ _ _ (by simp; omega)]; exact hb0
  · rw [Below.heap_setCell _ _ _ _ (by simp)]; exact hb1
  · rw [cells_snoc, List.length_append]
    exact ownsRow_setCell_below hown (by show W.heap.size + 1 + 1 < _; omega) _

theorem at_step {wr w1 : World} {a : Addr} {p n : Nat} {u : Value} (c : wr.cell? a = some (.int .i64 (p : Int))) (e : w1.cell? a = some u) (q : Nat) (h1 : p < q) (h2 : q ≤ n) :
    n - (atOf (w1.setCell a (.int .i64 (q : Int))) a).toNat < n - (atOf wr a).toNat := by
  unfold atOf
  rw [c, World.cell?_setCell_same _ _ _ e]
  simp [intOf]; omega

theorem lex_bad {s : ByteArray} {p : Nat} {acc : List Tok} {T : Bytes} {K E : Int} (hlt : p < s.size) (hlex : lexM s.toList = Res.glue acc (lexL (s.toList.drop p) p)) (hone : one (s.toList.drop p) = (T, K, E)) (hE : E ≠ 0) :
    lexM s.toList = .bad E p := by
  rw [hlex, drop_cons s p hlt, lexL_bad _ _ _ (by rw [← drop_cons s p hlt, hone]; exact hE), ← drop_cons s p hlt, hone]; rfl

set_option maxRecDepth 100000 in
set_option maxHeartbeats 4000000 in
theorem lex_any (s : ByteArray) (w : World) (h : s.size ≤ maxLen) : Calls Tryz.prog 34 #[.string s] w (LexPost w (lexM s.toList)) := by
  obtain ⟨i0, hi, hz0, hz1, hz2⟩ := info_parts info42
  unfold maxLen at h
  by_cases hbig : s.size ≤ 100000
  · have h' : s.size ≤ maxLen := by unfold maxLen; omega
    go_enter Tryz.func34, Tryz.ntmps34
    go_wp2_with (go_at_call 64; refine (passed_any _ 0 _ h' (Nat.zero_le _)).mono ?_; rintro e w' ⟨rfl, rfl⟩)
    go_loopw [6] (fun v wr => LexRel s w v wr) (fun _ wr => s.size - (atOf wr ⟨w.heap.size + 1 + 1, 0, none⟩).toNat)
    case atStart =>
      have hk := skipF_le false s.toList
      rw [toList_len] at hk
      refine ⟨skip false s.toList, [], hk, Nat.zero_le _, ?_, ?_, ?_, ?_, World.ownsRow_nil _ _ _ _, (((Below.refl _ _).alloc (Nat.le_refl _) _).alloc (by simp) _).alloc (by simp; omega) _⟩
      · rw [lexM_eq _ (by rw [toList_len]; omega)]; cases lexL (s.toList.drop (skip false s.toList)) (skip false s.toList) <;> rfl
      · rw [Below.heap_alloc _ _ _ (by simp; omega), Below.heap_alloc _ _ _ (by simp)]; exact heap_alloc_new w _
      · rw [Below.heap_alloc _ _ _ (by simp)]; exact (congrArg (fun i => ((w.alloc (.cells #[.string s] 9)).alloc (.cells #[.int .i64 0, .int .i64 0] 33)).heap[i]?) (show w.heap.size + 1 = (w.alloc (.cells #[.string s] 9)).heap.size by simp)).trans (heap_alloc_new _ _)
      · exact (congrArg (fun i => (((w.alloc (.cells #[.string s] 9)).alloc (.cells #[.int .i64 0, .int .i64 0] 33)).alloc (.cells #[.int .i64 (skip false s.toList : Int)] 3)).heap[i]?) (show w.heap.size + 1 + 1 = ((w.alloc (.cells #[.string s] 9)).alloc (.cells #[.int .i64 0, .int .i64 0] 33)).heap.size by simp)).trans (heap_alloc_new _ _)
    case round =>
      obtain ⟨p, acc, hp, hal, hlex, hb0, hb1, hb2, hown, hbel⟩ := hrel
      have hsz := lt_of_block hb2
      have hs0 := lt_of_block hb0
      have hs1 := lt_of_block hb1
      have hn0 : w.heap.size ≠ wr.heap.size := by omega
      have hn2 : w.heap.size + 1 + 1 ≠ wr.heap.size := by omega
      have c0 := cell_of_one hb0
      have c2 := cell_of_one hb2
      have f2 := free_of_one hb2
      have HL := Lib.hid hlex
      have H0 := Lib.hid hb0
      have H1 := Lib.hid hb1
      have H2 := Lib.hid hb2
      clear hlex hb0 hb1 hb2
      by_cases hlt : p < s.size
      · have HC := Lib.hid (drop_cons s p hlt)
        rcases Bool.eq_false_or_eq_true (digitB s[p]) with hd | hd
        · obtain ⟨T, hT⟩ : ∃ T, (s.toList.drop p).takeWhile digitB = T := ⟨_, rfl⟩
          obtain ⟨K, E, hk⟩ : ∃ K E, digM T = (K, E) := ⟨_, _, rfl⟩
          have hone : one (s.toList.drop p) = (T, K, E) := by
            unfold one; rw [HC.out, List.headD_cons, if_pos hd, ← HC.out, hT, hk]
          have hTp : 0 < T.length := by rw [← hT, HC.out, List.takeWhile_cons, hd]; simp
          have hTl : T.length ≤ s.size - p := by rw [← hT]; refine Nat.le_trans (takeWhile_le _ _) ?_; rw [List.length_drop, toList_len]; omega
          have HT := Lib.hid hT
          have HK := Lib.hid hk
          have HO := Lib.hid hone
          clear hT hk hone
          by_cases hE : E = 0
          · subst hE
            go_wp2_with (first | (go_at_call 46; refine (isDigit_any _ _).mono ?_; rintro e w' ⟨rfl, rfl⟩) | (go_at_call 65; refine (rowDigit_at s p T _ _ _ h' hp (by go_simp) (by go_simp) HT.out).mono ?_; rintro e w' ⟨rfl, rfl⟩) | (go_at_call 66; refine (digits_str T K 0 _ (by unfold maxLen; omega) hTp HK.out).mono ?_; rintro e w' ⟨rfl, rfl⟩) | (at_builtin; refine wpList_append_own _ rfl (.tmp 69) (.tmp 71) 30 rfl (w.heap.size + 3) 54 i0 _ 3 32 Tryz.underlying30 hi hz0 hz1 hz2 rfl (by decide) _ _ _ rfl ((hown.alloc _).alloc _) ⟨wr.heap.size + 1, 0, none⟩ 1 1 [.int .i64 K, .string (str T), .int .i64 p] rfl rfl ?a1 ?b1 ?c1 ?d1 ?e1 ?_))
            case a1 => intro j u hj; match j, hj with | 0, hj => (simp at hj; subst hj; simp [Addr.add]) | 1, hj => (simp at hj; subst hj; simp [Addr.add]) | 2, hj => (simp at hj; subst hj; simp [Addr.add])
            case b1 => intro u hu; simp at hu; rcases hu with rfl | rfl | rfl <;> rfl
            case c1 => unfold maxLen; omega
            case d1 => omega
            case e1 => simp; omega
            intro v' w1 hown' hgrow _
            obtain ⟨d0, d1, d2, d3, d4⟩ := lex_mid H0.out H1.out H2.out hbel hown hgrow
            obtain ⟨q, hq⟩ : ∃ q, p + T.length + skip false (s.toList.drop (p + T.length)) = q := ⟨_, rfl⟩
            have hsz1 := lt_of_block d2
            have e0 := cell_of_one d0
            have e2 := cell_of_one d2
            have g2 := free_of_one d2
            have e3 : w1.cell? ⟨wr.heap.size, 1, none⟩ = some (.string (str T)) := by simp [World.cell?, d3]
            have R := Lib.hid (lex_step hlt hal HL.out HO.out hq d0 d1 d2 d4 hown')
            have HM := Lib.hid (at_step c2 e2 q R.out.2.1 R.out.2.2)
            have HQ := Lib.hid hq
            have hss := str_size T
            clear hq hown hown' hgrow c0 c2 f2 d0 d1 d2 d3 d4
            go_wp2_with (go_at_call 64; refine (passed_int s _ (p + T.length) q _ (by omega) h' (by omega) HQ.out).mono ?_; rintro e w' ⟨rfl, rfl⟩)
            go_roundw
            case rel => exact R.out.1
            case measure => exact HM.out
          · have hE1 : (E != 0) = true := bne_iff_ne.2 hE
            have HB := Lib.hid (lex_bad hlt HL.out HO.out hE)
            clear hE
            rw [HB.out]
            have c10 : wr.cell? ⟨w.heap.size + 1, 0, none⟩ = some (.int .i64 0) := by simp [World.cell?, H1.out]
            have c11 : wr.cell? ⟨w.heap.size + 1, 1, none⟩ = some (.int .i64 0) := by simp [World.cell?, H1.out]
            have f10 : wr.frozen? ⟨w.heap.size + 1, 0, none⟩ = false := by simp [World.frozen?, H1.out]
            have f11 : wr.frozen? ⟨w.heap.size + 1, 1, none⟩ = false := by simp [World.frozen?, H1.out]
            clear hown
            go_wp2_with (first | (go_at_call 46; refine (isDigit_any _ _).mono ?_; rintro e w' ⟨rfl, rfl⟩) | (go_at_call 65; refine (rowDigit_at s p T _ _ _ h' hp (by go_simp) (by go_simp) HT.out).mono ?_; rintro e w' ⟨rfl, rfl⟩) | (go_at_call 66; refine (digits_str T K E _ (by unfold maxLen; omega) hTp HK.out).mono ?_; rintro e w' ⟨rfl, rfl⟩))
            go_region
            all_goals go_wp2
            all_goals exact bodyPost_ret (v := .tuple #[.slice none 0 0, .agg #[.int .i64 E, .int .i64 (p : Int)]]) (by simp [results, Tryz.results34, go_sem, c10, c11, hs1]) rfl ⟨_, rfl, World.ownsRow_nil _ _ _ _, (((hbel.setCell (by show _ ≤ w.heap.size + 1; omega) _).setCell (by show _ ≤ w.heap.size + 1; omega) _).alloc (by simp; omega) _).drew⟩
        · rcases Bool.eq_false_or_eq_true (ofNameB s[p]) with hn | hn
          · obtain ⟨T, hT⟩ : ∃ T, (s.toList.drop p).takeWhile ofNameB = T := ⟨_, rfl⟩
            obtain ⟨K, E, hk⟩ : ∃ K E, letM T = (K, E) := ⟨_, _, rfl⟩
            have hone : one (s.toList.drop p) = (T, K, E) := by
              unfold one; rw [HC.out, List.headD_cons, if_neg (by rw [hd]; simp), if_pos hn, ← HC.out, hT, hk]
            have hTp : 0 < T.length := by rw [← hT, HC.out, List.takeWhile_cons, hn]; simp
            have hTl : T.length ≤ s.size - p := by rw [← hT]; refine Nat.le_trans (takeWhile_le _ _) ?_; rw [List.length_drop, toList_len]; omega
            have HT := Lib.hid hT
            have HK := Lib.hid hk
            have HO := Lib.hid hone
            clear hT hk hone
            by_cases hE : E = 0
            · subst hE
              go_wp2_with (first | (go_at_call 46; refine (isDigit_any _ _).mono ?_; rintro e w' ⟨rfl, rfl⟩) | (go_at_call 48; refine (isOfName_any _ _).mono ?_; rintro e w' ⟨rfl, rfl⟩) | (go_at_call 65; refine (rowOfName_at s p T _ _ _ h' hp (by go_simp) (by go_simp) HT.out).mono ?_; rintro e w' ⟨rfl, rfl⟩) | (go_at_call 67; refine (letters_str T K 0 _ (by unfold maxLen; omega) HK.out).mono ?_; rintro e w' ⟨rfl, rfl⟩) | (at_builtin; refine wpList_append_own _ rfl (.tmp 69) (.tmp 71) 30 rfl (w.heap.size + 3) 54 i0 _ 3 32 Tryz.underlying30 hi hz0 hz1 hz2 rfl (by decide) _ _ _ rfl ((hown.alloc _).alloc _) ⟨wr.heap.size + 1, 0, none⟩ 1 1 [.int .i64 K, .string (str T), .int .i64 p] rfl rfl ?a2 ?b2 ?c2 ?d2 ?e2 ?_))
              case a2 => intro j u hj; match j, hj with | 0, hj => (simp at hj; subst hj; simp [Addr.add]) | 1, hj => (simp at hj; subst hj; simp [Addr.add]) | 2, hj => (simp at hj; subst hj; simp [Addr.add])
              case b2 => intro u hu; simp at hu; rcases hu with rfl | rfl | rfl <;> rfl
              case c2 => unfold maxLen; omega
              case d2 => omega
              case e2 => simp; omega
              intro v' w1 hown' hgrow _
              obtain ⟨d0, d1, d2, d3, d4⟩ := lex_mid H0.out H1.out H2.out hbel hown hgrow
              obtain ⟨q, hq⟩ : ∃ q, p + T.length + skip false (s.toList.drop (p + T.length)) = q := ⟨_, rfl⟩
              have hsz1 := lt_of_block d2
              have e0 := cell_of_one d0
              have e2 := cell_of_one d2
              have g2 := free_of_one d2
              have e3 : w1.cell? ⟨wr.heap.size, 1, none⟩ = some (.string (str T)) := by simp [World.cell?, d3]
              have R := Lib.hid (lex_step hlt hal HL.out HO.out hq d0 d1 d2 d4 hown')
              have HM := Lib.hid (at_step c2 e2 q R.out.2.1 R.out.2.2)
              have HQ := Lib.hid hq
              have hss := str_size T
              clear hq hown hown' hgrow c0 c2 f2 d0 d1 d2 d3 d4
              go_wp2_with (go_at_call 64; refine (passed_int s _ (p + T.length) q _ (by omega) h' (by omega) HQ.out).mono ?_; rintro e w' ⟨rfl, rfl⟩)
              go_roundw
              case rel => exact R.out.1
              case measure => exact HM.out
            · have hE1 : (E != 0) = true := bne_iff_ne.2 hE
              have HB := Lib.hid (lex_bad hlt HL.out HO.out hE)
              clear hE
              rw [HB.out]
              have c10 : wr.cell? ⟨w.heap.size + 1, 0, none⟩ = some (.int .i64 0) := by simp [World.cell?, H1.out]
              have c11 : wr.cell? ⟨w.heap.size + 1, 1, none⟩ = some (.int .i64 0) := by simp [World.cell?, H1.out]
              have f10 : wr.frozen? ⟨w.heap.size + 1, 0, none⟩ = false := by simp [World.frozen?, H1.out]
              have f11 : wr.frozen? ⟨w.heap.size + 1, 1, none⟩ = false := by simp [World.frozen?, H1.out]
              clear hown
              go_wp2_with (first | (go_at_call 46; refine (isDigit_any _ _).mono ?_; rintro e w' ⟨rfl, rfl⟩) | (go_at_call 48; refine (isOfName_any _ _).mono ?_; rintro e w' ⟨rfl, rfl⟩) | (go_at_call 65; refine (rowOfName_at s p T _ _ _ h' hp (by go_simp) (by go_simp) HT.out).mono ?_; rintro e w' ⟨rfl, rfl⟩) | (go_at_call 67; refine (letters_str T K E _ (by unfold maxLen; omega) HK.out).mono ?_; rintro e w' ⟨rfl, rfl⟩))
              go_region
              all_goals go_wp2
              all_goals exact bodyPost_ret (v := .tuple #[.slice none 0 0, .agg #[.int .i64 E, .int .i64 (p : Int)]]) (by simp [results, Tryz.results34, go_sem, c10, c11, hs1]) rfl ⟨_, rfl, World.ownsRow_nil _ _ _ _, (((hbel.setCell (by show _ ≤ w.heap.size + 1; omega) _).setCell (by show _ ≤ w.heap.size + 1; omega) _).alloc (by simp; omega) _).drew⟩
          · obtain ⟨T, hT⟩ : ∃ T, signOf (s.toList.drop p) = T := ⟨_, rfl⟩
            obtain ⟨K, E, hk⟩ : ∃ K E, sigM T = (K, E) := ⟨_, _, rfl⟩
            have hone : one (s.toList.drop p) = (T, K, E) := by
              unfold one; rw [HC.out, List.headD_cons, if_neg (by rw [hd]; simp), if_neg (by rw [hn]; simp), ← HC.out, hT, hk]
            have hTl : T.length ≤ s.size - p := by rw [← hT]; refine Nat.le_trans (sign_le _) ?_; rw [List.length_drop, toList_len]; omega
            have HT := Lib.hid hT
            have HK := Lib.hid hk
            have HO := Lib.hid hone
            clear hT hk hone
            by_cases hE : E = 0
            · subst hE
              go_wp2_with (first | (go_at_call 46; refine (isDigit_any _ _).mono ?_; rintro e w' ⟨rfl, rfl⟩) | (go_at_call 48; refine (isOfName_any _ _).mono ?_; rintro e w' ⟨rfl, rfl⟩) | (go_at_call 68; refine (longestSign_at s p T _ h' hlt HT.out).mono ?_; rintro e w' ⟨rfl, rfl⟩) | (go_at_call 69; refine (sign_str T K 0 _ HK.out).mono ?_; rintro e w' ⟨rfl, rfl⟩) | (at_builtin; refine wpList_append_own _ rfl (.tmp 69) (.tmp 71) 30 rfl (w.heap.size + 3) 54 i0 _ 3 32 Tryz.underlying30 hi hz0 hz1 hz2 rfl (by decide) _ _ _ rfl ((hown.alloc _).alloc _) ⟨wr.heap.size + 1, 0, none⟩ 1 1 [.int .i64 K, .string (str T), .int .i64 p] rfl rfl ?a3 ?b3 ?c3 ?d3 ?e3 ?_))
              case a3 => intro j u hj; match j, hj with | 0, hj => (simp at hj; subst hj; simp [Addr.add]) | 1, hj => (simp at hj; subst hj; simp [Addr.add]) | 2, hj => (simp at hj; subst hj; simp [Addr.add])
              case b3 => intro u hu; simp at hu; rcases hu with rfl | rfl | rfl <;> rfl
              case c3 => unfold maxLen; omega
              case d3 => omega
              case e3 => simp; omega
              intro v' w1 hown' hgrow _
              obtain ⟨d0, d1, d2, d3, d4⟩ := lex_mid H0.out H1.out H2.out hbel hown hgrow
              obtain ⟨q, hq⟩ : ∃ q, p + T.length + skip false (s.toList.drop (p + T.length)) = q := ⟨_, rfl⟩
              have hsz1 := lt_of_block d2
              have e0 := cell_of_one d0
              have e2 := cell_of_one d2
              have g2 := free_of_one d2
              have e3 : w1.cell? ⟨wr.heap.size, 1, none⟩ = some (.string (str T)) := by simp [World.cell?, d3]
              have R := Lib.hid (lex_step hlt hal HL.out HO.out hq d0 d1 d2 d4 hown')
              have HM := Lib.hid (at_step c2 e2 q R.out.2.1 R.out.2.2)
              have HQ := Lib.hid hq
              have hss := str_size T
              clear hq hown hown' hgrow c0 c2 f2 d0 d1 d2 d3 d4
              go_wp2_with (go_at_call 64; refine (passed_int s _ (p + T.length) q _ (by omega) h' (by omega) HQ.out).mono ?_; rintro e w' ⟨rfl, rfl⟩)
              go_roundw
              case rel => exact R.out.1
              case measure => exact HM.out
            · have hE1 : (E != 0) = true := bne_iff_ne.2 hE
              have HB := Lib.hid (lex_bad hlt HL.out HO.out hE)
              clear hE
              rw [HB.out]
              have c10 : wr.cell? ⟨w.heap.size + 1, 0, none⟩ = some (.int .i64 0) := by simp [World.cell?, H1.out]
              have c11 : wr.cell? ⟨w.heap.size + 1, 1, none⟩ = some (.int .i64 0) := by simp [World.cell?, H1.out]
              have f10 : wr.frozen? ⟨w.heap.size + 1, 0, none⟩ = false := by simp [World.frozen?, H1.out]
              have f11 : wr.frozen? ⟨w.heap.size + 1, 1, none⟩ = false := by simp [World.frozen?, H1.out]
              clear hown
              go_wp2_with (first | (go_at_call 46; refine (isDigit_any _ _).mono ?_; rintro e w' ⟨rfl, rfl⟩) | (go_at_call 48; refine (isOfName_any _ _).mono ?_; rintro e w' ⟨rfl, rfl⟩) | (go_at_call 68; refine (longestSign_at s p T _ h' hlt HT.out).mono ?_; rintro e w' ⟨rfl, rfl⟩) | (go_at_call 69; refine (sign_str T K E _ HK.out).mono ?_; rintro e w' ⟨rfl, rfl⟩))
              go_region
              all_goals go_wp2
              all_goals exact bodyPost_ret (v := .tuple #[.slice none 0 0, .agg #[.int .i64 E, .int .i64 (p : Int)]]) (by simp [results, Tryz.results34, go_sem, c10, c11, hs1]) rfl ⟨_, rfl, World.ownsRow_nil _ _ _ _, (((hbel.setCell (by show _ ≤ w.heap.size + 1; omega) _).setCell (by show _ ≤ w.heap.size + 1; omega) _).alloc (by simp; omega) _).drew⟩
      · have hfin : lexM s.toList = .ok acc := by
          rw [HL.out, List.drop_eq_nil_of_le (by rw [toList_len]; omega), lexL_nil]; simp [Res.glue]
        have HF := Lib.hid hfin
        have c10 : wr.cell? ⟨w.heap.size + 1, 0, none⟩ = some (.int .i64 0) := by simp [World.cell?, H1.out]
        have c11 : wr.cell? ⟨w.heap.size + 1, 1, none⟩ = some (.int .i64 0) := by simp [World.cell?, H1.out]
        have f10 : wr.frozen? ⟨w.heap.size + 1, 0, none⟩ = false := by simp [World.frozen?, H1.out]
        have f11 : wr.frozen? ⟨w.heap.size + 1, 1, none⟩ = false := by simp [World.frozen?, H1.out]
        clear hfin
        go_wp2
        rw [HF.out]
        refine bodyPost_ret (v := .tuple #[u6, .agg #[.int .i64 0, .int .i64 0]]) (by simp [results, Tryz.results34, go_sem, c10, c11]) rfl ⟨_, rfl, ?_, (hbel.setCell (by show _ ≤ w.heap.size + 1; omega) _).setCell (by show _ ≤ w.heap.size + 1; omega) _⟩
        exact own_base (ownsRow_setCell_below (ownsRow_setCell_below hown (by show w.heap.size + 1 < _; omega) _) (by show w.heap.size + 1 < _; omega) _) (by omega)
  · go_enter Tryz.func34, Tryz.ntmps34
    go_wp2
    have hm : lexM s.toList = .bad 7 (-1) := by unfold lexM; rw [if_pos (by rw [toList_len]; omega)]
    rw [hm]
    exact bodyPost_ret (v := .tuple #[.slice none 0 0, .agg #[.int .i64 7, .int .i64 (-1)]]) (by simp [results, Tryz.results34, go_sem]) rfl ⟨_, rfl, World.ownsRow_nil _ _ _ _, ((Below.refl _ _).alloc (Nat.le_refl _) _).alloc (by simp) _⟩
end Go.Proofs.YtgohhnbdicdenaaGreatDoor.Lx

/- Lists of tokens in memory; the function Same of the document's answer tells whether two are the same. Conditions: both are read as lists of tokens. -/
namespace Go.Proofs.YtgohhnbdicdenaaGreatDoor.Lx
open Go.ChangeShapes Go.WideShapes Go.ChangeAt Go.RowKit
set_option linter.unusedVariables false

/-- A slice value reads as a list of tokens. -/
def Toks (w : World) (v : Value) (l : List Tok) : Prop :=
  ∃ A c, v = .slice A l.length c ∧ l.length ≤ c ∧ c ≤ maxLen ∧ ∀ i t, l[i]? = some t → ∃ g, A = some ⟨g, 0, none⟩ ∧ g < w.heap.size ∧
    w.cell? ⟨g, i * 3, none⟩ = some (.int .i64 t.kind) ∧ w.cell? ⟨g, i * 3 + 1, none⟩ = some (.string (str t.text)) ∧ w.cell? ⟨g, i * 3 + 2, none⟩ = some (.int .i64 (t.at_ : Int))

theorem cells_at (l : List Tok) (i : Nat) (t : Tok) (h : l[i]? = some t) :
    (cellsOf l)[i * 3]? = some (.int .i64 t.kind) ∧ (cellsOf l)[i * 3 + 1]? = some (.string (str t.text)) ∧ (cellsOf l)[i * 3 + 2]? = some (.int .i64 (t.at_ : Int)) := by
  induction l generalizing i with
  | nil => simp at h
  | cons a r ih =>
    cases i with
    | zero => simp at h; subst h; simp [cellsOf, tokCells]
    | succ i =>
      simp at h
      have e : ∀ k, (cellsOf (a :: r))[(i + 1) * 3 + k]? = (cellsOf r)[i * 3 + k]? := fun k => by
        show ([_, _, _] ++ cellsOf r)[(i + 1) * 3 + k]? = _
        rw [List.getElem?_append_right (by simp; omega)]
        congr 1; simp; omega
      have := ih i h
      exact ⟨(e 0).trans this.1, (e 1).trans this.2.1, (e 2).trans this.2.2⟩

theorem Toks.of_own {w : World} {b : Nat} {v : Value} {l : List Tok} (h : w.ownsRow b 54 3 v l.length (cellsOf l)) : Toks w v l := by
  obtain ⟨hl, h0 | ⟨g, cap, cur, rfl, hb, hh, hnc, hcm, hcs, hct⟩⟩ := h
  · obtain ⟨rfl, h0⟩ := h0
    have : l = [] := List.length_eq_zero_iff.1 h0
    subst this
    exact ⟨none, 0, rfl, by simp, by unfold maxLen; omega, fun i t h => by simp at h⟩
  · have h : w.ownsRow b 54 3 (.slice (some ⟨g, 0, none⟩) l.length cap) l.length (cellsOf l) := ⟨hl, .inr ⟨g, cap, cur, rfl, hb, hh, hnc, hcm, hcs, hct⟩⟩
    refine ⟨some ⟨g, 0, none⟩, cap, rfl, hnc, hcm, fun i t hi => ⟨g, rfl, lt_of_block hh, ?_⟩⟩
    have hil : i < l.length := (List.getElem?_eq_some_iff.1 hi).1
    obtain ⟨c0, c1, c2⟩ := cells_at l i t hi
    exact ⟨(h.cellAt _ (by omega)).trans c0, (h.cellAt _ (by omega)).trans c1, (h.cellAt _ (by omega)).trans c2⟩
theorem Toks.below {w w' : World} {B : Nat} {v : Value} {l : List Tok} (h : Toks w v l) (hb : Below B w w') (hB : w.heap.size ≤ B) : Toks w' v l := by
  obtain ⟨A, c, rfl, h1, h2, h3⟩ := h
  refine ⟨A, c, rfl, h1, h2, fun i t hi => ?_⟩
  obtain ⟨g, hg, hlt, c0, c1, c2⟩ := h3 i t hi
  have hs := hb.size
  exact ⟨g, hg, by omega, (hb.cell (by show g < _; omega)).trans c0, (hb.cell (by show g < _; omega)).trans c1, (hb.cell (by show g < _; omega)).trans c2⟩

theorem und42 : Tryz.prog.underlying 54 = some (.struct (Tryz.prog.fieldsOf 54)) := by kernel_rfl
theorem stood42 : Tryz.prog.stoodInHeld 54 = false := by kernel_rfl
theorem guard42 : Tryz.prog.eqGuardType Tryz.prog.depth 54 = false := by kernel_rfl
theorem und35 : Tryz.prog.underlying 33 = some (.struct (Tryz.prog.fieldsOf 33)) := by kernel_rfl
theorem stood35 : Tryz.prog.stoodInHeld 33 = false := by kernel_rfl
theorem guard35 : Tryz.prog.eqGuardType Tryz.prog.depth 33 = false := by kernel_rfl

theorem equal_tok (d : Nat) (K1 K2 P1 P2 : Int) (T1 T2 : ByteArray) (w : World) :
    (Op.equalIn (d + 2) 54 (.agg #[.int .i64 K1, .string T1, .int .i64 P1]) (.agg #[.int .i64 K2, .string T2, .int .i64 P2])).run Tryz.prog w =
      .ok (K1 == K2 && (T1.toList == T2.toList && P1 == P2)) w := by
  rw [run_equalIn_agg w (d + 1) 54 _ _ und42 stood42]
  simp only [Program.fieldsOf, Tryz.underlying54]
  rcases Bool.eq_false_or_eq_true (K1 == K2) with h1 | h1 <;> rcases Bool.eq_false_or_eq_true (T1.toList == T2.toList) with h2 | h2 <;> rcases Bool.eq_false_or_eq_true (P1 == P2) with h3 | h3 <;>
    simp [go_sem, h1, h2, h3, Tryz.underlying3, Tryz.underlying9]
/-- Whether two tokens are the same, of their cells. -/
def tokB (K1 K2 P1 P2 : Int) (T1 T2 : ByteArray) : Bool := K1 == K2 && (T1.toList == T2.toList && P1 == P2)
theorem neq_tok (K1 K2 P1 P2 : Int) (T1 T2 : ByteArray) (w : World) :
    (binOp .neq 54 (.agg #[.int .i64 K1, .string T1, .int .i64 P1]) (.agg #[.int .i64 K2, .string T2, .int .i64 P2])).run Tryz.prog w = .ok (.bool (!tokB K1 K2 P1 P2 T1 T2)) w := by
  rw [run_neq_struct, show (10000 : Nat) = 9998 + 2 from rfl, equal_tok]; rfl
theorem eql_tok (K1 K2 P1 P2 : Int) (T1 T2 : ByteArray) (w : World) :
    (binOp .eql 54 (.agg #[.int .i64 K1, .string T1, .int .i64 P1]) (.agg #[.int .i64 K2, .string T2, .int .i64 P2])).run Tryz.prog w = .ok (.bool (tokB K1 K2 P1 P2 T1 T2)) w := by
  rw [run_eql_struct, show (10000 : Nat) = 9998 + 2 from rfl, equal_tok]; rfl
theorem guard_tok (op : BinOp) (x y : Operand) (xs ys : Array Value) (w : World) : (eqGuard op 54 x y (.agg xs) (.agg ys)).run Tryz.prog w = .ok () w := run_eqGuard_agg w op 54 x y xs ys guard42
theorem equal_fault (d : Nat) (K1 K2 P1 P2 : Int) (w : World) :
    (Op.equalIn (d + 2) 33 (.agg #[.int .i64 K1, .int .i64 P1]) (.agg #[.int .i64 K2, .int .i64 P2])).run Tryz.prog w = .ok (K1 == K2 && P1 == P2) w := by
  rw [run_equalIn_agg w (d + 1) 33 _ _ und35 stood35]
  simp only [Program.fieldsOf, Tryz.underlying33]
  rcases Bool.eq_false_or_eq_true (K1 == K2) with h1 | h1 <;> rcases Bool.eq_false_or_eq_true (P1 == P2) with h3 | h3 <;>
    simp [go_sem, h1, h3, Tryz.underlying3, Tryz.underlying31]
def faultB (K1 K2 P1 P2 : Int) : Bool := K1 == K2 && P1 == P2
theorem eql_fault (K1 K2 P1 P2 : Int) (w : World) :
    (binOp .eql 33 (.agg #[.int .i64 K1, .int .i64 P1]) (.agg #[.int .i64 K2, .int .i64 P2])).run Tryz.prog w = .ok (.bool (faultB K1 K2 P1 P2)) w := by
  rw [run_eql_struct, show (10000 : Nat) = 9998 + 2 from rfl, equal_fault]; rfl
theorem guard_fault (op : BinOp) (x y : Operand) (xs ys : Array Value) (w : World) : (eqGuard op 33 x y (.agg xs) (.agg ys)).run Tryz.prog w = .ok () w := run_eqGuard_agg w op 33 x y xs ys guard35
theorem tokB_str (K1 K2 : Int) (P1 P2 : Nat) (T1 T2 : Bytes) : tokB K1 K2 P1 P2 (str T1) (str T2) = decide ((⟨K1, T1, P1⟩ : Tok) = ⟨K2, T2, P2⟩) := by
  unfold tokB; rw [str_toList, str_toList, Bool.eq_iff_iff]
  simp [Tok.mk.injEq, Int.natCast_inj]

attribute [local go_sem ↓] neq_tok eql_tok guard_tok eql_fault guard_fault
theorem take_next {α : Type} {l m : List α} {k : Nat} {a : α} (h : l.take k = m.take k) (h1 : l[k]? = some a) (h2 : m[k]? = some a) : l.take (k + 1) = m.take (k + 1) := by
  rw [List.take_add_one, List.take_add_one, h, h1, h2]
end Go.Proofs.YtgohhnbdicdenaaGreatDoor.Lx

