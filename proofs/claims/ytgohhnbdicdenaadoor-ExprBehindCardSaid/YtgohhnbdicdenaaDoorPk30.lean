/- The document's answer 'Lex' of layer lex returns the tokens that lexM says, in memory of its own. Conditions: a text's length within a machine's. -/
import Derived.Test.YtgohhnbdicdenaaDoorPk29
import Derived.Test.YtgohhnbdicdenaaDoorPk25
import Derived.Test.YtgohhnbdicdenaaDoorPk28
import Derived.Test.YtgohhnbdicdenaaDoorPk11
namespace Go.Proofs.YtgohhnbdicdenaaDoor.Lx
open Go.ChangeShapes Go.WideShapes Go.ChangeAt Go.RowKit
set_option linter.unusedVariables false

theorem own_below {w w2 : World} {b : Nat} {v : Value} {n : Nat} {e : TypeId} {sz : Nat} {xs : List Value} (h : w.ownsRow b e sz v n xs) (hb : Below w.heap.size w w2) : w2.ownsRow b e sz v n xs := by
  refine ⟨h.1, ?_⟩
  rcases h.2 with h0 | ⟨g, cap, cur, h1, h2, h3, h4⟩
  · exact .inl h0
  · exact .inr ⟨g, cap, cur, h1, h2, (hb.block g (lt_of_block h3)).trans h3, h4⟩
theorem upto_le (l : Bytes) : upto l ≤ l.length := by
  induction l with
  | nil => simp [upto]
  | cons c r ih => simp only [upto, List.length_cons]; split <;> omega
/-- The loop's relation. -/
def RefRel (s : ByteArray) (W : World) (v a : Value) (wr : World) : Prop :=
  ∃ (p : Nat) (acc : List Tok), p ≤ s.size ∧ a = .int .i64 p ∧ acc.length ≤ p ∧ lexM s.toList = Res.glue acc (lexS (s.toList.drop p) p) ∧
    wr.heap[W.heap.size]? = some (.cells #[.int .i64 0, .int .i64 0] 27 (0, 0)) ∧ wr.ownsRow (W.heap.size + 1) 43 3 v acc.length (cellsOf acc) ∧ Below W.heap.size W wr
theorem ref_mid {W wr w2 w1 : World} {u : Value} {n : Nat} {xs : List Value} {c d : Array Value}
    (hb0 : wr.heap[W.heap.size]? = some (.cells #[.int .i64 0, .int .i64 0] 27 (0, 0))) (hbel : Below W.heap.size W wr) (h2 : Below wr.heap.size wr w2)
    (hown : wr.ownsRow (W.heap.size + 1) 43 3 u n xs) (hg : ((w2.alloc (.cells c 43)).alloc (.cells d 43)).grownBy w1 u.ownBlock) :
    w1.heap[W.heap.size]? = some (.cells #[.int .i64 0, .int .i64 0] 27 (0, 0)) ∧ w1.heap[w2.heap.size]? = some (.cells c 43 (0, 0)) ∧ Below W.heap.size W w1 := by
  have l0 := lt_of_block hb0
  have z := h2.size
  have hlt : ∀ j, some j = u.ownBlock → W.heap.size + 1 ≤ j ∧ j < wr.heap.size := fun j hj => hown.lt j hj.symm
  refine ⟨?_, ?_, ?_⟩
  · rw [hg.block _ (by simp; omega) (fun h => by have := hlt _ h; omega), Below.heap_alloc _ _ _ (by simp; omega), Below.heap_alloc _ _ _ (by omega), h2.block _ l0]; exact hb0
  · rw [hg.block _ (by simp; omega) (fun h => by have := hlt _ h; omega), Below.heap_alloc _ _ _ (by simp)]
    exact heap_alloc_new w2 _
  · exact (((hbel.trans (h2.mono hbel.size)).alloc (by omega) _).alloc (by simp; omega) _).grown hg (by simp; omega) (fun j hj => by have := hlt j hj.symm; omega)
theorem ref_step {W w1 : World} {v : Value} {s : ByteArray} {p : Nat} {acc : List Tok} {T : Bytes} {K : Int} (hlt : p < s.size) (hal : acc.length ≤ p)
    (hlex : lexM s.toList = Res.glue acc (lexS (s.toList.drop p) p)) (hone : one (s.toList.drop p) = (T, K, 0)) (hb : ¬ blankB s[p] = true) (hr : ¬ (s[p] = 45 ∧ (s.toList.drop (p + 1)).head? = some 45))
    (hb0 : w1.heap[W.heap.size]? = some (.cells #[.int .i64 0, .int .i64 0] 27 (0, 0))) (hbel : Below W.heap.size W w1)
    (hown : w1.ownsRow (W.heap.size + 1) 43 3 v (acc.length + 1) (cellsOf acc ++ [.int .i64 K, .string (str T), .int .i64 (p : Int)])) :
    RefRel s W v (.int .i64 ((p + T.length : Nat) : Int)) w1 ∧ 0 < T.length ∧ p + T.length ≤ s.size := by
  have hpos : 0 < T.length := by
    have := one_pos s[p] (s.toList.drop (p + 1)) (by rw [← drop_cons s p hlt, hone])
    rw [← drop_cons s p hlt, hone] at this; exact this
  have hle := one_le (s.toList.drop p)
  rw [hone, List.length_drop, toList_len] at hle
  have hqs : p + T.length ≤ s.size := by simp only at hle; omega
  refine ⟨⟨p + T.length, acc ++ [⟨K, T, p⟩], hqs, rfl, by simp; omega, ?_, hb0, ?_, hbel⟩, hpos, hqs⟩
  · rw [hlex, drop_cons s p hlt, lexS_cons _ _ _ hb hr (by rw [← drop_cons s p hlt, hone]), ← drop_cons s p hlt, hone, Res.glue_cons]
    simp only [List.drop_drop]
  · rw [cells_snoc, List.length_append]; exact hown
theorem ref_bad {s : ByteArray} {p : Nat} {acc : List Tok} {T : Bytes} {K E : Int} (hlt : p < s.size) (hlex : lexM s.toList = Res.glue acc (lexS (s.toList.drop p) p)) (hone : one (s.toList.drop p) = (T, K, E)) (hE : E ≠ 0)
    (hb : ¬ blankB s[p] = true) (hr : ¬ (s[p] = 45 ∧ (s.toList.drop (p + 1)).head? = some 45)) : lexM s.toList = .bad E p := by
  rw [hlex, drop_cons s p hlt, lexS_bad _ _ _ hb hr (by rw [← drop_cons s p hlt, hone]; exact hE), ← drop_cons s p hlt, hone]; rfl
theorem one_at (s : ByteArray) (p : Nat) (W : World) (h : s.size ≤ maxLen) (hp : p < s.size) (T : Bytes) (K E : Int) (ho : one (s.toList.drop p) = (T, K, E)) :
    (E = 0 → Calls Tryd.prog 32 #[.string (s.extract p s.size), .int .i64 p] W (GivesTok W K T p 0)) ∧ (E ≠ 0 → Calls Tryd.prog 32 #[.string (s.extract p s.size), .int .i64 p] W (GivesTok W 0 [] 0 E)) := by
  have e : (s.extract p s.size).size = s.size - p := by rw [ByteArray.size_extract]; omega
  have := refOne_any (s.extract p s.size) p W (by rw [e]; omega) (by rw [e]; omega)
  rw [extract_end] at this
  refine ⟨fun hE => ?_, fun hE => ?_⟩
  · subst hE; rw [oneTok_ok ho] at this; exact this
  · rw [oneTok_bad ho hE] at this; exact this
theorem blank_bytes (c : UInt8) : (blankB c = true → ((c.toNat : Int) == 32) = true ∨ (((c.toNat : Int) == 32) = false ∧ ((c.toNat : Int) == 9) = true) ∨ (((c.toNat : Int) == 32) = false ∧ ((c.toNat : Int) == 9) = false ∧ ((c.toNat : Int) == 10) = true) ∨
      (((c.toNat : Int) == 32) = false ∧ ((c.toNat : Int) == 9) = false ∧ ((c.toNat : Int) == 10) = false ∧ ((c.toNat : Int) == 13) = true)) ∧
    (¬ blankB c = true → ((c.toNat : Int) == 32) = false ∧ ((c.toNat : Int) == 9) = false ∧ ((c.toNat : Int) == 10) = false ∧ ((c.toNat : Int) == 13) = false) := by
  have q : ∀ k : UInt8, (c == k) = ((c.toNat : Int) == (k.toNat : Int)) := fun k => by
    rw [Bool.eq_iff_iff, beq_iff_eq, beq_iff_eq]; exact eq_cast _ _
  have hb : blankB c = (((c.toNat : Int) == 32) || ((c.toNat : Int) == 9) || ((c.toNat : Int) == 10) || ((c.toNat : Int) == 13)) := by
    unfold blankB; rw [q 32, q 9, q 10, q 13]; rfl
  rw [hb]
  cases ((c.toNat : Int) == 32) <;> cases ((c.toNat : Int) == 9) <;> cases ((c.toNat : Int) == 10) <;> cases ((c.toNat : Int) == 13) <;> simp


set_option maxRecDepth 100000 in
set_option maxHeartbeats 8000000 in
theorem refLex_any (s : ByteArray) (w : World) (h : s.size ≤ maxLen) : Calls Tryd.prog 16 #[.string s] w (LexPost w (lexM s.toList)) := by
  obtain ⟨i0, hi, hz0, hz1, hz2⟩ := info_parts info42
  unfold maxLen at h
  by_cases hbig : s.size ≤ 100000
  · have h' : s.size ≤ maxLen := by unfold maxLen; omega
    go_enter Tryd.func16, Tryd.ntmps16
    go_wp2
    go_loopw [4, 5] (fun v a wr => RefRel s w v a wr) (fun _ a _ => s.size - (intOf a).toNat)
    case atStart =>
      refine ⟨0, [], Nat.zero_le _, rfl, Nat.le_refl _, ?_, heap_alloc_new w _, World.ownsRow_nil _ _ _ _, (Below.refl _ _).alloc (Nat.le_refl _) _⟩
      rw [lexM_S _ (by rw [toList_len]; omega), List.drop_zero]; cases lexS s.toList 0 <;> rfl
    case round =>
      obtain ⟨p, acc, hp, rfl, hal, hlex, hb0, hown, hbel⟩ := hrel
      have hs0 := lt_of_block hb0
      have c0 : wr.cell? ⟨w.heap.size, 0, none⟩ = some (.int .i64 0) := by simp [World.cell?, hb0]
      have c1 : wr.cell? ⟨w.heap.size, 1, none⟩ = some (.int .i64 0) := by simp [World.cell?, hb0]
      have f0 : wr.frozen? ⟨w.heap.size, 0, none⟩ = false := by simp [World.frozen?, hb0]
      have f1 : wr.frozen? ⟨w.heap.size, 1, none⟩ = false := by simp [World.frozen?, hb0]
      have HL := Lib.hid hlex
      have H0 := Lib.hid hb0
      clear hlex hb0
      by_cases hlt : p < s.size
      · have HC := Lib.hid (drop_cons s p hlt)
        by_cases hbl : blankB s[p] = true
        · have HR := Lib.hid (show RefRel s w u4 (.int .i64 ((p : Int) + 1)) wr from ⟨p + 1, acc, by omega, by go_num, by omega, by rw [HL.out, HC.out, lexS_blank _ _ _ hbl], H0.out, hown, hbel⟩)
          rcases (blank_bytes s[p]).1 hbl with t | ⟨t1, t⟩ | ⟨t1, t2, t⟩ | ⟨t1, t2, t3, t⟩
          all_goals
            clear hown hbl
            go_wp2
            exact ⟨HR.out, by simp [intOf]; omega⟩
        · obtain ⟨t1, t2, t3, t4⟩ := (blank_bytes s[p]).2 hbl
          have HNB := Lib.hid hbl
          clear hbl
          by_cases hlt2 : p + 1 < s.size
          · have HC2 := Lib.hid (drop_cons s (p + 1) hlt2)
            rcases Bool.eq_false_or_eq_true ((s[p].toNat : Int) == 45) with q1 | q1
            · rcases Bool.eq_false_or_eq_true ((s[p + 1].toNat : Int) == 45) with q2 | q2
              · have HJ := Lib.hid (show ∀ j : Nat, j = p + upto (s.toList.drop p) → j ≤ s.size → p < j → RefRel s w u4 (.int .i64 (j : Int)) wr from fun j hj hj2 hj3 => ⟨j, acc, hj2, rfl, by omega, by
                  have a1 : s[p] = 45 := (eq_cast _ _).2 (by simpa using q1)
                  have a2 : s[p + 1] = 45 := (eq_cast _ _).2 (by simpa using q2)
                  have e : s.toList.drop p = 45 :: 45 :: s.toList.drop (p + 1 + 1) := by rw [HC.out, a1, HC2.out, a2]
                  rw [HL.out, hj]; conv => lhs; rw [e, lexS_remark, ← e]
                  rw [List.drop_drop], H0.out, hown, hbel⟩)
                have HUP := Lib.hid (upto_le (s.toList.drop p))
                have HPOS := Lib.hid (show 0 < upto (s.toList.drop p) from by
                  have a1 : s[p] = 45 := (eq_cast _ _).2 (by simpa using q1)
                  rw [HC.out, a1]; simp [upto]; omega)
                clear hown hbel c0 c1 f0 f1
                go_wp2
                go_loop [5] (fun i => ∃ j : Nat, p ≤ j ∧ j ≤ s.size ∧ i = .int .i64 j ∧ j + upto (s.toList.drop j) = p + upto (s.toList.drop p)) (fun i => s.size - (intOf i).toNat)
                case atStart => exact ⟨p, Nat.le_refl _, hp, rfl, rfl⟩
                case round =>
                  obtain ⟨j, hpj, hj, rfl, hu⟩ := hrel
                  have HU := Lib.hid hu
                  clear hu
                  by_cases hlj : j < s.size
                  · have HCJ := Lib.hid (drop_cons s j hlj)
                    rcases Bool.eq_false_or_eq_true ((s[j].toNat : Int) == 10) with q3 | q3
                    · have HE := Lib.hid (show upto (s.toList.drop j) = 0 from by
                        have a1 : s[j] = 10 := (eq_cast _ _).2 (by simpa using q3)
                        rw [HCJ.out, a1]; simp [upto])
                      go_wp2
                      have e1 := HU.out
                      rw [HE.out] at e1
                      have e2 := HPOS.out
                      exact ⟨HJ.out j (by omega) hj (by omega), by simp [intOf]; omega⟩
                    · have HE := Lib.hid (show upto (s.toList.drop j) = 1 + upto (s.toList.drop (j + 1)) from by
                        rw [HCJ.out]; simp only [upto]
                        rw [if_neg (by intro e; rw [e] at q3; simp at q3)])
                      go_wp2
                      go_round
                      case rel => exact ⟨j + 1, by omega, by omega, by go_num, by have e1 := HU.out; rw [HE.out] at e1; omega⟩
                      case measure => simp [intOf]; omega
                  · have HE := Lib.hid (show upto (s.toList.drop j) = 0 from by rw [List.drop_eq_nil_of_le (by rw [toList_len]; omega)]; rfl)
                    go_wp2
                    have e1 := HU.out
                    rw [HE.out] at e1
                    have e2 := HPOS.out
                    exact ⟨HJ.out j (by omega) hj (by omega), by simp [intOf]; omega⟩
              · have hno : ¬ (s[p] = 45 ∧ (s.toList.drop (p + 1)).head? = some 45) := by
                  rintro ⟨_, e⟩; rw [HC2.out] at e; simp at e; rw [e] at q2; simp at q2
                have HR := Lib.hid (hno)
                obtain ⟨T, K, E, ho⟩ : ∃ T K E, one (s.toList.drop p) = (T, K, E) := ⟨_, _, _, rfl⟩
                have HO := Lib.hid ho
                clear ho
                have hx := one_at s p
                by_cases hE : E = 0
                · subst hE
                  have H50 := Lib.hid (fun W => (hx W h' hlt T K 0 HO.out).1 rfl)
                  clear hx
                  go_wp2_with fail
                  refine (H50.out _).mono ?_
                  rintro e w2 ⟨rfl, hb2⟩
                  have HB2 := Lib.hid hb2
                  have hzz := hb2.size
                  go_wp2_with (at_builtin; refine wpList_append_own _ rfl (.tmp 83) (.tmp 85) 38 rfl (w.heap.size + 1) 43 i0 _ 3 32 Tryd.underlying38 hi hz0 hz1 hz2 rfl (by decide) _ _ _ rfl (((own_below hown hb2).alloc _).alloc _) ⟨w2.heap.size + 1, 0, none⟩ 1 1 [.int .i64 K, .string (str T), .int .i64 p] rfl rfl ?a1 ?b1 ?c1 ?d1 ?e1 ?_)
                  case a1 => intro j u hj; match j, hj with | 0, hj => (simp at hj; subst hj; simp [Addr.add]) | 1, hj => (simp at hj; subst hj; simp [Addr.add]) | 2, hj => (simp at hj; subst hj; simp [Addr.add])
                  case b1 => intro u hu; simp at hu; rcases hu with rfl | rfl | rfl <;> rfl
                  case c1 => unfold maxLen; omega
                  case d1 => omega
                  case e1 => simp; omega
                  intro v' w1 hown' hgrow _
                  obtain ⟨d0, d1, d2⟩ := ref_mid H0.out hbel HB2.out hown hgrow
                  have R := Lib.hid (ref_step hlt hal HL.out HO.out HNB.out HR.out d0 d2 hown')
                  have e3 : w1.cell? ⟨w2.heap.size, 1, none⟩ = some (.string (str T)) := by simp [World.cell?, d1]
                  have hss := str_size T
                  have hT := R.out.2.2
                  clear hown hown' hgrow d0 d1 d2 hb2 c0 c1 f0 f1
                  go_wp2
                  refine ⟨?_, ?_⟩
                  · have := R.out.1
                    rwa [show ((p + T.length : Nat) : Int) = (p : Int) + (T.length : Int) from by omega] at this
                  · have := R.out.2.1
                    simp [intOf]; omega
                · have hE1 : (E != 0) = true := bne_iff_ne.2 hE
                  have H50 := Lib.hid (fun W => (hx W h' hlt T K E HO.out).2 hE)
                  have HBD := Lib.hid (ref_bad hlt HL.out HO.out hE HNB.out HR.out)
                  clear hx hE hown
                  go_wp2_with fail
                  refine (H50.out _).mono ?_
                  rintro e w2 ⟨rfl, hb2⟩
                  have d0 : w2.heap[w.heap.size]? = _ := (hb2.block _ hs0).trans H0.out
                  have hs2 := lt_of_block d0
                  have c20 : w2.cell? ⟨w.heap.size, 0, none⟩ = some (.int .i64 0) := by simp [World.cell?, d0]
                  have c21 : w2.cell? ⟨w.heap.size, 1, none⟩ = some (.int .i64 0) := by simp [World.cell?, d0]
                  have f20 : w2.frozen? ⟨w.heap.size, 0, none⟩ = false := by simp [World.frozen?, d0]
                  have f21 : w2.frozen? ⟨w.heap.size, 1, none⟩ = false := by simp [World.frozen?, d0]
                  have HB2 := Lib.hid (hbel.trans (hb2.mono hbel.size))
                  have hz2' := HB2.out.size
                  clear hb2 d0
                  go_wp2
                  rw [HBD.out]
                  exact bodyPost_ret (v := .tuple #[.slice none 0 0, .agg #[.int .i64 E, .int .i64 (p : Int)]]) (by simp [results, Tryd.results16, go_sem, c20, c21, hs2]) rfl ⟨_, rfl, World.ownsRow_nil _ _ _ _, by first | exact ((HB2.out.setCell (Nat.le_refl _) _).setCell (Nat.le_refl _) _).alloc (by simp; omega) _ | exact ((HB2.out.alloc (by omega) _).setCell (Nat.le_refl _) _).setCell (Nat.le_refl _) _⟩
            · have hno : ¬ (s[p] = 45 ∧ (s.toList.drop (p + 1)).head? = some 45) := by
                rintro ⟨e, _⟩; rw [e] at q1; simp at q1
              have HR := Lib.hid (hno)
              obtain ⟨T, K, E, ho⟩ : ∃ T K E, one (s.toList.drop p) = (T, K, E) := ⟨_, _, _, rfl⟩
              have HO := Lib.hid ho
              clear ho
              have hx := one_at s p
              by_cases hE : E = 0
              · subst hE
                have H50 := Lib.hid (fun W => (hx W h' hlt T K 0 HO.out).1 rfl)
                clear hx
                go_wp2_with fail
                refine (H50.out _).mono ?_
                rintro e w2 ⟨rfl, hb2⟩
                have HB2 := Lib.hid hb2
                have hzz := hb2.size
                go_wp2_with (at_builtin; refine wpList_append_own _ rfl (.tmp 83) (.tmp 85) 38 rfl (w.heap.size + 1) 43 i0 _ 3 32 Tryd.underlying38 hi hz0 hz1 hz2 rfl (by decide) _ _ _ rfl (((own_below hown hb2).alloc _).alloc _) ⟨w2.heap.size + 1, 0, none⟩ 1 1 [.int .i64 K, .string (str T), .int .i64 p] rfl rfl ?a2 ?b2 ?c2 ?d2 ?e2 ?_)
                case a2 => intro j u hj; match j, hj with | 0, hj => (simp at hj; subst hj; simp [Addr.add]) | 1, hj => (simp at hj; subst hj; simp [Addr.add]) | 2, hj => (simp at hj; subst hj; simp [Addr.add])
                case b2 => intro u hu; simp at hu; rcases hu with rfl | rfl | rfl <;> rfl
                case c2 => unfold maxLen; omega
                case d2 => omega
                case e2 => simp; omega
                intro v' w1 hown' hgrow _
                obtain ⟨d0, d1, d2⟩ := ref_mid H0.out hbel HB2.out hown hgrow
                have R := Lib.hid (ref_step hlt hal HL.out HO.out HNB.out HR.out d0 d2 hown')
                have e3 : w1.cell? ⟨w2.heap.size, 1, none⟩ = some (.string (str T)) := by simp [World.cell?, d1]
                have hss := str_size T
                have hT := R.out.2.2
                clear hown hown' hgrow d0 d1 d2 hb2 c0 c1 f0 f1
                go_wp2
                refine ⟨?_, ?_⟩
                · have := R.out.1
                  rwa [show ((p + T.length : Nat) : Int) = (p : Int) + (T.length : Int) from by omega] at this
                · have := R.out.2.1
                  simp [intOf]; omega
              · have hE1 : (E != 0) = true := bne_iff_ne.2 hE
                have H50 := Lib.hid (fun W => (hx W h' hlt T K E HO.out).2 hE)
                have HBD := Lib.hid (ref_bad hlt HL.out HO.out hE HNB.out HR.out)
                clear hx hE hown
                go_wp2_with fail
                refine (H50.out _).mono ?_
                rintro e w2 ⟨rfl, hb2⟩
                have d0 : w2.heap[w.heap.size]? = _ := (hb2.block _ hs0).trans H0.out
                have hs2 := lt_of_block d0
                have c20 : w2.cell? ⟨w.heap.size, 0, none⟩ = some (.int .i64 0) := by simp [World.cell?, d0]
                have c21 : w2.cell? ⟨w.heap.size, 1, none⟩ = some (.int .i64 0) := by simp [World.cell?, d0]
                have f20 : w2.frozen? ⟨w.heap.size, 0, none⟩ = false := by simp [World.frozen?, d0]
                have f21 : w2.frozen? ⟨w.heap.size, 1, none⟩ = false := by simp [World.frozen?, d0]
                have HB2 := Lib.hid (hbel.trans (hb2.mono hbel.size))
                have hz2' := HB2.out.size
                clear hb2 d0
                go_wp2
                rw [HBD.out]
                exact bodyPost_ret (v := .tuple #[.slice none 0 0, .agg #[.int .i64 E, .int .i64 (p : Int)]]) (by simp [results, Tryd.results16, go_sem, c20, c21, hs2]) rfl ⟨_, rfl, World.ownsRow_nil _ _ _ _, by first | exact ((HB2.out.setCell (Nat.le_refl _) _).setCell (Nat.le_refl _) _).alloc (by simp; omega) _ | exact ((HB2.out.alloc (by omega) _).setCell (Nat.le_refl _) _).setCell (Nat.le_refl _) _⟩
          · have hno : ¬ (s[p] = 45 ∧ (s.toList.drop (p + 1)).head? = some 45) := by
              rintro ⟨_, e⟩; rw [List.drop_eq_nil_of_le (by rw [toList_len]; omega)] at e; simp at e
            have hlt2' : decide ((p : Int) + 1 < s.size) = false := by simp; omega
            have HR := Lib.hid (hno)
            obtain ⟨T, K, E, ho⟩ : ∃ T K E, one (s.toList.drop p) = (T, K, E) := ⟨_, _, _, rfl⟩
            have HO := Lib.hid ho
            clear ho
            have hx := one_at s p
            by_cases hE : E = 0
            · subst hE
              have H50 := Lib.hid (fun W => (hx W h' hlt T K 0 HO.out).1 rfl)
              clear hx
              go_wp2_with fail
              refine (H50.out _).mono ?_
              rintro e w2 ⟨rfl, hb2⟩
              have HB2 := Lib.hid hb2
              have hzz := hb2.size
              go_wp2_with (at_builtin; refine wpList_append_own _ rfl (.tmp 83) (.tmp 85) 38 rfl (w.heap.size + 1) 43 i0 _ 3 32 Tryd.underlying38 hi hz0 hz1 hz2 rfl (by decide) _ _ _ rfl (((own_below hown hb2).alloc _).alloc _) ⟨w2.heap.size + 1, 0, none⟩ 1 1 [.int .i64 K, .string (str T), .int .i64 p] rfl rfl ?a3 ?b3 ?c3 ?d3 ?e3 ?_)
              case a3 => intro j u hj; match j, hj with | 0, hj => (simp at hj; subst hj; simp [Addr.add]) | 1, hj => (simp at hj; subst hj; simp [Addr.add]) | 2, hj => (simp at hj; subst hj; simp [Addr.add])
              case b3 => intro u hu; simp at hu; rcases hu with rfl | rfl | rfl <;> rfl
              case c3 => unfold maxLen; omega
              case d3 => omega
              case e3 => simp; omega
              intro v' w1 hown' hgrow _
              obtain ⟨d0, d1, d2⟩ := ref_mid H0.out hbel HB2.out hown hgrow
              have R := Lib.hid (ref_step hlt hal HL.out HO.out HNB.out HR.out d0 d2 hown')
              have e3 : w1.cell? ⟨w2.heap.size, 1, none⟩ = some (.string (str T)) := by simp [World.cell?, d1]
              have hss := str_size T
              have hT := R.out.2.2
              clear hown hown' hgrow d0 d1 d2 hb2 c0 c1 f0 f1
              go_wp2
              refine ⟨?_, ?_⟩
              · have := R.out.1
                rwa [show ((p + T.length : Nat) : Int) = (p : Int) + (T.length : Int) from by omega] at this
              · have := R.out.2.1
                simp [intOf]; omega
            · have hE1 : (E != 0) = true := bne_iff_ne.2 hE
              have H50 := Lib.hid (fun W => (hx W h' hlt T K E HO.out).2 hE)
              have HBD := Lib.hid (ref_bad hlt HL.out HO.out hE HNB.out HR.out)
              clear hx hE hown
              go_wp2_with fail
              refine (H50.out _).mono ?_
              rintro e w2 ⟨rfl, hb2⟩
              have d0 : w2.heap[w.heap.size]? = _ := (hb2.block _ hs0).trans H0.out
              have hs2 := lt_of_block d0
              have c20 : w2.cell? ⟨w.heap.size, 0, none⟩ = some (.int .i64 0) := by simp [World.cell?, d0]
              have c21 : w2.cell? ⟨w.heap.size, 1, none⟩ = some (.int .i64 0) := by simp [World.cell?, d0]
              have f20 : w2.frozen? ⟨w.heap.size, 0, none⟩ = false := by simp [World.frozen?, d0]
              have f21 : w2.frozen? ⟨w.heap.size, 1, none⟩ = false := by simp [World.frozen?, d0]
              have HB2 := Lib.hid (hbel.trans (hb2.mono hbel.size))
              have hz2' := HB2.out.size
              clear hb2 d0
              go_wp2
              rw [HBD.out]
              exact bodyPost_ret (v := .tuple #[.slice none 0 0, .agg #[.int .i64 E, .int .i64 (p : Int)]]) (by simp [results, Tryd.results16, go_sem, c20, c21, hs2]) rfl ⟨_, rfl, World.ownsRow_nil _ _ _ _, by first | exact ((HB2.out.setCell (Nat.le_refl _) _).setCell (Nat.le_refl _) _).alloc (by simp; omega) _ | exact ((HB2.out.alloc (by omega) _).setCell (Nat.le_refl _) _).setCell (Nat.le_refl _) _⟩
      · have HF := Lib.hid (show lexM s.toList = .ok acc from by
          rw [HL.out, List.drop_eq_nil_of_le (by rw [toList_len]; omega), lexS_nil]; simp [Res.glue])
        go_wp2
        rw [HF.out]
        refine bodyPost_ret (v := .tuple #[u4, .agg #[.int .i64 0, .int .i64 0]]) (by simp [results, Tryd.results16, go_sem, c0, c1]) rfl ⟨_, rfl, ?_, (hbel.setCell (Nat.le_refl _) _).setCell (Nat.le_refl _) _⟩
        exact own_base (ownsRow_setCell_below (ownsRow_setCell_below hown (by show w.heap.size < _; omega) _) (by show w.heap.size < _; omega) _) (by omega)
  · go_enter Tryd.func16, Tryd.ntmps16
    go_wp2
    have hm : lexM s.toList = .bad 7 (-1) := by unfold lexM; rw [if_pos (by rw [toList_len]; omega)]
    rw [hm]
    exact bodyPost_ret (v := .tuple #[.slice none 0 0, .agg #[.int .i64 7, .int .i64 (-1)]]) (by simp [results, Tryd.results16, go_sem]) rfl ⟨_, rfl, World.ownsRow_nil _ _ _ _, (Below.refl _ _).alloc (Nat.le_refl _) _⟩
end Go.Proofs.YtgohhnbdicdenaaDoor.Lx

/- What the laws of layer expr want of tokens in memory: a row of tokens cut short, or with one more; Parse at what it reads. Conditions: none. -/
namespace Go.Proofs.YtgohhnbdicdenaaDoor.Ex
open Go.ChangeShapes Go.WideShapes Go.ChangeAt Go.RowKit
open Go.Proofs.YtgohhnbdicdenaaDoor.Tr (str ret_bool ret_int Bytes Nd Nodes)
set_option linter.unusedVariables false
set_option linter.unusedSimpArgs false
theorem toks_take {w : World} {A : Option Addr} {n c : Nat} {l : List Tok} (h : Lx.Toks w (.slice A n c) l) {k : Nat} (hk : k ≤ n) : Lx.Toks w (.slice A k c) (l.take k) := by
  obtain ⟨A', c', e, h1, h2, h3⟩ := h
  simp only [Value.slice.injEq] at e
  obtain ⟨rfl, rfl, rfl⟩ := e
  have hl : (l.take k).length = k := by rw [List.length_take]; omega
  refine ⟨A, c, by rw [hl], by omega, h2, fun i t hi => h3 i t ?_⟩
  rw [List.getElem?_take] at hi
  split at hi
  · exact hi
  · cases hi
theorem OkR.take {l : List Tok} (h : OkR ⟨l, 0, 0, 0, 0⟩) (k : Nat) : OkR ⟨l.take k, 0, 0, 0, 0⟩ :=
  ⟨by have := h.len; simp only at this; show (l.take k).length ≤ _; rw [List.length_take]; omega, by simp, fun t ht => h.good t (List.mem_of_mem_take ht), fun t ht => h.text t (List.mem_of_mem_take ht), by simp, fun hc => absurd rfl hc⟩
theorem OkR.snoc {l : List Tok} (h : OkR ⟨l, 0, 0, 0, 0⟩) (hl : l.length ≤ 50000) {t : Tok} (ht : Lx.Good t.kind t.text) (hx : t.text.length ≤ 100) : OkR ⟨l ++ [t], 0, 0, 0, 0⟩ :=
  ⟨by show (l ++ [t]).length ≤ _; simp; omega, by simp, fun x hx' => by
    rcases List.mem_append.1 hx' with h1 | h1
    · exact h.good x h1
    · simp at h1; subst h1; exact ht, fun x hx' => by
    rcases List.mem_append.1 hx' with h1 | h1
    · exact h.text x h1
    · simp at h1; subst h1; omega, by simp, fun hc => absurd rfl hc⟩
theorem parse_lit {l : List Tok} {lv : Value} {i : Int} {w : World} (hi : i = ((0 : Nat) : Int)) (hv : TokOff w w.heap.size lv l) (hvar : VarAt w w.heap.size) (hok : OkR ⟨l, 0, 0, 0, 0⟩) {E : List Nd} {N : Nat} {C A : Int} (h : parseM l 0 = (E, N, C, A)) :
    Calls Tryd.prog 18 #[lv, .int .i64 i] w (fun e w' => ∃ ev, e = .returned (.tuple #[ev, .int .i64 (N : Int), .agg #[.int .i64 C, .int .i64 A]]) ∧ PtW w' (ev, ⟨E, 0, 0⟩) ∧ Below w.heap.size w w') := by
  subst hi
  obtain ⟨p, r, e⟩ := rd_total l
  have hp : parseOf l 0 (p, r) = (E, N, C, A) := by rw [← h]; unfold rd0 at e; unfold parseM; rw [e]
  have := parse_any l lv 0 w hv hvar hok (p, r) e
  rw [hp] at this
  exact this
theorem read_len (s : Bytes) : (readM s).1.length ≤ 5000 := by
  by_cases h : (readM s).2.1 = 0
  · obtain ⟨l, p, r, _, hp, _, he⟩ := read_ok h
    rw [he]
    show p.e.length ≤ 5000
    rw [hp.len]; exact hp.nodes
  · rw [read_bad h]; simp
/-- The document's Lex, as a caller reads it. -/
theorem rlex_ok {S : ByteArray} {l : List Tok} (w : World) (h : S.size ≤ maxLen) (hl : Lx.lexM S.toList = .ok l) : Calls Tryd.prog 16 #[.string S] w (fun e w' => ∃ v, e = .returned (.tuple #[v, .agg #[.int .i64 0, .int .i64 0]]) ∧ w'.ownsRow w.heap.size 43 3 v l.length (Lx.cellsOf l) ∧ Below w.heap.size w w') := by
  have := Lx.refLex_any S w h; rw [hl] at this; exact this
theorem rlex_bad {S : ByteArray} {c a : Int} (w : World) (h : S.size ≤ maxLen) (hl : Lx.lexM S.toList = .bad c a) : Calls Tryd.prog 16 #[.string S] w (fun e w' => ∃ v, e = .returned (.tuple #[v, .agg #[.int .i64 c, .int .i64 a]]) ∧ Lx.Toks w' v [] ∧ Below w.heap.size w w') := by
  have := Lx.refLex_any S w h; rw [hl] at this
  exact this.mono fun e w' ⟨v, h1, h2, h3⟩ => ⟨v, h1, Lx.Toks.of_own h2, h3⟩
end Go.Proofs.YtgohhnbdicdenaaDoor.Ex

/- Of two operators the tighter one is put together first: the forty-nine sources, as plain facts. Conditions: none. -/
namespace Go.Proofs.YtgohhnbdicdenaaDoor.Ex
open Go.Proofs.YtgohhnbdicdenaaDoor.Tr
def sgT : Nat → Bytes
  | 0 => [45, 62]
  | 1 => [61, 62]
  | 2 => [115, 105, 110, 99, 101]
  | 3 => [111, 114]
  | 4 => [97, 110, 100]
  | 5 => [43]
  | _ => [42]
def sgO : Nat → Int
  | 0 => 19
  | 1 => 9
  | 2 => 20
  | 3 => 7
  | 4 => 6
  | 5 => 14
  | _ => 16
def srcT (x y : Nat) : Bytes := [97, 32] ++ sgT x ++ [32, 98, 32] ++ sgT y ++ [32, 99]
def firstB (x y : Nat) : Bool := decide (y < x) || (x == y && decide (1 < x))
def lvOk (x y : Nat) : Bool :=
  match readM (srcT x y) with
  | (e, c, _) => (c == 0) && (e.length == 5) && (e[4]? == some ⟨if firstB x y then sgO y else sgO x, if firstB x y then 2 else 0, 3, -1, 0, []⟩)
theorem lv_all : ∀ x : Fin 7, ∀ y : Fin 7, lvOk x.val y.val = true := by decide +kernel
theorem lv_fact (x y : Nat) (hx : x < 7) (hy : y < 7) : ∃ e a, readM (srcT x y) = (e, 0, a) ∧ e.length = 5 ∧ e[4]? = some ⟨if firstB x y then sgO y else sgO x, if firstB x y then 2 else 0, 3, -1, 0, []⟩ := by
  have h := lv_all ⟨x, hx⟩ ⟨y, hy⟩
  simp only [lvOk] at h
  obtain ⟨e, c, a, he⟩ : ∃ e c a, readM (srcT x y) = (e, c, a) := ⟨_, _, _, rfl⟩
  rw [he] at h
  simp only [Bool.and_eq_true, beq_iff_eq] at h
  obtain ⟨⟨rfl, h2⟩, h3⟩ := h
  exact ⟨e, a, he, h2, h3⟩
end Go.Proofs.YtgohhnbdicdenaaDoor.Ex

