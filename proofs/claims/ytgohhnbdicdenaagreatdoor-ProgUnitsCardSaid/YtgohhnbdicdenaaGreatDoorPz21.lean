/- The document's answer 'Lex' of layer lex returns the tokens that lexM says, in memory of its own. Conditions: a text's length within a machine's. -/
import Derived.Test.YtgohhnbdicdenaaGreatDoorPz20
import Derived.Test.YtgohhnbdicdenaaGreatDoorPz18
import Derived.Test.YtgohhnbdicdenaaGreatDoorPz19
import Derived.Test.YtgohhnbdicdenaaGreatDoorPz09
import Derived.Test.YtgohhnbdicdenaaGreatDoorPz04
import Derived.Test.YtgohhnbdicdenaaGreatDoorPz01
namespace Go.Proofs.YtgohhnbdicdenaaGreatDoor.Lx
open Go.ChangeShapes Go.WideShapes Go.ChangeAt Go.RowKit
set_option linter.unusedVariables false

theorem own_below {w w2 : World} {b : Nat} {v : Value} {n : Nat} {e : TypeId} {sz : Nat} {xs : List Value} (h : w.ownsRow b e sz v n xs) (hb : Below w.heap.size w w2) : w2.ownsRow b e sz v n xs := by
  refine ⟨h.1, ?_⟩
  rcases h.2 with h0 | ⟨g, cap, cur, h1, h2, h3, h4⟩
  · exact .inl h0
  · exact .inr ⟨g, cap, cur, h1, h2, (hb.block g (lt_of_block h3)).trans h3, h4⟩
theorem upto_le (l : Bytes) : upto l ≤ l.length := by
  induction l with
  | nil => simp [upto]
  | cons c r ih => simp only [upto, List.length_cons]; split <;> omega
/-- The loop's relation. -/
def RefRel (s : ByteArray) (W : World) (v a : Value) (wr : World) : Prop :=
  ∃ (p : Nat) (acc : List Tok), p ≤ s.size ∧ a = .int .i64 p ∧ acc.length ≤ p ∧ lexM s.toList = Res.glue acc (lexS (s.toList.drop p) p) ∧
    wr.heap[W.heap.size]? = some (.cells #[.int .i64 0, .int .i64 0] 33 (0, 0)) ∧ wr.ownsRow (W.heap.size + 1) 54 3 v acc.length (cellsOf acc) ∧ Below W.heap.size W wr
theorem ref_mid {W wr w2 w1 : World} {u : Value} {n : Nat} {xs : List Value} {c d : Array Value}
    (hb0 : wr.heap[W.heap.size]? = some (.cells #[.int .i64 0, .int .i64 0] 33 (0, 0))) (hbel : Below W.heap.size W wr) (h2 : Below wr.heap.size wr w2)
    (hown : wr.ownsRow (W.heap.size + 1) 54 3 u n xs) (hg : ((w2.alloc (.cells c 54)).alloc (.cells d 54)).grownBy w1 u.ownBlock) :
    w1.heap[W.heap.size]? = some (.cells #[.int .i64 0, .int .i64 0] 33 (0, 0)) ∧ w1.heap[w2.heap.size]? = some (.cells c 54 (0, 0)) ∧ Below W.heap.size W w1 := by
  have l0 := lt_of_block hb0
  have z := h2.size
  have hlt : ∀ j, some j = u.ownBlock → W.heap.size + 1 ≤ j ∧ j < wr.heap.size := fun j hj => hown.lt j hj.symm
  refine ⟨?_, ?_, ?_⟩
  · rw [hg.block _ (by simp; omega) (fun h => by have := hlt _ h; omega), Below.heap_alloc _ _ _ (by simp; omega), Below.heap_alloc _ _ _ (by omega), h2.block _ l0]; exact hb0
  · rw [hg.block _ (by simp; omega) (fun h => by have := hlt _ h; omega), Below.heap_alloc _ _ _ (by simp)]
    exact heap_alloc_new w2 _
  · exact (((hbel.trans (h2.mono hbel.size)).alloc (by omega) _).alloc (by simp; omega) _).grown hg (by simp; omega) (fun j hj => by have := hlt j hj.symm; omega)
theorem ref_step {W w1 : World} {v : Value} {s : ByteArray} {p : Nat} {acc : List Tok} {T : Bytes} {K : Int} (hlt : p < s.size) (hal : acc.length ≤ p)
    (hlex : lexM s.toList = Res.glue acc (lexS (s.toList.drop p) p)) (hone : one (s.toList.drop p) = (T, K, 0)) (hb : ¬ blankB s[p] = true) (hr : ¬ (s[p] = 45 ∧ (s.toList.drop (p + 1)).head? = some 45))
    (hb0 : w1.heap[W.heap.size]? = some (.cells #[.int .i64 0, .int .i64 0] 33 (0, 0))) (hbel : Below W.heap.size W w1)
    (hown : w1.ownsRow (W.heap.size + 1) 54 3 v (acc.length + 1) (cellsOf acc ++ [.int .i64 K, .string (str T), .int .i64 (p : Int)])) :
    RefRel s W v (.int .i64 ((p + T.length : Nat) : Int)) w1 ∧ 0 < T.length ∧ p + T.length ≤ s.size := by
  have hpos : 0 < T.length := by
    have := one_pos s[p] (s.toList.drop (p + 1)) (by rw [← drop_cons s p hlt, hone])
    rw [← drop_cons s p hlt, hone] at this; exact this
  have hle := one_le (s.toList.drop p)
  rw [hone, List.length_drop, toList_len] at hle
  have hqs : p + T.length ≤ s.size := by simp only at hle; omega
  refine ⟨⟨p + T.length, acc ++ [⟨K, T, p⟩], hqs, rfl, by simp; omega, ?_, hb0, ?_, hbel⟩, hpos, hqs⟩
  · rw [hlex, drop_cons s p hlt, lexS_cons _ _ _ hb hr (by rw [← drop_cons s p hlt, hone]), ← drop_cons s p hlt, hone, Res.glue_cons]
    simp only [List.drop_drop]
  · rw [cells_snoc, List.length_append]; exact hown
theorem ref_bad {s : ByteArray} {p : Nat} {acc : List Tok} {T : Bytes} {K E : Int} (hlt : p < s.size) (hlex : lexM s.toList = Res.glue acc (lexS (s.toList.drop p) p)) (hone : one (s.toList.drop p) = (T, K, E)) (hE : E ≠ 0)
    (hb : ¬ blankB s[p] = true) (hr : ¬ (s[p] = 45 ∧ (s.toList.drop (p + 1)).head? = some 45)) : lexM s.toList = .bad E p := by
  rw [hlex, drop_cons s p hlt, lexS_bad _ _ _ hb hr (by rw [← drop_cons s p hlt, hone]; exact hE), ← drop_cons s p hlt, hone]; rfl
theorem one_at (s : ByteArray) (p : Nat) (W : World) (h : s.size ≤ maxLen) (hp : p < s.size) (T : Bytes) (K E : Int) (ho : one (s.toList.drop p) = (T, K, E)) :
    (E = 0 → Calls Tryz.prog 33 #[.string (s.extract p s.size), .int .i64 p] W (GivesTok W K T p 0)) ∧ (E ≠ 0 → Calls Tryz.prog 33 #[.string (s.extract p s.size), .int .i64 p] W (GivesTok W 0 [] 0 E)) := by
  have e : (s.extract p s.size).size = s.size - p := by rw [ByteArray.size_extract]; omega
  have := refOne_any (s.extract p s.size) p W (by rw [e]; omega) (by rw [e]; omega)
  rw [extract_end] at this
  refine ⟨fun hE => ?_, fun hE => ?_⟩
  · subst hE; rw [oneTok_ok ho] at this; exact this
  · rw [oneTok_bad ho hE] at this; exact this
theorem blank_bytes (c : UInt8) : (blankB c = true → ((c.toNat : Int) == 32) = true ∨ (((c.toNat : Int) == 32) = false ∧ ((c.toNat : Int) == 9) = true) ∨ (((c.toNat : Int) == 32) = false ∧ ((c.toNat : Int) == 9) = false ∧ ((c.toNat : Int) == 10) = true) ∨
      (((c.toNat : Int) == 32) = false ∧ ((c.toNat : Int) == 9) = false ∧ ((c.toNat : Int) == 10) = false ∧ ((c.toNat : Int) == 13) = true)) ∧
    (¬ blankB c = true → ((c.toNat : Int) == 32) = false ∧ ((c.toNat : Int) == 9) = false ∧ ((c.toNat : Int) == 10) = false ∧ ((c.toNat : Int) == 13) = false) := by
  have q : ∀ k : UInt8, (c == k) = ((c.toNat : Int) == (k.toNat : Int)) := fun k => by
    rw [Bool.eq_iff_iff, beq_iff_eq, beq_iff_eq]; exact eq_cast _ _
  have hb : blankB c = (((c.toNat : Int) == 32) || ((c.toNat : Int) == 9) || ((c.toNat : Int) == 10) || ((c.toNat : Int) == 13)) := by
    unfold blankB; rw [q 32, q 9, q 10, q 13]; rfl
  rw [hb]
  cases ((c.toNat : Int) == 32) <;> cases ((c.toNat : Int) == 9) <;> cases ((c.toNat : Int) == 10) <;> cases ((c.toNat : Int) == 13) <;> simp


set_option maxRecDepth 100000 in
set_option maxHeartbeats 8000000 in
theorem refLex_any (s : ByteArray) (w : World) (h : s.size ≤ maxLen) : Calls Tryz.prog 18 #[.string s] w (LexPost w (lexM s.toList)) := by
  obtain ⟨i0, hi, hz0, hz1, hz2⟩ := info_parts info42
  unfold maxLen at h
  by_cases hbig : s.size ≤ 100000
  · have h' : s.size ≤ maxLen := by unfold maxLen; omega
    go_enter Tryz.func18, Tryz.ntmps18
    go_wp2
    go_loopw [4, 5] (fun v a wr => RefRel s w v a wr) (fun _ a _ => s.size - (intOf a).toNat)
    case atStart =>
      refine ⟨0, [], Nat.zero_le _, rfl, Nat.le_refl _, ?_, heap_alloc_new w _, World.ownsRow_nil _ _ _ _, (Below.refl _ _).alloc (Nat.le_refl _) _⟩
      rw [lexM_S _ (by rw [toList_len]; omega), List.drop_zero]; cases lexS s.toList 0 <;> rfl
    case round =>
      obtain ⟨p, acc, hp, rfl, hal, hlex, hb0, hown, hbel⟩ := hrel
      have hs0 := lt_of_block hb0
      have c0 : wr.cell? ⟨w.heap.size, 0, none⟩ = some (.int .i64 0) := by simp [World.cell?, hb0]
      have c1 : wr.cell? ⟨w.heap.size, 1, none⟩ = some (.int .i64 0) := by simp [World.cell?, hb0]
      have f0 : wr.frozen? ⟨w.heap.size, 0, none⟩ = false := by simp [World.frozen?, hb0]
      have f1 : wr.frozen? ⟨w.heap.size, 1, none⟩ = false := by simp [World.frozen?, hb0]
      have HL := Lib.hid hlex
      have H0 := Lib.hid hb0
      clear hlex hb0
      by_cases hlt : p < s.size
      · have HC := Lib.hid (drop_cons s p hlt)
        by_cases hbl : blankB s[p] = true
        · have HR := Lib.hid (show RefRel s w u4 (.int .i64 ((p : Int) + 1)) wr from ⟨p + 1, acc, by omega, by go_num, by omega, by rw [HL.out, HC.out, lexS_blank _ _ _ hbl], H0.out, hown, hbel⟩)
          rcases (blank_bytes s[p]).1 hbl with t | ⟨t1, t⟩ | ⟨t1, t2, t⟩ | ⟨t1, t2, t3, t⟩
          all_goals
            clear hown hbl
            go_wp2
            exact ⟨HR.out, by simp [intOf]; omega⟩
        · obtain ⟨t1, t2, t3, t4⟩ := (blank_bytes s[p]).2 hbl
          have HNB := Lib.hid hbl
          clear hbl
          by_cases hlt2 : p + 1 < s.size
          · have HC2 := Lib.hid (drop_cons s (p + 1) hlt2)
            rcases Bool.eq_false_or_eq_true ((s[p].toNat : Int) == 45) with q1 | q1
            · rcases Bool.eq_false_or_eq_true ((s[p + 1].toNat : Int) == 45) with q2 | q2
              · have HJ := Lib.hid (show ∀ j : Nat, j = p + upto (s.toList.drop p) → j ≤ s.size → p < j → RefRel s w u4 (.int .i64 (j : Int)) wr from fun j hj hj2 hj3 => ⟨j, acc, hj2, rfl, by omega, by
                  have a1 : s[p] = 45 := (eq_cast _ _).2 (by simpa using q1)
                  have a2 : s[p + 1] = 45 := (eq_cast _ _).2 (by simpa using q2)
                  have e : s.toList.drop p = 45 :: 45 :: s.toList.drop (p + 1 + 1) := by rw [HC.out, a1, HC2.out, a2]
                  rw [HL.out, hj]; conv => lhs; rw [e, lexS_remark, ← e]
                  rw [List.drop_drop], H0.out, hown, hbel⟩)
                have HUP := Lib.hid (upto_le (s.toList.drop p))
                have HPOS := Lib.hid (show 0 < upto (s.toList.drop p) from by
                  have a1 : s[p] = 45 := (eq_cast _ _).2 (by simpa using q1)
                  rw [HC.out, a1]; simp [upto]; omega)
                clear hown hbel c0 c1 f0 f1
                go_wp2
                go_loop [5] (fun i => ∃ j : Nat, p ≤ j ∧ j ≤ s.size ∧ i = .int .i64 j ∧ j + upto (s.toList.drop j) = p + upto (s.toList.drop p)) (fun i => s.size - (intOf i).toNat)
                case atStart => exact ⟨p, Nat.le_refl _, hp, rfl, rfl⟩
                case round =>
                  obtain ⟨j, hpj, hj, rfl, hu⟩ := hrel
                  have HU := Lib.hid hu
                  clear hu
                  by_cases hlj : j < s.size
                  · have HCJ := Lib.hid (drop_cons s j hlj)
                    rcases Bool.eq_false_or_eq_true ((s[j].toNat : Int) == 10) with q3 | q3
                    · have HE := Lib.hid (show upto (s.toList.drop j) = 0 from by
                        have a1 : s[j] = 10 := (eq_cast _ _).2 (by simpa using q3)
                        rw [HCJ.out, a1]; simp [upto])
                      go_wp2
                      have e1 := HU.out
                      rw [HE.out] at e1
                      have e2 := HPOS.out
                      exact ⟨HJ.out j (by omega) hj (by omega), by simp [intOf]; omega⟩
                    · have HE := Lib.hid (show upto (s.toList.drop j) = 1 + upto (s.toList.drop (j + 1)) from by
                        rw [HCJ.out]; simp only [upto]
                        rw [if_neg (by intro e; rw [e] at q3; simp at q3)])
                      go_wp2
                      go_round
                      case rel => exact ⟨j + 1, by omega, by omega, by go_num, by have e1 := HU.out; rw [HE.out] at e1; omega⟩
                      case measure => simp [intOf]; omega
                  · have HE := Lib.hid (show upto (s.toList.drop j) = 0 from by rw [List.drop_eq_nil_of_le (by rw [toList_len]; omega)]; rfl)
                    go_wp2
                    have e1 := HU.out
                    rw [HE.out] at e1
                    have e2 := HPOS.out
                    exact ⟨HJ.out j (by omega) hj (by omega), by simp [intOf]; omega⟩
              · have hno : ¬ (s[p] = 45 ∧ (s.toList.drop (p + 1)).head? = some 45) := by
                  rintro ⟨_, e⟩; rw [HC2.out] at e; simp at e; rw [e] at q2; simp at q2
                have HR := Lib.hid (hno)
                obtain ⟨T, K, E, ho⟩ : ∃ T K E, one (s.toList.drop p) = (T, K, E) := ⟨_, _, _, rfl⟩
                have HO := Lib.hid ho
                clear ho
                have hx := one_at s p
                by_cases hE : E = 0
                · subst hE
                  have H50 := Lib.hid (fun W => (hx W h' hlt T K 0 HO.out).1 rfl)
                  clear hx
                  go_wp2_with fail
                  refine (H50.out _).mono ?_
                  rintro e w2 ⟨rfl, hb2⟩
                  have HB2 := Lib.hid hb2
                  have hzz := hb2.size
                  go_wp2_with (at_builtin; refine wpList_append_own _ rfl (.tmp 83) (.tmp 85) 30 rfl (w.heap.size + 1) 54 i0 _ 3 32 Tryz.underlying30 hi hz0 hz1 hz2 rfl (by decide) _ _ _ rfl (((own_below hown hb2).alloc _).alloc _) ⟨w2.heap.size + 1, 0, none⟩ 1 1 [.int .i64 K, .string (str T), .int .i64 p] rfl rfl ?a1 ?b1 ?c1 ?d1 ?e1 ?_)
                  case a1 => intro j u hj; match j, hj with | 0, hj => (simp at hj; subst hj; simp [Addr.add]) | 1, hj => (simp at hj; subst hj; simp [Addr.add]) | 2, hj => (simp at hj; subst hj; simp [Addr.add])
                  case b1 => intro u hu; simp at hu; rcases hu with rfl | rfl | rfl <;> rfl
                  case c1 => unfold maxLen; omega
                  case d1 => omega
                  case e1 => simp; omega
                  intro v' w1 hown' hgrow _
                  obtain ⟨d0, d1, d2⟩ := ref_mid H0.out hbel HB2.out hown hgrow
                  have R := Lib.hid (ref_step hlt hal HL.out HO.out HNB.out HR.out d0 d2 hown')
                  have e3 : w1.cell? ⟨w2.heap.size, 1, none⟩ = some (.string (str T)) := by simp [World.cell?, d1]
                  have hss := str_size T
                  have hT := R.out.2.2
                  clear hown hown' hgrow d0 d1 d2 hb2 c0 c1 f0 f1
                  go_wp2
                  refine ⟨?_, ?_⟩
                  · have := R.out.1
                    rwa [show ((p + T.length : Nat) : Int) = (p : Int) + (T.length : Int) from by omega] at this
                  · have := R.out.2.1
                    simp [intOf]; omega
                · have hE1 : (E != 0) = true := bne_iff_ne.2 hE
                  have H50 := Lib.hid (fun W => (hx W h' hlt T K E HO.out).2 hE)
                  have HBD := Lib.hid (ref_bad hlt HL.out HO.out hE HNB.out HR.out)
                  clear hx hE hown
                  go_wp2_with fail
                  refine (H50.out _).mono ?_
                  rintro e w2 ⟨rfl, hb2⟩
                  have d0 : w2.heap[w.heap.size]? = _ := (hb2.block _ hs0).trans H0.out
                  have hs2 := lt_of_block d0
                  have c20 : w2.cell? ⟨w.heap.size, 0, none⟩ = some (.int .i64 0) := by simp [World.cell?, d0]
                  have c21 : w2.cell? ⟨w.heap.size, 1, none⟩ = some (.int .i64 0) := by simp [World.cell?, d0]
                  have f20 : w2.frozen? ⟨w.heap.size, 0, none⟩ = false := by simp [World.frozen?, d0]
                  have f21 : w2.frozen? ⟨w.heap.size, 1, none⟩ = false := by simp [World.frozen?, d0]
                  have HB2 := Lib.hid (hbel.trans (hb2.mono hbel.size))
                  have hz2' := HB2.out.size
                  clear hb2 d0
                  go_wp2
                  rw [HBD.out]
                  exact bodyPost_ret (v := .tuple #[.slice none 0 0, .agg #[.int .i64 E, .int .i64 (p : Int)]]) (by simp [results, Tryz.results18, go_sem, c20, c21, hs2]) rfl ⟨_, rfl, World.ownsRow_nil _ _ _ _, by first | exact ((HB2.out.setCell (Nat.le_refl _) _).setCell (Nat.le_refl _) _).alloc (by simp; omega) _ | exact ((HB2.out.alloc (by omega) _).setCell (Nat.le_refl _) _).setCell (Nat.le_refl _) _⟩
            · have hno : ¬ (s[p] = 45 ∧ (s.toList.drop (p + 1)).head? = some 45) := by
                rintro ⟨e, _⟩; rw [e] at q1; simp at q1
              have HR := Lib.hid (hno)
              obtain ⟨T, K, E, ho⟩ : ∃ T K E, one (s.toList.drop p) = (T, K, E) := ⟨_, _, _, rfl⟩
              have HO := Lib.hid ho
              clear ho
              have hx := one_at s p
              by_cases hE : E = 0
              · subst hE
                have H50 := Lib.hid (fun W => (hx W h' hlt T K 0 HO.out).1 rfl)
                clear hx
                go_wp2_with fail
                refine (H50.out _).mono ?_
                rintro e w2 ⟨rfl, hb2⟩
                have HB2 := Lib.hid hb2
                have hzz := hb2.size
                go_wp2_with (at_builtin; refine wpList_append_own _ rfl (.tmp 83) (.tmp 85) 30 rfl (w.heap.size + 1) 54 i0 _ 3 32 Tryz.underlying30 hi hz0 hz1 hz2 rfl (by decide) _ _ _ rfl (((own_below hown hb2).alloc _).alloc _) ⟨w2.heap.size + 1, 0, none⟩ 1 1 [.int .i64 K, .string (str T), .int .i64 p] rfl rfl ?a2 ?b2 ?c2 ?d2 ?e2 ?_)
                case a2 => intro j u hj; match j, hj with | 0, hj => (simp at hj; subst hj; simp [Addr.add]) | 1, hj => (simp at hj; subst hj; simp [Addr.add]) | 2, hj => (simp at hj; subst hj; simp [Addr.add])
                case b2 => intro u hu; simp at hu; rcases hu with rfl | rfl | rfl <;> rfl
                case c2 => unfold maxLen; omega
                case d2 => omega
                case e2 => simp; omega
                intro v' w1 hown' hgrow _
                obtain ⟨d0, d1, d2⟩ := ref_mid H0.out hbel HB2.out hown hgrow
                have R := Lib.hid (ref_step hlt hal HL.out HO.out HNB.out HR.out d0 d2 hown')
                have e3 : w1.cell? ⟨w2.heap.size, 1, none⟩ = some (.string (str T)) := by simp [World.cell?, d1]
                have hss := str_size T
                have hT := R.out.2.2
                clear hown hown' hgrow d0 d1 d2 hb2 c0 c1 f0 f1
                go_wp2
                refine ⟨?_, ?_⟩
                · have := R.out.1
                  rwa [show ((p + T.length : Nat) : Int) = (p : Int) + (T.length : Int) from by omega] at this
                · have := R.out.2.1
                  simp [intOf]; omega
              · have hE1 : (E != 0) = true := bne_iff_ne.2 hE
                have H50 := Lib.hid (fun W => (hx W h' hlt T K E HO.out).2 hE)
                have HBD := Lib.hid (ref_bad hlt HL.out HO.out hE HNB.out HR.out)
                clear hx hE hown
                go_wp2_with fail
                refine (H50.out _).mono ?_
                rintro e w2 ⟨rfl, hb2⟩
                have d0 : w2.heap[w.heap.size]? = _ := (hb2.block _ hs0).trans H0.out
                have hs2 := lt_of_block d0
                have c20 : w2.cell? ⟨w.heap.size, 0, none⟩ = some (.int .i64 0) := by simp [World.cell?, d0]
                have c21 : w2.cell? ⟨w.heap.size, 1, none⟩ = some (.int .i64 0) := by simp [World.cell?, d0]
                have f20 : w2.frozen? ⟨w.heap.size, 0, none⟩ = false := by simp [World.frozen?, d0]
                have f21 : w2.frozen? ⟨w.heap.size, 1, none⟩ = false := by simp [World.frozen?, d0]
                have HB2 := Lib.hid (hbel.trans (hb2.mono hbel.size))
                have hz2' := HB2.out.size
                clear hb2 d0
                go_wp2
                rw [HBD.out]
                exact bodyPost_ret (v := .tuple #[.slice none 0 0, .agg #[.int .i64 E, .int .i64 (p : Int)]]) (by simp [results, Tryz.results18, go_sem, c20, c21, hs2]) rfl ⟨_, rfl, World.ownsRow_nil _ _ _ _, by first | exact ((HB2.out.setCell (Nat.le_refl _) _).setCell (Nat.le_refl _) _).alloc (by simp; omega) _ | exact ((HB2.out.alloc (by omega) _).setCell (Nat.le_refl _) _).setCell (Nat.le_refl _) _⟩
          · have hno : ¬ (s[p] = 45 ∧ (s.toList.drop (p + 1)).head? = some 45) := by
              rintro ⟨_, e⟩; rw [List.drop_eq_nil_of_le (by rw [toList_len]; omega)] at e; simp at e
            have hlt2' : decide ((p : Int) + 1 < s.size) = false := by simp; omega
            have HR := Lib.hid (hno)
            obtain ⟨T, K, E, ho⟩ : ∃ T K E, one (s.toList.drop p) = (T, K, E) := ⟨_, _, _, rfl⟩
            have HO := Lib.hid ho
            clear ho
            have hx := one_at s p
            by_cases hE : E = 0
            · subst hE
              have H50 := Lib.hid (fun W => (hx W h' hlt T K 0 HO.out).1 rfl)
              clear hx
              go_wp2_with fail
              refine (H50.out _).mono ?_
              rintro e w2 ⟨rfl, hb2⟩
              have HB2 := Lib.hid hb2
              have hzz := hb2.size
              go_wp2_with (at_builtin; refine wpList_append_own _ rfl (.tmp 83) (.tmp 85) 30 rfl (w.heap.size + 1) 54 i0 _ 3 32 Tryz.underlying30 hi hz0 hz1 hz2 rfl (by decide) _ _ _ rfl (((own_below hown hb2).alloc _).alloc _) ⟨w2.heap.size + 1, 0, none⟩ 1 1 [.int .i64 K, .string (str T), .int .i64 p] rfl rfl ?a3 ?b3 ?c3 ?d3 ?e3 ?_)
              case a3 => intro j u hj; match j, hj with | 0, hj => (simp at hj; subst hj; simp [Addr.add]) | 1, hj => (simp at hj; subst hj; simp [Addr.add]) | 2, hj => (simp at hj; subst hj; simp [Addr.add])
              case b3 => intro u hu; simp at hu; rcases hu with rfl | rfl | rfl <;> rfl
              case c3 => unfold maxLen; omega
              case d3 => omega
              case e3 => simp; omega
              intro v' w1 hown' hgrow _
              obtain ⟨d0, d1, d2⟩ := ref_mid H0.out hbel HB2.out hown hgrow
              have R := Lib.hid (ref_step hlt hal HL.out HO.out HNB.out HR.out d0 d2 hown')
              have e3 : w1.cell? ⟨w2.heap.size, 1, none⟩ = some (.string (str T)) := by simp [World.cell?, d1]
              have hss := str_size T
              have hT := R.out.2.2
              clear hown hown' hgrow d0 d1 d2 hb2 c0 c1 f0 f1
              go_wp2
              refine ⟨?_, ?_⟩
              · have := R.out.1
                rwa [show ((p + T.length : Nat) : Int) = (p : Int) + (T.length : Int) from by omega] at this
              · have := R.out.2.1
                simp [intOf]; omega
            · have hE1 : (E != 0) = true := bne_iff_ne.2 hE
              have H50 := Lib.hid (fun W => (hx W h' hlt T K E HO.out).2 hE)
              have HBD := Lib.hid (ref_bad hlt HL.out HO.out hE HNB.out HR.out)
              clear hx hE hown
              go_wp2_with fail
              refine (H50.out _).mono ?_
              rintro e w2 ⟨rfl, hb2⟩
              have d0 : w2.heap[w.heap.size]? = _ := (hb2.block _ hs0).trans H0.out
              have hs2 := lt_of_block d0
              have c20 : w2.cell? ⟨w.heap.size, 0, none⟩ = some (.int .i64 0) := by simp [World.cell?, d0]
              have c21 : w2.cell? ⟨w.heap.size, 1, none⟩ = some (.int .i64 0) := by simp [World.cell?, d0]
              have f20 : w2.frozen? ⟨w.heap.size, 0, none⟩ = false := by simp [World.frozen?, d0]
              have f21 : w2.frozen? ⟨w.heap.size, 1, none⟩ = false := by simp [World.frozen?, d0]
              have HB2 := Lib.hid (hbel.trans (hb2.mono hbel.size))
              have hz2' := HB2.out.size
              clear hb2 d0
              go_wp2
              rw [HBD.out]
              exact bodyPost_ret (v := .tuple #[.slice none 0 0, .agg #[.int .i64 E, .int .i64 (p : Int)]]) (by simp [results, Tryz.results18, go_sem, c20, c21, hs2]) rfl ⟨_, rfl, World.ownsRow_nil _ _ _ _, by first | exact ((HB2.out.setCell (Nat.le_refl _) _).setCell (Nat.le_refl _) _).alloc (by simp; omega) _ | exact ((HB2.out.alloc (by omega) _).setCell (Nat.le_refl _) _).setCell (Nat.le_refl _) _⟩
      · have HF := Lib.hid (show lexM s.toList = .ok acc from by
          rw [HL.out, List.drop_eq_nil_of_le (by rw [toList_len]; omega), lexS_nil]; simp [Res.glue])
        go_wp2
        rw [HF.out]
        refine bodyPost_ret (v := .tuple #[u4, .agg #[.int .i64 0, .int .i64 0]]) (by simp [results, Tryz.results18, go_sem, c0, c1]) rfl ⟨_, rfl, ?_, (hbel.setCell (Nat.le_refl _) _).setCell (Nat.le_refl _) _⟩
        exact own_base (ownsRow_setCell_below (ownsRow_setCell_below hown (by show w.heap.size < _; omega) _) (by show w.heap.size < _; omega) _) (by omega)
  · go_enter Tryz.func18, Tryz.ntmps18
    go_wp2
    have hm : lexM s.toList = .bad 7 (-1) := by unfold lexM; rw [if_pos (by rw [toList_len]; omega)]
    rw [hm]
    exact bodyPost_ret (v := .tuple #[.slice none 0 0, .agg #[.int .i64 7, .int .i64 (-1)]]) (by simp [results, Tryz.results18, go_sem]) rfl ⟨_, rfl, World.ownsRow_nil _ _ _ _, (Below.refl _ _).alloc (Nat.le_refl _) _⟩
end Go.Proofs.YtgohhnbdicdenaaGreatDoor.Lx

/- Helpers of the walks of the statements of layer prog. Conditions: none. -/
namespace Go.Proofs.YtgohhnbdicdenaaGreatDoor.Pg
open Go.ChangeShapes Go.WideShapes Go.ChangeAt Go.RowKit
open Go.Proofs.YtgohhnbdicdenaaGreatDoor.Ex
open Go.Proofs.YtgohhnbdicdenaaGreatDoor.Tr (str ret_bool ret_int Bytes Nd)
set_option linter.unusedVariables false
set_option linter.unusedSimpArgs false

theorem rlex_at {S : ByteArray} {r : Lx.Res} {w : World} (hl : Lx.lexM S.toList = r) (h : S.size ≤ maxLen) : Calls Tryz.prog 18 #[.string S] w (Lx.LexGives w r.toks r.code r.at_) := by
  subst hl; exact (Lx.refLex_any S w h).mono fun _ _ h => h.gives
theorem parse_s {S : ByteArray} {x : Prg × Int × Int} {w : World} (t : progM S.toList = x) (h : S.size ≤ maxLen) (hv : VarAt w w.heap.size) : Calls Tryz.prog 20 #[.string S] w (ParG w x) := by
  subst t; exact prog_parse S w h hv
theorem toks_keep {w w' : World} {v : Value} {l : List Tok} (h : Lx.Toks w v l) (hb : Below w.heap.size w w') : Lx.Toks w' v l := by
  obtain ⟨A, c, rfl, h1, h2, h3⟩ := h
  refine ⟨A, c, rfl, h1, h2, fun i t hi => ?_⟩
  obtain ⟨g, e1, e2, c0, c1, c2⟩ := h3 i t hi
  have q : ∀ k, w'.cell? ⟨g, k, none⟩ = w.cell? ⟨g, k, none⟩ := fun k => World.cell?_of_block (w := w) (a := ⟨g, k, none⟩) (hb.block g e2)
  exact ⟨g, e1, Nat.lt_of_lt_of_le e2 hb.size, (q _).trans c0, (q _).trans c1, (q _).trans c2⟩
theorem fault_self (c a : Int) : Lx.faultB c c a a = true := by simp [Lx.faultB]
theorem new_one (w : World) (o : Obj) : Below w.heap.size w (w.alloc o) ∧ (w.alloc o).heap[w.heap.size]? = some o := ⟨below_new w o, heap_alloc_new w o⟩
end Go.Proofs.YtgohhnbdicdenaaGreatDoor.Pg

/- What is read in a stretch of tokens does not hang on what stands around it. Conditions: none. -/
namespace Go.Proofs.YtgohhnbdicdenaaGreatDoor.Pg
open Go.Proofs.YtgohhnbdicdenaaGreatDoor.Tr Go.Proofs.YtgohhnbdicdenaaGreatDoor.Ex
set_option linter.unusedVariables false
set_option linter.unusedSimpArgs false

/-- Two readers at one place of a stretch l of tokens, that begins at s in the one, at u in the other; fin: the stretch is the last. -/
structure Wn (l : List Tok) (s u : Nat) (fin : Bool) (r q : Rd) : Prop where
  rc : r.code = 0
  qc : q.code = 0
  rm : ∀ (i : Nat) t, l[i]? = some t → ∃ x, r.l[s + i]? = some x ∧ x.kind = t.kind ∧ x.text = t.text
  qm : ∀ (i : Nat) t, l[i]? = some t → ∃ x, q.l[u + i]? = some x ∧ x.kind = t.kind ∧ x.text = t.text
  rf : fin = true → r.l.length = s + l.length
  qf : fin = true → q.l.length = u + l.length
  le : s ≤ r.next
  nx : q.next + s = r.next + u
  bg : q.begun = r.begun
section
variable {l : List Tok} {s u : Nat} {fin : Bool} {r q : Rd}
/-- What stands at the place is the same. -/
theorem Wn.cur (h : Wn l s u fin r q) (hp : fin = true ∨ r.next < s + l.length) : q.cur.kind = r.cur.kind ∧ q.cur.text = r.cur.text ∧ (decide (q.next < q.l.length) = decide (r.next < r.l.length)) := by
  have hle := h.le
  have hnx := h.nx
  by_cases hl : r.next < s + l.length
  · obtain ⟨t, ht⟩ : ∃ t, l[r.next - s]? = some t := ⟨_, List.getElem?_eq_getElem (by omega)⟩
    obtain ⟨x, hx, k1, k2⟩ := h.rm _ _ ht
    obtain ⟨y, hy, j1, j2⟩ := h.qm _ _ ht
    rw [show s + (r.next - s) = r.next by omega] at hx
    rw [show u + (r.next - s) = q.next by omega] at hy
    have a1 := (List.getElem?_eq_some_iff.1 hx).1
    have a2 := (List.getElem?_eq_some_iff.1 hy).1
    unfold Rd.cur
    rw [hx, hy]
    refine ⟨j1.trans k1.symm, j2.trans k2.symm, ?_⟩
    rw [decide_eq_true a1, decide_eq_true a2]
  · have hf : fin = true := hp.resolve_right hl
    have h1 := h.rf hf
    have h2 := h.qf hf
    have e1 : r.l[r.next]? = none := List.getElem?_eq_none (by omega)
    have e2 : q.l[q.next]? = none := List.getElem?_eq_none (by omega)
    unfold Rd.cur
    rw [e1, e2]
    refine ⟨rfl, rfl, ?_⟩
    rw [decide_eq_false (by omega), decide_eq_false (by omega)]
theorem Wn.ws (h : Wn l s u fin r q) (hp : fin = true ∨ r.next < s + l.length) : q.ws = r.ws := by
  obtain ⟨h1, h2, h3⟩ := h.cur hp
  unfold Rd.ws; rw [h3, h1]
theorem Wn.isB (h : Wn l s u fin r q) (hp : fin = true ∨ r.next < s + l.length) (x : Bytes) : q.isB x = r.isB x := by unfold Rd.isB; rw [h.ws hp, (h.cur hp).2.1]
theorem Wn.sign (h : Wn l s u fin r q) (hp : fin = true ∨ r.next < s + l.length) (n : Nat) : q.sign n = r.sign n := by unfold Rd.sign; rw [h.ws hp, (h.cur hp).2.1]
theorem Wn.num (h : Wn l s u fin r q) (hp : fin = true ∨ r.next < s + l.length) (m : Nat) : numB m q.cur = numB m r.cur := by unfold numB; rw [(h.cur hp).1, (h.cur hp).2.1]
theorem Wn.adv (h : Wn l s u fin r q) : Wn l s u fin r.adv q.adv := ⟨h.rc, h.qc, h.rm, h.qm, h.rf, h.qf, by have := h.le; simp [Rd.adv]; omega, by have := h.nx; simp [Rd.adv]; omega, h.bg⟩
theorem Wn.open_ (h : Wn l s u fin r q) : Wn l s u fin r.open_ q.open_ := ⟨h.rc, h.qc, h.rm, h.qm, h.rf, h.qf, h.le, h.nx, by simp [Rd.open_, h.bg]⟩
theorem Wn.shut (h : Wn l s u fin r q) : Wn l s u fin r.shut q.shut := ⟨h.rc, h.qc, h.rm, h.qm, h.rf, h.qf, h.le, h.nx, by simp [Rd.shut, h.bg]⟩
end
/-- The end of a run is in the stretch. -/
def In (l : List Tok) (s : Nat) (fin : Bool) (r : Rd) : Prop := fin = true ∨ r.next < s + l.length
theorem In.low {l : List Tok} {s : Nat} {fin : Bool} {r r' : Rd} (h : In l s fin r') (hn : r.next ≤ r'.next) : In l s fin r := h.imp id (fun h => by omega)
theorem run_nx {f : Nat} {t : Task} {r : Rd} {p : Pt} {r' : Rd} (h : run f t r = some (p, r')) (hf : r.fine) (hp : t.pre r) : r.next ≤ r'.next := (run_step _ _ _ _ _ h hf hp).1.nxt
theorem run_zero {f : Nat} {t : Task} {r : Rd} {p : Pt} {r' : Rd} (h : run f t r = some (p, r')) (hc : r'.code = 0) : r.code = 0 := by
  apply Classical.byContradiction
  intro h0
  have := (run_code _ _ _ _ _ h h0).1
  omega
theorem need_zero {s : Bytes} {r : Rd} (h : (r.need s).code = 0) : r.isB s = true ∧ r.need s = r.adv := by
  unfold Rd.need at h ⊢
  by_cases hb : r.isB s = true
  · rw [if_pos hb]; exact ⟨hb, rfl⟩
  · rw [if_neg hb] at h; exact absurd h (fail_code 5 (by decide) r)
theorem numR_zero {m : Nat} {r : Rd} (h : (r.numR m).code = 0) : numB m r.cur = true ∧ r.numR m = r.adv := by
  unfold Rd.numR at h ⊢
  by_cases hb : numB m r.cur = true
  · rw [if_pos hb]; exact ⟨hb, rfl⟩
  · rw [if_neg hb] at h; exact absurd h (fail_code 5 (by decide) r)
end Go.Proofs.YtgohhnbdicdenaaGreatDoor.Pg

/- An expression that is read in a stretch of tokens does not hang on what stands around it. Conditions: none. -/
namespace Go.Proofs.YtgohhnbdicdenaaGreatDoor.Pg
open Go.Proofs.YtgohhnbdicdenaaGreatDoor.Tr Go.Proofs.YtgohhnbdicdenaaGreatDoor.Ex
set_option linter.unusedVariables false
set_option linter.unusedSimpArgs false

section
variable {l : List Tok} {s u : Nat} {fin : Bool}
theorem some_pair {p a : Pt} {r b : Rd} (h : some (p, r) = some (a, b)) : p = a ∧ r = b := by simpa using h
theorem run_loc : ∀ (f : Nat) (t : Task) (r q : Rd) (p : Pt) (r' : Rd), run f t r = some (p, r') → r'.code = 0 → t.pre r → Wn l s u fin r q → In l s fin r' → ∃ q', run f t q = some (p, q') ∧ Wn l s u fin r' q' := by
  intro f
  induction f with
  | zero => intro t r q p r' h; cases h
  | succ f ih =>
    intro t r q p r' h hc hpre hW hIn
    have hz := run_zero h hc
    have hnx := run_nx h (fine0 hz) hpre
    have hI := hIn.low hnx
    cases t with
    | lev n =>
      simp only [Task.pre] at hpre
      simp only [run] at h ⊢
      split at h
      · rename_i h9
        rw [if_pos h9]
        exact ih _ _ _ _ _ h hc trivial hW hIn
      · rename_i h9
        rw [if_neg h9]
        obtain ⟨⟨a, r1⟩, h1, h2⟩ := bind_some h
        simp only at h2
        have hc1 : r1.code = 0 := by split at h2 <;> exact run_zero h2 hc
        have hao := (run_step _ _ _ _ _ h1 (fine0 hz) (by simp only [Task.pre]; omega)).2.1
        have hn1 : r1.next ≤ r'.next := by
          split at h2
          · exact run_nx h2 (fine0 hc1) ⟨by omega, by simp [hao], by simp⟩
          · exact run_nx h2 (fine0 hc1) ⟨by omega, hao⟩
        obtain ⟨q1, k1, w1⟩ := ih _ _ q _ _ h1 hc1 (by simp only [Task.pre]; omega) hW (hIn.low hn1)
        rw [k1]
        simp only [Option.bind_some]
        split at h2
        · rename_i h2'
          rw [if_pos h2']
          exact ih _ _ _ _ _ h2 hc ⟨by omega, by simp [hao], by simp⟩ w1 hIn
        · rename_i h2'
          rw [if_neg h2']
          exact ih _ _ _ _ _ h2 hc ⟨by omega, hao⟩ w1 hIn
    | rl n ps ops =>
      simp only [run] at h ⊢
      obtain ⟨hn, hps, hops⟩ := hpre
      rw [hW.sign hI]
      cases hs : r.sign n with
      | none =>
        rw [hs] at h
        obtain ⟨rfl, rfl⟩ := some_pair h
        exact ⟨q, rfl, hW⟩
      | some x =>
        rw [hs] at h
        obtain ⟨⟨a, r1⟩, h1, h2⟩ := bind_some h
        simp only at h2 ⊢
        have hc1 : r1.code = 0 := run_zero h2 hc
        have hao := (run_step _ _ _ _ _ h1 (fine0 hz) (by simp only [Task.pre]; omega)).2.1
        have hso := sign_ops hs
        have hp2 : (Task.rl n (ps ++ [a]) (ops ++ [x])).pre r1 := ⟨hn, by intro y hy; simp at hy; rcases hy with hy | hy; exact hps y hy; subst hy; exact hao, by intro y hy; simp at hy; rcases hy with hy | hy; exact hops y hy; subst hy; exact hso.2⟩
        have hn1 := run_nx h2 (fine0 hc1) hp2
        obtain ⟨q1, k1, w1⟩ := ih _ _ q.adv _ _ h1 hc1 (by simp only [Task.pre]; omega) hW.adv (hIn.low hn1)
        rw [k1]
        exact ih _ _ _ _ _ h2 hc hp2 w1 hIn
    | ll n p0 =>
      simp only [run] at h ⊢
      obtain ⟨hn, hp0⟩ := hpre
      rw [hW.sign hI]
      cases hs : r.sign n with
      | none =>
        rw [hs] at h
        obtain ⟨rfl, rfl⟩ := some_pair h
        exact ⟨q, rfl, hW⟩
      | some x =>
        rw [hs] at h
        obtain ⟨⟨a, r1⟩, h1, h2⟩ := bind_some h
        simp only at h2 ⊢
        have hc1 : r1.code = 0 := by
          split at h2
          · rw [(some_pair h2).2]; exact hc
          · exact run_zero h2 hc
        have hao := (run_step _ _ _ _ _ h1 (fine0 hz) (by simp only [Task.pre]; omega)).2.1
        have hn1 : r1.next ≤ r'.next := by
          split at h2
          · rw [(some_pair h2).2]; exact Nat.le_refl _
          · exact run_nx h2 (fine0 hc1) ⟨hn, sjoin_ok _ _ _ hp0 hao⟩
        obtain ⟨q1, k1, w1⟩ := ih _ _ q.adv _ _ h1 hc1 (by simp only [Task.pre]; omega) hW.adv (hIn.low hn1)
        rw [k1]
        simp only [Option.bind_some]
        split at h2
        · rename_i h6
          rw [if_pos h6]
          obtain ⟨rfl, rfl⟩ := some_pair h2
          exact ⟨q1, rfl, w1⟩
        · rename_i h6
          rw [if_neg h6]
          exact ih _ _ _ _ _ h2 hc ⟨hn, sjoin_ok _ _ _ hp0 hao⟩ w1 hIn
    | opnd =>
      simp only [run] at h ⊢
      rw [hW.bg]
      split at h
      · obtain ⟨_, rfl⟩ := some_pair h
        exact absurd hc (fail_code 6 (by decide) r)
      · rename_i hb
        rw [if_neg hb, hW.open_.sign hI]
        cases hs : r.open_.sign 9 with
        | none =>
          rw [hs] at h
          obtain ⟨⟨a, r1⟩, h1, h2⟩ := map_some h
          simp only [Prod.mk.injEq] at h2
          obtain ⟨rfl, rfl⟩ := h2
          obtain ⟨q1, k1, w1⟩ := ih _ _ q.open_ _ _ h1 hc trivial hW.open_ hIn
          exact ⟨q1.shut, by simp only [k1, Option.map_some], w1.shut⟩
        | some x =>
          rw [hs] at h
          obtain ⟨⟨a, r1⟩, h1, h2⟩ := map_some h
          simp only [Prod.mk.injEq] at h2
          obtain ⟨rfl, rfl⟩ := h2
          have hc1 : r1.code = 0 := hc
          by_cases h25 : x.1 = 25
          · simp only [h25, if_true] at h1 ⊢
            have hz1 := run_zero h1 hc1
            obtain ⟨z1, z2⟩ := numR_zero hz1
            rw [z2] at h1
            have hn1 := run_nx h1 (fine0 (by rw [← z2]; exact hz1)) trivial
            have hIa : In l s fin r.open_.adv := hIn.low (Nat.le_trans (by simp [Rd.adv]) hn1)
            have w0 := hW.open_.adv
            obtain ⟨q1, k1, w1⟩ := ih _ _ q.open_.adv.adv _ _ h1 hc1 trivial w0.adv hIn
            have e1 := w0.num hIa 1000
            have e2 : q.open_.adv.numR 1000 = q.open_.adv.adv := by unfold Rd.numR; rw [e1, z1]; rfl
            have e3 : q.open_.adv.num 1000 = r.open_.adv.num 1000 := by unfold Rd.num; rw [e1, (w0.cur hIa).2.1]
            rw [e2, e3, k1]
            exact ⟨q1.shut, rfl, w1.shut⟩
          · simp only [h25, if_false] at h1 ⊢
            obtain ⟨q1, k1, w1⟩ := ih _ _ q.open_.adv _ _ h1 hc1 trivial hW.open_.adv hIn
            exact ⟨q1.shut, by rw [k1]; rfl, w1.shut⟩
    | single =>
      simp only [run] at h ⊢
      obtain ⟨cu1, cu2, _⟩ := hW.cur hI
      have iB := fun x => hW.isB hI x
      rw [iB, iB, iB, iB, cu1, cu2]
      split at h
      · rename_i hb
        rw [if_pos hb]
        obtain ⟨⟨a, r1⟩, h1, h2⟩ := map_some h
        simp only [Prod.mk.injEq] at h2
        obtain ⟨rfl, rfl⟩ := h2
        obtain ⟨z1, z2⟩ := need_zero hc
        have hc1 : r1.code = 0 := by rw [z2] at hc; exact hc
        have hI1 : In l s fin r1 := hIn.low (by rw [z2]; simp [Rd.adv])
        obtain ⟨q1, k1, w1⟩ := ih _ _ q.adv _ _ h1 hc1 (by simp [Task.pre]) hW.adv hI1
        have e1 := w1.isB hI1 rp
        refine ⟨q1.need rp, by rw [k1]; rfl, ?_⟩
        rw [z2]
        unfold Rd.need
        rw [e1, z1]
        exact w1.adv
      · rename_i hb
        rw [if_neg hb]
        split at h
        · rename_i hif
          rw [if_pos hif]
          obtain ⟨⟨a, r1⟩, h1, h⟩ := bind_some h
          obtain ⟨⟨b, r2⟩, h2, h⟩ := bind_some h
          obtain ⟨⟨c, r3⟩, h3, h⟩ := map_some h
          simp only [Prod.mk.injEq] at h
          obtain ⟨rfl, rfl⟩ := h
          have c3 := run_zero h3 hc
          obtain ⟨y1, y2⟩ := need_zero c3
          rw [y2] at h3 c3
          have c2 : r2.code = 0 := c3
          have n3 := run_nx h3 (fine0 c3) (by simp [Task.pre])
          have I2 : In l s fin r2 := hIn.low (Nat.le_trans (by simp [Rd.adv]) n3)
          have c1' := run_zero h2 c2
          obtain ⟨x1, x2⟩ := need_zero c1'
          rw [x2] at h2 c1'
          have c1 : r1.code = 0 := c1'
          have n2 := run_nx h2 (fine0 c1') (by simp [Task.pre])
          have I1 : In l s fin r1 := I2.low (Nat.le_trans (by simp [Rd.adv]) n2)
          obtain ⟨q1, k1, w1⟩ := ih _ _ q.adv _ _ h1 c1 (by simp [Task.pre]) hW.adv I1
          have e1 : q1.need [116, 104, 101, 110] = q1.adv := by unfold Rd.need; rw [w1.isB I1, x1]; rfl
          obtain ⟨q2, k2, w2⟩ := ih _ _ q1.adv _ _ h2 c2 (by simp [Task.pre]) w1.adv I2
          have e2 : q2.need [101, 108, 115, 101] = q2.adv := by unfold Rd.need; rw [w2.isB I2, y1]; rfl
          obtain ⟨q3, k3, w3⟩ := ih _ _ q2.adv _ _ h3 hc (by simp [Task.pre]) w2.adv hIn
          refine ⟨q3, ?_, w3⟩
          rw [k1]
          simp only [Option.bind_some, e1, k2, e2, k3, Option.map_some]
        · rename_i hif
          rw [if_neg hif]
          split at h
          · rename_i ht
            rw [if_pos ht]
            obtain ⟨rfl, rfl⟩ := some_pair h
            exact ⟨q.adv, rfl, hW.adv⟩
          · rename_i ht
            rw [if_neg ht]
            split at h
            · rename_i hf
              rw [if_pos hf]
              obtain ⟨rfl, rfl⟩ := some_pair h
              exact ⟨q.adv, rfl, hW.adv⟩
            · rename_i hf
              rw [if_neg hf]
              split at h
              · rename_i hk
                rw [if_pos hk]
                obtain ⟨rfl, rfl⟩ := some_pair h
                obtain ⟨z1, z2⟩ := numR_zero hc
                have e1 := hW.num hI 2147483647
                refine ⟨q.numR 2147483647, ?_, ?_⟩
                · unfold Rd.num; rw [e1, cu2]
                · rw [z2]; unfold Rd.numR; rw [e1, z1]; exact hW.adv
              · rename_i hk
                rw [if_neg hk]
                split at h
                · rename_i hn
                  rw [if_pos hn]
                  exact ih _ _ _ _ _ h hc (kind_lt (r := r) (by omega)) hW hIn
                · obtain ⟨_, rfl⟩ := some_pair h
                  exact absurd hc (fail_code 5 (by decide) r)
    | named x =>
      simp only [run] at h ⊢
      have hm : r.adv.next ≤ r'.next := by
        split at h
        · split at h
          · rw [← (some_pair h).2]; simp [Rd.adv]
          · obtain ⟨⟨a, r1⟩, h1, h2⟩ := bind_some h
            have hc1 := run_zero h2 hc
            have o1 := (run_step _ _ _ _ _ h1 (fine0 hz) (by simp [Task.pre])).2.1
            have n1 := run_nx h1 (fine0 hz) (by simp [Task.pre])
            have n2 : r1.next ≤ r'.next := run_nx h2 (fine0 hc1) (by simp [Task.pre, o1])
            simp [Rd.adv] at n1 ⊢; omega
        · rw [← (some_pair h).2]; exact Nat.le_refl _
      have hIa := hIn.low hm
      rw [hW.adv.isB hIa]
      split at h
      · rename_i hb
        rw [if_pos hb]
        have hm2 : r.adv.adv.next ≤ r'.next := by
          split at h
          · rw [← (some_pair h).2]; simp [Rd.adv]
          · obtain ⟨⟨a, r1⟩, h1, h2⟩ := bind_some h
            have hc1 := run_zero h2 hc
            have o1 := (run_step _ _ _ _ _ h1 (fine0 hz) (by simp [Task.pre])).2.1
            have n1 := run_nx h1 (fine0 hz) (by simp [Task.pre])
            have n2 := run_nx h2 (fine0 hc1) (by simp [Task.pre, o1])
            exact Nat.le_trans n1 n2
        rw [hW.adv.adv.isB (hIn.low hm2)]
        split at h
        · rename_i hb2
          rw [if_pos hb2]
          obtain ⟨rfl, rfl⟩ := some_pair h
          exact ⟨q.adv.adv.adv, rfl, hW.adv.adv.adv⟩
        · rename_i hb2
          rw [if_neg hb2]
          obtain ⟨⟨a, r1⟩, h1, h2⟩ := bind_some h
          have hc1 := run_zero h2 hc
          have o1 := (run_step _ _ _ _ _ h1 (fine0 hz) (by simp [Task.pre])).2.1
          have n2 := run_nx h2 (fine0 hc1) (by simp [Task.pre, o1])
          obtain ⟨q1, k1, w1⟩ := ih _ _ q.adv.adv _ _ h1 hc1 (by simp [Task.pre]) hW.adv.adv (hIn.low n2)
          rw [k1]
          exact ih _ _ _ _ _ h2 hc (by simp [Task.pre, o1]) w1 hIn
      · rename_i hb
        rw [if_neg hb]
        obtain ⟨rfl, rfl⟩ := some_pair h
        exact ⟨q.adv, rfl, hW.adv⟩
    | args x ps =>
      simp only [run] at h ⊢
      rw [hW.isB hI]
      split at h
      · rename_i hb
        rw [if_pos hb]
        obtain ⟨⟨a, r1⟩, h1, h2⟩ := bind_some h
        have hc1 := run_zero h2 hc
        have o1 := (run_step _ _ _ _ _ h1 (fine0 hz) (by simp [Task.pre])).2.1
        have hp2 : (Task.args x (ps ++ [a])).pre r1 := by intro y hy; simp at hy; rcases hy with hy | hy; exact hpre y hy; subst hy; exact o1
        have n2 := run_nx h2 (fine0 hc1) hp2
        obtain ⟨q1, k1, w1⟩ := ih _ _ q.adv _ _ h1 hc1 (by simp [Task.pre]) hW.adv (hIn.low n2)
        rw [k1]
        exact ih _ _ _ _ _ h2 hc hp2 w1 hIn
      · rename_i hb
        rw [if_neg hb]
        obtain ⟨rfl, rfl⟩ := some_pair h
        obtain ⟨z1, z2⟩ := need_zero hc
        refine ⟨q.need rp, rfl, ?_⟩
        rw [z2]
        unfold Rd.need
        rw [hW.isB hI, z1]
        exact hW.adv
end
end Go.Proofs.YtgohhnbdicdenaaGreatDoor.Pg

/- What layer show makes of expressions, as plain functions: levels, texts, tokens. What reading makes of tokens that are seen. Conditions: none. -/
namespace Go.Proofs.YtgohhnbdicdenaaGreatDoor.Sh
open Go.Proofs.YtgohhnbdicdenaaGreatDoor.Tr Go.Proofs.YtgohhnbdicdenaaGreatDoor.Ex
set_option linter.unusedVariables false
set_option linter.unusedSimpArgs false

/-- The operators' texts and levels, by their numbers. -/
def opTexts : List Bytes := [[], [], [], [], [110, 111, 116], [45], [97, 110, 100], [111, 114], [120, 111, 114], [61, 62], [61], [60, 62], [60], [60, 61], [43], [45], [42], [100, 105, 118], [109, 111, 100], [45, 62], [115, 105, 110, 99, 101], [112, 114, 101], [111, 110, 99, 101], [104, 105, 115, 116], [112, 114, 101, 118], [119, 105, 116, 104, 105, 110], [105, 102]]
def levels : List Int := [-1, 10, 10, 10, 9, 9, 5, 4, 4, 2, 6, 6, 6, 6, 7, 7, 8, 8, 8, 1, 3, 9, 9, 9, 9, 9, 0, 10]
def opText (o : Int) : Bytes := if o < 0 then [] else (opTexts[o.toNat]?).getD []
def levM (o : Int) : Int := if o < 0 then -1 else (levels[o.toNat]?).getD (-1)

/-- A number's digits. -/
def digs (n : Nat) : Bytes := if n < 10 then [(48 + n).toUInt8] else digs (n / 10) ++ [(48 + n % 10).toUInt8]
termination_by n

abbrev KT := Int × Bytes
/-- A word, or a sign. -/
def kd (s : Bytes) : KT := (if Lx.wordB s then 3 else 4, s)
def tLp : KT := (4, [40])
def tRp : KT := (4, [41])
def tCo : KT := (4, [44])
def tTrue : KT := (3, [116, 114, 117, 101])
def tFalse : KT := (3, [102, 97, 108, 115, 101])
def tIf : KT := (3, [105, 102])
def tThen : KT := (3, [116, 104, 101, 110])
def tElse : KT := (3, [101, 108, 115, 101])
def numT (n : Int) : KT := (2, digs n.toNat)
def nameT (s : Bytes) : KT := (1, s)
def sur (b : Bool) (l : List KT) : List KT := if b then tLp :: (l ++ [tRp]) else l
def leftOf (L : Int) : Int := if L ≤ 2 then L + 1 else if L = 6 then 7 else L
def rightOf (L : Int) : Int := if L ≤ 2 then L else L + 1
/-- The tokens of a tree; of an Args those of its operands, with commas between. -/
def toks : T → List KT
  | .l0 x => if x.op = 1 then [numT x.n] else if x.op = 2 then [if x.n = 1 then tTrue else tFalse] else if x.op = 27 then [nameT x.name, tLp, tRp] else [nameT x.name]
  | .l1 x p =>
    if x.op = 27 then nameT x.name :: tLp :: (toks p ++ [tRp]) else if x.op = 28 then toks p
    else kd (opText x.op) :: ((if x.op = 25 then [numT x.n] else []) ++ sur (decide (levM p.lab.op < 9)) (toks p))
  | .l2 x p q =>
    if x.op = 28 then toks p ++ tCo :: toks q
    else sur (decide (levM p.lab.op < leftOf (levM x.op))) (toks p) ++ kd (opText x.op) :: sur (decide (levM q.lab.op < rightOf (levM x.op))) (toks q)
  | .l3 x a b c => tIf :: (toks a ++ tThen :: (toks b ++ tElse :: toks c))
/-- More fuel changes nothing. -/
theorem run_more : ∀ (f : Nat) (t : Task) (r : Rd) (x : Pt × Rd), run f t r = some x → run (f + 1) t r = some x := by
  intro f
  induction f with
  | zero => intro t r x h; cases h
  | succ f ih =>
    intro t r x h
    have IH : ∀ {t : Task} {r : Rd} {x : Pt × Rd}, run f t r = some x → run (f + 1) t r = some x := fun h => ih _ _ _ h
    cases t with
    | lev n =>
      rw [run] at h ⊢
      split at h
      · rename_i h9; rw [if_pos h9]; exact IH h
      · rename_i h9; rw [if_neg h9]
        obtain ⟨⟨a, b⟩, h1, h2⟩ := bind_some h
        rw [IH h1]
        simp only [Option.bind_some] at h2 ⊢
        by_cases h3 : n ≤ 2
        · rw [if_pos h3] at h2 ⊢; exact IH h2
        · rw [if_neg h3] at h2 ⊢; exact IH h2
    | rl n ps ops =>
      rw [run] at h ⊢
      cases hs : r.sign n with
      | none => rw [hs] at h; exact h
      | some s =>
        rw [hs] at h
        obtain ⟨a, h1, h2⟩ := bind_some h
        simp only
        rw [IH h1]
        exact IH h2
    | ll n p0 =>
      rw [run] at h ⊢
      cases hs : r.sign n with
      | none => rw [hs] at h; exact h
      | some s =>
        rw [hs] at h
        obtain ⟨⟨a, b⟩, h1, h2⟩ := bind_some h
        simp only
        rw [IH h1]
        simp only [Option.bind_some] at h2 ⊢
        by_cases h3 : n = 6
        · rw [if_pos h3] at h2 ⊢; exact h2
        · rw [if_neg h3] at h2 ⊢; exact IH h2
    | opnd =>
      rw [run] at h ⊢
      split at h
      · rename_i h3; rw [if_pos h3]; exact h
      · rename_i h3; rw [if_neg h3]
        cases hs : r.open_.sign 9 with
        | none => rw [hs] at h; obtain ⟨a, h1, h2⟩ := map_some h; simp only; rw [IH h1]; exact congrArg some h2
        | some s => rw [hs] at h; obtain ⟨a, h1, h2⟩ := map_some h; simp only; rw [IH h1]; exact congrArg some h2
    | single =>
      rw [run] at h ⊢
      split at h
      · rename_i h3; rw [if_pos h3]; obtain ⟨a, h1, h2⟩ := map_some h; rw [IH h1]; exact congrArg some h2
      · rename_i h3; rw [if_neg h3]
        split at h
        · rename_i h4; rw [if_pos h4]
          obtain ⟨a, h1, h⟩ := bind_some h
          obtain ⟨b, h2, h⟩ := bind_some h
          obtain ⟨c, h3, h⟩ := map_some h
          rw [IH h1]; simp only [Option.bind_some]; rw [IH h2]; simp only [Option.bind_some]; rw [IH h3]
          exact congrArg some h
        · rename_i h4; rw [if_neg h4]
          split at h
          · rename_i h5; rw [if_pos h5]; exact h
          · rename_i h5; rw [if_neg h5]
            split at h
            · rename_i h6; rw [if_pos h6]; exact h
            · rename_i h6; rw [if_neg h6]
              split at h
              · rename_i h7; rw [if_pos h7]; exact h
              · rename_i h7; rw [if_neg h7]
                split at h
                · rename_i h8; rw [if_pos h8]; exact IH h
                · rename_i h8; rw [if_neg h8]; exact h
    | named s =>
      rw [run] at h ⊢
      split at h
      · rename_i h3; rw [if_pos h3]
        split at h
        · rename_i h4; rw [if_pos h4]; exact h
        · rename_i h4; rw [if_neg h4]; obtain ⟨a, h1, h2⟩ := bind_some h; rw [IH h1]; exact IH h2
      · rename_i h3; rw [if_neg h3]; exact h
    | args s ps =>
      rw [run] at h ⊢
      split at h
      · rename_i h3; rw [if_pos h3]; obtain ⟨a, h1, h2⟩ := bind_some h; rw [IH h1]; exact IH h2
      · rename_i h3; rw [if_neg h3]; exact h
theorem run_mono {f g : Nat} (hfg : f ≤ g) {t : Task} {r : Rd} {x : Pt × Rd} (h : run f t r = some x) : run g t r = some x := by
  induction hfg with
  | refl => exact h
  | step _ ih => exact run_more _ _ _ _ ih
end Go.Proofs.YtgohhnbdicdenaaGreatDoor.Sh

/- A program's things that are read in a stretch of tokens do not hang on what stands around it. Conditions: none. -/
namespace Go.Proofs.YtgohhnbdicdenaaGreatDoor.Pg
open Go.Proofs.YtgohhnbdicdenaaGreatDoor.Tr Go.Proofs.YtgohhnbdicdenaaGreatDoor.Ex
set_option linter.unusedVariables false
set_option linter.unusedSimpArgs false

/-- What is read stands in the stretch; what is looked at ends at the place behind it. -/
structure LocP {α : Type} (f : PM α) : Prop where
  stay : ∀ r, r.code ≠ 0 → (f r).2.code = r.code ∧ (f r).2.at_ = r.at_
  mono : ∀ r, (f r).2.code = 0 → r.next ≤ (f r).2.next
  loc : ∀ l s u fin r q, Wn l s u fin r q → (f r).2.code = 0 → In l s fin (f r).2 → (f q).1 = (f r).1 ∧ Wn l s u fin (f r).2 (f q).2
/-- .. what is looked at ends ahead of it. -/
structure TiP {α : Type} (f : PM α) : Prop where
  stay : ∀ r, r.code ≠ 0 → (f r).2.code = r.code ∧ (f r).2.at_ = r.at_
  adv : ∀ r, (f r).2.code = 0 → r.next < (f r).2.next
  loc : ∀ l s u fin r q, Wn l s u fin r q → (f r).2.code = 0 → (fin = true ∨ (f r).2.next ≤ s + l.length) → (f q).1 = (f r).1 ∧ Wn l s u fin (f r).2 (f q).2
theorem TiP.toLoc {α : Type} {f : PM α} (h : TiP f) : LocP f :=
  ⟨h.stay, fun r hc => Nat.le_of_lt (h.adv r hc), fun l s u fin r q hW hc hI => h.loc l s u fin r q hW hc (hI.imp id Nat.le_of_lt)⟩
theorem zero_of {α : Type} {f : PM α} (h : ∀ r, r.code ≠ 0 → (f r).2.code = r.code ∧ (f r).2.at_ = r.at_) {r : Rd} (hc : (f r).2.code = 0) : r.code = 0 := by
  apply Classical.byContradiction
  intro h0
  have := (h r h0).1
  omega
theorem stay_bind {α β : Type} {f : PM α} {g : α → PM β} (h : ∀ r, r.code ≠ 0 → (f r).2.code = r.code ∧ (f r).2.at_ = r.at_) (k : ∀ a r, r.code ≠ 0 → (g a r).2.code = r.code ∧ (g a r).2.at_ = r.at_) (r : Rd) (hr : r.code ≠ 0) : (pBind f g r).2.code = r.code ∧ (pBind f g r).2.at_ = r.at_ := by
  obtain ⟨h1, h2⟩ := h r hr
  obtain ⟨k1, k2⟩ := k (f r).1 (f r).2 (by omega)
  exact ⟨k1.trans h1, k2.trans h2⟩
theorem LocP.bind {α β : Type} {f : PM α} {g : α → PM β} (h : LocP f) (k : ∀ a, LocP (g a)) : LocP (pBind f g) := by
  refine ⟨stay_bind h.stay fun a => (k a).stay, fun r hc => ?_, fun l s u fin r q hW hc hI => ?_⟩
  · have hc' : (g (f r).1 (f r).2).2.code = 0 := hc
    exact Nat.le_trans (h.mono r (zero_of (k _).stay hc')) ((k _).mono _ hc')
  · have hc' : (g (f r).1 (f r).2).2.code = 0 := hc
    have hI' : In l s fin (g (f r).1 (f r).2).2 := hI
    obtain ⟨e1, w1⟩ := h.loc l s u fin r q hW (zero_of (k _).stay hc') (hI'.low ((k _).mono _ hc'))
    unfold pBind
    rw [e1]
    exact (k _).loc l s u fin _ _ w1 hc' hI'
theorem TiP.bindL {α β : Type} {f : PM α} {g : α → PM β} (h : LocP f) (k : ∀ a, TiP (g a)) : TiP (pBind f g) := by
  refine ⟨stay_bind h.stay fun a => (k a).stay, fun r hc => ?_, fun l s u fin r q hW hc hI => ?_⟩
  · have hc' : (g (f r).1 (f r).2).2.code = 0 := hc
    exact Nat.lt_of_le_of_lt (h.mono r (zero_of (k _).stay hc')) ((k _).adv _ hc')
  · have hc' : (g (f r).1 (f r).2).2.code = 0 := hc
    have ha := (k _).adv _ hc'
    obtain ⟨e1, w1⟩ := h.loc l s u fin r q hW (zero_of (k _).stay hc') (hI.imp id fun h => by
      have : (g (f r).1 (f r).2).2.next ≤ s + l.length := h
      omega)
    unfold pBind
    rw [e1]
    exact (k _).loc l s u fin _ _ w1 hc' hI
theorem TiP.bindP {α β : Type} {f : PM α} (h : TiP f) (k : α → β) : TiP (pBind f fun a => pPure (k a)) :=
  ⟨fun r hr => h.stay r hr, fun r hc => h.adv r hc, fun l s u fin r q hW hc hI => by
    obtain ⟨e1, w1⟩ := h.loc l s u fin r q hW hc hI
    exact ⟨congrArg k e1, w1⟩⟩
theorem LocP.pure {α : Type} (a : α) : LocP (pPure a) := ⟨fun r _ => ⟨rfl, rfl⟩, fun r _ => Nat.le_refl _, fun l s u fin r q hW _ _ => ⟨rfl, hW⟩⟩
theorem LocP.ite {α : Type} {b : Bool} {f g : PM α} (hf : LocP f) (hg : LocP g) : LocP (if b then f else g) := by cases b <;> simpa
theorem LocP.iteP {α : Type} {p : Prop} [Decidable p] {f g : PM α} (hf : LocP f) (hg : LocP g) : LocP (if p then f else g) := by split <;> assumption
theorem TiP.ite {α : Type} {b : Bool} {f g : PM α} (hf : TiP f) (hg : TiP g) : TiP (if b then f else g) := by cases b <;> simpa
theorem fail_stay (e : Int) (r : Rd) (h : r.code ≠ 0) : (r.fail e).code = r.code ∧ (r.fail e).at_ = r.at_ := by unfold Rd.fail; rw [if_neg h]; exact ⟨rfl, rfl⟩
theorem Wn.txt {l : List Tok} {s u : Nat} {fin : Bool} {r q : Rd} (h : Wn l s u fin r q) (hp : In l s fin r) : txt q = txt r := (h.cur hp).2.1
theorem Wn.atName {l : List Tok} {s u : Nat} {fin : Bool} {r q : Rd} (h : Wn l s u fin r q) (hp : In l s fin r) : atNameB q = atNameB r := by
  obtain ⟨h1, h2, h3⟩ := h.cur hp
  unfold atNameB; rw [h3, h1]
theorem ti_need (x : Bytes) : TiP (needP x) := by
  refine ⟨fun r hr => ?_, fun r hc => ?_, fun l s u fin r q hW hc hI => ?_⟩
  · unfold needP
    simp only
    split
    · exact ⟨rfl, rfl⟩
    · exact fail_stay 5 r hr
  · unfold needP at hc ⊢
    simp only at hc ⊢
    split
    · simp [Rd.adv]
    · rename_i h; rw [if_neg h] at hc; exact absurd hc (fail_code 5 (by decide) r)
  · unfold needP at hc hI ⊢
    simp only at hc hI ⊢
    by_cases h : txt r = x
    · rw [if_pos h] at hI ⊢
      rw [hW.txt (hI.imp id fun h => by simp [Rd.adv] at h; omega), if_pos h]
      exact ⟨trivial, hW.adv⟩
    · rw [if_neg h] at hc; exact absurd hc (fail_code 5 (by decide) r)
theorem lo_take (x : Bytes) : LocP (takeP x) := by
  refine ⟨fun r hr => ?_, fun r hc => ?_, fun l s u fin r q hW hc hI => ?_⟩
  · unfold takeP; split <;> exact ⟨rfl, rfl⟩
  · unfold takeP; split
    · simp [Rd.adv]
    · exact Nat.le_refl _
  · have hm : r.next ≤ (takeP x r).2.next := by
      unfold takeP; split
      · simp [Rd.adv]
      · exact Nat.le_refl _
    have ht := hW.txt (hI.low hm)
    unfold takeP
    rw [ht]
    by_cases h : txt r = x
    · rw [if_pos h, if_pos h]; exact ⟨rfl, hW.adv⟩
    · rw [if_neg h, if_neg h]; exact ⟨rfl, hW⟩
theorem ti_name : TiP nameP := by
  refine ⟨fun r hr => ?_, fun r hc => ?_, fun l s u fin r q hW hc hI => ?_⟩
  · unfold nameP
    split
    · exact ⟨rfl, rfl⟩
    · exact fail_stay 5 r hr
  · unfold nameP at hc ⊢
    split
    · simp [Rd.adv]
    · rename_i h; rw [if_neg h] at hc; exact absurd hc (fail_code 5 (by decide) r)
  · unfold nameP at hc hI ⊢
    by_cases h : atNameB r = true
    · rw [if_pos h] at hI ⊢
      have hI' : In l s fin r := hI.imp id fun h => by simp [Rd.adv] at h; omega
      rw [hW.atName hI', if_pos h, hW.txt hI']
      exact ⟨rfl, hW.adv⟩
    · rw [if_neg h] at hc; exact absurd hc (fail_code 5 (by decide) r)
theorem lo_fail {e : Int} (he : e ≠ 0) : LocP (failP e) := ⟨fun r hr => fail_stay e r hr, fun r hc => absurd hc (fail_code e he r), fun l s u fin r q hW hc => absurd hc (fail_code e he r)⟩
theorem lo_adv : LocP advP := ⟨fun r hr => ⟨rfl, rfl⟩, fun r hc => by simp [advP, Rd.adv], fun l s u fin r q hW hc hI => ⟨rfl, hW.adv⟩⟩
theorem stop_code {C A : Int} (hC : C ≠ 0) (r : Rd) : (Rd.stop C A r).code ≠ 0 := by
  unfold Rd.stop; split
  · exact hC
  · assumption
/-- What is parsed without a fault. -/
theorem parse_run {l : List Tok} {k : Nat} (h : (parseM l k).2.2.1 = 0) : ∃ p r, run (fuelOf l k) (.lev 1) ⟨l, k, 0, 0, 0⟩ = some (p, r) ∧ r.code = 0 ∧ p.nodes ≤ 5000 ∧ p.deep ≤ 40 ∧ parseM l k = (p.e, r.next, 0, 0) := by
  obtain ⟨p, r, e⟩ := run_from l k
  refine ⟨p, r, e, ?_⟩
  unfold parseM at h ⊢
  rw [e] at h ⊢
  simp only [parseOf] at h ⊢
  by_cases h1 : r.code ≠ 0
  · rw [if_pos h1] at h; exact absurd h h1
  · rw [if_neg h1] at h ⊢
    by_cases h2 : 5000 < p.nodes
    · rw [if_pos h2] at h; cases h
    · rw [if_neg h2] at h ⊢
      by_cases h3 : 40 < p.deep
      · rw [if_pos h3] at h; cases h
      · rw [if_neg h3]; exact ⟨by omega, by omega, by omega, rfl⟩
theorem run_moreN {f g : Nat} {t : Task} {r : Rd} {x y : Pt × Rd} (h : run f t r = some x) (k : run g t r = some y) : x = y := by
  have a := Sh.run_mono (Nat.le_max_left f g) h
  have b := Sh.run_mono (Nat.le_max_right f g) k
  rw [a] at b
  exact Option.some.inj b
theorem parse_of {l : List Tok} {k f : Nat} {p : Pt} {r : Rd} (h : run f (.lev 1) ⟨l, k, 0, 0, 0⟩ = some (p, r)) (hc : r.code = 0) (hn : p.nodes ≤ 5000) (hd : p.deep ≤ 40) : parseM l k = (p.e, r.next, 0, 0) := by
  obtain ⟨p', r', e⟩ := run_from l k
  have := run_moreN h e
  simp only [Prod.mk.injEq] at this
  obtain ⟨rfl, rfl⟩ := this
  unfold parseM
  rw [e]
  simp only [parseOf]
  rw [if_neg (by simp [hc]), if_neg (by omega), if_neg (by omega)]
theorem lo_expr : LocP exprP := by
  refine ⟨fun r hr => ?_, fun r hc => ?_, fun l s u fin r q hW hc hI => ?_⟩
  · unfold exprP
    split
    · unfold Rd.stop; rw [if_neg hr]; exact ⟨rfl, rfl⟩
    · exact ⟨rfl, rfl⟩
  · unfold exprP at hc ⊢
    by_cases h : (parseM r.l r.next).2.2.1 ≠ 0
    · rw [if_pos h] at hc; exact absurd hc (stop_code h r)
    · rw [if_neg h]
      obtain ⟨p, r1, e, h1, h2, h3, h4⟩ := parse_run (Classical.not_not.1 h)
      rw [h4]
      exact (run_step _ _ _ _ _ e (fun hc => absurd rfl hc) (by simp [Task.pre])).1.nxt
  · unfold exprP at hc hI ⊢
    by_cases h : (parseM r.l r.next).2.2.1 ≠ 0
    · rw [if_pos h] at hc; exact absurd hc (stop_code h r)
    · rw [if_neg h] at hI ⊢
      obtain ⟨p, r1, e, h1, h2, h3, h4⟩ := parse_run (Classical.not_not.1 h)
      rw [h4] at hI ⊢
      have w0 : Wn l s u fin ⟨r.l, r.next, 0, 0, 0⟩ ⟨q.l, q.next, 0, 0, 0⟩ := ⟨rfl, rfl, hW.rm, hW.qm, hW.rf, hW.qf, hW.le, hW.nx, rfl⟩
      obtain ⟨q1, k1, w1⟩ := run_loc _ _ _ ⟨q.l, q.next, 0, 0, 0⟩ _ _ e h1 (by simp [Task.pre]) w0 hI
      have hq := parse_of k1 w1.qc h2 h3
      rw [hq, if_neg (by simp)]
      exact ⟨rfl, ⟨hW.rc, hW.qc, hW.rm, hW.qm, hW.rf, hW.qf, w1.le, w1.nx, hW.bg⟩⟩
theorem lo_rowF {α : Type} {b : Rd → Bool} {one : PM α} (hb : ∀ l s u fin r q, Wn l s u fin r q → In l s fin r → b q = b r) (h1 : LocP one) : ∀ (k : Nat) (acc : List α), LocP (rowF b one k acc)
  | 0, acc => LocP.pure acc
  | k + 1, acc => by
    have hg := h1.bind fun x => lo_rowF hb h1 k (acc ++ [x])
    refine ⟨fun r hr => ?_, fun r hc => ?_, fun l s u fin r q hW hc hI => ?_⟩
    · unfold rowF
      split
      · split
        · exact fail_stay 7 r hr
        · exact hg.stay r hr
      · exact ⟨rfl, rfl⟩
    · unfold rowF at hc ⊢
      split
      · rename_i hbr
        rw [if_pos hbr] at hc
        split
        · rename_i h; rw [if_pos h] at hc; exact absurd hc (fail_code 7 (by decide) r)
        · rename_i h; rw [if_neg h] at hc; exact hg.mono r hc
      · exact Nat.le_refl _
    · unfold rowF at hc hI ⊢
      by_cases hbr : b r = true
      · rw [if_pos hbr] at hc hI ⊢
        by_cases h : acc.length = 200
        · rw [if_pos h] at hc; exact absurd hc (fail_code 7 (by decide) r)
        · rw [if_neg h] at hc hI ⊢
          rw [hb l s u fin r q hW (hI.low (hg.mono r hc)), if_pos hbr, if_neg h]
          exact hg.loc l s u fin r q hW hc hI
      · rw [if_neg hbr] at hc hI ⊢
        rw [hb l s u fin r q hW hI, if_neg hbr]
        exact ⟨rfl, hW⟩
theorem lo_row {α : Type} {b : Rd → Bool} {one : PM α} (hb : ∀ l s u fin r q, Wn l s u fin r q → In l s fin r → b q = b r) (h1 : LocP one) : LocP (rowP b one) := lo_rowF hb h1 _ _
theorem lo_encF {α : Type} (sep : Bytes) {one : PM α} (h1 : LocP one) : ∀ (k : Nat) (acc : List α), LocP (encF sep one k acc)
  | 0, acc => LocP.pure acc
  | k + 1, acc => by
    unfold encF
    exact (lo_take sep).bind fun b => LocP.ite (LocP.iteP ((lo_fail (by decide)).bind fun _ => LocP.pure _) (h1.bind fun x => lo_encF sep h1 k (acc ++ [x]))) ((ti_need _).toLoc.bind fun _ => LocP.pure _)
theorem lo_enc {α : Type} (sep : Bytes) {one : PM α} (h1 : LocP one) : LocP (encP sep one) :=
  (ti_need _).toLoc.bind fun _ => (lo_take _).bind fun b => LocP.ite (LocP.pure _) (h1.bind fun x => lo_encF sep h1 _ _)
theorem lo_param : LocP paramP := ti_name.toLoc.bind fun n => (ti_need _).toLoc.bind fun _ => (lo_take _).bind fun b => LocP.ite (LocP.pure _) ((lo_take _).bind fun i => LocP.ite (LocP.pure _) ((lo_fail (by decide)).bind fun _ => LocP.pure _))
theorem ti_stream : TiP streamP := TiP.bindL lo_param fun p => (ti_need _).bindP fun _ => p
theorem wn_name : ∀ l s u fin r q, Wn l s u fin r q → In l s fin r → atNameB q = atNameB r := fun _ _ _ _ _ _ h hp => h.atName hp
theorem lo_streams : LocP streamsP := by
  have hr := lo_row wn_name ti_stream.toLoc
  refine ⟨fun r h => ?_, fun r hc => ?_, fun l s u fin r q hW hc hI => ?_⟩
  · unfold streamsP
    split
    · exact hr.stay r h
    · obtain ⟨h1, h2⟩ := fail_stay 5 r h
      obtain ⟨h3, h4⟩ := hr.stay (r.fail 5) (fail_code 5 (by decide) r)
      exact ⟨h3.trans h1, h4.trans h2⟩
  · unfold streamsP at hc ⊢
    split
    · rename_i h; rw [if_pos h] at hc; exact hr.mono r hc
    · rename_i h; rw [if_neg h] at hc; exact absurd (zero_of hr.stay hc) (fail_code 5 (by decide) r)
  · unfold streamsP at hc hI ⊢
    by_cases h : atNameB r = true
    · rw [if_pos h] at hc hI ⊢
      rw [hW.atName (hI.low (hr.mono r hc)), if_pos h]
      exact hr.loc l s u fin r q hW hc hI
    · rw [if_neg h] at hc; exact absurd (zero_of hr.stay hc) (fail_code 5 (by decide) r)
theorem ti_eqn : TiP eqnP := TiP.bindL ti_name.toLoc fun n => TiP.bindL (ti_need _).toLoc fun _ => TiP.bindL lo_expr fun e => (ti_need _).bindP fun _ => (⟨n, e⟩ : Eqn)
theorem wn_item : ∀ l s u fin r q, Wn l s u fin r q → In l s fin r → atItemB q = atItemB r := fun _ _ _ _ _ _ h hp => by unfold atItemB; rw [h.txt hp]
theorem lo_itemOf (k : Int) : LocP (itemOf k) := by
  unfold itemOf
  exact LocP.iteP (lo_param.bind fun p => (ti_need _).toLoc.bind fun _ => lo_expr.bind fun e => LocP.pure _)
    (LocP.iteP (ti_name.toLoc.bind fun n => (ti_need _).toLoc.bind fun _ => lo_expr.bind fun e => (ti_need _).toLoc.bind fun _ => lo_expr.bind fun f => LocP.pure _)
      (LocP.iteP (ti_name.toLoc.bind fun n => (lo_enc _ lo_expr).bind fun l => LocP.pure _) (lo_expr.bind fun e => LocP.pure _)))
def itemK (k : Int) : PM Itm := pBind advP fun _ => pBind (itemOf k) fun i => pBind (needP sSemi) fun _ => pPure i
theorem ti_itemK (k : Int) : TiP (itemK k) := TiP.bindL lo_adv fun _ => TiP.bindL (lo_itemOf k) fun i => (ti_need _).bindP fun _ => i
theorem ti_item : TiP itemP := by
  refine ⟨fun r hr => (ti_itemK _).stay r hr, fun r hc => (ti_itemK _).adv r hc, fun l s u fin r q hW hc hI => ?_⟩
  have ha := (ti_itemK (kindM (txt r))).adv r hc
  have ht := hW.txt (hI.imp id fun (h : (itemK (kindM (txt r)) r).2.next ≤ _) => by omega)
  show (itemK (kindM (txt q)) q).1 = _ ∧ Wn l s u fin _ (itemK (kindM (txt q)) q).2
  rw [ht]
  exact (ti_itemK _).loc l s u fin r q hW hc hI
theorem ti_items : TiP itemsP := TiP.bindL (lo_row wn_item ti_item.toLoc) fun l => (ti_need _).bindP fun _ => l
theorem ti_contract : TiP contractP := TiP.bindL ti_name.toLoc fun n => TiP.bindL (lo_enc _ lo_param) fun i => ti_items.bindP fun l => (⟨true, n, i, ⟨[], 0⟩, [], [], l⟩ : Unt)
theorem ti_node : TiP nodeP := TiP.bindL ti_name.toLoc fun n => TiP.bindL (lo_enc _ lo_param) fun i => TiP.bindL (ti_need _).toLoc fun _ => TiP.bindL (ti_need _).toLoc fun _ => TiP.bindL lo_param fun o => TiP.bindL (ti_need _).toLoc fun _ =>
  TiP.bindL (lo_take _) fun c => TiP.bindL (LocP.ite ti_items.toLoc (LocP.pure _)) fun l => TiP.bindL (lo_take _) fun v => TiP.bindL (LocP.ite lo_streams (LocP.pure _)) fun vs => TiP.bindL (ti_need _).toLoc fun _ => TiP.bindL (lo_row wn_name ti_eqn.toLoc) fun es => (ti_need _).bindP fun _ => (⟨false, n, i, o, vs, es, l⟩ : Unt)
theorem ti_unit : TiP unitP := TiP.bindL (lo_take _) fun c => TiP.ite ti_contract (TiP.bindL (ti_need _).toLoc fun _ => ti_node)
theorem wn_unit : ∀ l s u fin r q, Wn l s u fin r q → In l s fin r → atUnitB q = atUnitB r := fun _ _ _ _ _ _ h hp => by unfold atUnitB; rw [h.txt hp]
end Go.Proofs.YtgohhnbdicdenaaGreatDoor.Pg

/- The laws of programs, without a program: a token missing or more, a unit ahead, a fallback behind. Conditions: none. -/
namespace Go.Proofs.YtgohhnbdicdenaaGreatDoor.Pg
open Go.Proofs.YtgohhnbdicdenaaGreatDoor.Tr Go.Proofs.YtgohhnbdicdenaaGreatDoor.Ex
set_option linter.unusedVariables false
set_option linter.unusedSimpArgs false

def headG (f : PM (List Unt)) : PM (List Unt × Bytes) := pBind f fun us => pBind (needP wMain) fun _ => pBind nameP fun m => pPure (us, m)
def headP : PM (List Unt × Bytes) := headG (rowP atUnitB unitP)
theorem ti_headG {f : PM (List Unt)} (h : LocP f) : TiP (headG f) := TiP.bindL h fun us => TiP.bindL (ti_need _).toLoc fun _ => ti_name.bindP fun m => (us, m)
theorem ti_head : TiP headP := ti_headG (lo_row wn_unit ti_unit.toLoc)
theorem ok_headG {f : PM (List Unt)} (h : OkP f) : OkP (headG f) := h.bind fun us => (ok_need _).bind fun _ => ok_name.bind fun m => OkP.pure _
theorem ok_head : OkP headP := ok_headG (ok_row fu_unit ok_unit)
def tailP (us : List Unt) (m : Bytes) : PM Prg := pBind (needP sSemi) fun _ => pBind (takeP wFallback) fun b => pBind (backP b) fun k => pBind endP fun _ => pPure ⟨us, m, k⟩
theorem progG_head (f : PM (List Unt)) (r : Rd) : progG f r = tailP (headG f r).1.1 (headG f r).1.2 (headG f r).2 := rfl
theorem prog_head (r : Rd) : progP r = tailP (headP r).1.1 (headP r).1.2 (headP r).2 := progG_head _ r
theorem end_stay (r : Rd) (h : r.code ≠ 0) : (endP r).2.code = r.code ∧ (endP r).2.at_ = r.at_ := by
  unfold endP; split
  · exact fail_stay 5 r h
  · exact ⟨rfl, rfl⟩
theorem back_stay (b : Bool) (r : Rd) (h : r.code ≠ 0) : (backP b r).2.code = r.code ∧ (backP b r).2.at_ = r.at_ := by
  unfold backP
  cases b
  · exact ⟨rfl, rfl⟩
  · exact stay_bind ti_name.stay (fun n => stay_bind (ti_need _).stay fun _ r _ => ⟨rfl, rfl⟩) r h
def tail2P (us : List Unt) (m : Bytes) : PM Prg := pBind (takeP wFallback) fun b => pBind (backP b) fun k => pBind endP fun _ => pPure ⟨us, m, k⟩
theorem tail2_stay (us : List Unt) (m : Bytes) (r : Rd) (h : r.code ≠ 0) : (tail2P us m r).2.code = r.code ∧ (tail2P us m r).2.at_ = r.at_ :=
  stay_bind (lo_take _).stay (fun b => stay_bind (back_stay b) fun k => stay_bind end_stay fun _ r _ => ⟨rfl, rfl⟩) r h
theorem tail_bad {us : List Unt} {m : Bytes} {r : Rd} (h : txt r ≠ sSemi) : (tailP us m r).2.code = (r.fail 5).code ∧ (tailP us m r).2.at_ = (r.fail 5).at_ := by
  have e : (needP sSemi r).2 = r.fail 5 := by unfold needP; simp only; rw [if_neg h]
  show (tail2P us m (needP sSemi r).2).2.code = _ ∧ (tail2P us m (needP sSemi r).2).2.at_ = _
  rw [e]
  exact tail2_stay us m _ (fail_code 5 (by decide) r)
theorem tail_step {us : List Unt} {m : Bytes} {r : Rd} (h : txt r = sSemi) : tailP us m r = tail2P us m r.adv := by
  have e : (needP sSemi r).2 = r.adv := by unfold needP; simp only; rw [if_pos h]
  show tail2P us m (needP sSemi r).2 = _
  rw [e]
theorem tail2_no {us : List Unt} {m : Bytes} {r : Rd} (h : txt r ≠ wFallback) : tail2P us m r = (⟨us, m, []⟩, (endP r).2) := by
  have e : takeP wFallback r = (false, r) := by unfold takeP; rw [if_neg h]
  show (pBind (backP (takeP wFallback r).1) fun k => pBind endP fun _ => pPure (⟨us, m, k⟩ : Prg)) (takeP wFallback r).2 = _
  rw [e]; rfl
theorem tail2_yes {us : List Unt} {m : Bytes} {r : Rd} (h : txt r = wFallback) : tail2P us m r = (pBind (pBind nameP fun n => pBind (needP sSemi) fun _ => pPure n) fun k => pBind endP fun _ => pPure (⟨us, m, k⟩ : Prg)) r.adv := by
  have e : takeP wFallback r = (true, r.adv) := by unfold takeP; rw [if_pos h]
  show (pBind (backP (takeP wFallback r).1) fun k => pBind endP fun _ => pPure (⟨us, m, k⟩ : Prg)) (takeP wFallback r).2 = _
  rw [e]; rfl
theorem name_yes {r : Rd} (h : atNameB r = true) : nameP r = (txt r, r.adv) := by unfold nameP; rw [if_pos h]
theorem end_yes {r : Rd} (h : ¬ r.next < r.l.length) : endP r = ((), r) := by unfold endP; rw [if_neg h]
theorem end_no {r : Rd} (h : r.next < r.l.length) : endP r = ((), r.fail 5) := by unfold endP; rw [if_pos h]
theorem tail2_named {us : List Unt} {m : Bytes} {r : Rd} (h : txt r = wFallback) (hn : atNameB r.adv = true) (hs : txt r.adv.adv = sSemi) (he : ¬ r.adv.adv.adv.next < r.l.length) : tail2P us m r = (⟨us, m, txt r.adv⟩, r.adv.adv.adv) := by
  rw [tail2_yes h]
  unfold pBind
  rw [name_yes hn]
  simp only [needP, hs, if_true, pPure]
  rw [end_yes he]
theorem tail2_short {us : List Unt} {m : Bytes} {r : Rd} (h : txt r = wFallback) (hn : atNameB r.adv = true) (hs : txt r.adv.adv ≠ sSemi) : (tail2P us m r).2.code = (r.adv.adv.fail 5).code ∧ (tail2P us m r).2.at_ = (r.adv.adv.fail 5).at_ := by
  rw [tail2_yes h]
  unfold pBind
  rw [name_yes hn]
  simp only [needP, hs, if_false, pPure]
  exact end_stay _ (fail_code 5 (by decide) _)
/-- A program's end, where there is no fault. -/
theorem tail_ok {us : List Unt} {m : Bytes} {r : Rd} (h : (tailP us m r).2.code = 0) : txt r = sSemi ∧
    ((txt r.adv ≠ wFallback ∧ ¬ r.adv.next < r.l.length ∧ tailP us m r = (⟨us, m, []⟩, r.adv)) ∨
     (txt r.adv = wFallback ∧ atNameB r.adv.adv = true ∧ txt r.adv.adv.adv = sSemi ∧ ¬ r.adv.adv.adv.adv.next < r.l.length ∧ tailP us m r = (⟨us, m, txt r.adv.adv⟩, r.adv.adv.adv.adv))) := by
  by_cases hs : txt r = sSemi
  · refine ⟨hs, ?_⟩
    rw [tail_step hs] at h ⊢
    by_cases hf : txt r.adv = wFallback
    · right
      refine ⟨hf, ?_⟩
      by_cases hn : atNameB r.adv.adv = true
      · by_cases hs2 : txt r.adv.adv.adv = sSemi
        · by_cases he : r.adv.adv.adv.adv.next < r.l.length
          · exfalso
            rw [tail2_yes hf] at h
            unfold pBind at h
            rw [name_yes hn] at h
            simp only [needP, hs2, if_true, pPure] at h
            rw [end_no he] at h
            exact fail_code 5 (by decide) _ h
          · exact ⟨hn, hs2, he, tail2_named hf hn hs2 he⟩
        · rw [(tail2_short hf hn hs2).1] at h
          exact absurd h (fail_code 5 (by decide) _)
      · exfalso
        rw [tail2_yes hf] at h
        have e : nameP r.adv.adv = ([], r.adv.adv.fail 5) := by unfold nameP; rw [if_neg hn]
        have hc : (nameP r.adv.adv).2.code ≠ 0 := by rw [e]; exact fail_code 5 (by decide) _
        have s1 : ∀ (n : Bytes) (x : Rd), x.code ≠ 0 → ((pBind (needP sSemi) fun _ => pPure n) x).2.code = x.code ∧ ((pBind (needP sSemi) fun _ => pPure n) x).2.at_ = x.at_ := fun n => stay_bind (ti_need sSemi).stay fun _ r _ => ⟨rfl, rfl⟩
        have s2 : ∀ (k : Bytes) (x : Rd), x.code ≠ 0 → ((pBind endP fun _ => pPure (⟨us, m, k⟩ : Prg)) x).2.code = x.code ∧ ((pBind endP fun _ => pPure (⟨us, m, k⟩ : Prg)) x).2.at_ = x.at_ := fun k => stay_bind end_stay fun _ r _ => ⟨rfl, rfl⟩
        have h3 := (s1 (nameP r.adv.adv).1 (nameP r.adv.adv).2 hc).1
        have h4 : ((pBind nameP fun n => pBind (needP sSemi) fun _ => pPure n) r.adv.adv).2.code ≠ 0 := by
          show ((pBind (needP sSemi) fun _ => pPure (nameP r.adv.adv).1) (nameP r.adv.adv).2).2.code ≠ 0
          rw [h3]; exact hc
        exact h4 (zero_of (s2 _) h)
    · left
      rw [tail2_no hf] at h ⊢
      by_cases he : r.adv.next < r.l.length
      · rw [end_no he] at h; exact absurd h (fail_code 5 (by decide) _)
      · exact ⟨hf, he, by rw [end_yes he]⟩
  · rw [(tail_bad hs).1] at h
    exact absurd h (fail_code 5 (by decide) _)
def rd0P (l : List Tok) : Rd := ⟨l, 0, 0, 0, 0⟩
theorem txt_lt {r : Rd} (h : txt r ≠ []) : r.next < r.l.length := by
  apply Classical.byContradiction
  intro hn
  apply h
  unfold txt Rd.cur
  rw [List.getElem?_eq_none (by omega)]; rfl
theorem txt_end {r : Rd} (h : ¬ r.next < r.l.length) : txt r = [] := by
  unfold txt Rd.cur
  rw [List.getElem?_eq_none (by omega)]; rfl
theorem list_of {r : Rd} {L : List Tok} (h : Inv L r) (hc : r.code = 0) : r.l = L := by
  rcases h with ⟨_, h⟩ | ⟨h, _⟩
  · exact h
  · exact absurd hc h
theorem like_get {l m : List Tok} (h : Like l m) (i : Nat) (t : Tok) (ht : l[i]? = some t) : ∃ x, m[0 + i]? = some x ∧ x.kind = t.kind ∧ x.text = t.text := by
  rw [Nat.zero_add]; exact h.2 i t ht
/-- What is known of a program that is read. -/
theorem prog_ok {L : List Tok} (h : (progP (rd0P L)).2.code = 0) : ∃ us m r1, headP (rd0P L) = ((us, m), r1) ∧ r1.code = 0 ∧ r1.l = L ∧ txt r1 = sSemi ∧
    ((txt r1.adv ≠ wFallback ∧ r1.next + 1 = L.length ∧ progP (rd0P L) = (⟨us, m, []⟩, r1.adv)) ∨
     (txt r1.adv = wFallback ∧ atNameB r1.adv.adv = true ∧ txt r1.adv.adv.adv = sSemi ∧ r1.next + 4 = L.length ∧ progP (rd0P L) = (⟨us, m, txt r1.adv.adv⟩, r1.adv.adv.adv.adv))) := by
  rw [prog_head] at h
  have hz : (headP (rd0P L)).2.code = 0 := by
    apply Classical.byContradiction
    intro h0
    have e : tailP (headP (rd0P L)).1.1 (headP (rd0P L)).1.2 = pBind (needP sSemi) fun _ => tail2P (headP (rd0P L)).1.1 (headP (rd0P L)).1.2 := rfl
    rw [e] at h
    have := (stay_bind (ti_need sSemi).stay (fun _ => tail2_stay (headP (rd0P L)).1.1 (headP (rd0P L)).1.2) _ h0).1
    omega
  have hl := list_of (ok_head.inv L (rd0P L) (.inl ⟨rfl, rfl⟩)) hz
  obtain ⟨h1, h2⟩ := tail_ok h
  have hlt := txt_lt (r := (headP (rd0P L)).2) (by rw [h1]; decide)
  refine ⟨(headP (rd0P L)).1.1, (headP (rd0P L)).1.2, (headP (rd0P L)).2, rfl, hz, hl, h1, ?_⟩
  rw [hl] at hlt h2
  rcases h2 with ⟨k1, k2, k3⟩ | ⟨k1, k2, k3, k4, k5⟩
  · left
    refine ⟨k1, by simp [Rd.adv] at k2; omega, by rw [prog_head]; exact k3⟩
  · right
    have hlt2 := txt_lt (r := (headP (rd0P L)).2.adv.adv.adv) (by rw [k3]; decide)
    have hl2 : (headP (rd0P L)).2.adv.adv.adv.l = L := hl
    rw [hl2] at hlt2
    refine ⟨k1, k2, k3, by simp [Rd.adv] at k4 hlt2; omega, by rw [prog_head]; exact k5⟩
end Go.Proofs.YtgohhnbdicdenaaGreatDoor.Pg

/- A program of which the last token is missing, with one more, with a fallback named behind it. Conditions: none. -/
namespace Go.Proofs.YtgohhnbdicdenaaGreatDoor.Pg
open Go.Proofs.YtgohhnbdicdenaaGreatDoor.Tr Go.Proofs.YtgohhnbdicdenaaGreatDoor.Ex
set_option linter.unusedVariables false
set_option linter.unusedSimpArgs false

theorem wn_front {l L M : List Tok} (hl : ∀ (i : Nat) t, l[i]? = some t → ∃ x, L[0 + i]? = some x ∧ x.kind = t.kind ∧ x.text = t.text) (hm : ∀ (i : Nat) t, l[i]? = some t → ∃ x, M[0 + i]? = some x ∧ x.kind = t.kind ∧ x.text = t.text) : Wn l 0 0 false (rd0P L) (rd0P M) :=
  ⟨rfl, rfl, hl, hm, (fun h => by cases h), (fun h => by cases h), Nat.le_refl _, rfl, rfl⟩
theorem fail_end {r : Rd} {L : List Tok} (hc : r.code = 0) (hl : r.l = L) : (r.fail 5).code = 5 ∧ (r.fail 5).at_ = atM L r.next := by
  unfold Rd.fail; rw [if_pos hc, hl]; exact ⟨rfl, rfl⟩
theorem atM_end {L : List Tok} {i : Nat} (h : L.length ≤ i) : atM L i = -1 := by unfold atM; rw [List.getElem?_eq_none h]
theorem wn_next {l : List Tok} {r q : Rd} {fin : Bool} (h : Wn l 0 0 fin r q) : q.next = r.next := by have := h.nx; omega
/-- The last token is missing. -/
theorem short_one {L M : List Tok} (h : (progP (rd0P L)).2.code = 0) (hM : Like (L.take (L.length - 1)) M) : 0 < L.length ∧ (progP (rd0P M)).2.code = 5 ∧ (progP (rd0P M)).2.at_ = -1 := by
  obtain ⟨us, m, r1, e, hc, hl, hs, hcase⟩ := prog_ok h
  have hpos : 0 < L.length := by rcases hcase with ⟨_, k, _⟩ | ⟨_, _, _, k, _⟩ <;> omega
  refine ⟨hpos, ?_⟩
  have hlen : (L.take (L.length - 1)).length = L.length - 1 := by rw [List.length_take]; omega
  have hML : M.length = L.length - 1 := by rw [hM.1, hlen]
  have hW : Wn (L.take (L.length - 1)) 0 0 false (rd0P L) (rd0P M) := wn_front (fun i t ht => by
    rw [List.getElem?_take] at ht
    split at ht
    · exact ⟨t, by rw [Nat.zero_add]; exact ht, rfl, rfl⟩
    · cases ht) (fun i t ht => like_get hM i t ht)
  have hcz : (headP (rd0P L)).2.code = 0 := by rw [e]; exact hc
  have hle : r1.next ≤ L.length - 1 := by rcases hcase with ⟨_, k, _⟩ | ⟨_, _, _, k, _⟩ <;> omega
  obtain ⟨e1, w1⟩ := ti_head.loc _ 0 0 false _ _ hW hcz (.inr (by rw [e, hlen]; simp only; omega))
  rw [e] at e1 w1
  simp only at e1 w1
  have hql := list_of (ok_head.inv M (rd0P M) (.inl ⟨rfl, rfl⟩)) w1.qc
  have hn := wn_next w1
  rw [prog_head, e1]
  generalize (headP (rd0P M)).2 = q1 at w1 hql hn ⊢
  rcases hcase with ⟨k1, k2, _⟩ | ⟨k1, k2, k3, k4, _⟩
  · have ht : txt q1 ≠ sSemi := by rw [txt_end (by rw [hql]; omega)]; decide
    obtain ⟨t1, t2⟩ := tail_bad (us := us) (m := m) ht
    obtain ⟨f1, f2⟩ := fail_end w1.qc hql
    exact ⟨t1.trans f1, t2.trans (f2.trans (atM_end (by omega)))⟩
  · have i0 : In (L.take (L.length - 1)) 0 false r1 := .inr (by rw [hlen]; omega)
    have i1 : In (L.take (L.length - 1)) 0 false r1.adv := .inr (by rw [hlen]; simp [Rd.adv]; omega)
    have i2 : In (L.take (L.length - 1)) 0 false r1.adv.adv := .inr (by rw [hlen]; simp [Rd.adv]; omega)
    rw [tail_step (by rw [w1.txt i0]; exact hs)]
    have hnx : q1.adv.adv.adv.next = L.length - 1 := by simp [Rd.adv]; omega
    obtain ⟨t1, t2⟩ := tail2_short (us := us) (m := m) (r := q1.adv) (by rw [w1.adv.txt i1]; exact k1) (by rw [w1.adv.adv.atName i2]; exact k2) (by
      have : q1.adv.adv.adv.l = M := hql
      rw [txt_end (by rw [this, hnx]; omega)]; decide)
    obtain ⟨f1, f2⟩ := fail_end (r := q1.adv.adv.adv) (L := M) w1.qc hql
    exact ⟨t1.trans f1, t2.trans (f2.trans (atM_end (by rw [hnx]; omega)))⟩
/-- One token more, a semicolon. -/
theorem short_two {L M : List Tok} {x : Tok} (h : (progP (rd0P L)).2.code = 0) (hM : Like L M) (hx : x.text = sSemi) : (progP (rd0P (M ++ [x]))).2.code = 5 ∧ (progP (rd0P (M ++ [x]))).2.at_ = (x.at_ : Int) := by
  obtain ⟨us, m, r1, e, hc, hl, hs, hcase⟩ := prog_ok h
  have hML := hM.1
  have hW : Wn L 0 0 false (rd0P L) (rd0P (M ++ [x])) := wn_front (fun i t ht => ⟨t, by rw [Nat.zero_add]; exact ht, rfl, rfl⟩) (fun i t ht => by
    obtain ⟨y, h1, h2⟩ := like_get hM i t ht
    have := (List.getElem?_eq_some_iff.1 h1).1
    exact ⟨y, by rw [List.getElem?_append_left this]; exact h1, h2⟩)
  have hcz : (headP (rd0P L)).2.code = 0 := by rw [e]; exact hc
  have hle : r1.next < L.length := by rcases hcase with ⟨_, k, _⟩ | ⟨_, _, _, k, _⟩ <;> omega
  obtain ⟨e1, w1⟩ := ti_head.loc _ 0 0 false _ _ hW hcz (.inr (by rw [e]; simp only; omega))
  rw [e] at e1 w1
  simp only at e1 w1
  have hql := list_of (ok_head.inv (M ++ [x]) (rd0P (M ++ [x])) (.inl ⟨rfl, rfl⟩)) w1.qc
  have hn := wn_next w1
  rw [prog_head, e1]
  generalize (headP (rd0P (M ++ [x]))).2 = q1 at w1 hql hn ⊢
  have hlen : (M ++ [x]).length = L.length + 1 := by rw [List.length_append, hML]; rfl
  have hat : atM (M ++ [x]) L.length = (x.at_ : Int) := by
    unfold atM
    rw [List.getElem?_append_right (by omega), hML, Nat.sub_self]; rfl
  rcases hcase with ⟨k1, k2, _⟩ | ⟨k1, k2, k3, k4, _⟩
  · rw [tail_step (by rw [w1.txt (.inr (by omega))]; exact hs)]
    have hl1 : q1.adv.l = M ++ [x] := hql
    have hn1 : q1.adv.next = L.length := by simp [Rd.adv]; omega
    have ht : txt q1.adv ≠ wFallback := by
      unfold txt Rd.cur
      rw [hl1, hn1, List.getElem?_append_right (by omega), hML, Nat.sub_self]
      show x.text ≠ _
      rw [hx]; decide
    rw [tail2_no ht, end_no (by rw [hl1, hn1]; omega)]
    obtain ⟨f1, f2⟩ := fail_end (r := q1.adv) (L := M ++ [x]) w1.qc hl1
    exact ⟨f1, f2.trans (by rw [hn1]; exact hat)⟩
  · have i1 : In L 0 false r1.adv := .inr (by simp [Rd.adv]; omega)
    have i2 : In L 0 false r1.adv.adv := .inr (by simp [Rd.adv]; omega)
    have i3 : In L 0 false r1.adv.adv.adv := .inr (by simp [Rd.adv]; omega)
    rw [tail_step (by rw [w1.txt (.inr (by omega))]; exact hs), tail2_yes (by rw [w1.adv.txt i1]; exact k1)]
    have hl4 : q1.adv.adv.adv.adv.l = M ++ [x] := hql
    have hn4 : q1.adv.adv.adv.adv.next = L.length := by simp [Rd.adv]; omega
    unfold pBind
    rw [name_yes (by rw [w1.adv.adv.atName i2]; exact k2)]
    have hs3 : txt q1.adv.adv.adv = sSemi := by rw [w1.adv.adv.adv.txt i3]; exact k3
    simp only [needP, hs3, if_true, pPure]
    rw [end_no (by rw [hl4, hn4]; omega)]
    obtain ⟨f1, f2⟩ := fail_end (r := q1.adv.adv.adv.adv) (L := M ++ [x]) w1.qc hl4
    exact ⟨f1, f2.trans (by rw [hn4]; exact hat)⟩
/-- A fallback that is named behind a program without one. -/
theorem back_more {L M : List Tok} {x y z : Tok} (h : (progP (rd0P L)).2.code = 0) (hb : (progP (rd0P L)).1.back = []) (hne : ∀ t ∈ L, t.kind = 1 → t.text ≠ []) (hM : Like L M) (hx : x.text = wFallback) (hy : y.kind = 1) (hz : z.text = sSemi) :
    (progP (rd0P (M ++ [x, y, z]))).2.code = 0 ∧ (progP (rd0P (M ++ [x, y, z]))).1 = ⟨(progP (rd0P L)).1.units, (progP (rd0P L)).1.main, y.text⟩ := by
  obtain ⟨us, m, r1, e, hc, hl, hs, hcase⟩ := prog_ok h
  have hML := hM.1
  have hW : Wn L 0 0 false (rd0P L) (rd0P (M ++ [x, y, z])) := wn_front (fun i t ht => ⟨t, by rw [Nat.zero_add]; exact ht, rfl, rfl⟩) (fun i t ht => by
    obtain ⟨y', h1, h2⟩ := like_get hM i t ht
    have := (List.getElem?_eq_some_iff.1 h1).1
    exact ⟨y', by rw [List.getElem?_append_left this]; exact h1, h2⟩)
  have hcz : (headP (rd0P L)).2.code = 0 := by rw [e]; exact hc
  have hle : r1.next < L.length := by rcases hcase with ⟨_, k, _⟩ | ⟨_, _, _, k, _⟩ <;> omega
  obtain ⟨e1, w1⟩ := ti_head.loc _ 0 0 false _ _ hW hcz (.inr (by rw [e]; simp only; omega))
  rw [e] at e1 w1
  simp only at e1 w1
  have hql := list_of (ok_head.inv (M ++ [x, y, z]) (rd0P (M ++ [x, y, z])) (.inl ⟨rfl, rfl⟩)) w1.qc
  have hn := wn_next w1
  have hlen : (M ++ [x, y, z]).length = L.length + 3 := by rw [List.length_append, hML]; rfl
  have hg : ∀ k : Nat, (M ++ [x, y, z])[L.length + k]? = [x, y, z][k]? := fun k => by
    rw [List.getElem?_append_right (by omega), hML, Nat.add_sub_cancel_left]
  rcases hcase with ⟨k1, k2, k3⟩ | ⟨k1, k2, k3, k4, k5⟩
  · rw [k3, prog_head, e1]
    simp only
    generalize (headP (rd0P (M ++ [x, y, z]))).2 = q1 at w1 hql hn ⊢
    rw [tail_step (by rw [w1.txt (.inr (by omega))]; exact hs)]
    have hl1 : q1.adv.l = M ++ [x, y, z] := hql
    have hn1 : q1.adv.next = L.length := by simp [Rd.adv]; omega
    have c1 : q1.adv.cur = x := by unfold Rd.cur; rw [hl1, hn1, show L.length = L.length + 0 from rfl, hg 0]; rfl
    have c2 : q1.adv.adv.cur = y := by
      have h2 : q1.adv.adv.next = L.length + 1 := by rw [← hn1]; rfl
      have h3 : q1.adv.adv.l = M ++ [x, y, z] := hql
      unfold Rd.cur; rw [h3, h2, hg 1]; rfl
    have c3 : q1.adv.adv.adv.cur = z := by
      have h2 : q1.adv.adv.adv.next = L.length + 2 := by rw [← hn1]; rfl
      have h3 : q1.adv.adv.adv.l = M ++ [x, y, z] := hql
      unfold Rd.cur; rw [h3, h2, hg 2]; rfl
    have hyn : atNameB q1.adv.adv = true := by
      have h2 : q1.adv.adv.next = L.length + 1 := by rw [← hn1]; rfl
      have h3 : q1.adv.adv.l = M ++ [x, y, z] := hql
      unfold atNameB; rw [c2, hy, h2, h3, hlen, decide_eq_true (by omega)]; rfl
    have hend : ¬ q1.adv.adv.adv.adv.next < q1.adv.l.length := by
      have h2 : q1.adv.adv.adv.adv.next = L.length + 3 := by rw [← hn1]; rfl
      rw [h2, hl1, hlen]; omega
    rw [tail2_named (by unfold txt; rw [c1]; exact hx) hyn (by unfold txt; rw [c3]; exact hz) hend]
    refine ⟨w1.qc, ?_⟩
    show (⟨us, m, txt q1.adv.adv⟩ : Prg) = _
    unfold txt; rw [c2]
  · exfalso
    rw [k5] at hb
    simp only at hb
    have h3 : r1.adv.adv.l = L := hl
    have h4 : r1.adv.adv.next < L.length := by simp [Rd.adv]; omega
    have h5 : r1.adv.adv.cur = L[r1.adv.adv.next] := by unfold Rd.cur; rw [h3, List.getElem?_eq_getElem h4]; rfl
    unfold atNameB at k2
    rw [Bool.and_eq_true, beq_iff_eq] at k2
    unfold txt at hb
    rw [h5] at hb k2
    exact hne _ (List.getElem_mem h4) k2.2 hb
end Go.Proofs.YtgohhnbdicdenaaGreatDoor.Pg

/- A program with one more unit ahead of it. Conditions: none. -/
namespace Go.Proofs.YtgohhnbdicdenaaGreatDoor.Pg
open Go.Proofs.YtgohhnbdicdenaaGreatDoor.Tr Go.Proofs.YtgohhnbdicdenaaGreatDoor.Ex
set_option linter.unusedVariables false
set_option linter.unusedSimpArgs false

/-- What reads leaves the count of operands that are begun. -/
def BgP {α : Type} (f : PM α) : Prop := ∀ r, (f r).2.begun = r.begun
theorem BgP.bind {α β : Type} {f : PM α} {g : α → PM β} (h : BgP f) (k : ∀ a, BgP (g a)) : BgP (pBind f g) := fun r => (k _ _).trans (h r)
theorem BgP.pure {α : Type} (a : α) : BgP (pPure a) := fun _ => rfl
theorem BgP.ite {α : Type} {b : Bool} {f g : PM α} (hf : BgP f) (hg : BgP g) : BgP (if b then f else g) := by cases b <;> simpa
theorem BgP.iteP {α : Type} {p : Prop} [Decidable p] {f g : PM α} (hf : BgP f) (hg : BgP g) : BgP (if p then f else g) := by split <;> assumption
theorem fail_bg (e : Int) (r : Rd) : (r.fail e).begun = r.begun := by unfold Rd.fail; split <;> rfl
theorem bg_need (s : Bytes) : BgP (needP s) := fun r => by
  unfold needP
  simp only
  split
  · rfl
  · exact fail_bg _ _
theorem bg_take (s : Bytes) : BgP (takeP s) := fun r => by unfold takeP; split <;> rfl
theorem bg_name : BgP nameP := fun r => by
  unfold nameP
  split
  · rfl
  · exact fail_bg _ _
theorem bg_fail (e : Int) : BgP (failP e) := fun r => fail_bg e r
theorem bg_adv : BgP advP := fun r => rfl
theorem bg_expr : BgP exprP := fun r => by
  unfold exprP
  split
  · unfold Rd.stop; split <;> rfl
  · rfl
theorem bg_rowF {α : Type} (b : Rd → Bool) {one : PM α} (h1 : BgP one) : ∀ (k : Nat) (acc : List α), BgP (rowF b one k acc)
  | 0, acc => BgP.pure acc
  | k + 1, acc => fun r => by
    unfold rowF
    split
    · split
      · exact fail_bg _ _
      · exact (h1.bind fun x => bg_rowF b h1 k (acc ++ [x])) r
    · rfl
theorem bg_encF {α : Type} (sep : Bytes) {one : PM α} (h1 : BgP one) : ∀ (k : Nat) (acc : List α), BgP (encF sep one k acc)
  | 0, acc => BgP.pure acc
  | k + 1, acc => by
    unfold encF
    exact (bg_take sep).bind fun b => BgP.ite (BgP.iteP ((bg_fail _).bind fun _ => BgP.pure _) (h1.bind fun x => bg_encF sep h1 k (acc ++ [x]))) ((bg_need _).bind fun _ => BgP.pure _)
theorem bg_enc {α : Type} (sep : Bytes) {one : PM α} (h1 : BgP one) : BgP (encP sep one) :=
  (bg_need _).bind fun _ => (bg_take _).bind fun b => BgP.ite (BgP.pure _) (h1.bind fun x => bg_encF sep h1 _ _)
theorem bg_param : BgP paramP := bg_name.bind fun n => (bg_need _).bind fun _ => (bg_take _).bind fun b => BgP.ite (BgP.pure _) ((bg_take _).bind fun i => BgP.ite (BgP.pure _) ((bg_fail _).bind fun _ => BgP.pure _))
theorem bg_stream : BgP streamP := bg_param.bind fun p => (bg_need _).bind fun _ => BgP.pure _
theorem bg_streams : BgP streamsP := fun r => by
  unfold streamsP
  split
  · exact bg_rowF atNameB bg_stream _ _ r
  · exact (bg_rowF atNameB bg_stream _ _ _).trans (fail_bg _ _)
theorem bg_eqn : BgP eqnP := bg_name.bind fun n => (bg_need _).bind fun _ => bg_expr.bind fun e => (bg_need _).bind fun _ => BgP.pure _
theorem bg_itemOf (k : Int) : BgP (itemOf k) := by
  unfold itemOf
  exact BgP.iteP (bg_param.bind fun p => (bg_need _).bind fun _ => bg_expr.bind fun e => BgP.pure _)
    (BgP.iteP (bg_name.bind fun n => (bg_need _).bind fun _ => bg_expr.bind fun e => (bg_need _).bind fun _ => bg_expr.bind fun f => BgP.pure _)
      (BgP.iteP (bg_name.bind fun n => (bg_enc _ bg_expr).bind fun l => BgP.pure _) (bg_expr.bind fun e => BgP.pure _)))
theorem bg_item : BgP itemP := fun r => (bg_adv.bind fun _ => (bg_itemOf (kindM (txt r))).bind fun i => (bg_need sSemi).bind fun _ => BgP.pure i) r
theorem bg_items : BgP itemsP := BgP.bind (bg_rowF atItemB bg_item _ _) fun l => (bg_need _).bind fun _ => BgP.pure _
theorem bg_contract : BgP contractP := bg_name.bind fun n => (bg_enc _ bg_param).bind fun i => bg_items.bind fun l => BgP.pure _
theorem bg_node : BgP nodeP := bg_name.bind fun n => (bg_enc _ bg_param).bind fun i => (bg_need _).bind fun _ => (bg_need _).bind fun _ => bg_param.bind fun o => (bg_need _).bind fun _ =>
  (bg_take _).bind fun c => (BgP.ite bg_items (BgP.pure _)).bind fun l => (bg_take _).bind fun v => (BgP.ite bg_streams (BgP.pure _)).bind fun vs => (bg_need _).bind fun _ => BgP.bind (bg_rowF atNameB bg_eqn _ _) fun es => (bg_need _).bind fun _ => BgP.pure _
theorem bg_unit : BgP unitP := (bg_take _).bind fun c => BgP.ite bg_contract ((bg_need _).bind fun _ => bg_node)

/-- A row that ends in a stretch goes on as it would from there. -/
theorem row_split {α : Type} {l : List Tok} {s u : Nat} {b : Rd → Bool} {one : PM α} (hb : ∀ l s u fin r q, Wn l s u fin r q → In l s fin r → b q = b r) (h1 : TiP one) (hk : OkP one) (hg : BgP one) :
    ∀ (k : Nat) (acc : List α) (r q : Rd) (us : List α) (r' : Rd), Wn l s u false r q → rowF b one k acc r = (us, r') → r'.code = 0 → r'.next ≤ s + l.length →
      ∃ q', Wn l s u false r' q' ∧ acc.length ≤ us.length ∧ rowF b one k acc q = rowF b one (k - (us.length - acc.length)) us q' ∧ (∀ L, Inv L q → Inv L q') ∧ q'.begun = q.begun
  | 0, acc, r, q, us, r', hW, h, hc, hle => by
    have h' : (acc, r) = (us, r') := h
    simp only [Prod.mk.injEq] at h'
    obtain ⟨rfl, rfl⟩ := h'
    exact ⟨q, hW, Nat.le_refl _, by rw [Nat.sub_self], fun L h => h, rfl⟩
  | k + 1, acc, r, q, us, r', hW, h, hc, hle => by
    unfold rowF at h
    by_cases hbr : b r = true
    · rw [if_pos hbr] at h
      by_cases ha : acc.length = 200
      · rw [if_pos ha] at h
        simp only [Prod.mk.injEq] at h
        rw [← h.2] at hc
        exact absurd hc (fail_code 7 (by decide) r)
      · rw [if_neg ha] at h
        have h2 : rowF b one k (acc ++ [(one r).1]) (one r).2 = (us, r') := h
        have hL := lo_rowF hb h1.toLoc k (acc ++ [(one r).1])
        have hc1 : (one r).2.code = 0 := zero_of hL.stay (by rw [h2]; exact hc)
        have hm : (one r).2.next ≤ r'.next := by have := hL.mono (one r).2 (by rw [h2]; exact hc); rw [h2] at this; exact this
        have ha1 := h1.adv r hc1
        obtain ⟨e1, w1⟩ := h1.loc l s u false r q hW hc1 (.inr (by omega))
        obtain ⟨q', w2, g1, g2, g3, g4⟩ := row_split hb h1 hk hg k (acc ++ [(one r).1]) (one r).2 (one q).2 us r' w1 h2 hc hle
        rw [List.length_append, List.length_cons, List.length_nil] at g1 g2
        refine ⟨q', w2, by omega, ?_, fun L hI => g3 L (hk.inv L q hI), g4.trans (hg q)⟩
        have e2 : rowF b one (k + 1) acc q = rowF b one k (acc ++ [(one r).1]) (one q).2 := by
          conv => lhs; unfold rowF
          rw [hb l s u false r q hW (.inr (by omega)), if_pos hbr, if_neg ha]
          show rowF b one k (acc ++ [(one q).1]) (one q).2 = _
          rw [e1]
        rw [e2, g2]
        congr 1
        omega
    · rw [if_neg hbr] at h
      simp only [Prod.mk.injEq] at h
      obtain ⟨rfl, rfl⟩ := h
      exact ⟨q, hW, Nat.le_refl _, by rw [Nat.sub_self]; rfl, fun L h => h, rfl⟩
/-- A row behind others. -/
theorem row_acc {α : Type} {b : Rd → Bool} {one : PM α} (h1 : LocP one) (hb : ∀ l s u fin r q, Wn l s u fin r q → In l s fin r → b q = b r) : ∀ (k : Nat) (acc : List α) (r : Rd) (xs : List α) (r' : Rd), rowF b one k acc r = (xs, r') → r'.code = 0 → acc.length ≤ 200 → 201 ≤ acc.length + k →
    ∃ ys, xs = acc ++ ys ∧ ∀ (k' : Nat) (acc' : List α), acc'.length + ys.length ≤ 200 → ys.length < k' → rowF b one k' acc' r = (acc' ++ ys, r')
  | 0, acc, r, xs, r', h, hc, ha, hk => by omega
  | k + 1, acc, r, xs, r', h, hc, ha, hk => by
    unfold rowF at h
    by_cases hbr : b r = true
    · rw [if_pos hbr] at h
      by_cases h200 : acc.length = 200
      · rw [if_pos h200] at h
        simp only [Prod.mk.injEq] at h
        rw [← h.2] at hc
        exact absurd hc (fail_code 7 (by decide) r)
      · rw [if_neg h200] at h
        have h2 : rowF b one k (acc ++ [(one r).1]) (one r).2 = (xs, r') := h
        obtain ⟨ys, e1, e2⟩ := row_acc h1 hb k (acc ++ [(one r).1]) (one r).2 xs r' h2 hc (by rw [List.length_append]; simp; omega) (by rw [List.length_append]; simp; omega)
        refine ⟨(one r).1 :: ys, by rw [e1, List.append_assoc]; rfl, fun k' acc' hl hk' => ?_⟩
        rw [List.length_cons] at hl hk'
        cases k' with
        | zero => omega
        | succ k' =>
          unfold rowF
          rw [if_pos hbr, if_neg (by omega)]
          show rowF b one k' (acc' ++ [(one r).1]) (one r).2 = _
          rw [e2 k' (acc' ++ [(one r).1]) (by rw [List.length_append]; simp; omega) (by omega), List.append_assoc]
          rfl
    · rw [if_neg hbr] at h
      simp only [Prod.mk.injEq] at h
      obtain ⟨rfl, rfl⟩ := h
      refine ⟨[], by rw [List.append_nil], fun k' acc' hl hk' => ?_⟩
      cases k' with
      | zero => simp at hk'
      | succ k' =>
        unfold rowF
        rw [if_neg hbr, List.append_nil]
def restP : PM (Bytes × Bytes) := pBind (needP wMain) fun _ => pBind nameP fun m => pBind (needP sSemi) fun _ => pBind (takeP wFallback) fun b => pBind (backP b) fun k => pBind endP fun _ => pPure (m, k)
theorem bind_assoc {α β γ : Type} (f : PM α) (g : α → PM β) (h : β → PM γ) : pBind (pBind f g) h = pBind f (fun a => pBind (g a) h) := rfl
theorem pure_bind {α β : Type} (a : α) (g : α → PM β) : pBind (pPure a) g = g a := rfl
theorem progG_eq (f : PM (List Unt)) : progG f = pBind f fun us => pBind restP fun x => pPure ⟨us, x.1, x.2⟩ := by
  unfold progG restP
  simp only [bind_assoc, pure_bind]
theorem progG_rest (f : PM (List Unt)) (r : Rd) : progG f r = (⟨(f r).1, (restP (f r).2).1.1, (restP (f r).2).1.2⟩, (restP (f r).2).2) := by
  rw [progG_eq]
  generalize restP = R
  rfl
theorem prog_restG {f : PM (List Unt)} {P : PM Prg} (h : P = progG f) (r : Rd) : P r = (⟨(f r).1, (restP (f r).2).1.1, (restP (f r).2).1.2⟩, (restP (f r).2).2) := by subst h; exact progG_rest f r
theorem prog_rest (r : Rd) : progP r = (⟨(rowP atUnitB unitP r).1, (restP (rowP atUnitB unitP r).2).1.1, (restP (rowP atUnitB unitP r).2).1.2⟩, (restP (rowP atUnitB unitP r).2).2) := prog_restG (f := rowP atUnitB unitP) rfl r
theorem headP_eq (r : Rd) : headP r = headG (rowP atUnitB unitP) r := rfl
theorem rowP_eq {α : Type} (b : Rd → Bool) (one : PM α) : rowP b one = rowF b one rowMax [] := rfl
theorem headG_eq (f : PM (List Unt)) (r : Rd) : headG f r = (((f r).1, (nameP (needP wMain (f r).2).2).1), (nameP (needP wMain (f r).2).2).2) := rfl
theorem lo_end : LocP endP := by
  refine ⟨end_stay, fun r hc => ?_, fun l s u fin r q hW hc hI => ?_⟩
  · by_cases h : r.next < r.l.length
    · rw [end_no h] at hc; exact absurd hc (fail_code 5 (by decide) r)
    · rw [end_yes h]; exact Nat.le_refl _
  · by_cases h : r.next < r.l.length
    · rw [end_no h] at hc; exact absurd hc (fail_code 5 (by decide) r)
    · rw [end_yes h] at hI ⊢
      have hle := hW.le
      have hnx := hW.nx
      have hf : fin = true := by
        rcases hI with hI | hI
        · exact hI
        · exfalso
          simp only at hI
          obtain ⟨t, ht⟩ : ∃ t, l[r.next - s]? = some t := ⟨_, List.getElem?_eq_getElem (by omega)⟩
          obtain ⟨x, hx, _⟩ := hW.rm _ _ ht
          have := (List.getElem?_eq_some_iff.1 hx).1
          omega
      have h1 := hW.rf hf
      have h2 := hW.qf hf
      rw [end_yes (by omega)]
      exact ⟨rfl, hW⟩
theorem lo_back (b : Bool) : LocP (backP b) := by
  unfold backP
  exact LocP.ite (ti_name.toLoc.bind fun n => (ti_need _).toLoc.bind fun _ => LocP.pure _) (LocP.pure _)
theorem lo_rest : LocP restP := (ti_need _).toLoc.bind fun _ => ti_name.toLoc.bind fun m => (ti_need _).toLoc.bind fun _ => (lo_take _).bind fun b => (lo_back b).bind fun k => lo_end.bind fun _ => LocP.pure _
theorem need_ok0 {s : Bytes} {r : Rd} (h : (needP s r).2.code = 0) : (needP s r).2 = r.adv := by
  unfold needP at h ⊢
  simp only at h ⊢
  by_cases hs : txt r = s
  · rw [if_pos hs]
  · rw [if_neg hs] at h; exact absurd h (fail_code 5 (by decide) r)
theorem name_ok0 {r : Rd} (h : (nameP r).2.code = 0) : (nameP r).2 = r.adv := by
  unfold nameP at h ⊢
  by_cases hs : atNameB r = true
  · rw [if_pos hs]
  · rw [if_neg hs] at h; exact absurd h (fail_code 5 (by decide) r)
theorem rest_code {r : Rd} (h : (progP r).2.code = 0) : (restP (rowP atUnitB unitP r).2).2.code = 0 := by
  have := congrArg (fun x => x.2.code) (prog_rest r)
  simp only at this
  rw [← this]; exact h
theorem rest_units (r : Rd) : (progP r).1.units = (rowP atUnitB unitP r).1 := by
  have := congrArg (fun x => x.1.units) (prog_rest r)
  simp only at this
  exact this
theorem rest_main (r : Rd) : (progP r).1.main = (restP (rowP atUnitB unitP r).2).1.1 ∧ (progP r).1.back = (restP (rowP atUnitB unitP r).2).1.2 := by
  have h1 := congrArg (fun x => x.1.main) (prog_rest r)
  have h2 := congrArg (fun x => x.1.back) (prog_rest r)
  simp only at h1 h2
  exact ⟨h1, h2⟩
theorem prog_of {r r1 : Rd} {us : List Unt} (h : rowP atUnitB unitP r = (us, r1)) : progP r = (⟨us, (restP r1).1.1, (restP r1).1.2⟩, (restP r1).2) := by
  have := prog_rest r
  rw [h] at this
  simp only at this
  exact this
/-- A program's units, and another one's behind them. -/
theorem units_law {La Lb Ma Mb : List Tok} {t1 t2 t3 : Tok} (ha : (progP (rd0P (La ++ [t1, t2, t3]))).2.code = 0) (hback : (progP (rd0P (La ++ [t1, t2, t3]))).1.back = []) (hne : ∀ t ∈ La ++ [t1, t2, t3], t.kind = 1 → t.text ≠ [])
    (hb : (progP (rd0P Lb)).2.code = 0) (hla : Like La Ma) (hlb : Like Lb Mb) (hn : (progP (rd0P (La ++ [t1, t2, t3]))).1.units.length + (progP (rd0P Lb)).1.units.length ≤ 200) :
    (progP (rd0P (Ma ++ Mb))).2.code = 0 ∧ (progP (rd0P (Ma ++ Mb))).1 = ⟨(progP (rd0P (La ++ [t1, t2, t3]))).1.units ++ (progP (rd0P Lb)).1.units, (progP (rd0P Lb)).1.main, (progP (rd0P Lb)).1.back⟩ := by
  obtain ⟨us, m, r1, e, hc, hl, hs, hcase⟩ := prog_ok ha
  have hlen : (La ++ [t1, t2, t3]).length = La.length + 3 := by rw [List.length_append]; rfl
  rcases hcase with ⟨k1, k2, k3⟩ | ⟨k1, k2, k3, k4, k5⟩
  rotate_left
  · exfalso
    rw [k5] at hback
    simp only at hback
    have h3 : r1.adv.adv.l = La ++ [t1, t2, t3] := hl
    have h4 : r1.adv.adv.next < (La ++ [t1, t2, t3]).length := by simp only [Rd.adv]; omega
    have h5 : r1.adv.adv.cur = (La ++ [t1, t2, t3])[r1.adv.adv.next] := by unfold Rd.cur; rw [h3, List.getElem?_eq_getElem h4]; rfl
    unfold atNameB at k2
    rw [Bool.and_eq_true, beq_iff_eq] at k2
    unfold txt at hback
    rw [h5] at hback k2
    exact hne _ (List.getElem_mem h4) k2.2 hback
  -- the row of the first
  obtain ⟨⟨us', rr⟩, hrow⟩ : ∃ x, rowP atUnitB unitP (rd0P (La ++ [t1, t2, t3])) = x := ⟨_, rfl⟩
  have hh := headG_eq (rowP atUnitB unitP) (rd0P (La ++ [t1, t2, t3]))
  rw [← headP_eq] at hh
  rw [e, hrow] at hh
  simp only [Prod.mk.injEq] at hh
  obtain ⟨⟨rfl, hm⟩, hr1⟩ := hh
  rw [hr1] at hc k2
  have c2 : (needP wMain rr).2.code = 0 := zero_of ti_name.stay hc
  have c1 : rr.code = 0 := zero_of (ti_need wMain).stay c2
  rw [name_ok0 hc, need_ok0 c2] at k2
  have hrn : rr.next = La.length := by simp only [Rd.adv] at k2; omega
  have hW : Wn La 0 0 false (rd0P (La ++ [t1, t2, t3])) (rd0P (Ma ++ Mb)) := wn_front (fun i t ht => by
    have := (List.getElem?_eq_some_iff.1 ht).1
    exact ⟨t, by rw [Nat.zero_add, List.getElem?_append_left this]; exact ht, rfl, rfl⟩) (fun i t ht => by
    obtain ⟨y, h1, h2⟩ := like_get hla i t ht
    have := (List.getElem?_eq_some_iff.1 h1).1
    exact ⟨y, by rw [List.getElem?_append_left this]; exact h1, h2⟩)
  obtain ⟨q', w', g1, g2, g3, g4⟩ := row_split wn_unit ti_unit ok_unit bg_unit rowMax [] _ _ us rr hW (by rw [← rowP_eq]; exact hrow) c1 (by omega)
  have hql := list_of (g3 (Ma ++ Mb) (.inl ⟨rfl, rfl⟩)) w'.qc
  have hqn : q'.next = La.length := by have := wn_next w'; omega
  -- the second, from there
  have hMa := hla.1
  have hMb := hlb.1
  have wb : Wn Lb 0 La.length true (rd0P Lb) q' := ⟨rfl, w'.qc, fun i t ht => ⟨t, by rw [Nat.zero_add]; exact ht, rfl, rfl⟩, fun i t ht => by
    obtain ⟨y, h1, h2⟩ := hlb.2 i t ht
    exact ⟨y, by rw [hql, List.getElem?_append_right (by omega), hMa, Nat.add_sub_cancel_left]; exact h1, h2⟩, fun _ => by show Lb.length = 0 + Lb.length; omega, fun _ => by rw [hql, List.length_append]; omega, Nat.zero_le _, by show q'.next + 0 = 0 + La.length; omega, by rw [g4]; rfl⟩
  have hbz : (restP (rowP atUnitB unitP (rd0P Lb)).2).2.code = 0 := rest_code hb
  have cb : (rowP atUnitB unitP (rd0P Lb)).2.code = 0 := zero_of lo_rest.stay hbz
  obtain ⟨e5, w5⟩ := (lo_row wn_unit ti_unit.toLoc).loc Lb 0 La.length true _ _ wb cb (.inl rfl)
  obtain ⟨e6, w6⟩ := lo_rest.loc Lb 0 La.length true _ _ w5 hbz (.inl rfl)
  have hub := rest_units (rd0P Lb)
  have hua : (progP (rd0P (La ++ [t1, t2, t3]))).1.units = us := by rw [k3]
  rw [hub, hua] at hn
  obtain ⟨⟨xb, rb⟩, hxb⟩ : ∃ x, rowP atUnitB unitP q' = x := ⟨_, rfl⟩
  rw [hxb] at e5 w5 e6 w6
  simp only at e5 w5 e6 w6
  obtain ⟨ys, y1, y2⟩ := row_acc ti_unit.toLoc wn_unit rowMax [] q' xb rb (by rw [← rowP_eq]; exact hxb) w5.qc (by simp) (by decide)
  rw [List.nil_append] at y1
  rw [← e5] at hn
  rw [y1] at hn
  have hfin : rowP atUnitB unitP (rd0P (Ma ++ Mb)) = (us ++ ys, rb) := by
    rw [rowP_eq, g2]
    exact y2 _ us hn (by simp only [List.length_nil, rowMax]; omega)
  have hP := prog_of hfin
  obtain ⟨m1, m2⟩ := rest_main (rd0P Lb)
  rw [← e6] at m1 m2
  rw [hP]
  simp only
  refine ⟨w6.qc, ?_⟩
  rw [hua, hub, ← e5, y1, m1, m2]
end Go.Proofs.YtgohhnbdicdenaaGreatDoor.Pg

/- What the statements of layer prog say of sources, without a program. Conditions: as each says. -/
namespace Go.Proofs.YtgohhnbdicdenaaGreatDoor.Pg
open Go.Proofs.YtgohhnbdicdenaaGreatDoor.Tr Go.Proofs.YtgohhnbdicdenaaGreatDoor.Ex
set_option linter.unusedVariables false
set_option linter.unusedSimpArgs false

theorem prog_tok {s : Bytes} {L : List Tok} {P : Prg} {C A : Int} (hl : Lx.lexM s = .ok L) (h : progM s = (P, C, A)) (hc : C = 0) : (progP (rd0P L)).2.code = 0 ∧ (progP (rd0P L)).1 = P ∧ A = 0 := by
  unfold progM at h
  rw [hl] at h
  simp only at h
  by_cases hk : (progP ⟨L, 0, 0, 0, 0⟩).2.code ≠ 0
  · rw [if_pos hk] at h
    simp only [Prod.mk.injEq] at h
    exact absurd (h.2.1.trans hc) hk
  · rw [if_neg hk] at h
    simp only [Prod.mk.injEq] at h
    exact ⟨Classical.byContradiction hk, h.1, h.2.2.symm⟩
theorem prog_lex {s : Bytes} {P : Prg} {C A : Int} (hs : s.length ≤ 100000) (h : progM s = (P, C, A)) (hc : C = 0) : ∃ L, Lx.lexM s = .ok L := by
  cases hl : Lx.lexM s with
  | ok L => exact ⟨L, rfl⟩
  | bad c a =>
    unfold progM at h
    rw [hl] at h
    simp only [Prod.mk.injEq] at h
    exact absurd (h.2.1.trans hc) (Lx.lexM_code s hs c a hl).1
theorem name_text {s : Bytes} {L : List Tok} (hs : s.length ≤ 100000) (hl : Lx.lexM s = .ok L) : ∀ t ∈ L, t.kind = 1 → t.text ≠ [] := by
  have hg := Lx.lexM_good s hs
  rw [hl] at hg
  intro t ht hk
  rcases hg t ht with ⟨_, h2, _⟩ | ⟨_, h2, _⟩ | ⟨_, h2⟩
  · exact h2
  · exact h2
  · omega
theorem like_self (L : List Tok) : Like L L := ⟨rfl, fun i t h => ⟨t, h, rfl, rfl⟩⟩
theorem back_fin {t : Bytes} {L : List Tok} {X : Prg} (hl : Lx.lexM t = .ok L) (h1 : (progP (rd0P L)).2.code = 0) (h2 : (progP (rd0P L)).1 = X) : progM t = (X, 0, 0) := by
  unfold progM; rw [hl]; simp only
  unfold rd0P at h1 h2
  rw [if_neg (by rw [h1]; decide), h2]
theorem bad_fin {t : Bytes} {L : List Tok} {C A : Int} (hl : Lx.lexM t = .ok L) (h1 : (progP (rd0P L)).2.code = C) (h2 : (progP (rd0P L)).2.at_ = A) (hC : C ≠ 0) : progM t = (.none, C, A) := by
  unfold progM; rw [hl]; simp only
  unfold rd0P at h1 h2
  rw [if_pos (by rw [h1]; exact hC), h1, h2]
def backT : Bytes := [102, 97, 108, 108, 98, 97, 99, 107, 32, 122, 122, 59]
theorem back_lex : Lx.lexM backT = .ok [⟨3, wFallback, 0⟩, ⟨1, [122, 122], 9⟩, ⟨4, [59], 11⟩] := by decide +kernel
theorem back_prog {s : Bytes} {P : Prg} {A : Int} (hs : s.length ≤ 1000) (h : progM s = (P, 0, A)) (hb : P.back = []) : progM (s ++ 10 :: backT) = (⟨P.units, P.main, [122, 122]⟩, 0, 0) := by
  obtain ⟨L, hl⟩ := prog_lex (by omega) h rfl
  obtain ⟨h1, h2, -⟩ := prog_tok hl h rfl
  have hlen : (s ++ 10 :: backT).length ≤ 100000 := by simp [backT]; omega
  have hx := Lx.lines s backT hlen
  rw [hl, back_lex] at hx
  have hx2 : Lx.lexM (s ++ 10 :: backT) = .ok (L ++ [⟨3, wFallback, 0 + (s.length + 1)⟩, ⟨1, [122, 122], 9 + (s.length + 1)⟩, ⟨4, [59], 11 + (s.length + 1)⟩]) := by rw [hx]; rfl
  have hb' : (progP (rd0P L)).1.back = [] := (congrArg Prg.back h2).trans hb
  have hne := name_text (s := s) (L := L) (by omega) hl
  generalize h41 : 0 + (s.length + 1) = a1 at hx2
  generalize h42 : 9 + (s.length + 1) = a2 at hx2
  generalize h43 : 11 + (s.length + 1) = a3 at hx2
  clear hx hlen hl
  obtain ⟨k1, k2⟩ := back_more h1 hb' hne (like_self L) (show (⟨3, wFallback, a1⟩ : Tok).text = wFallback from rfl) (show (⟨1, [122, 122], a2⟩ : Tok).kind = 1 from rfl) (show (⟨4, [59], a3⟩ : Tok).text = sSemi from rfl)
  generalize s ++ 10 :: backT = T at hx2 ⊢
  generalize L ++ [(⟨3, wFallback, a1⟩ : Tok), ⟨1, [122, 122], a2⟩, ⟨4, [59], a3⟩] = M at hx2 k1 k2
  rw [h2] at k2
  exact back_fin hx2 k1 k2
end Go.Proofs.YtgohhnbdicdenaaGreatDoor.Pg

