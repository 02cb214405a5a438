/- A reader of bytes: numbers with how many there are ahead of them. Conditions: what is left has at most a hundred million bytes. -/
import Derived.Test.YtcphjehjdhgheaaImS
namespace Go.Proofs.Ytcphjehjdhgheaa.Nt
open Go.ChangeShapes Go.WideShapes Go.ChangeAt Go.RowKit Go.Proofs.Ytcphjehjdhgheaa.Tr
set_option linter.unusedVariables false
set_option linter.unusedSimpArgs false

theorem own_kp {q b : Nat} {e : TypeId} {s : Nat} {v : Value} {n : Nat} {xs : List Value} {w w' : World} (h : w.ownsRow b e s v n xs) (hk : KpQ q w w') (hq : q < b) : w'.ownsRow b e s v n xs :=
  own_block h (fun g hg => hk.block g (h.lt g hg).2 (by have := (h.lt g hg).1; omega))
theorem RTo.grown {q : Nat} {s : Rst} {u v w : World} {o : Obj} {ob : Option Nat} (h : RTo q s u v) (hg : (v.alloc o).grownBy w ob) (hq : q < u.heap.size) (ho : ∀ k, ob = some k → u.heap.size ≤ k) : RTo q s u w := by
  have hl := lt_of_block h.1
  have hs := hg.size
  have hs2 := h.2.1.size
  simp at hs
  have hne : ∀ g, g < u.heap.size → some g ≠ ob := fun g hg2 e => by have := ho g e.symm; omega
  refine ⟨?_, ⟨by omega, fun g h1 h2 => ?_⟩, ?_⟩
  · exact (hg.block q (by simp; omega) (hne q hq)).trans ((Below.heap_alloc _ _ _ hl).trans h.1)
  · exact (hg.block g (by simp; omega) (hne g h1)).trans ((Below.heap_alloc _ _ _ (by omega)).trans (h.2.1.block g h1 h2))
  · exact (h.2.2.alloc (Nat.le_of_lt hl) o).grown hg (by simp; omega) (fun k hk => by have := ho k hk; omega)
set_option maxRecDepth 100000 in
set_option maxHeartbeats 4000000 in
theorem rnums_any (q : Nat) (s0 : Rst) (w : World) (h : RdBox w q s0) (hl9 : s0.1.length ≤ 100000000) : Calls Try.prog 120 #[.pointer (some ⟨q, 0, none⟩)] w fun r w' => ∃ A c, r = .returned (.slice A (numbersR s0).1.length c) ∧ w'.ownsRow w.heap.size 3 1 (.slice A (numbersR s0).1.length c) (numbersR s0).1.length (intsOf (numbersR s0).1) ∧ RTo q (numbersR s0).2 w w' := by
  obtain ⟨i0, hi0, hz0, hz1, hz2⟩ := info_parts info3
  have H := Lib.hid h
  have hql := lt_of_block h
  obtain ⟨R, hR⟩ : ∃ R, numbersR s0 = R := ⟨_, rfl⟩
  rw [hR]
  obtain ⟨n, hn⟩ : ∃ n, (numberR s0).1.toNat = n := ⟨_, rfl⟩
  obtain ⟨s1, hs1⟩ : ∃ s, (numberR s0).2 = s := ⟨_, rfl⟩
  have HR : Hid (listR n [] s1 = R) := Lib.hid (by rw [← hR, ← hn, ← hs1]; rfl)
  have hb := number_bnd s0
  have hnb : n ≤ 4294967295 := by omega
  have hs1l : s1.1.length ≤ 100000000 := by have := (numR_len 6 0 1 s0).1; rw [← hs1]; exact Nat.le_trans this hl9
  have HNU := Lib.hid (rnum_any q s0 w h hl9)
  rw [hs1, show (numberR s0).1 = (n : Int) by omega] at HNU
  clear h hR hn hs1 hb
  go_enter Try.func120, Try.ntmps120
  go_wp2_with fail
  refine HNU.out.mono ?_
  rintro e w1 ⟨rfl, h1⟩
  have HT1 := Lib.hid h1
  clear h1 HNU
  go_wp2_with fail
  go_loopw [3, 4] (fun vl vk wr => ∃ (k : Nat) (acc : List Int) (s : Rst) (A : Option Addr) (c : Nat), vk = .int .i64 (k : Int) ∧ vl = .slice A acc.length c ∧ wr.ownsRow w.heap.size 3 1 (.slice A acc.length c) acc.length (intsOf acc) ∧ k ≤ n ∧ acc.length + k ≤ 4294967295 ∧ s.1.length ≤ 100000000 ∧ listR k acc s = R ∧ RTo q s w wr) (fun _ vk _ => (intOf vk).toNat)
  case atStart => exact ⟨n, [], s1, none, 0, rfl, rfl, World.ownsRow_nil _ _ _ _, Nat.le_refl _, by simp; omega, hs1l, HR.out, HT1.out⟩
  case round =>
    obtain ⟨k, acc, s, A, c, rfl, rfl, hown, hkn, hak, hsl, hli, hto⟩ := hrel
    have HO := Lib.hid hown
    have HL := Lib.hid hli
    have HT := Lib.hid hto
    obtain ⟨a0, a1⟩ := hto.1.ats
    obtain ⟨m, hm⟩ : ∃ m, acc.length = m := ⟨_, rfl⟩
    have HM := Lib.hid hm
    have hcm : m ≤ c ∧ c ≤ maxLen := by
      rcases hown.2 with ⟨e1, e2⟩ | ⟨g, cap, cur, e1, _, _, e2, e3, _⟩
      · simp only [Value.slice.injEq] at e1
        exact ⟨by omega, by unfold maxLen; omega⟩
      · simp only [Value.slice.injEq] at e1
        exact ⟨by omega, by omega⟩
    rw [hm] at HO hak ⊢
    unfold maxLen at hcm
    clear hown hli hto hm
    by_cases hk0 : k = 0
    · subst hk0
      have HRE : Hid (R = (acc, s)) := Lib.hid HL.out.symm
      go_wp2_with fail
      refine bodyPost_ret (v := .slice A m c) (by simp [results, Try.results120, go_sem]) rfl ⟨A, c, by rw [HRE.out, HM.out], by rw [HRE.out]; dsimp only; rw [HM.out]; exact HO.out, by rw [HRE.out]; exact HT.out⟩
    · obtain ⟨j, rfl⟩ : ∃ j, k = j + 1 := ⟨k - 1, by omega⟩
      by_cases hf : s.2 ≠ 0
      · have HRE : Hid (R = (acc, s)) := Lib.hid (by rw [← HL.out]; unfold listR; rw [if_neg hf])
        have hfb : (s.2 == 0) = false := by simpa using hf
        have hk2 : (0 : Int) < ((j + 1 : Nat) : Int) := by omega
        go_wp2_with fail
        refine bodyPost_ret (v := .slice A m c) (by simp [results, Try.results120, go_sem]) rfl ⟨A, c, by rw [HRE.out, HM.out], by rw [HRE.out]; dsimp only; rw [HM.out]; exact HO.out, by rw [HRE.out]; exact HT.out⟩
      · have hf0 : s.2 = 0 := by omega
        have HLN : Hid (listR j (acc ++ [(numberR s).1]) (numberR s).2 = R) := Lib.hid (by rw [← HL.out]; conv => rhs; unfold listR; rw [if_pos hf0])
        rw [hf0] at a1
        have hk2 : (0 : Int) < ((j + 1 : Nat) : Int) := by omega
        have HNU := Lib.hid (rnum_any q s _ HT.out.1 hsl)
        obtain ⟨x, hx⟩ : ∃ x, (numberR s).1 = x := ⟨_, rfl⟩
        obtain ⟨s2, hs2⟩ : ∃ t, (numberR s).2 = t := ⟨_, rfl⟩
        have hs2l : s2.1.length ≤ 100000000 := by have := (numR_len 6 0 1 s).1; rw [← hs2]; exact Nat.le_trans this hsl
        rw [hx, hs2] at HNU HLN
        clear hx hs2 hf0 hf
        go_wp2_with fail
        refine HNU.out.mono ?_
        rintro e w2 ⟨rfl, h2⟩
        have HT2 := Lib.hid (HT.out.then h2)
        have HO2 := Lib.hid (own_kp HO.out h2.2.1 hql)
        have hs2w := HT2.out.2.1.size
        clear h2 HNU
        go_wp2_with (at_builtin; refine wpList_append_own _ rfl _ _ 23 rfl w.heap.size 3 i0 (.int .i64 0) 1 8 Try.underlying23 hi0 hz0 hz1 hz2 rfl (by decide) _ _ _ rfl (HO2.out.alloc _) ⟨w2.heap.size, 0, none⟩ 1 1 [.int .i64 x] rfl rfl ?c1 ?c2 ?c3 ?c4 ?c5 ?_)
        case c1 => exact World.news_of_block (cs := #[.int .i64 x]) (t := 3) (fr := (0, 0)) (heap_alloc_new _ _)
        case c2 => intro u hu; simp at hu; subst hu; rfl
        case c3 => unfold maxLen; omega
        case c4 => omega
        case c5 => simp; omega
        intro v' w3 hown' hgrow _
        obtain ⟨g, cap, rfl⟩ : ∃ g cap, v' = .slice (some ⟨g, 0, none⟩) (m + 1) cap := by
          rcases hown'.2 with ⟨_, h0⟩ | ⟨g, cap, cur, hv, _⟩
          · omega
          · exact ⟨g, cap, hv⟩
        have HO3 := Lib.hid hown'
        have HT3 := Lib.hid (HT2.out.grown hgrow hql (fun k hk => (HO2.out.lt k hk).1))
        have HLEN : Hid ((acc ++ [x]).length = m + 1) := Lib.hid (by rw [List.length_append, HM.out]; rfl)
        clear hown' hgrow
        go_wp2_with fail
        go_roundw
        case rel => exact ⟨j, acc ++ [x], s2, _, _, by go_num, by rw [HLEN.out], by rw [HLEN.out, ints_snoc]; exact HO3.out, by omega, by rw [HLEN.out]; omega, hs2l, HLN.out, HT3.out⟩
        case measure => simp [intOf]
end Go.Proofs.Ytcphjehjdhgheaa.Nt
