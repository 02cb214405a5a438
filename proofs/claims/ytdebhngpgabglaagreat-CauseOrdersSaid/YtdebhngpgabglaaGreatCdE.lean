/- The document's Check. Conditions: the program's units are read as such, each with at most 4000 equations. -/
import Derived.Test.YtdebhngpgabglaaGreatCdD
set_option linter.unusedVariables false
set_option linter.unusedSimpArgs false
namespace Go.Proofs.YtdebhngpgabglaaGreat.Ca
open Go.ChangeShapes Go.WideShapes Go.ChangeAt Go.RowKit Go.Maps Go.WideMaps Go.Proofs.YtdebhngpgabglaaGreat.Tr
open Go.Proofs.YtdebhngpgabglaaGreat.Pg (Eqn Unt RowR UntV EqnV ItmV Stay)
set_option maxRecDepth 100000 in
set_option maxHeartbeats 8000000 in
theorem rcheck_any (us : List (List Eqn)) (uv : Value) (S T : ByteArray) (w : World) (hu : UnsAt w uv us) : Calls Tryz.prog 14 #[.agg #[uv, .string S, .string T]] w (ChkPost w (checkM 0 us)) := by
 obtain ⟨R, hR⟩ : ∃ R, checkM 0 us = R := ⟨_, rfl⟩
 have HR : Hid (checkM 0 (us.drop 0) = R) := Lib.hid hR
 rw [hR]
 have HU := Lib.hid hu
 obtain ⟨A3, c3, rfl, q1, q2, -⟩ := hu
 unfold maxLen at q2
 clear hR
 obtain ⟨w1, hw1⟩ : ∃ W, (w.alloc (.cells #[.slice A3 us.length c3, .string S, .string T] 43)).alloc (.cells #[.int .i64 0, .int .i64 0] 46) = W := ⟨_, rfl⟩
 have hb1 : Below w.heap.size w w1 := hw1 ▸ (below_new w _).alloc (below_new w _).size _
 have hX : w1.heap[w.heap.size]? = some (.cells #[.slice A3 us.length c3, .string S, .string T] 43 (0, 0)) := by rw [← hw1, Below.heap_alloc _ _ _ (by simp)]; exact heap_alloc_new w _
 have hZ : w1.heap[w.heap.size + 1]? = some (.cells #[.int .i64 0, .int .i64 0] 46 (0, 0)) := by
  have := heap_alloc_new (w.alloc (.cells #[.slice A3 us.length c3, .string S, .string T] 43)) (.cells #[.int .i64 0, .int .i64 0] 46)
  rw [show (w.alloc (.cells #[.slice A3 us.length c3, .string S, .string T] 43)).heap.size = w.heap.size + 1 by simp, hw1] at this; exact this
 have x0 : w1.cell? ⟨w.heap.size, 0, none⟩ = some (.slice A3 us.length c3) := by simp [World.cell?, hX]
 have lx := lt_of_block hX
 have lz := lt_of_block hZ
 have HZ := Lib.hid hZ
 have HX := Lib.hid hX
 have HB1 := Lib.hid hb1
 have HROW : Hid (∀ wr, Below w1.heap.size w1 wr → UnsAt wr (.slice A3 us.length c3) us) := Lib.hid (fun wr hb => HU.out.below (hb1.trans (hb.mono hb1.size)))
 have hs1 := hb1.size
 clear hb1 hX hZ
 have HEND : Hid (∀ (wr : World) (p q : Int), Below w1.heap.size w1 wr → (p, q) = R → ∀ e, e = Ending.returned (.agg #[.int .i64 p, .int .i64 q]) → ChkPost w R e ((wr.setCell ⟨w.heap.size + 1, 0, none⟩ (.int .i64 p)).setCell ⟨w.heap.size + 1, 1, none⟩ (.int .i64 q))) := Lib.hid (fun wr p q hb h e he => by
  subst h; subst he
  exact ⟨rfl, ((HB1.out.trans (hb.mono HB1.out.size)).setCell (by simp) _).setCell (by simp) _⟩)
 go_enter Tryz.func14, Tryz.ntmps14
 go_wp2
 go_loopw [3] (fun c wr => ∃ j : Nat, j ≤ us.length ∧ c = .int .i64 j ∧ Below w1.heap.size w1 wr ∧ checkM j (us.drop j) = R) (fun c _ => us.length - (intOf c).toNat)
 case atStart => exact ⟨0, Nat.zero_le _, rfl, Below.refl _ _, HR.out⟩
 case round =>
  obtain ⟨j, hj, rfl, hb, hm⟩ := hrel
  have HB := Lib.hid hb
  have HMM := Lib.hid hm
  have hsr := hb.size
  clear hb hm
  have xr : wr.cell? ⟨w.heap.size, 0, none⟩ = some (.slice A3 us.length c3) := by
   have := (HB.out.block _ lx).trans HX.out
   simp [World.cell?, this]
  by_cases hlt : j < us.length
  · obtain ⟨u, he⟩ : ∃ q, us[j]? = some q := ⟨_, List.getElem?_eq_getElem hlt⟩
    obtain ⟨A', c', ea, _, _, hrow⟩ := HROW.out wr HB.out
    simp only [Value.slice.injEq, true_and] at ea
    obtain ⟨rfl, rfl⟩ := ea
    obtain ⟨g, o, b, s, iv, s2, ty, vv, qv, lv, rfl, hg, e0, e1, e2, e3, e4, e5, e6, e7, ⟨A5, n5, c5, rfl⟩, ⟨A6, n6, c6, rfl⟩, ⟨A8, n8, c8, rfl⟩, k4, k5⟩ := hrow j u he
    obtain ⟨A7, n7, c7, rfl⟩ : IsS qv := by obtain ⟨A, c, rfl, -⟩ := k4; exact ⟨_, _, _, rfl⟩
    have HC := Lib.hid (rorder_any (.slice A7 n7 c7) u wr k4 k5)
    have HD := Lib.hid (checkM_drop he)
    obtain ⟨z, hz⟩ : ∃ z, orderM (qsOf u) = z := ⟨_, rfl⟩
    have HDD : Hid (R = if z = none then (12, (j : Int)) else checkM (j + 1) (us.drop (j + 1))) := Lib.hid (by rw [← HMM.out, HD.out, checkM, hz])
    rw [hz] at HC
    clear hrow k4 he hz
    go_wp2_with fail
    refine HC.out.mono ?_
    cases z with
    | some ol =>
     rintro r w3 ⟨hb3, v, rfl, ho3⟩
     have HB4 := Lib.hid (HB.out.trans (hb3.mono (by omega)))
     have hs3 := hb3.size
     obtain ⟨Av, nv, cv, rfl⟩ : IsS v := by
      obtain ⟨-, h1 | ⟨g, cap, cur, e, -⟩⟩ := ho3
      · exact ⟨_, _, _, h1.1⟩
      · exact ⟨_, _, _, e⟩
     have HN : Hid (checkM (j + 1) (us.drop (j + 1)) = R) := Lib.hid (by rw [HDD.out, if_neg (by simp)])
     clear hb3 ho3
     go_wp2
     refine ⟨⟨j + 1, by omega, by go_num, HB4.out, HN.out⟩, by simp [intOf]; omega⟩
    | none =>
     rintro r w3 ⟨hb3, hr3⟩
     have hr3 : r = .returned (.tuple #[.slice none 0 0, .int .i64 12]) := hr3
     subst hr3
     have HB4 := Lib.hid (HB.out.trans (hb3.mono (by omega)))
     have hs3 := hb3.size
     clear hb3
     have HN : Hid (((12 : Int), (j : Int)) = R) := Lib.hid (by rw [HDD.out, if_pos rfl])
     have hZ3 := (HB4.out.block _ lz).trans HZ.out
     have p0 : w3.cell? ⟨w.heap.size + 1, 0, none⟩ = some (.int .i64 0) := by simp [World.cell?, hZ3]
     have p1 : w3.cell? ⟨w.heap.size + 1, 1, none⟩ = some (.int .i64 0) := by simp [World.cell?, hZ3]
     have f0 : w3.frozen? ⟨w.heap.size + 1, 0, none⟩ = false := by simp [World.frozen?, hZ3]
     have f1 : w3.frozen? ⟨w.heap.size + 1, 1, none⟩ = false := by simp [World.frozen?, hZ3]
     have HZ3 := Lib.hid hZ3
     have lz3 := lt_of_block hZ3
     clear hZ3
     go_wp2
     have Z := set2 HZ3.out (.int .i64 12) (.int .i64 (j : Int))
     have z0 : ((w3.setCell ⟨w.heap.size + 1, 0, none⟩ (.int .i64 12)).setCell ⟨w.heap.size + 1, 1, none⟩ (.int .i64 (j : Int))).cell? ⟨w.heap.size + 1, 0, none⟩ = some (.int .i64 12) := by simp [World.cell?, Z]
     have z1 : ((w3.setCell ⟨w.heap.size + 1, 0, none⟩ (.int .i64 12)).setCell ⟨w.heap.size + 1, 1, none⟩ (.int .i64 (j : Int))).cell? ⟨w.heap.size + 1, 1, none⟩ = some (.int .i64 (j : Int)) := by simp [World.cell?, Z]
     clear p0 p1 f0 f1
     exact bodyPost_ret (v := .agg #[.int .i64 12, .int .i64 (j : Int)]) (by simp [results, Tryz.results14, go_sem, z0, z1]) rfl (HEND.out w3 12 j HB4.out HN.out _ rfl)
  · have hjl : j = us.length := by omega
    subst hjl
    have HN : Hid (((0 : Int), (0 : Int)) = R) := Lib.hid (by rw [← HMM.out, List.drop_length]; rfl)
    have hZ3 := (HB.out.block _ lz).trans HZ.out
    have p0 : wr.cell? ⟨w.heap.size + 1, 0, none⟩ = some (.int .i64 0) := by simp [World.cell?, hZ3]
    have p1 : wr.cell? ⟨w.heap.size + 1, 1, none⟩ = some (.int .i64 0) := by simp [World.cell?, hZ3]
    have f0 : wr.frozen? ⟨w.heap.size + 1, 0, none⟩ = false := by simp [World.frozen?, hZ3]
    have f1 : wr.frozen? ⟨w.heap.size + 1, 1, none⟩ = false := by simp [World.frozen?, hZ3]
    have HZ3 := Lib.hid hZ3
    have lz3 := lt_of_block hZ3
    clear hZ3
    go_wp2
    have Z := set2 HZ3.out (.int .i64 0) (.int .i64 0)
    have z0 : ((wr.setCell ⟨w.heap.size + 1, 0, none⟩ (.int .i64 0)).setCell ⟨w.heap.size + 1, 1, none⟩ (.int .i64 0)).cell? ⟨w.heap.size + 1, 0, none⟩ = some (.int .i64 0) := by simp [World.cell?, Z]
    have z1 : ((wr.setCell ⟨w.heap.size + 1, 0, none⟩ (.int .i64 0)).setCell ⟨w.heap.size + 1, 1, none⟩ (.int .i64 0)).cell? ⟨w.heap.size + 1, 1, none⟩ = some (.int .i64 0) := by simp [World.cell?, Z]
    clear p0 p1 f0 f1
    exact bodyPost_ret (v := .agg #[.int .i64 0, .int .i64 0]) (by simp [results, Tryz.results14, go_sem, z0, z1]) rfl (HEND.out wr 0 0 HB.out HN.out _ rfl)
end Go.Proofs.YtdebhngpgabglaaGreat.Ca
