/- A writer of bytes in a block of its own: what its builder's methods do to it. Conditions: as each says. -/
import Derived.Test.YtcphjehjdhgheaaImM
import Derived.Lib.Builder
import Derived.Lib.AppendStr
import Derived.Lib.UnsafeStr
import Derived.Lib.Strings
import Derived.Laws.Externs
namespace Go.Proofs.Ytcphjehjdhgheaa.Nt
open Go.ChangeShapes Go.WideShapes Go.ChangeAt Go.RowKit Go.Proofs.Ytcphjehjdhgheaa.Tr
set_option linter.unusedVariables false
set_option linter.unusedSimpArgs false

theorem sizeBld : (Try.prog.info? 130).map (·.size) = some 2 := by kernel_rfl
theorem liesWri : liesAt Try.prog Try.prog.depth 132 (2 / Try.prog.cellsOf 130) 0 130 1 = true := by kernel_rfl
theorem infoByte : (Try.prog.info? 5).map (fun i => (i.zero, i.size, i.bytes)) = some (some (.int .u8 0), 1, 1) := by kernel_rfl
theorem cellsByte : Try.prog.cellsOf 5 = 1 := by kernel_rfl
abbrev bcells (l : List UInt8) : List Value := Lib.byteCells l
/-- A writer that has been written to: its bytes. -/
def WrB (B b : Nat) (l : List UInt8) (w : World) : Prop := Lib.BuilderAt 132 5 B b (.pointer (some ⟨b, 0, none⟩)) (bcells l) w
/-- .. or has not. -/
def WrN (B b : Nat) (l : List UInt8) (w : World) : Prop := Lib.IsBuilder 132 5 B b (bcells l) w
theorem WrB.n {B b : Nat} {l : List UInt8} {w : World} (h : WrB B b l w) : WrN B b l w := .inr h
theorem bcells_app (l m : List UInt8) : bcells (l ++ m) = bcells l ++ bcells m := by simp [bcells, Lib.byteCells]
/-- What is neither a writer nor a row of bytes is kept. -/
structure KpW (w w' : World) : Prop where
  size : w.heap.size ≤ w'.heap.size
  block : ∀ (g : Nat) (cs : Array Value) (T : TypeId) (f : Nat × Nat), T ≠ 132 → T ≠ 5 → w.heap[g]? = some (.cells cs T f) → w'.heap[g]? = some (.cells cs T f)
theorem KpW.refl (w : World) : KpW w w := ⟨Nat.le_refl _, fun _ _ _ _ _ _ h => h⟩
theorem KpW.trans {a b c : World} (h : KpW a b) (k : KpW b c) : KpW a c := ⟨Nat.le_trans h.size k.size, fun g cs T f h1 h2 h3 => k.block g cs T f h1 h2 (h.block g cs T f h1 h2 h3)⟩
theorem KpW.of_below {w w' : World} (h : Below w.heap.size w w') : KpW w w' := ⟨h.size, fun g cs T f _ _ h3 => (h.block g (lt_of_block h3)).trans h3⟩
/-- What is said of a writer's method: what it has written, and what it left. -/
def WTo (B b : Nat) (l : List UInt8) (w w' : World) : Prop := WrB B b l w' ∧ KpW w w' ∧ Below B w w'
/-- Two worlds that differ in a writer's own blocks alone. -/
theorem kpw_of {B b : Nat} {l : List UInt8} {w w' : World} (h : WrN B b l w) (hs : w.heap.size ≤ w'.heap.size) (hk : ∀ g, g < w.heap.size → g ≠ b → (∀ v, w.cell? ⟨b, 1, none⟩ = some v → v.ownBlock ≠ some g) → w'.heap[g]? = w.heap[g]?) : KpW w w' := by
  refine ⟨hs, fun g cs T f h1 h2 h3 => ?_⟩
  obtain ⟨p, hB, v, hbk, hown, hne⟩ : ∃ p, Lib.BuilderAt 132 5 B b p (bcells l) w := by
    rcases h with h | h
    · exact ⟨_, h⟩
    · exact ⟨_, h⟩
  rw [hk g (lt_of_block h3) (fun e => by subst e; rw [h3] at hbk; simp at hbk; exact h1 hbk.2.1) (fun v' hv e => ?_)]
  · exact h3
  · have c1 : w.cell? ⟨b, 1, none⟩ = some v := by rw [Lib.cell_of_heap hbk]; rfl
    rw [c1] at hv
    simp at hv
    subst hv
    rcases hown.2 with ⟨rfl, _⟩ | ⟨g', cap, cur, rfl, _, hg, _⟩
    · simp [Value.ownBlock] at e
    · have : g' = g := by simpa [Value.ownBlock] using e
      subst this
      rw [h3] at hg
      simp at hg
      exact h2 hg.2.1
set_option maxRecDepth 100000 in
set_option maxHeartbeats 2000000 in
theorem wcopy_used (b : Nat) (w : World) (h0 : w.cell? ⟨b, 0, none⟩ = some (.pointer (some ⟨b, 0, none⟩))) :
    Calls Try.prog 114 #[.pointer (some ⟨b, 0, none⟩)] w fun e w' => e = .returned (.tuple #[]) ∧ w' = w := by
  obtain ⟨j, hj, _⟩ := Option.map_eq_some_iff.1 sizeBld
  go_enter Try.func114, Try.ntmps114
  go_wp2
  rw [Lib.run_neq_ptr_same w _ Try.underlying128 hj]
  go_wp2
  go_end0
  exact ⟨rfl, rfl⟩
set_option maxRecDepth 100000 in
set_option maxHeartbeats 2000000 in
theorem wcopy_fresh (b : Nat) (w : World) (h0 : w.cell? ⟨b, 0, none⟩ = some (.pointer none)) (hsh : w.shape? b = some (132, 2)) (hfz : w.frozen? ⟨b, 0, none⟩ = false) :
    Calls Try.prog 114 #[.pointer (some ⟨b, 0, none⟩)] w fun e w' => e = .returned (.tuple #[]) ∧ w' = w.setCell ⟨b, 0, none⟩ (.pointer (some ⟨b, 0, none⟩)) := by
  obtain ⟨j, hj, hjs⟩ := Option.map_eq_some_iff.1 sizeBld
  have hl := liesWri
  go_enter Try.func114, Try.ntmps114
  go_wp2
  rw [Lib.run_to_unsafe w ⟨b, 0, none⟩ Try.underlying128 Try.underlying193 hj (by rw [hjs]; decide) hsh (Nat.zero_lt_succ 1)]
  simp only [Result.andThen]
  rw [Oper.upon_value]
  go_wp2
  rw [run_callFunc_extern Try.func135 (by kernel_rfl) (by kernel_rfl) (by kernel_rfl) (e := Extern.AbiNoEscape.same) (by kernel_rfl)]
  rw [Lib.run_noEscape]
  simp only [Result.andThen]
  rw [Oper.upon_value]
  go_wp2
  rw [Lib.run_from_unsafe w ⟨b, 0, none⟩ Try.underlying193 Try.underlying128 hj hsh hl]
  simp only [Result.andThen]
  rw [Oper.upon_value]
  go_wp2
  go_end0
  exact ⟨rfl, rfl⟩
theorem wcopy_any (B b : Nat) (l : List UInt8) (w : World) (h : WrN B b l w) :
    Calls Try.prog 114 #[.pointer (some ⟨b, 0, none⟩)] w fun e w' => e = .returned (.tuple #[]) ∧ WTo B b l w w' := by
  rcases h with h | h
  · refine (wcopy_fresh b w h.cell0 h.shape h.frozen0).mono ?_
    rintro e w' ⟨rfl, rfl⟩
    exact ⟨rfl, h.used _, kpw_of (.inl h) (by simp) (fun g _ hg _ => Below.heap_setCell _ _ _ _ (by simpa using hg)), (Below.refl B w).setCell (p := ⟨b, 0, none⟩) h.1 _⟩
  · refine (wcopy_used b w h.cell0).mono ?_
    rintro e w' ⟨rfl, rfl⟩
    exact ⟨rfl, h, KpW.refl _, Below.refl B _⟩
set_option maxRecDepth 100000 in
set_option maxHeartbeats 4000000 in
theorem wbyte_any (B b : Nat) (l : List UInt8) (c : UInt8) (k : Int) (hk : k = (c.toNat : Int)) (w : World) (h : WrN B b l w) (hlen : l.length ≤ 1000000000) (hBw : B ≤ w.heap.size) :
    Calls Try.prog 115 #[.pointer (some ⟨b, 0, none⟩), .int .u8 k] w fun e w' => e = .returned .nilIface ∧ WTo B b (l ++ [c]) w w' := by
  obtain ⟨i0, hi, hz0, hz1, hz2⟩ := info_parts infoByte
  have HCC := Lib.hid (wcopy_any B b l w h)
  have HK := Lib.hid hk
  clear hk
  go_enter Try.func115, Try.ntmps115
  go_wp2_with fail
  refine HCC.out.mono ?_
  rintro e w1 ⟨rfl, h1, hk1, hb1⟩
  have hW1 := h1
  obtain ⟨hB, v, hbk, hown, hne⟩ := h1
  rw [show (bcells l).length = l.length from Lib.byteCells_length l] at hown
  have c0 : w1.cell? ⟨b, 0, none⟩ = some (.pointer (some ⟨b, 0, none⟩)) := by rw [Lib.cell_of_heap hbk]; rfl
  have c1 : w1.cell? ⟨b, 1, none⟩ = some v := by rw [Lib.cell_of_heap hbk]; rfl
  go_wp2_with (at_builtin; refine wpList_append_own _ rfl _ _ 76 rfl B 5 i0 (.int .u8 0) 1 1 Try.underlying76 hi hz0 hz1 hz2 rfl (by decide) _ _ _ rfl (hown.alloc _) ⟨w1.heap.size, 0, none⟩ 1 1 [.int .u8 k] rfl rfl ?c1 ?c2 ?c3 ?c4 ?c5 ?_)
  case c1 =>
    intro j u hj
    match j, hj with
    | 0, hj => simp at hj; subst hj; simp [Addr.add]
  case c2 => intro u hu; simp at hu; subst hu; rfl
  case c3 => unfold maxLen; omega
  case c4 => omega
  case c5 => have := hb1.size; simp; omega
  intro v' w2 hown' hgrow _
  have hlt : b < w1.heap.size := lt_of_block hbk
  have hb2 : w2.heap[b]? = some (.cells #[.pointer (some ⟨b, 0, none⟩), v] 132 (0, 0)) := by
    rw [hgrow.block b (by simp; omega) (fun e => hne e.symm), Lib.alloc_old w1 _ b hlt]
    exact hbk
  have d0 : w2.cell? ⟨b, 0, none⟩ = some (.pointer (some ⟨b, 0, none⟩)) := by rw [Lib.cell_of_heap hb2]; rfl
  have d1 : w2.cell? ⟨b, 1, none⟩ = some v := by rw [Lib.cell_of_heap hb2]; rfl
  have f1 : w2.frozen? ⟨b, 1, none⟩ = false := Lib.frozen_of_heap hb2 1
  obtain ⟨g, cap, rfl⟩ : ∃ g cap, v' = .slice (some ⟨g, 0, none⟩) (l.length + 1) cap := by
    rcases hown'.2 with ⟨_, h0⟩ | ⟨g, cap, cur, hv, _⟩
    · omega
    · exact ⟨g, cap, hv⟩
  have HF : Hid (WTo B b (l ++ [c]) w (w2.setCell ⟨b, 1, none⟩ (.slice (some ⟨g, 0, none⟩) (l.length + 1) cap))) := Lib.hid (by
    refine ⟨?_, hk1.trans (kpw_of hW1.n (by have := hgrow.size; simp at this ⊢; omega) (fun k hk1 hk2 hk3 => (Below.heap_setCell _ _ _ _ (by simpa using hk2)).trans ((hgrow.block k (by simp; omega) (fun e => hk3 v c1 e.symm)).trans (Lib.alloc_old w1 _ k hk1)))), ((hb1.alloc (by have := hb1.size; omega) _).grown hgrow (by have := hb1.size; simp; omega) (fun k hk => (hown.lt k hk).1)).setCell (p := ⟨b, 1, none⟩) hB _⟩
    have e : bcells (l ++ [c]) = bcells l ++ [.int .u8 k] := by rw [bcells_app, HK.out]; rfl
    unfold WrB
    rw [e]
    have e2 : (bcells l ++ [Value.int .u8 k]).length = l.length + 1 := by rw [List.length_append, show (bcells l).length = l.length from Lib.byteCells_length l]; rfl
    exact Lib.BuilderAt.put (T := 132) (e := 5) hB hb2 (by rw [e2]; exact hown') (by decide))
  clear hown hown' hgrow hbk hne hb1
  go_wp2
  go_ret
  exact ⟨rfl, HF.out⟩
set_option maxRecDepth 100000 in
set_option maxHeartbeats 4000000 in
theorem wstr_any (B b : Nat) (l m : List UInt8) (s : ByteArray) (hs : s = ⟨m.toArray⟩) (w : World) (h : WrN B b l w) (hlen : l.length + m.length ≤ 1000000000) (hBw : B ≤ w.heap.size) :
    Calls Try.prog 76 #[.pointer (some ⟨b, 0, none⟩), .string s] w fun e w' => e = .returned (.tuple #[.int .i64 s.size, .nilIface]) ∧ WTo B b (l ++ m) w w' := by
  obtain ⟨i0, hi, hz0, hz1, hz2⟩ := info_parts infoByte
  have HCC := Lib.hid (wcopy_any B b l w h)
  have HK : Hid (Lib.strCells s = bcells m ∧ s.size = m.length) := Lib.hid (by subst hs; exact ⟨by simp [Lib.strCells, bcells, Lib.byteCells], by simp [ByteArray.size]⟩)
  have hsz := HK.out.2
  clear hs
  go_enter Try.func76, Try.ntmps76
  go_wp2_with fail
  refine HCC.out.mono ?_
  rintro e w1 ⟨rfl, h1, hk1, hb1⟩
  have hW1 := h1
  obtain ⟨hB, v, hbk, hown, hne⟩ := h1
  rw [show (bcells l).length = l.length from Lib.byteCells_length l] at hown
  have c0 : w1.cell? ⟨b, 0, none⟩ = some (.pointer (some ⟨b, 0, none⟩)) := by rw [Lib.cell_of_heap hbk]; rfl
  have c1 : w1.cell? ⟨b, 1, none⟩ = some v := by rw [Lib.cell_of_heap hbk]; rfl
  go_wp2_with (at_builtin; refine Lib.wpList_append_own_string _ rfl _ _ 76 9 rfl B 5 i0 Try.underlying76 Try.underlying9 hi hz0 hz1 hz2 _ _ _ rfl hown s rfl ?c3 ?c4 ?c5 ?_)
  case c3 => unfold maxLen; omega
  case c4 => omega
  case c5 => have := hb1.size; omega
  intro v' w2 hown' hgrow _
  have hlt : b < w1.heap.size := lt_of_block hbk
  have hb2 : w2.heap[b]? = some (.cells #[.pointer (some ⟨b, 0, none⟩), v] 132 (0, 0)) := by
    rw [hgrow.block b hlt (fun e => hne e.symm)]
    exact hbk
  have d0 : w2.cell? ⟨b, 0, none⟩ = some (.pointer (some ⟨b, 0, none⟩)) := by rw [Lib.cell_of_heap hb2]; rfl
  have d1 : w2.cell? ⟨b, 1, none⟩ = some v := by rw [Lib.cell_of_heap hb2]; rfl
  have f1 : w2.frozen? ⟨b, 1, none⟩ = false := Lib.frozen_of_heap hb2 1
  obtain ⟨ao, n', cap, rfl⟩ : ∃ ao n' cap, v' = .slice ao n' cap := by
    rcases hown'.2 with ⟨hv, _⟩ | ⟨g, cap, cur, hv, _⟩
    · exact ⟨_, _, _, hv⟩
    · exact ⟨_, _, _, hv⟩
  have HF : Hid (WTo B b (l ++ m) w (w2.setCell ⟨b, 1, none⟩ (.slice ao n' cap))) := Lib.hid (by
    refine ⟨?_, hk1.trans (kpw_of hW1.n (by have := hgrow.size; simp at this ⊢; omega) (fun k hk1 hk2 hk3 => (Below.heap_setCell _ _ _ _ (by simpa using hk2)).trans (hgrow.block k hk1 (fun e => hk3 v c1 e.symm)))), (hb1.grown hgrow (by have := hb1.size; omega) (fun k hk => (hown.lt k hk).1)).setCell (p := ⟨b, 1, none⟩) hB _⟩
    rw [HK.out.1] at hown'
    try rw [HK.out.2] at hown'
    unfold WrB
    rw [bcells_app]
    have e2 : (bcells l ++ bcells m).length = l.length + m.length := by rw [List.length_append, show (bcells l).length = l.length from Lib.byteCells_length l, show (bcells m).length = m.length from Lib.byteCells_length m]
    exact Lib.BuilderAt.put (T := 132) (e := 5) hB hb2 (by rw [e2]; exact hown') (by decide))
  clear hown hown' hgrow hbk hne hb1
  go_wp2
  refine bodyPost_ret (v := .tuple #[.int .i64 m.length, .nilIface]) (by simp [results, Try.results76, go_sem]) rfl ⟨by rw [HK.out.2], HF.out⟩
set_option maxRecDepth 100000 in
set_option maxHeartbeats 4000000 in
theorem wout_any (B b : Nat) (l : List UInt8) (w : World) (h : WrB B b l w) (h0 : l ≠ []) :
    Calls Try.prog 81 #[.pointer (some ⟨b, 0, none⟩)] w fun e w' => e = .returned (.string ⟨l.toArray⟩) ∧ Below B w w' := by
  obtain ⟨hB, v, hbk, hown, hne⟩ := h
  have hl0 : l.length ≠ 0 := by simpa using h0
  rw [show (bcells l).length = l.length from Lib.byteCells_length l] at hown
  obtain ⟨g, cap, cur, rfl, hbg, hg, hnc, hcm, hcs, htake⟩ : ∃ g cap cur, v = .slice (some ⟨g, 0, none⟩) l.length cap ∧ B ≤ g ∧ w.heap[g]? = some (.cells cur 5 (0, 0)) ∧ l.length ≤ cap ∧ cap ≤ maxLen ∧ cur.size = cap * 1 ∧ cur.toList.take (l.length * 1) = bcells l := by
    rcases hown.2 with ⟨_, hz⟩ | ⟨g, cap, cur, hv, r⟩
    · exact absurd hz hl0
    · exact ⟨g, cap, cur, hv, r⟩
  have c1 : w.drew.cell? ⟨b, 1, none⟩ = some (.slice (some ⟨g, 0, none⟩) l.length cap) := by
    have : w.drew.heap[b]? = some (.cells #[.pointer (some ⟨b, 0, none⟩), .slice (some ⟨g, 0, none⟩) l.length cap] 132 (0, 0)) := hbk
    rw [Lib.cell_of_heap this]; rfl
  have hSD : (Builtin.unsafeSliceData_ #[76] 170 #[.slice (some ⟨g, 0, none⟩) l.length cap]).run Try.prog w.drew = .ok (.pointer (some ⟨g, 0, none⟩)) w.drew :=
    Lib.run_unsafeSliceData_row _ _ _ _ _ _ (by omega)
  have hUS : (Builtin.unsafeString_ #[170, 3] 9 #[.pointer (some ⟨g, 0, none⟩), .int .i64 l.length]).run Try.prog w.drew = .ok (.string ⟨l.toArray⟩) (w.drew.freeze ⟨g, 0, none⟩ l.length) := by
    refine Lib.run_unsafeString_row w.drew 170 3 9 5 Try.underlying170 cellsByte g cur.size (by have hg' : w.drew.heap[g]? = some (.cells cur 5 (0, 0)) := hg; simp [World.shape?, hg']) l h0 (by omega) (by unfold maxLen at hcm; omega) ?_
    intro j x hx
    have := hown.cells (g := g) rfl j (.int .u8 x.toNat) (by simp [bcells, Lib.byteCells, hx])
    exact this
  clear hown hbk hne hg htake h0
  go_enter Try.func81, Try.ntmps81
  go_wp2
  go_region
  all_goals (go_wp2; go_ret; exact ⟨rfl, Lib.below_freeze (Below.drew (Below.refl B w)) (p := ⟨g, 0, none⟩) hbg _⟩)
end Go.Proofs.Ytcphjehjdhgheaa.Nt
