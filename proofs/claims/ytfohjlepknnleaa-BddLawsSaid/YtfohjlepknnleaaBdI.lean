/- A node is put into a draft. Conditions: none. A node is put into a draft that has it already; into one that is full. Conditions: none. A node is put into a draft that has it among its fresh ones; into one that is full. Conditions: none. -/
import Derived.Test.YtfohjlepknnleaaBdF
namespace Go.Proofs.Ytfohjlepknnleaa.Bd
open Go.ChangeShapes Go.WideShapes Go.ChangeAt Go.RowKit
set_option linter.unusedVariables false
set_option linter.unusedSimpArgs false

/-- What a call leaves of what lay there, but for a draft's own blocks. -/
structure Fr (dd kb mm : Nat) (w w' : World) (fv fv' : Value) : Prop where
  size : w.heap.size ≤ w'.heap.size
  keep : ∀ g, g < w.heap.size → g ≠ dd → g ≠ kb → g ≠ mm → fv.ownBlock ≠ some g → w'.heap[g]? = w.heap[g]?
  own : ∀ g, fv'.ownBlock = some g → fv.ownBlock = some g ∨ w.heap.size ≤ g

theorem Fr.of {dd kb mm : Nat} {w w' : World} {fv : Value} (h : Below w.heap.size w w') : Fr dd kb mm w w' fv fv :=
  ⟨h.size, fun g hg _ _ _ _ => h.block g hg, fun g hg => .inl hg⟩
theorem Fr.trans {dd kb mm : Nat} {a b c : World} {f1 f2 f3 : Value} (h : Fr dd kb mm a b f1 f2) (k : Fr dd kb mm b c f2 f3) : Fr dd kb mm a c f1 f3 := by
  have h1 := h.size
  have h2 := k.size
  refine ⟨by omega, fun g hg a1 a2 a3 a4 => ?_, fun g hg => ?_⟩
  · rw [k.keep g (by omega) a1 a2 a3 (fun e => by rcases h.own g e with e1 | e1 <;> first | exact a4 e1 | omega)]
    exact h.keep g hg a1 a2 a3 a4
  · rcases k.own g hg with e | e
    · exact h.own g e
    · exact .inr (by omega)

/-- What putting a node leaves. -/
def PutPost (P : Dp) (w : World) (fv : Value) (F : List Nd) (t : Nat) (lo hi : Int) (e : Ending) (w' : World) : Prop :=
  ∃ fv' F', Dr P w' fv' F' ∧ Fr P.dd P.kb P.kb w w' fv fv' ∧
    ((e = .returned (.int .i64 (-1)) ∧ F' = F ∧ (lo = -1 ∨ hi = -1 ∨ P.limit ≤ P.S.length + F.length)) ∨
     ∃ x l h : Nat, e = .returned (.int .i64 (x : Int)) ∧ lo = (l : Int) ∧ hi = (h : Int) ∧ (∃ m, F' = F ++ m ∧ m.length ≤ 1) ∧ PutTo P.vars (P.S ++ F) t l h (P.S ++ F') x)

theorem put_none {P : Dp} {w w' : World} {fv : Value} {F : List Nd} {t : Nat} {lo hi : Int} (h : Dr P w fv F) (hb : Below w.heap.size w w') (hc : lo = -1 ∨ hi = -1 ∨ P.limit ≤ P.S.length + F.length) :
    PutPost P w fv F t lo hi (.returned (.int .i64 (-1))) w' := ⟨fv, F, h.kept hb, Fr.of hb, .inl ⟨rfl, rfl, hc⟩⟩
theorem put_old {P : Dp} {w w' : World} {fv : Value} {F : List Nd} {t x l i : Nat} {lo hi : Int} (h : Dr P w fv F) (hb : Below w.heap.size w w') (hlo : lo = (l : Int)) (hhi : hi = (i : Int)) (hp : PutTo P.vars (P.S ++ F) t l i (P.S ++ F) x) :
    PutPost P w fv F t lo hi (.returned (.int .i64 (x : Int))) w' := ⟨fv, F, h.kept hb, Fr.of hb, .inr ⟨x, l, i, rfl, hlo, hhi, ⟨[], by simp, by simp⟩, hp⟩⟩

set_option maxRecDepth 100000 in
set_option maxHeartbeats 1600000 in
theorem put_bad (P : Dp) (w : World) (fv : Value) (F : List Nd) (h : Dr P w fv F) (t : Nat) (lo hi : Int) (hc : lo = -1 ∨ hi = -1) :
    Calls Try.prog 36 #[.pointer (some ⟨P.dd, 0, none⟩), .agg #[.int .i64 (t : Int), .int .i64 lo, .int .i64 hi]] w (PutPost P w fv F t lo hi) := by
  have HH := Lib.hid h
  clear h
  by_cases c : lo = -1
  · subst c
    go_enter Try.func36, Try.ntmps36
    go_wp2_with fail
    refine bodyPost_ret (v := .int .i64 (-1)) (by simp [results, Try.results36, go_sem]) rfl (put_none HH.out (below_new _ _) (.inl rfl))
  · have h1 : hi = -1 := by omega
    subst h1
    have hd : (lo == -1) = false := by simpa using c
    go_enter Try.func36, Try.ntmps36
    go_wp2_with fail
    refine bodyPost_ret (v := .int .i64 (-1)) (by simp [results, Try.results36, go_sem]) rfl (put_none HH.out (below_new _ _) (.inr (.inl rfl)))

set_option maxRecDepth 100000 in
set_option maxHeartbeats 1600000 in
theorem put_eq (P : Dp) (w : World) (fv : Value) (F : List Nd) (h : Dr P w fv F) (t l : Nat) (hl : l < (P.S ++ F).length) (ht : t < tst (P.S ++ F) l) :
    Calls Try.prog 36 #[.pointer (some ⟨P.dd, 0, none⟩), .agg #[.int .i64 (t : Int), .int .i64 (l : Int), .int .i64 (l : Int)]] w (PutPost P w fv F t l l) := by
  have HH := Lib.hid h
  have HP := Lib.hid (put_same h.good hl ht)
  have hd : ((l : Int) == -1) = false := by simp
  clear h hl ht
  go_enter Try.func36, Try.ntmps36
  go_wp2_with fail
  refine bodyPost_ret (v := .int .i64 (l : Int)) (by simp [results, Try.results36, go_sem]) rfl (put_old HH.out (below_new _ _) rfl rfl HP.out)
end Go.Proofs.Ytfohjlepknnleaa.Bd

namespace Go.Proofs.Ytfohjlepknnleaa.Bd
open Go.ChangeShapes Go.WideShapes Go.ChangeAt Go.RowKit
set_option linter.unusedVariables false
set_option linter.unusedSimpArgs false

theorem zero_int (w : World) : (zeroValue 3).run Try.prog w = .ok (.int .i64 0) w := by kernel_rfl
theorem look_all {w : World} {b n : Nat} {f : Nd → Option Value} (h : MapK Try.prog 59 okN litN w b n f) (t lo hi : Nat) (hok : okN (t, lo, hi)) (v : Value) (c : Bool) (hv : (f (t, lo, hi)).getD (.int .i64 0) = v) (hc : (f (t, lo, hi)).isSome = c) (q : Nat) :
    (Instr.lookup 61 (.map (some b)) (.agg #[.int .i64 (t : Int), .int .i64 (lo : Int), .int .i64 (hi : Int)]) true).run Try.prog (w.drewN q) = .ok (.tuple #[v, .bool c]) (w.drewN q) := by
  subst hv hc
  exact (h.keep (w' := w.drewN q) rfl).look keysN Try.underlying61 (zero_int _) (t, lo, hi) hok

set_option maxRecDepth 100000 in
set_option maxHeartbeats 1600000 in
theorem put_there (P : Dp) (w : World) (fv : Value) (F : List Nd) (h : Dr P w fv F) (t lo hi i : Nat) (h2 : 2 ≤ i) (hx : P.S[i]? = some (t, lo, hi)) :
    Calls Try.prog 36 #[.pointer (some ⟨P.dd, 0, none⟩), .agg #[.int .i64 (t : Int), .int .i64 (lo : Int), .int .i64 (hi : Int)]] w (PutPost P w fv F t lo hi) := by
  have HH := Lib.hid h
  have hat : (P.S ++ F)[i]? = some (t, lo, hi) := (at_app (lt_of hx)).trans hx
  obtain ⟨b1, b2, b3, b4⟩ := dr_node h hat
  have hne := (h.good.node i t lo _ h2 hat).2.1
  have HP := Lib.hid (put_is h.good h2 hat)
  obtain ⟨w1, hw1⟩ : ∃ W, w.alloc (.cells #[.int .i64 (t : Int), .int .i64 (lo : Int), .int .i64 (hi : Int)] 59) = W := ⟨_, rfl⟩
  have HB : Hid (Below w.heap.size w w1) := Lib.hid (by rw [← hw1]; exact below_new _ _)
  have HN := Lib.hid (show w1.heap[w.heap.size]? = some (.cells #[.int .i64 (t : Int), .int .i64 (lo : Int), .int .i64 (hi : Int)] 59) from by rw [← hw1]; exact heap_alloc_new _ _)
  have z0 : w1.cell? ⟨w.heap.size, 0, none⟩ = some (.int .i64 t) := by simp [World.cell?, HN.out]
  have z1 : w1.cell? ⟨w.heap.size, 1, none⟩ = some (.int .i64 lo) := by simp [World.cell?, HN.out]
  have z2 : w1.cell? ⟨w.heap.size, 2, none⟩ = some (.int .i64 hi) := by simp [World.cell?, HN.out]
  have hk := h.kept HB.out
  obtain ⟨⟨a0, a1, a2, a3⟩, y0, y1, y2, y3⟩ := hk.ats
  have hlook : ∀ q, (Instr.lookup 61 (.map (some P.pb)) (.agg #[.int .i64 (t : Int), .int .i64 (lo : Int), .int .i64 (hi : Int)]) true).run Try.prog (w1.drewN q) = .ok (.tuple #[.int .i64 (i : Int), .bool true]) (w1.drewN q) := by
    obtain ⟨f, hf, hT⟩ := hk.stv.map
    cases hfn : f (t, lo, hi) with
    | none => exact absurd hx (hT.no _ hfn i h2)
    | some v =>
      obtain ⟨j, hj2, rfl, hj⟩ := hT.yes _ _ hfn
      have hji : j = i := h.st.good.inj j i _ hj2 h2 hj hx
      subst hji
      exact look_all hf t lo hi (by unfold okN; dsimp only; omega) _ _ (by rw [hfn]; simp) (by rw [hfn]; rfl)
  have hd1 : ((lo : Int) == -1) = false := by simp
  have hd2 : ((hi : Int) == -1) = false := by simp
  have hd3 : ((lo : Int) == (hi : Int)) = false := beq_false_of_ne (by omega)
  clear h hat hk hx hne
  go_enter Try.func36, Try.ntmps36
  go_wp2_with fail
  go_quiet (fail)
  go_wp2
  refine bodyPost_ret (v := .int .i64 (i : Int)) (by simp [results, Try.results36, go_sem]) rfl (put_old HH.out (below_drewN HB.out _) rfl rfl HP.out)
end Go.Proofs.Ytfohjlepknnleaa.Bd

namespace Go.Proofs.Ytfohjlepknnleaa.Bd
open Go.ChangeShapes Go.WideShapes Go.ChangeAt Go.RowKit
set_option linter.unusedVariables false
set_option linter.unusedSimpArgs false

theorem look_no {w : World} {b n fr sh : Nat} {L : List Nd} {f : Nd → Option Value} (h : MapK Try.prog 59 okN litN w b n f) (hT : Tells fr sh L f) (t lo hi : Nat) (hok : okN (t, lo, hi)) (hno : ∀ i, fr ≤ i → L[i]? ≠ some (t, lo, hi)) (q : Nat) :
    (Instr.lookup 61 (.map (some b)) (.agg #[.int .i64 (t : Int), .int .i64 (lo : Int), .int .i64 (hi : Int)]) true).run Try.prog (w.drewN q) = .ok (.tuple #[.int .i64 0, .bool false]) (w.drewN q) := by
  cases hfn : f (t, lo, hi) with
  | none => exact look_all h t lo hi hok _ _ (by rw [hfn]; rfl) (by rw [hfn]; rfl) q
  | some v =>
    obtain ⟨j, hj2, rfl, hj⟩ := hT.yes _ _ hfn
    exact absurd hj (hno j hj2)
theorem look_yes {w : World} {b n fr sh i : Nat} {L : List Nd} {f : Nd → Option Value} (h : MapK Try.prog 59 okN litN w b n f) (hT : Tells fr sh L f) (t lo hi : Nat) (hok : okN (t, lo, hi)) (h2 : fr ≤ i) (hx : L[i]? = some (t, lo, hi)) (hu : ∀ j, fr ≤ j → L[j]? = some (t, lo, hi) → j = i) (q : Nat) :
    (Instr.lookup 61 (.map (some b)) (.agg #[.int .i64 (t : Int), .int .i64 (lo : Int), .int .i64 (hi : Int)]) true).run Try.prog (w.drewN q) = .ok (.tuple #[.int .i64 ((sh + i : Nat) : Int), .bool true]) (w.drewN q) := by
  cases hfn : f (t, lo, hi) with
  | none => exact absurd hx (hT.no _ hfn i h2)
  | some v =>
    obtain ⟨j, hj2, rfl, hj⟩ := hT.yes _ _ hfn
    have hji := hu j hj2 hj
    subst hji
    exact look_all h t lo hi hok _ _ (by rw [hfn]; rfl) (by rw [hfn]; rfl) q

set_option maxRecDepth 100000 in
set_option maxHeartbeats 1600000 in
theorem put_known (P : Dp) (w : World) (fv : Value) (F : List Nd) (h : Dr P w fv F) (t lo hi : Nat) (i : Nat) (hx : F[i]? = some (t, lo, hi)) :
    Calls Try.prog 36 #[.pointer (some ⟨P.dd, 0, none⟩), .agg #[.int .i64 (t : Int), .int .i64 (lo : Int), .int .i64 (hi : Int)]] w (PutPost P w fv F t lo hi) := by
  have HH := Lib.hid h
  obtain ⟨nS, hnS⟩ : ∃ n, P.S.length = n := ⟨_, rfl⟩
  obtain ⟨nF, hnF⟩ : ∃ n, F.length = n := ⟨_, rfl⟩
  have hroom := h.room
  rw [hnS, hnF] at hroom
  have h2 := h.st.good.two
  have hat : (P.S ++ F)[P.S.length + i]? = some (t, lo, hi) := by rw [List.getElem?_append_right (by omega), Nat.add_sub_cancel_left]; exact hx
  obtain ⟨b1, b2, b3, b4⟩ := dr_node h hat
  have hne := (h.good.node _ t lo _ (by omega) hat).2.1
  have HP := Lib.hid (put_is h.good (show 2 ≤ P.S.length + i by omega) hat)
  rw [hnS] at HP
  have HG := Lib.hid h.good
  obtain ⟨w1, hw1⟩ : ∃ W, w.alloc (.cells #[.int .i64 (t : Int), .int .i64 (lo : Int), .int .i64 (hi : Int)] 59) = W := ⟨_, rfl⟩
  have HB : Hid (Below w.heap.size w w1) := Lib.hid (by rw [← hw1]; exact below_new _ _)
  have HN := Lib.hid (show w1.heap[w.heap.size]? = some (.cells #[.int .i64 (t : Int), .int .i64 (lo : Int), .int .i64 (hi : Int)] 59) from by rw [← hw1]; exact heap_alloc_new _ _)
  have z0 : w1.cell? ⟨w.heap.size, 0, none⟩ = some (.int .i64 t) := by simp [World.cell?, HN.out]
  have z1 : w1.cell? ⟨w.heap.size, 1, none⟩ = some (.int .i64 lo) := by simp [World.cell?, HN.out]
  have z2 : w1.cell? ⟨w.heap.size, 2, none⟩ = some (.int .i64 hi) := by simp [World.cell?, HN.out]
  have HK := Lib.hid (h.kept HB.out)
  obtain ⟨⟨a0, a1, a2, a3⟩, y0, y1, y2, y3⟩ := HK.out.ats
  obtain ⟨A, cS, hS⟩ := row_form HK.out.stv.row
  obtain ⟨A2, cF, hF⟩ := row_form HK.out.row
  rw [hnS] at hS
  rw [hnF] at hF
  rw [hS] at y2
  rw [hF] at a1
  have hok : okN (t, lo, hi) := by unfold okN; dsimp only; omega
  have hl1 : ∀ q, (Instr.lookup 61 (.map (some P.pb)) (.agg #[.int .i64 (t : Int), .int .i64 (lo : Int), .int .i64 (hi : Int)]) true).run Try.prog (w1.drewN q) = .ok (.tuple #[.int .i64 0, .bool false]) (w1.drewN q) := by
    obtain ⟨f, hf, hT⟩ := HK.out.stv.map
    refine look_no hf hT t lo hi hok (fun j hj hh => ?_)
    have := HG.out.inj j (P.S.length + i) _ hj (by omega) ((at_app (lt_of hh)).trans hh) hat
    have := lt_of hh
    omega
  have hl2 : ∀ q, (Instr.lookup 61 (.map (some P.kb)) (.agg #[.int .i64 (t : Int), .int .i64 (lo : Int), .int .i64 (hi : Int)]) true).run Try.prog (w1.drewN q) = .ok (.tuple #[.int .i64 ((nS + i : Nat) : Int), .bool true]) (w1.drewN q) := by
    obtain ⟨f, hf, hT⟩ := HK.out.known
    rw [hnS] at hT
    refine look_yes hf hT t lo hi hok (Nat.zero_le _) hx (fun j hj hh => ?_)
    have := HG.out.inj (P.S.length + j) (P.S.length + i) _ (by omega) (by omega) (by rw [List.getElem?_append_right (by omega), Nat.add_sub_cancel_left]; exact hh) hat
    omega
  have hd1 : ((lo : Int) == -1) = false := by simp
  have hd2 : ((hi : Int) == -1) = false := by simp
  have hd3 : ((lo : Int) == (hi : Int)) = false := beq_false_of_ne (by omega)
  clear h hat hx hne hok hS hF
  go_enter Try.func36, Try.ntmps36
  go_wp2_with fail
  go_quiet (fail)
  go_wp2
  go_quiet (fail)
  go_wp2
  refine bodyPost_ret (v := .int .i64 ((nS + i : Nat) : Int)) (by simp [results, Try.results36, go_sem]) rfl (put_old HH.out (below_drewN (below_drewN HB.out _) _) rfl rfl HP.out)

set_option maxRecDepth 100000 in
set_option maxHeartbeats 1600000 in
theorem put_full (P : Dp) (w : World) (fv : Value) (F : List Nd) (h : Dr P w fv F) (t lo hi : Nat) (hb : t ≤ 30 ∧ lo < 4194304 ∧ hi < 4194304) (hne : lo ≠ hi) (hno : ∀ i, 2 ≤ i → (P.S ++ F)[i]? ≠ some (t, lo, hi)) (hful : P.limit ≤ P.S.length + F.length) :
    Calls Try.prog 36 #[.pointer (some ⟨P.dd, 0, none⟩), .agg #[.int .i64 (t : Int), .int .i64 (lo : Int), .int .i64 (hi : Int)]] w (PutPost P w fv F t lo hi) := by
  have HH := Lib.hid h
  obtain ⟨nS, hnS⟩ : ∃ n, P.S.length = n := ⟨_, rfl⟩
  obtain ⟨nF, hnF⟩ : ∃ n, F.length = n := ⟨_, rfl⟩
  have hroom := h.room
  rw [hnS, hnF] at hroom
  obtain ⟨b1, b2, b3⟩ := hb
  have h2 := h.st.good.two
  have HF := Lib.hid hful
  rw [hnS, hnF] at hful
  obtain ⟨w1, hw1⟩ : ∃ W, w.alloc (.cells #[.int .i64 (t : Int), .int .i64 (lo : Int), .int .i64 (hi : Int)] 59) = W := ⟨_, rfl⟩
  have HB : Hid (Below w.heap.size w w1) := Lib.hid (by rw [← hw1]; exact below_new _ _)
  have HN := Lib.hid (show w1.heap[w.heap.size]? = some (.cells #[.int .i64 (t : Int), .int .i64 (lo : Int), .int .i64 (hi : Int)] 59) from by rw [← hw1]; exact heap_alloc_new _ _)
  have z0 : w1.cell? ⟨w.heap.size, 0, none⟩ = some (.int .i64 t) := by simp [World.cell?, HN.out]
  have z1 : w1.cell? ⟨w.heap.size, 1, none⟩ = some (.int .i64 lo) := by simp [World.cell?, HN.out]
  have z2 : w1.cell? ⟨w.heap.size, 2, none⟩ = some (.int .i64 hi) := by simp [World.cell?, HN.out]
  have HK := Lib.hid (h.kept HB.out)
  obtain ⟨⟨a0, a1, a2, a3⟩, y0, y1, y2, y3⟩ := HK.out.ats
  obtain ⟨A, cS, hS⟩ := row_form HK.out.stv.row
  obtain ⟨A2, cF, hF⟩ := row_form HK.out.row
  rw [hnS] at hS
  rw [hnF] at hF
  rw [hS] at y2
  rw [hF] at a1
  have hok : okN (t, lo, hi) := by unfold okN; dsimp only; omega
  have hl1 : ∀ q, (Instr.lookup 61 (.map (some P.pb)) (.agg #[.int .i64 (t : Int), .int .i64 (lo : Int), .int .i64 (hi : Int)]) true).run Try.prog (w1.drewN q) = .ok (.tuple #[.int .i64 0, .bool false]) (w1.drewN q) := by
    obtain ⟨f, hf, hT⟩ := HK.out.stv.map
    exact look_no hf hT t lo hi hok (fun j hj hh => hno j hj ((at_app (lt_of hh)).trans hh))
  have hl2 : ∀ q, (Instr.lookup 61 (.map (some P.kb)) (.agg #[.int .i64 (t : Int), .int .i64 (lo : Int), .int .i64 (hi : Int)]) true).run Try.prog (w1.drewN q) = .ok (.tuple #[.int .i64 0, .bool false]) (w1.drewN q) := by
    obtain ⟨f, hf, hT⟩ := HK.out.known
    exact look_no hf hT t lo hi hok (fun j hj hh => hno (P.S.length + j) (by omega) (by rw [List.getElem?_append_right (by omega), Nat.add_sub_cancel_left]; exact hh))
  have hd4 : decide ((P.limit : Int) ≤ (nS : Int) + (nF : Int)) = true := decide_eq_true (by omega)
  have hd1 : ((lo : Int) == -1) = false := by simp
  have hd2 : ((hi : Int) == -1) = false := by simp
  have hd3 : ((lo : Int) == (hi : Int)) = false := beq_false_of_ne (by omega)
  clear h hno hne hok hS hF
  go_enter Try.func36, Try.ntmps36
  go_wp2_with fail
  go_quiet (fail)
  go_wp2
  go_quiet (fail)
  go_wp2
  go_quiet (fail)
  go_wp2
  refine bodyPost_ret (v := .int .i64 (-1)) (by simp [results, Try.results36, go_sem]) rfl (put_none HH.out (below_drewN HB.out _) (.inr (.inr HF.out)))
end Go.Proofs.Ytfohjlepknnleaa.Bd
