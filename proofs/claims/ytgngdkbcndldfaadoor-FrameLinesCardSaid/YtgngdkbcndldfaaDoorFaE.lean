/- What a word tells, by the program and by the document. Conditions: lengths within a machine's; the library's variables read as they are laid. -/
import Derived.Test.YtgngdkbcndldfaaDoorFaSi
import Derived.Test.YtgngdkbcndldfaaDoorFaD
namespace Go.Proofs.YtgngdkbcndldfaaDoor.Fr
open Go.ChangeShapes Go.WideShapes Go.ChangeAt Go.RowKit Go.Proofs.YtgngdkbcndldfaaDoor.Tr
set_option linter.unusedVariables false
set_option linter.unusedSimpArgs false

/-- What the library's functions want of memory. -/
structure FrAt (w : World) : Prop where
  most : ∃ m, w.cell? ⟨0, 0, none⟩ = some (.int .i64 m)
  syn : ∃ ev, w.cell? ⟨1, 0, none⟩ = some ev ∧ (ev = .nilIface ∨ ∃ te pe, ev = .iface te pe)
  rng : ∃ ev, w.cell? ⟨2, 0, none⟩ = some ev ∧ (ev = .nilIface ∨ ∃ te pe, ev = .iface te pe)
  tab : Lib.TabIs Tryd.prog w "internal/strconv.uint64pow10" .u64 Lib.pow10Tab
theorem tab_up {P : Program} {w w' : World} {name : String} {k : IntKind} {zs : List Int} (h : Lib.TabIs P w name k zs) (hb : Below w.heap.size w w') : Lib.TabIs P w' name k zs := by
  unfold Lib.TabIs World.var? at *
  cases hg : P.globalNamed name with
  | none => simp [hg] at h
  | some g =>
    simp only [hg, Option.bind_some] at h ⊢
    have hlt : g < w.heap.size := by
      rcases Nat.lt_or_ge g w.heap.size with h' | h'
      · exact h'
      · simp [Array.getElem?_eq_none h'] at h
    rw [hb.block g hlt]
    exact h
theorem cell_up {w w' : World} {p : Addr} {v : Value} (h : w.cell? p = some v) (hb : Below w.heap.size w w') : w'.cell? p = some v := (hb.cell (World.block_lt_of_cell? w _ h)).trans h
theorem FrAt.below {w w' : World} (h : FrAt w) (hb : Below w.heap.size w w') : FrAt w' := by
  obtain ⟨⟨m, h1⟩, ⟨e1, h2, h3⟩, ⟨e2, h4, h5⟩, h6⟩ := h
  exact ⟨⟨m, cell_up h1 hb⟩, ⟨e1, cell_up h2 hb, h3⟩, ⟨e2, cell_up h4 hb, h5⟩, tab_up h6 hb⟩

/-- What Atoi tells, in one form. -/
def AtoPost (S : Bs) (w : World) (e : Ending) (w' : World) : Prop :=
  (∃ v, Lib.atoiAll S = .ok v ∧ e = .returned (.tuple #[.int .i64 v, .nilIface]) ∧ Below w.heap.size w w') ∨
  ((∀ v, Lib.atoiAll S ≠ .ok v) ∧ ∃ v t p, e = .returned (.tuple #[.int .i64 v, .iface t p]) ∧ Below w.heap.size w w')
theorem ato_any (w : World) (hF : FrAt w) (S : Bs) (hS : S.length ≤ 1000000) : Calls Tryd.prog 43 #[.string (bs S)] w (AtoPost S w) := by
  obtain ⟨-, ⟨e1, h2, h3⟩, ⟨e2, h4, h5⟩, -⟩ := hF
  have hsz := bs_size S
  cases ha : Lib.atoiAll S with
  | ok v =>
    refine (Tryd.strconv_Atoi_ok (bs S) (by omega) v (by rw [bs_data]; exact ha) w).mono ?_
    rintro e w' ⟨rfl, hw⟩
    refine .inl ⟨v, ha, rfl, ?_⟩
    rcases hw with rfl | ⟨t, rfl⟩
    · exact Below.refl _ _
    · exact Lib.bytesWorld_below _ _ _
  | «syntax» =>
    refine (Tryd.strconv_Atoi_syntax (bs S) (by omega) (by rw [bs_data]; exact ha) e1 w h2 h3).mono ?_
    rintro e w' ⟨N, rfl, -, -, hb⟩
    exact .inr ⟨fun v h => by rw [ha] at h; (try cases h), _, _, _, rfl, hb⟩
  | range =>
    refine (Tryd.strconv_Atoi_range (bs S) (by omega) (by rw [bs_data]; exact ha) e2 w h4 h5).mono ?_
    rintro e w' ⟨N, rfl, -, -, hb⟩
    exact .inr ⟨fun v h => by rw [ha] at h; (try cases h), _, _, _, rfl, hb⟩
theorem below_grow (w : World) (k : Nat) (o : Array Obj) : Below w.heap.size w (Go.Sort.grow (w.drewN k) o) :=
  ⟨rfl, rfl, rfl, by show w.heap.size ≤ (w.heap ++ o).size; rw [Array.size_append]; omega, fun j hj => by show (w.heap ++ o)[j]? = _; rw [Array.getElem?_append_left hj]⟩
theorem ito_any (w : World) (hF : FrAt w) (n : Int) (h : fitsM n = true) : Calls Tryd.prog 37 #[.int .i64 n] w (fun e w' => e = .returned (.string (bs (Lib.itoa n))) ∧ Below w.heap.size w w') := by
  have hf := (fitsM_iff n).1 h
  refine (Tryd.strconv_Itoa n (by omega) (by omega) w hF.tab).mono ?_
  rintro e w' ⟨rfl, k, os, rfl⟩
  exact ⟨rfl, below_grow w k os⟩

def numV (t : Int) (S : Bs) : Bool := (numberM t S).isSome
/-- What a word of a type tells: a number, and whether it is one. -/
abbrev NumPost (t : Int) (S : Bs) (w : World) (e : Ending) (w' : World) : Prop := ∃ n b, e = .returned (.tuple #[.int .i64 n, .bool b]) ∧ numberM t S = (if b = true then some n else none) ∧ Below w.heap.size w w'
theorem num_true (S : Bs) : numberM 1 S = if S = trueB then some 1 else if S = falseB then some 0 else none := by unfold numberM; rw [if_pos rfl]
theorem num_int (S : Bs) : numberM 2 S = intM S := by unfold numberM; rw [if_neg (by decide), if_pos rfl]
theorem num_other {t : Int} (h1 : t ≠ 1) (h2 : t ≠ 2) (S : Bs) : numberM t S = none := by unfold numberM; rw [if_neg h1, if_neg h2]
theorem int_not {S : Bs} (h : ∀ v, Lib.atoiAll S ≠ .ok v) : intM S = none := by
  unfold intM
  split
  · rename_i n e; exact absurd e (h n)
  · rfl
theorem int_ok {S : Bs} {v : Int} (h : Lib.atoiAll S = .ok v) : intM S = if (fitsM v && decide (Lib.itoa v = S)) = true then some v else none := by
  unfold intM
  rw [h]
  simp only [Bool.and_eq_true, decide_eq_true_eq]

set_option maxRecDepth 100000 in
set_option maxHeartbeats 2000000 in
theorem number_any (w : World) (hF : FrAt w) (t : Int) (S : Bs) (hS : S.length ≤ 1000000) : Calls Tryd.prog 30 #[.int .i64 t, .string (bs S)] w (NumPost t S w) := by
  have hl := bs_list S
  by_cases h1 : t = 1
  · subst h1
    have HM := Lib.hid (num_true S)
    by_cases ht : S = trueB
    · subst ht
      have HP : Hid (NumPost 1 trueB w (.returned (.tuple #[.int .i64 1, .bool true])) w) := Lib.hid ⟨1, true, rfl, by decide, Below.refl _ _⟩
      have hq : (bs trueB).toList == [116, 114, 117, 101] := by rw [bs_list]; decide
      go_enter Tryd.func30, Tryd.ntmps30
      go_wp2
      refine bodyPost_ret (v := .tuple #[.int .i64 1, .bool true]) (by simp [results, Tryd.results30, go_sem]) rfl HP.out
    · have hq : ((bs S).toList == [116, 114, 117, 101]) = false := by rw [bs_list]; exact beq_eq_false_iff_ne.2 ht
      obtain ⟨b, hb⟩ : ∃ b, ((bs S).toList == [102, 97, 108, 115, 101]) = b := ⟨_, rfl⟩
      have HP : Hid (NumPost 1 S w (.returned (.tuple #[.int .i64 0, .bool b])) w) := Lib.hid ⟨0, b, rfl, by
        rw [HM.out, if_neg ht]
        rw [hl] at hb
        cases b with
        | true => rw [if_pos (show S = falseB from eq_of_beq hb)]; rfl
        | false => rw [if_neg (show S ≠ falseB from fun e => by rw [e] at hb; revert hb; decide)]; rfl, Below.refl _ _⟩
      clear hl ht
      go_enter Tryd.func30, Tryd.ntmps30
      go_wp2
      refine bodyPost_ret (v := .tuple #[.int .i64 0, .bool b]) (by simp [results, Tryd.results30, go_sem, hb]) rfl HP.out
  have h1b : (t == 1) = false := beq_eq_false_iff_ne.2 h1
  by_cases h2 : t = 2
  · subst h2
    have HA := Lib.hid (ato_any w hF S hS)
    have HM := Lib.hid (num_int S)
    have HF := Lib.hid hF
    clear hF
    go_enter Tryd.func30, Tryd.ntmps30
    go_wp2_with fail
    refine HA.out.mono ?_
    rintro e w1 (⟨v, hv, rfl, hb⟩ | ⟨hno, v, tt, p, rfl, hb⟩)
    · have HB := Lib.hid hb
      have HI := Lib.hid (int_ok hv)
      have HF1 := Lib.hid (HF.out.below hb)
      clear hb hv
      obtain ⟨f, hf⟩ : ∃ f, fitsM v = f := ⟨_, rfl⟩
      cases f with
      | false =>
        have HP : Hid (NumPost 2 S w (.returned (.tuple #[.int .i64 v, .bool false])) w1) := Lib.hid ⟨v, false, rfl, by rw [HM.out, HI.out, hf]; rfl, HB.out⟩
        have HFF := Lib.hid (Fits_any v w1)
        rw [hf] at HFF
        go_wp2_with fail
        refine HFF.out.mono ?_
        rintro e w2 ⟨rfl, rfl⟩
        go_wp2_with fail
        refine bodyPost_ret (v := .tuple #[.int .i64 v, .bool false]) (by simp [results, Tryd.results30, go_sem]) rfl HP.out
      | true =>
        have HFF := Lib.hid (Fits_any v w1)
        rw [hf] at HFF
        have HT := Lib.hid (ito_any w1 HF1.out v hf)
        go_wp2_with fail
        refine HFF.out.mono ?_
        rintro e w2 ⟨rfl, rfl⟩
        go_wp2_with fail
        refine HT.out.mono ?_
        rintro e w3 ⟨rfl, hb3⟩
        obtain ⟨b, hb⟩ : ∃ b, ((bs (Lib.itoa v)).toList == S) = b := ⟨_, rfl⟩
        have HP : Hid (NumPost 2 S w (.returned (.tuple #[.int .i64 v, .bool b])) w3) := Lib.hid ⟨v, b, rfl, by
          rw [HM.out, HI.out, hf, ← hb, bs_list]
          by_cases e : Lib.itoa v = S
          · rw [if_pos (by simp [e]), if_pos (by simp [e])]
          · rw [if_neg (by simp [e]), if_neg (by simp [e])], HB.out.trans (hb3.mono HB.out.size)⟩
        clear hb3
        go_wp2_with fail
        refine bodyPost_ret (v := .tuple #[.int .i64 v, .bool b]) (by simp [results, Tryd.results30, go_sem, hb]) rfl HP.out
    · have HP : Hid (NumPost 2 S w (.returned (.tuple #[.int .i64 v, .bool false])) w1) := Lib.hid ⟨v, false, rfl, by rw [HM.out, int_not hno]; rfl, hb⟩
      clear hno hb
      go_wp2_with fail
      refine bodyPost_ret (v := .tuple #[.int .i64 v, .bool false]) (by simp [results, Tryd.results30, go_sem]) rfl HP.out
  · have h2b : (t != 2) = true := bne_iff_ne.2 h2
    have HP : Hid (NumPost t S w (.returned (.tuple #[.int .i64 0, .bool false])) w) := Lib.hid ⟨0, false, rfl, by rw [num_other h1 h2]; rfl, Below.refl _ _⟩
    clear hl h1 h2
    go_enter Tryd.func30, Tryd.ntmps30
    go_wp2
    refine bodyPost_ret (v := .tuple #[.int .i64 0, .bool false]) (by simp [results, Tryd.results30, go_sem]) rfl HP.out
end Go.Proofs.YtgngdkbcndldfaaDoor.Fr
