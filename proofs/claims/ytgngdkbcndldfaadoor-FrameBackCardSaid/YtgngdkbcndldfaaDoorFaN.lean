/- What the document writes. Conditions: at most 1000 rows. -/
import Derived.Test.YtgngdkbcndldfaaDoorFaM
namespace Go.Proofs.YtgngdkbcndldfaaDoor.Fr
open Go.ChangeShapes Go.WideShapes Go.ChangeAt Go.RowKit Go.Proofs.YtgngdkbcndldfaaDoor.Tr
set_option linter.unusedVariables false
set_option linter.unusedSimpArgs false

abbrev WPost (o : Option Bs) (w : World) (e : Ending) (w' : World) : Prop :=
  Below w.heap.size w w' ∧ ((o = none ∧ e = .returned (.tuple #[.string ⟨#[]⟩, .int .i64 1])) ∨ ∃ t, o = some t ∧ e = .returned (.tuple #[.string (bs t), .int .i64 0]))
theorem write_many {ts : List Int} {rows : List (List Int)} (h : 200 < ts.length) : writeM ts rows = none := by unfold writeM; rw [if_pos (Or.inl h)]
theorem write_kind {ts : List Int} {rows : List (List Int)} {i : Nat} {t : Int} (h : ts[i]? = some t) (hk : kindM t = false) : writeM ts rows = none := by
  have e : ts.all kindM = false := by
    cases e : ts.all kindM with
    | false => rfl
    | true =>
      rw [List.all_eq_true] at e
      have := e t (List.mem_of_getElem? h)
      rw [hk] at this; cases this
  unfold writeM
  rw [if_pos (Or.inr e)]
theorem write_bad {ts : List Int} {rows : List (List Int)} {i : Nat} {r : List Int} (h : rows[i]? = some r) (hk : okRowM ts r = false) : writeM ts rows = none := by
  unfold writeM
  split
  · rfl
  · rw [if_neg ?_]
    intro e
    rw [List.all_eq_true] at e
    have := e r (List.mem_of_getElem? h)
    rw [hk] at this; cases this
theorem write_all {ts : List Int} {rows : List (List Int)} (h : ¬ 200 < ts.length) (hk : ts.all kindM = true) (hr : rows.all (okRowM ts) = true) : writeM ts rows = some (rows.flatMap (lineM ts)) := by
  unfold writeM
  rw [if_neg (fun x => by rcases x with x | x; exact h x; rw [hk] at x; cases x), if_pos hr]
theorem okRow_iff : ∀ (ts r : List Int), okRowM ts r = true ↔ r.length = ts.length ∧ ∀ (k : Nat) (t n : Int), ts[k]? = some t → r[k]? = some n → mayM t n = true
  | [], r => by
    simp only [okRowM, List.zipWith_nil_left, List.all_nil, Bool.and_true, decide_eq_true_eq, List.length_nil]
    constructor
    · intro h; exact ⟨h, fun k t n h1 => by simp at h1⟩
    · exact fun h => h.1
  | t :: ts, [] => by simp [okRowM]
  | t :: ts, n :: r => by
    have ih := okRow_iff ts r
    simp only [okRowM, Bool.and_eq_true, decide_eq_true_eq, List.length_cons, List.zipWith_cons_cons, List.all_cons, id] at ih ⊢
    constructor
    · rintro ⟨h1, h2, h3⟩
      obtain ⟨-, h4⟩ := ih.1 ⟨by omega, h3⟩
      refine ⟨h1, fun k t' n' ha hb => ?_⟩
      cases k with
      | zero => simp at ha hb; rw [← ha, ← hb]; exact h2
      | succ k => exact h4 k t' n' (by simpa using ha) (by simpa using hb)
    · rintro ⟨h1, h2⟩
      exact ⟨h1, h2 0 t n rfl rfl, (ih.2 ⟨by omega, fun k t' n' ha hb => h2 (k + 1) t' n' (by simpa using ha) (by simpa using hb)⟩).2⟩
theorem okRow_no {ts r : List Int} (h : ¬ (r.length = ts.length ∧ ∀ (k : Nat) (t n : Int), ts[k]? = some t → r[k]? = some n → mayM t n = true)) : okRowM ts r = false := by
  cases e : okRowM ts r with
  | false => rfl
  | true => exact absurd ((okRow_iff ts r).1 e) h
/-- The first k numbers may be. -/
def OkTo (ts r : List Int) (k : Nat) : Prop := ∀ (j : Nat) (t n : Int), j < k → ts[j]? = some t → r[j]? = some n → mayM t n = true
def textTo (ts r : List Int) (k : Nat) : Bs := Lib.join (List.zipWith textM (ts.take k) (r.take k)) [32]
theorem OkTo.start (ts r : List Int) : OkTo ts r 0 := fun j t n h => by omega
theorem OkTo.next {ts r : List Int} {k : Nat} {t n : Int} (h : OkTo ts r k) (ht : ts[k]? = some t) (hn : r[k]? = some n) (hm : mayM t n = true) : OkTo ts r (k + 1) := fun j t' n' hj ha hb => by
  by_cases e : j = k
  · subst e; rw [ht] at ha; rw [hn] at hb; cases ha; cases hb; exact hm
  · exact h j t' n' (by omega) ha hb
theorem OkTo.row {ts r : List Int} {k : Nat} (h : OkTo ts r k) (h1 : ts.length = k) (h2 : r.length = k) : okRowM ts r = true :=
  (okRow_iff ts r).2 ⟨by omega, fun j t n ha hb => h j t n (by have := (List.getElem?_eq_some_iff.1 ha).1; omega) ha hb⟩
theorem join_snoc : ∀ (ws : List Bs) (x : Bs), Lib.join (ws ++ [x]) [32] = (if ws = [] then [] else Lib.join ws [32] ++ [32]) ++ x
  | [], x => by simp [Lib.join_one]
  | [a], x => by
    rw [if_neg (by simp), Lib.join_one]
    unfold Lib.join; simp [List.intercalate]
  | a :: b :: ws, x => by
    have ih := join_snoc (b :: ws) x
    rw [if_neg (by simp)] at ih ⊢
    have e : ∀ L : List Bs, ∀ y, Lib.join (a :: y :: L) [32] = a ++ 32 :: Lib.join (y :: L) [32] := fun L y => by unfold Lib.join; simp [List.intercalate]
    rw [List.cons_append, List.cons_append, e, e]
    rw [show b :: (ws ++ [x]) = (b :: ws) ++ [x] from rfl, ih]
    simp
theorem textTo_next {ts r : List Int} {k : Nat} {t n : Int} (ht : ts[k]? = some t) (hn : r[k]? = some n) : textTo ts r (k + 1) = (if k = 0 then [] else textTo ts r k ++ [32]) ++ textM t n := by
  unfold textTo
  have hk1 := (List.getElem?_eq_some_iff.1 ht).1
  have hk2 := (List.getElem?_eq_some_iff.1 hn).1
  rw [List.take_add_one, List.take_add_one, ht, hn]
  have : List.zipWith textM (ts.take k ++ (some t).toList) (r.take k ++ (some n).toList) = List.zipWith textM (ts.take k) (r.take k) ++ [textM t n] := by
    rw [List.zipWith_append (by rw [List.length_take, List.length_take]; omega)]; rfl
  rw [this, join_snoc]
  by_cases h0 : k = 0
  · subst h0; simp
  · rw [if_neg h0, if_neg]
    intro e
    have := congrArg List.length e
    rw [List.length_zipWith, List.length_take, List.length_take, List.length_nil] at this
    omega
theorem textTo_zero (ts r : List Int) : textTo ts r 0 = [] := by unfold textTo; simp [Lib.join]
theorem textTo_all {ts r : List Int} {k : Nat} (h1 : ts.length = k) (h2 : r.length = k) : textTo ts r k ++ [10] = lineM ts r := by
  unfold textTo lineM
  rw [List.take_of_length_le (by omega), List.take_of_length_le (by omega)]
theorem textTo_len {ts r : List Int} {k : Nat} (h : OkTo ts r k) (h1 : k ≤ ts.length) (h2 : k ≤ r.length) : (textTo ts r k).length ≤ k * 12 := by
  induction k with
  | zero => rw [textTo_zero]; simp
  | succ k ih =>
    obtain ⟨t, ht⟩ : ∃ t, ts[k]? = some t := ⟨_, List.getElem?_eq_getElem (by omega)⟩
    obtain ⟨n, hn⟩ : ∃ n, r[k]? = some n := ⟨_, List.getElem?_eq_getElem (by omega)⟩
    have hl := text_len t n (h k t n (Nat.lt_succ_self k) ht hn)
    have := ih (fun j t' n' hj => h j t' n' (by omega)) (by omega) (by omega)
    rw [textTo_next ht hn]
    split
    · simp; omega
    · simp; omega
theorem may_fits {t n : Int} (h : mayM t n = true) : fitsM n = true := by
  unfold mayM at h
  simp only [Bool.or_eq_true, Bool.and_eq_true, decide_eq_true_eq] at h
  rcases h with ⟨-, h⟩ | ⟨-, h⟩
  · exact h
  · rcases h with rfl | rfl <;> decide
theorem flat_next {ts : List Int} {rows : List (List Int)} {i : Nat} {r : List Int} (h : rows[i]? = some r) : (rows.take (i + 1)).flatMap (lineM ts) = (rows.take i).flatMap (lineM ts) ++ lineM ts r := by
  rw [List.take_add_one, h]; simp
theorem all_next {ts : List Int} {rows : List (List Int)} {i : Nat} {r : List Int} (h : rows[i]? = some r) (h1 : (rows.take i).all (okRowM ts) = true) (h2 : okRowM ts r = true) : (rows.take (i + 1)).all (okRowM ts) = true := by
  rw [List.take_add_one, h, List.all_append, h1]; simpa using h2
theorem bs_32 : (⟨#[32]⟩ : ByteArray) = bs [32] := rfl
theorem bs_10 : (⟨#[10]⟩ : ByteArray) = bs [10] := rfl
theorem kind_snoc {ts : List Int} {k : Nat} {t : Int} (h : ts[k]? = some t) (h1 : (ts.take k).all kindM = true) (h2 : kindM t = true) : (ts.take (k + 1)).all kindM = true := by
  rw [List.take_add_one, h, List.all_append, h1]; simpa using h2

set_option maxRecDepth 100000 in
set_option maxHeartbeats 8000000 in
theorem dwrite_any (w : World) (tv rv : Value) (ts : List Int) (rows : List (List Int)) (ht : Ints w tv ts) (hr : RowsR w rv rows) (hR : rows.length ≤ 1000) :
    Calls Tryd.prog 14 #[tv, rv] w (WPost (writeM ts rows) w) := by
  obtain ⟨A, c, rfl, z1, z2⟩ := ints_form ht
  obtain ⟨RA, rc, rfl, y1, y2⟩ := hr.form
  have HT := Lib.hid ht
  have HRW := Lib.hid hr
  obtain ⟨n, hn⟩ : ∃ n, ts.length = n := ⟨_, rfl⟩
  obtain ⟨m, hm⟩ : ∃ n, rows.length = n := ⟨_, rfl⟩
  rw [hn] at HT z1 ⊢
  rw [hm] at HRW y1 hR ⊢
  have HN := Lib.hid hn
  have HM := Lib.hid hm
  unfold maxLen at z2 y2
  clear ht hr hn hm
  by_cases h200 : 200 < n
  · have HW := Lib.hid (write_many (ts := ts) (rows := rows) (by rw [HN.out]; exact h200))
    go_enter Tryd.func14, Tryd.ntmps14
    go_wp2
    refine bodyPost_ret (v := .tuple #[.string ⟨#[]⟩, .int .i64 1]) (by simp [results, Tryd.results14, go_sem]) rfl ⟨Below.refl _ _, .inl ⟨HW.out, rfl⟩⟩
  have hn2 : ¬ (200 : Int) < (n : Int) := by omega
  go_enter Tryd.func14, Tryd.ntmps14
  go_wp2
  go_loopw [6] (fun vi wr => ∃ k : Nat, k ≤ n ∧ vi = .int .i64 (k : Int) ∧ wr = w ∧ (ts.take k).all kindM = true) (fun vi _ => n - (intOf vi).toNat)
  case atStart => exact ⟨0, Nat.zero_le _, rfl, rfl, by simp⟩
  case round =>
    obtain ⟨k, hk, rfl, hwr, ha⟩ := hrel
    subst hwr
    have HA := Lib.hid ha
    clear ha
    by_cases hkn : k < n
    · obtain ⟨t, htk⟩ : ∃ t, ts[k]? = some t := ⟨_, List.getElem?_eq_getElem (by rw [HN.out]; exact hkn)⟩
      obtain ⟨g, o, rfl, hg, a0⟩ := ints_at HT.out htk
      have HTK := Lib.hid htk
      clear htk
      by_cases h1 : t = 1
      · subst h1
        have HA2 := Lib.hid (kind_snoc HTK.out HA.out (by decide))
        go_wp2
        refine ⟨⟨k + 1, by omega, by go_num, by first | rfl | trivial, HA2.out⟩, by first | (simp [intOf]; done) | (simp [intOf]; omega)⟩
      · have hb1 : (t != 1) = true := bne_iff_ne.2 h1
        by_cases h2 : t = 2
        · subst h2
          have HA2 := Lib.hid (kind_snoc HTK.out HA.out (by decide))
          go_wp2
          refine ⟨⟨k + 1, by omega, by go_num, by first | rfl | trivial, HA2.out⟩, by first | (simp [intOf]; done) | (simp [intOf]; omega)⟩
        · have hb2 : (t != 2) = true := bne_iff_ne.2 h2
          have HW := Lib.hid (write_kind (rows := rows) HTK.out (by unfold kindM; simp [h1, h2]))
          clear h1 h2
          go_wp2
          refine bodyPost_ret (v := .tuple #[.string ⟨#[]⟩, .int .i64 1]) (by simp [results, Tryd.results14, go_sem]) rfl ⟨Below.refl _ _, .inl ⟨HW.out, rfl⟩⟩
    · obtain rfl : k = n := by omega
      have HKA : Hid (ts.all kindM = true) := Lib.hid (by have := HA.out; rw [List.take_of_length_le (by rw [HN.out]; exact Nat.le_refl _)] at this; exact this)
      obtain ⟨w0, hw0⟩ : ∃ W, W = wr := ⟨_, rfl⟩
      subst hw0
      go_wp2
      go_loopw [7, 8] (fun vs vi wx => ∃ i : Nat, i ≤ m ∧ vi = .int .i64 (i : Int) ∧ vs = .string (bs ((rows.take i).flatMap (lineM ts))) ∧ (rows.take i).all (okRowM ts) = true ∧ Below w0.heap.size w0 wx) (fun _ vi _ => m - (intOf vi).toNat)
      case atStart => exact ⟨0, Nat.zero_le _, rfl, rfl, by simp, Below.refl _ _⟩
      case round =>
        obtain ⟨i, hi, rfl, rfl, hall, hb⟩ := hrel
        have HAL := Lib.hid hall
        have HB := Lib.hid hb
        have hPl := written_len ts (rows.take i) hall
        rw [HN.out, List.length_take, HM.out, Nat.min_eq_left hi] at hPl
        obtain ⟨P, hP⟩ : ∃ P, (rows.take i).flatMap (lineM ts) = P := ⟨_, rfl⟩
        rw [hP] at hPl ⊢
        have hPl2 : P.length ≤ 2500000 := by
          have : i * (k * 12 + 1) ≤ 1000 * (200 * 12 + 1) := Nat.mul_le_mul (by omega) (by omega)
          omega
        have HP := Lib.hid hP
        clear hall hb hPl hP
        by_cases him : i < m
        · obtain ⟨r, hri⟩ : ∃ r, rows[i]? = some r := ⟨_, List.getElem?_eq_getElem (by rw [HM.out]; exact him)⟩
          obtain ⟨g2, o2, RB, rd, rfl, hg2, e0, x1, x2, hI⟩ := (HRW.out.below HB.out (Nat.le_refl _)).at hri
          have HRI := Lib.hid hri
          have HI := Lib.hid hI
          have HTr := Lib.hid (HT.out.below HB.out (Nat.le_refl _))
          obtain ⟨nr, hnr⟩ : ∃ nr, r.length = nr := ⟨_, rfl⟩
          rw [hnr] at e0 x1 HI
          have HNR := Lib.hid hnr
          unfold maxLen at x2
          clear hri hI hnr
          by_cases hne : nr = k
          · have hle : ((nr : Int) != (k : Int)) = false := by simp [hne]
            subst hne
            obtain ⟨wm, hwm⟩ : ∃ W, W = wr := ⟨_, rfl⟩
            subst hwm
            go_wp2
            go_loopw [7, 9] (fun vs vj wx => ∃ j : Nat, j ≤ nr ∧ vj = .int .i64 (j : Int) ∧ vs = .string (bs (P ++ textTo ts r j)) ∧ OkTo ts r j ∧ Below wm.heap.size wm wx) (fun _ vj _ => nr - (intOf vj).toNat)
            case atStart => exact ⟨0, Nat.zero_le _, rfl, by rw [textTo_zero, List.append_nil], OkTo.start _ _, Below.refl _ _⟩
            case round =>
              obtain ⟨j, hj, rfl, rfl, hok, hbj⟩ := hrel
              have HOK := Lib.hid hok
              have HBJ := Lib.hid hbj
              have htl := textTo_len hok (by rw [HN.out]; exact hj) (by rw [HNR.out]; exact hj)
              have hwl := hbj.size
              by_cases hjn : j < nr
              · obtain ⟨t, htj⟩ : ∃ t, ts[j]? = some t := ⟨_, List.getElem?_eq_getElem (by rw [HN.out]; exact hjn)⟩
                obtain ⟨y, hyj⟩ : ∃ y, r[j]? = some y := ⟨_, List.getElem?_eq_getElem (by rw [HNR.out]; exact hjn)⟩
                obtain ⟨g, o, rfl, hg, a0⟩ := ints_at (HTr.out.below hbj (Nat.le_refl _)) htj
                obtain ⟨g3, o3, rfl, hg3, b0⟩ := ints_at (HI.out.below hbj (Nat.le_refl _)) hyj
                have e1 : wr.cell? ⟨g2, o2 + i, none⟩ = some (.slice (some ⟨g3, o3, none⟩) nr rd) := (hbj.cell hg2).trans e0
                have hg2r : g2 < wr.heap.size := by omega
                have hgr : g < wr.heap.size := hg
                have hg3r : g3 < wr.heap.size := hg3
                have HTJ := Lib.hid htj
                have HYJ := Lib.hid hyj
                have HKS : Hid (∀ W, Below wr.heap.size wr W → W.cell? ⟨g, o + j, none⟩ = some (.int .i64 t) ∧ W.cell? ⟨g2, o2 + i, none⟩ = some (.slice (some ⟨g3, o3, none⟩) nr rd) ∧ W.cell? ⟨g3, o3 + j, none⟩ = some (.int .i64 y)) := Lib.hid (fun W hW => ⟨(hW.cell hgr).trans a0, (hW.cell hg2r).trans e1, (hW.cell hg3r).trans b0⟩)
                have HBcur : Hid (Below wr.heap.size wr wr.drew) := Lib.hid (Below.refl _ _).drew
                obtain ⟨T, hT⟩ : ∃ T, P ++ textTo ts r j = T := ⟨_, rfl⟩
                have hTl : T.length ≤ 2510000 := by rw [← hT, List.length_append]; omega
                have HT0 := Lib.hid hT
                rw [hT]
                obtain ⟨mb, hmb⟩ : ∃ b, mayM t y = b := ⟨_, rfl⟩
                have HMB := Lib.hid hmb
                have HMC : Hid (∀ Z, Calls Tryd.prog 26 #[.int .i64 t, .int .i64 y] Z (fun e w' => e = .returned (.bool mb) ∧ Below Z.heap.size Z w')) := Lib.hid (fun Z => (dmay_any Z t y).mono (by rintro e w' ⟨rfl, rfl⟩; rw [hmb]; exact ⟨rfl, Below.refl _ _⟩))
                clear htj hyj a0 b0 e1 hok hbj hT hmb
                go_wp2
                go_region_held3 (fun W => W.cell? ⟨g, o + j, none⟩ = some (.int .i64 t) ∧ W.cell? ⟨g2, o2 + i, none⟩ = some (.slice (some ⟨g3, o3, none⟩) nr rd) ∧ W.cell? ⟨g3, o3 + j, none⟩ = some (.int .i64 y))
                  (exact HKS.out _ HBcur.out)
                  (first | (go_at_call 26; with_reducible refine (HMC.out _).mono ?_; rintro e z1 ⟨rfl, hbz⟩; have HBcur := Lib.hid (HBcur.out.trans (hbz.mono HBcur.out.size)); clear hbz))
                all_goals
                  have HBz := HBcur
                  have hzs := HBz.out.size
                  cases mb with
                  | false =>
                    have HW := Lib.hid (write_bad HRI.out (okRow_no (fun h => by have := h.2 j t y HTJ.out HYJ.out; rw [HMB.out] at this; cases this)))
                    have HBB : Hid (Below w0.heap.size w0 z1) := Lib.hid (HB.out.trans ((HBJ.out.trans (HBz.out.mono hwl)).mono HB.out.size))
                    go_wp2
                    refine bodyPost_ret (v := .tuple #[.string ⟨#[]⟩, .int .i64 1]) (by simp [results, Tryd.results14, go_sem]) rfl ⟨HBB.out, .inl ⟨HW.out, rfl⟩⟩
                  | true =>
                    have HNX := Lib.hid (textTo_next HTJ.out HYJ.out)
                    have HOK2 := Lib.hid (HOK.out.next HTJ.out HYJ.out HMB.out)
                    have HTC : Hid (∀ Z, Calls Tryd.prog 27 #[.int .i64 t, .int .i64 y] Z (fun e w' => e = .returned (.string (bs (textM t y))) ∧ Below Z.heap.size Z w')) := Lib.hid (fun Z => dtext_any Z t y (may_fits HMB.out))
                    have htxl := text_len t y HMB.out
                    obtain ⟨X, hX⟩ : ∃ X, textM t y = X := ⟨_, rfl⟩
                    rw [hX] at HNX HTC htxl
                    clear hX
                    by_cases hj0 : j = 0
                    · have HE : Hid (P ++ textTo ts r (j + 1) = T ++ X) := Lib.hid (by rw [HNX.out, if_pos hj0, ← HT0.out, hj0, textTo_zero]; simp)
                      have hj1 : ¬ (0 : Int) < (j : Int) := by omega
                      clear hj0
                      have hsz : (bs T).size + (bs X).size ≤ 9223372036854775807 := by rw [bs_size, bs_size]; omega
                      have hszF : (9223372036854775807 < (bs T).size + (bs X).size) = False := eq_false (by omega)
                      have hrun : ∀ w1, (binOp .add 9 (.string (bs T)) (.string (bs X))).run Tryd.prog w1 = .ok (.string (bs T ++ bs X)) w1 := fun w1 => by rw [bs_app]; exact add_bs T X w1 (by omega)
                      have HBd : Hid (Below wr.heap.size wr z1.drew) := Lib.hid HBz.out.drew
                      go_wp2
                      have HBcur := HBd
                      go_region_held3 (fun W => W.cell? ⟨g, o + j, none⟩ = some (.int .i64 t) ∧ W.cell? ⟨g2, o2 + i, none⟩ = some (.slice (some ⟨g3, o3, none⟩) nr rd) ∧ W.cell? ⟨g3, o3 + j, none⟩ = some (.int .i64 y))
                        (exact HKS.out _ HBcur.out)
                        (first | (go_at_call 27; with_reducible refine (HTC.out _).mono ?_; rintro e z2 ⟨rfl, hbz⟩; have HBcur := Lib.hid (HBcur.out.trans (hbz.mono HBcur.out.size)); clear hbz))
                      all_goals
                        have HBB : Hid (Below wm.heap.size wm z2) := Lib.hid (HBJ.out.trans (HBcur.out.mono hwl))
                        go_wp2
                        go_roundw
                        case rel => exact ⟨j + 1, by omega, by go_num, by rw [HE.out, ← bs_app], HOK2.out, HBB.out⟩
                        case measure => simp [intOf]; omega
                    · have hj1 : (0 : Int) < (j : Int) := by omega
                      have HE : Hid (P ++ textTo ts r (j + 1) = (T ++ [32]) ++ X) := Lib.hid (by rw [HNX.out, if_neg hj0, ← HT0.out]; simp)
                      have hsz0 : (bs T).size + (⟨#[32]⟩ : ByteArray).size ≤ 9223372036854775807 := by rw [bs_size]; show _ + 1 ≤ _; omega
                      obtain ⟨U, hU⟩ : ∃ U, bs T ++ (⟨#[32]⟩ : ByteArray) = U := ⟨_, rfl⟩
                      have HU : Hid (bs (T ++ [32]) = U) := Lib.hid (by rw [← hU, bs_32, bs_app])
                      have hsz : U.size + (bs X).size ≤ 9223372036854775807 := by rw [← HU.out, bs_size, bs_size]; simp; omega
                      have hszF : (9223372036854775807 < U.size + (bs X).size) = False := eq_false (by omega)
                      have hrun : ∀ w1, (binOp .add 9 (.string U) (.string (bs X))).run Tryd.prog w1 = .ok (.string (U ++ bs X)) w1 := fun w1 => by rw [← HU.out, bs_app]; exact add_bs (T ++ [32]) X w1 (by simp; omega)
                      have HBd : Hid (Below wr.heap.size wr z1.drew) := Lib.hid HBz.out.drew
                      go_wp2
                      have HBcur := HBd
                      go_region_held3 (fun W => W.cell? ⟨g, o + j, none⟩ = some (.int .i64 t) ∧ W.cell? ⟨g2, o2 + i, none⟩ = some (.slice (some ⟨g3, o3, none⟩) nr rd) ∧ W.cell? ⟨g3, o3 + j, none⟩ = some (.int .i64 y))
                        (exact HKS.out _ HBcur.out)
                        (first | (go_at_call 27; with_reducible refine (HTC.out _).mono ?_; rintro e z2 ⟨rfl, hbz⟩; have HBcur := Lib.hid (HBcur.out.trans (hbz.mono HBcur.out.size)); clear hbz))
                      all_goals
                        have HBB : Hid (Below wm.heap.size wm z2) := Lib.hid (HBJ.out.trans (HBcur.out.mono hwl))
                        go_wp2
                        go_roundw
                        case rel => exact ⟨j + 1, by omega, by go_num, by rw [HE.out, ← bs_app, HU.out], HOK2.out, HBB.out⟩
                        case measure => simp [intOf]; omega
              · obtain rfl : j = nr := by omega
                have hrow := hok.row HN.out HNR.out
                have HAL2 := Lib.hid (all_next HRI.out HAL.out hrow)
                have HFN : Hid ((rows.take (i + 1)).flatMap (lineM ts) = (P ++ textTo ts r j) ++ [10]) := Lib.hid (by rw [flat_next HRI.out, HP.out, ← textTo_all HN.out HNR.out]; simp)
                obtain ⟨T, hT⟩ : ∃ T, P ++ textTo ts r j = T := ⟨_, rfl⟩
                have hTl : T.length ≤ 2510000 := by rw [← hT, List.length_append]; omega
                rw [hT] at HFN ⊢
                have hadd : ∀ w1, (binOp .add 9 (.string (bs T)) (.string ⟨#[10]⟩)).run Tryd.prog w1 = .ok (.string (bs (T ++ [10]))) w1 := fun w1 => add_bs T [10] w1 (by simp; omega)
                have hsz0 : (bs T).size + (⟨#[10]⟩ : ByteArray).size ≤ 9223372036854775807 := by rw [bs_size]; show _ + 1 ≤ _; omega
                have HBB : Hid (Below w0.heap.size w0 wr) := Lib.hid (HB.out.trans (HBJ.out.mono HB.out.size))
                clear hok hbj hrow hT
                go_wp2
                go_roundw
                case rel => exact ⟨i + 1, by omega, by go_num, by rw [HFN.out, ← bs_app]; rfl, HAL2.out, HBB.out⟩
                case measure => simp [intOf]; omega
          · have hle : ((nr : Int) != (k : Int)) = true := by rw [bne_iff_ne]; omega
            have HW := Lib.hid (write_bad (ts := ts) HRI.out (okRow_no (ts := ts) (r := r) (fun h => hne (by have := h.1; have q1 := HNR.out; have q2 := HN.out; omega))))
            go_wp2
            refine bodyPost_ret (v := .tuple #[.string ⟨#[]⟩, .int .i64 1]) (by simp [results, Tryd.results14, go_sem]) rfl ⟨HB.out, .inl ⟨HW.out, rfl⟩⟩
        · obtain rfl : i = m := by omega
          have HW : Hid (writeM ts rows = some P) := Lib.hid (by
            have h1 := HAL.out
            have h2 := HP.out
            rw [List.take_of_length_le (by rw [HM.out]; exact Nat.le_refl _)] at h1 h2
            rw [write_all (by rw [HN.out]; exact h200) HKA.out h1, h2])
          go_wp2
          refine bodyPost_ret (v := .tuple #[.string (bs P), .int .i64 0]) (by simp [results, Tryd.results14, go_sem]) rfl ⟨HB.out, .inr ⟨P, HW.out, rfl⟩⟩
end Go.Proofs.YtgngdkbcndldfaaDoor.Fr
