/- Contracts of the small functions of the document's reader of programs. Conditions: a reader lies in memory. -/
import Derived.Test.YtdebhngpgabglaaGreatRa08
import Derived.BigQuiet
set_option linter.unusedVariables false
set_option linter.unusedSimpArgs false
namespace Go.Proofs.YtdebhngpgabglaaGreat.Rp
open Go.ChangeShapes Go.WideShapes Go.ChangeAt Go.RowKit
open Go.Proofs.YtdebhngpgabglaaGreat.Ex
open Go.Proofs.YtdebhngpgabglaaGreat.Tr (str ret_bool ret_int Bytes Nd)
open Go.Proofs.YtdebhngpgabglaaGreat.Pg
set_option maxHeartbeats 800000 in
theorem ok_any (b : Nat) (r : Rd) (w : World) (hr : RdIn w b r) : Calls Tryz.prog 36 #[.pointer (some ⟨b, 0, none⟩)] w (fun e w' => e = .returned (.bool (r.code == 0)) ∧ w = w') := by
 obtain ⟨L, lv, i, c, a, hat⟩ := hr
 have c2 : w.cell? ⟨b, 2, none⟩ = some (.int .i64 c) := rp_cell hat.blk 2
 have HC : Hid ((r.code == 0) = (c == 0)) := Lib.hid (by
  rcases hat.st with ⟨h1, h2, _⟩ | ⟨h1, h2, _⟩
  · rw [h1, h2]
  · rw [h2])
 rw [HC.out]
 clear hat HC
 go_enter Tryz.func36, Tryz.ntmps36
 go_wp2
 go_ret
 exact ⟨rfl, rfl⟩
theorem ok_lit {b : Nat} {r : Rd} {w : World} {B : Bool} (hr : RdIn w b r) (h : (r.code == 0) = B) : Calls Tryz.prog 36 #[.pointer (some ⟨b, 0, none⟩)] w (fun e w' => e = .returned (.bool B) ∧ w = w') := by
 subst h; exact ok_any b r w hr
theorem RdIn.drewN {w : World} {b : Nat} {r : Rd} (h : RdIn w b r) (n : Nat) : RdIn (w.drewN n) b r := h.keep (Nat.le_refl _) (fun _ _ _ => rfl) rfl
theorem ok_quiet {b : Nat} {r : Rd} {w : World} {B : Bool} (hr : RdIn w b r) (h : (r.code == 0) = B) : ∀ n, Calls Tryz.prog 36 #[.pointer (some ⟨b, 0, none⟩)] (w.drewN n) (fun e w' => e = .returned (.bool B) ∧ w' = w.drewN n) :=
 fun n => (ok_lit (hr.drewN n) h).mono fun _ _ k => ⟨k.1, k.2.symm⟩
set_option maxHeartbeats 1600000 in
theorem is_any (b : Nat) (r : Rd) (s : Bytes) (w : World) (hr : RdIn w b r) :
 Calls Tryz.prog 30 #[.pointer (some ⟨b, 0, none⟩), .string (str s)] w (fun e w' => e = .returned (.bool (r.isB s)) ∧ Below w.heap.size w w') := by
 have HR := Lib.hid hr
 obtain ⟨L, lv, i, c, a, hat⟩ := hr
 obtain ⟨A, cc, rfl, h1, h2, hA⟩ := hat.tok
 unfold maxLen at h2
 have hlt := lt_of_block hat.blk
 have hL := hat.okl.len
 have c0 : w.cell? ⟨b, 0, none⟩ = some (.slice A L.length cc) := rp_cell hat.blk 0
 have c1 : w.cell? ⟨b, 1, none⟩ = some (.int .i64 (i : Int)) := rp_cell hat.blk 1
 have c2 : w.cell? ⟨b, 2, none⟩ = some (.int .i64 c) := rp_cell hat.blk 2
 have HA := Lib.hid hA
 have hile := hat.ile
 have hst := hat.st
 have hbn : b ≠ w.heap.size := by omega
 clear hA hat
 by_cases hc : c = 0
 · have hcd : (c == 0) = true := by simp [hc]
   obtain ⟨q1, q2, q3, q4⟩ : r.code = 0 ∧ c = 0 ∧ r.l = L ∧ i = r.next := hst.resolve_right (fun h => h.1 (h.2.1 ▸ hc))
   have HOK : Hid (∀ n, Calls Tryz.prog 36 #[.pointer (some ⟨b, 0, none⟩)] (w.drewN n) (fun e w' => e = .returned (.bool true) ∧ w' = w.drewN n)) := Lib.hid (ok_quiet HR.out (by rw [q1]; rfl))
   by_cases hl : i < L.length
   · obtain ⟨t, ht⟩ : ∃ t, L[i]? = some t := ⟨_, List.getElem?_eq_getElem hl⟩
     obtain ⟨g, rfl, _, hg, e0, e1, e2⟩ := HA.out _ t ht
     have hgn : g ≠ w.heap.size := by omega
     have d1 : decide ((L.length : Int) ≤ (i : Int)) = false := decide_eq_false (by omega)
     have d1' : decide (L.length ≤ i) = false := decide_eq_false (by omega)
     have HT : Hid (r.isB s = ((t.kind == 4 || t.kind == 3) && t.text == s)) := Lib.hid (by
      have : r.cur = t := by unfold Rd.cur; rw [q3, ← q4, ht]; rfl
      unfold Rd.isB Rd.ws; rw [this, q3, ← q4, Bool.or_comm]; simp [hl])
     rw [HT.out]
     clear ht hst q1 q2 q3 q4
     obtain ⟨K, T, P⟩ := t
     simp only at e0 e1 e2 ⊢
     have hts : ((str T).toList == (str s).toList) = (T == s) := by rw [Tr.str_toList, Tr.str_toList]
     clear HT hc
     rcases Bool.eq_false_or_eq_true (K == 4) with h4 | h4
     all_goals rcases Bool.eq_false_or_eq_true (K == 3) with h3 | h3
     all_goals rcases Bool.eq_false_or_eq_true (T == s) with h5 | h5
     all_goals
      rw [h4, h3, h5]
      rw [h5] at hts
      go_enter Tryz.func30, Tryz.ntmps30
      go_wp2
      go_quiet ((go_at_call 36; exact Calls.quiet_of_same (HOK.out _)))
      go_wp2
      obtain ⟨w0, hw0⟩ : ∃ w0, w.drewN nq = w0 := ⟨_, rfl⟩
      have c00 : w0.cell? ⟨b, 0, none⟩ = some (.slice (some ⟨g, 0, none⟩) L.length cc) := hw0 ▸ c0
      have c01 : w0.cell? ⟨b, 1, none⟩ = some (.int .i64 (i : Int)) := hw0 ▸ c1
      have e00 : w0.cell? ⟨g, i * 3, none⟩ = some (.int .i64 K) := hw0 ▸ e0
      have e01 : w0.cell? ⟨g, i * 3 + 1, none⟩ = some (.string (str T)) := hw0 ▸ e1
      have e02 : w0.cell? ⟨g, i * 3 + 2, none⟩ = some (.int .i64 (P : Int)) := hw0 ▸ e2
      have hz0 : w.heap.size = w0.heap.size := hw0 ▸ rfl
      have hlt0 : b < w0.heap.size := by omega
      have hg0 : g < w0.heap.size := by omega
      have hbn0 : b ≠ w0.heap.size := by omega
      have hgn0 : g ≠ w0.heap.size := by omega
      have HB0 : Hid (Below w.heap.size w w0) := Lib.hid (hw0 ▸ Tr.below_drewN (Below.refl _ _) nq)
      rw [hw0]
      clear hw0 c0 c1 c2 e0 e1 e2 hlt hg hbn hgn
      go_region
      go_wp2
      first
       | (go_ret; exact ⟨rfl, Tr.below_drewN (n := 1) (HB0.out.alloc HB0.out.size _)⟩)
       | (go_quiet (fail); go_wp2; go_ret; exact ⟨rfl, by repeat (first | exact HB0.out | refine Tr.below_drewN ?_ _ | refine Below.alloc ?_ HB0.out.size _)⟩)
   · have d1 : decide ((L.length : Int) ≤ (i : Int)) = true := decide_eq_true (by omega)
     have d1' : decide (L.length ≤ i) = true := decide_eq_true (by omega)
     have HT : Hid (r.isB s = false) := Lib.hid (by unfold Rd.isB Rd.ws; rw [q3, ← q4]; simp [hl])
     rw [HT.out]
     clear HT hst q1 q2 q3 q4 hc
     go_enter Tryz.func30, Tryz.ntmps30
     go_wp2
     go_quiet ((go_at_call 36; exact Calls.quiet_of_same (HOK.out _)))
     go_wp2
     go_ret
     exact ⟨rfl, Tr.below_drewN (Below.refl _ _) _⟩
 · obtain ⟨q1, q2, q3, q4⟩ := hst.resolve_left (fun h => hc h.2.1)
   have HOK : Hid (∀ n, Calls Tryz.prog 36 #[.pointer (some ⟨b, 0, none⟩)] (w.drewN n) (fun e w' => e = .returned (.bool false) ∧ w' = w.drewN n)) := Lib.hid (ok_quiet HR.out (by simpa using q1))
   have HT : Hid (r.isB s = false) := Lib.hid (by unfold Rd.isB Rd.ws; rw [q4]; simp)
   rw [HT.out]
   clear HT hst q1 q2 q3 q4
   go_enter Tryz.func30, Tryz.ntmps30
   go_wp2
   go_quiet ((go_at_call 36; exact Calls.quiet_of_same (HOK.out _)))
   go_wp2
   go_ret
   exact ⟨rfl, Tr.below_drewN (Below.refl _ _) _⟩
theorem is_lit {b : Nat} {r : Rd} {s : Bytes} {S : ByteArray} {B : Bool} {w : World} (hS : S = str s) (hr : RdIn w b r) (h : r.isB s = B) : Calls Tryz.prog 30 #[.pointer (some ⟨b, 0, none⟩), .string S] w (fun e w' => e = .returned (.bool B) ∧ Below w.heap.size w w') := by
 subst hS; subst h; exact is_any b r s w hr
def BoolG (w : World) (b : Nat) (B : Bool) (r' : Rd) (e : Ending) (w' : World) : Prop := e = .returned (.bool B) ∧ RdBy w w' b r'
theorem isB_in {r : Rd} {s : Bytes} (h : r.isB s = true) : r.next < r.l.length := by
 unfold Rd.isB Rd.ws at h; simp at h; exact h.1.1
theorem RdIn.alive {w : World} {b : Nat} {r : Rd} (h : RdIn w b r) (hl : r.next < r.l.length) : r.code = 0 := by
 apply Classical.byContradiction; intro hc
 have := h.fine hc; rw [this] at hl; simp at hl
set_option maxHeartbeats 1600000 in
theorem take_any (b : Nat) (r : Rd) (s : Bytes) (w : World) (hr : RdIn w b r) :
 Calls Tryz.prog 35 #[.pointer (some ⟨b, 0, none⟩), .string (str s)] w (BoolG w b (takeQ s r).1 (takeQ s r).2) := by
 have HR := Lib.hid hr
 have HC := Lib.hid (is_any b r s w hr)
 have hlt := hr.lt
 obtain ⟨B, hB⟩ : ∃ B, r.isB s = B := ⟨_, rfl⟩
 have HB := Lib.hid hB
 have HT := Lib.hid (show takeQ s r = if B then (true, r.adv) else (false, r) by unfold takeQ; rw [hB])
 rw [hB] at HC
 rw [HT.out]
 clear hr hB
 cases B with
 | false =>
  go_enter Tryz.func35, Tryz.ntmps35
  go_wp2_with fail
  refine HC.out.mono ?_
  rintro e w1 ⟨rfl, hb⟩
  have HBL := Lib.hid hb
  clear hb
  go_wp2
  go_ret
  exact ⟨rfl, RdBy.of_below HR.out HBL.out⟩
 | true =>
  have hil := isB_in HB.out
  have hc0 := HR.out.alive hil
  go_enter Tryz.func35, Tryz.ntmps35
  go_wp2_with fail
  refine HC.out.mono ?_
  rintro e w1 ⟨rfl, hb⟩
  have hr1 := HR.out.below hb
  have HBL := Lib.hid hb
  obtain ⟨L, lv, i, c, a, hat⟩ := hr1
  have HAT := Lib.hid hat
  have hL := hat.okl.len
  have hil2 : i < L.length := by
   rcases hat.st with ⟨_, _, h3, h4⟩ | ⟨h1, _⟩
   · rw [h4, ← h3]; exact hil
   · exact absurd hc0 h1
  have c1 : w1.cell? ⟨b, 1, none⟩ = some (.int .i64 (i : Int)) := rp_cell hat.blk 1
  have f1 : w1.frozen? ⟨b, 1, none⟩ = false := rp_free hat.blk 1
  clear hb hat hil
  go_wp2
  go_ret
  exact ⟨rfl, RdBy.below HBL.out hlt (HAT.out.setI hc0 hil2)⟩
set_option maxHeartbeats 1600000 in
theorem fail_any (b : Nat) (r : Rd) (e : Int) (he : e ≠ 0) (w : World) (hr : RdIn w b r) : Calls Tryz.prog 37 #[.pointer (some ⟨b, 0, none⟩), .int .i64 e] w (fun x w' => x = .returned (.tuple #[]) ∧ RdBy w w' b (r.fail e)) := by
 have HR := Lib.hid hr
 have hlt := hr.lt
 obtain ⟨L, lv, i, c, a, hat⟩ := hr
 have HAT := Lib.hid hat
 obtain ⟨A, cc, rfl, h1, h2, hA⟩ := hat.tok
 unfold maxLen at h2
 have HTK := Lib.hid hat.tok
 have hil := hat.ile
 have hL := hat.okl.len
 have c0 : w.cell? ⟨b, 0, none⟩ = some (.slice A L.length cc) := rp_cell hat.blk 0
 have c1 : w.cell? ⟨b, 1, none⟩ = some (.int .i64 (i : Int)) := rp_cell hat.blk 1
 have c2 : w.cell? ⟨b, 2, none⟩ = some (.int .i64 c) := rp_cell hat.blk 2
 have c3 : w.cell? ⟨b, 3, none⟩ = some (.int .i64 a) := rp_cell hat.blk 3
 have f2 : w.frozen? ⟨b, 2, none⟩ = false := rp_free hat.blk 2
 have f3 : w.frozen? ⟨b, 3, none⟩ = false := rp_free hat.blk 3
 clear hat hA
 by_cases h0 : r.code = 0
 · have HOK : Hid (Calls Tryz.prog 36 #[.pointer (some ⟨b, 0, none⟩)] w (fun e w' => e = .returned (.bool true) ∧ w = w')) := Lib.hid (ok_lit HR.out (by rw [h0]; rfl))
   have HE : Hid (RdBy w ((w.setCell ⟨b, 2, none⟩ (.int .i64 e)).setCell ⟨b, 3, none⟩ (.int .i64 (atM L i))) b (r.fail e)) := Lib.hid (by
    obtain ⟨q1, q2, q3, q4⟩ := HAT.out.st.resolve_right (fun h => h.1 h0)
    have hf : r.fail e = Pg.Rd.stop e (atM L i) r := by unfold Rd.fail Pg.Rd.stop; rw [if_pos q1, if_pos q1, q3, q4]
    rw [hf]
    exact HAT.out.setF h0 e _ he)
   clear h0
   go_enter Tryz.func37, Tryz.ntmps37
   go_wp2_with fail
   refine HOK.out.mono ?_
   rintro x w1 ⟨rfl, rfl⟩
   go_wp2
   go_region_with ((go_at_call 49; refine (Rf.rat_any _ L b _ _ (Rf.TokOff.drew HTK.out) (by omega)).mono ?_; rintro x w' ⟨rfl, rfl⟩))
   all_goals go_wp2
   all_goals go_end0
   all_goals exact ⟨rfl, HE.out.then_below (Tr.below_drewN (n := 1) (Below.refl _ _))⟩
 · have HOK : Hid (Calls Tryz.prog 36 #[.pointer (some ⟨b, 0, none⟩)] w (fun e w' => e = .returned (.bool false) ∧ w = w')) := Lib.hid (ok_lit HR.out (by simpa using h0))
   have HE : Hid (RdIn w b (r.fail e)) := Lib.hid (by
    have hf : r.fail e = ⟨[], r.next, r.begun, r.code, r.at_⟩ := by unfold Rd.fail; rw [if_neg h0]
    rw [hf]
    exact HR.out.dead h0 rfl rfl rfl)
   clear h0
   go_enter Tryz.func37, Tryz.ntmps37
   go_wp2_with fail
   refine HOK.out.mono ?_
   rintro x w1 ⟨rfl, rfl⟩
   go_wp2
   go_end0
   exact ⟨rfl, RdBy.refl HE.out⟩
theorem take_lit {b : Nat} {r : Rd} {s : Bytes} {S : ByteArray} {w : World} (hS : S = str s) (hr : RdIn w b r) {B : Bool} {r' : Rd} (h : takeQ s r = (B, r')) : Calls Tryz.prog 35 #[.pointer (some ⟨b, 0, none⟩), .string S] w (BoolG w b B r') := by
 subst hS
 have := take_any b r s w hr
 rw [h] at this; exact this
set_option maxHeartbeats 800000 in
theorem need_any (b : Nat) (r : Rd) (s : Bytes) (S : ByteArray) (hS : S = str s) (w : World) (hr : RdIn w b r) :
 Calls Tryz.prog 33 #[.pointer (some ⟨b, 0, none⟩), .string S] w (fun e w' => e = .returned (.tuple #[]) ∧ RdBy w w' b (r.need s)) := by
 subst hS
 have HR := Lib.hid hr
 have HN := Lib.hid (show r.need s = if r.isB s then r.adv else r.fail 5 from rfl)
 rw [HN.out]
 obtain ⟨B, hB⟩ : ∃ B, r.isB s = B := ⟨_, rfl⟩
 have HC : Hid (Calls Tryz.prog 35 #[.pointer (some ⟨b, 0, none⟩), .string (str s)] w (BoolG w b B (if B then r.adv else r))) := Lib.hid (take_lit rfl hr (by unfold takeQ; rw [hB]; cases B <;> rfl))
 rw [hB]
 clear hB hr HN
 cases B with
 | true =>
  go_enter Tryz.func33, Tryz.ntmps33
  go_wp2_with fail
  refine HC.out.mono ?_
  rintro e w1 ⟨rfl, hb⟩
  have HB := Lib.hid hb
  clear hb
  go_wp2
  go_end0
  exact ⟨rfl, HB.out⟩
 | false =>
  go_enter Tryz.func33, Tryz.ntmps33
  go_wp2_with fail
  refine HC.out.mono ?_
  rintro e w1 ⟨rfl, hb⟩
  have HB : Hid (RdBy w w1 b r) := Lib.hid hb
  clear hb
  go_wp2_with fail
  refine (fail_any b r 5 (by decide) _ HB.out.rd).mono ?_
  rintro e w2 ⟨rfl, ht⟩
  have HT := Lib.hid (HB.out.trans ht)
  clear ht
  go_wp2
  go_end0
  exact ⟨rfl, HT.out⟩
theorem need_lit {b : Nat} {r : Rd} {s : Bytes} {S : ByteArray} {w : World} (hS : S = str s) (hr : RdIn w b r) {r' : Rd} (h : (needQ s r).2 = r') : Calls Tryz.prog 33 #[.pointer (some ⟨b, 0, none⟩), .string S] w (fun e w' => e = .returned (.tuple #[]) ∧ RdBy w w' b r') := by
 subst h; exact need_any b r s S hS w hr
set_option maxHeartbeats 800000 in
theorem named_any (b : Nat) (r : Rd) (w : World) (hr : RdIn w b r) : Calls Tryz.prog 56 #[.pointer (some ⟨b, 0, none⟩)] w (fun e w' => e = .returned (.bool (atNameB r)) ∧ Below w.heap.size w w') := by
 have HR := Lib.hid hr
 obtain ⟨L, lv, i, c, a, hat⟩ := hr
 obtain ⟨A, cc, rfl, h1, h2, hA⟩ := hat.tok
 unfold maxLen at h2
 have hlt := lt_of_block hat.blk
 have hL := hat.okl.len
 have c0 : w.cell? ⟨b, 0, none⟩ = some (.slice A L.length cc) := rp_cell hat.blk 0
 have c1 : w.cell? ⟨b, 1, none⟩ = some (.int .i64 (i : Int)) := rp_cell hat.blk 1
 have HA := Lib.hid hA
 have hile := hat.ile
 have hst := hat.st
 clear hA hat
 by_cases hc : r.code = 0
 · obtain ⟨q1, q2, q3, q4⟩ : r.code = 0 ∧ c = 0 ∧ r.l = L ∧ i = r.next := hst.resolve_right (fun h => h.1 hc)
   have HOK : Hid (∀ n, Calls Tryz.prog 36 #[.pointer (some ⟨b, 0, none⟩)] (w.drewN n) (fun e w' => e = .returned (.bool true) ∧ w' = w.drewN n)) := Lib.hid (ok_quiet HR.out (by rw [q1]; rfl))
   by_cases hl : i < L.length
   · obtain ⟨t, ht⟩ : ∃ t, L[i]? = some t := ⟨_, List.getElem?_eq_getElem hl⟩
     obtain ⟨g, rfl, _, hg, e0, e1, e2⟩ := HA.out _ t ht
     have d1 : decide ((i : Int) < (L.length : Int)) = true := decide_eq_true (by omega)
     have d1' : decide (i < L.length) = true := decide_eq_true (by omega)
     have HT : Hid (atNameB r = (t.kind == 1)) := Lib.hid (by
      have : r.cur = t := by unfold Rd.cur; rw [q3, ← q4, ht]; rfl
      unfold atNameB; rw [this, q3, ← q4]; simp [hl])
     rw [HT.out]
     clear ht hst q1 q2 q3 q4 HT hc
     obtain ⟨K, T, P⟩ := t
     simp only at e0 e1 e2 ⊢
     rcases Bool.eq_false_or_eq_true (K == 1) with h4 | h4
     all_goals
      rw [h4]
      go_enter Tryz.func56, Tryz.ntmps56
      go_wp2
      go_quiet ((go_at_call 36; exact Calls.quiet_of_same (HOK.out _)))
      go_wp2
      go_ret
      exact ⟨rfl, by repeat (first | exact Below.refl _ _ | refine Tr.below_drewN ?_ _)⟩
   · have d1 : decide ((i : Int) < (L.length : Int)) = false := decide_eq_false (by omega)
     have d1' : decide (i < L.length) = false := decide_eq_false (by omega)
     have HT : Hid (atNameB r = false) := Lib.hid (by unfold atNameB; rw [q3, ← q4]; simp [hl])
     rw [HT.out]
     clear HT hst q1 q2 q3 q4 hc
     go_enter Tryz.func56, Tryz.ntmps56
     go_wp2
     go_quiet ((go_at_call 36; exact Calls.quiet_of_same (HOK.out _)))
     go_wp2
     go_ret
     exact ⟨rfl, by repeat (first | exact Below.refl _ _ | refine Tr.below_drewN ?_ _)⟩
 · obtain ⟨q1, q2, q3, q4⟩ := hst.resolve_left (fun h => hc h.1)
   have HOK : Hid (∀ n, Calls Tryz.prog 36 #[.pointer (some ⟨b, 0, none⟩)] (w.drewN n) (fun e w' => e = .returned (.bool false) ∧ w' = w.drewN n)) := Lib.hid (ok_quiet HR.out (by simpa using q1))
   have HT : Hid (atNameB r = false) := Lib.hid (by unfold atNameB; rw [q4]; simp)
   rw [HT.out]
   clear HT hst q1 q2 q3 q4
   go_enter Tryz.func56, Tryz.ntmps56
   go_wp2
   go_quiet ((go_at_call 36; exact Calls.quiet_of_same (HOK.out _)))
   go_wp2
   go_ret
   exact ⟨rfl, Tr.below_drewN (Below.refl _ _) _⟩
theorem named_lit {b : Nat} {r : Rd} {B : Bool} {w : World} (hr : RdIn w b r) (h : atNameB r = B) : Calls Tryz.prog 56 #[.pointer (some ⟨b, 0, none⟩)] w (fun e w' => e = .returned (.bool B) ∧ Below w.heap.size w w') := by
 subst h; exact named_any b r w hr
def StrG (w : World) (b : Nat) (x : Bytes × Rd) (e : Ending) (w' : World) : Prop := e = .returned (.string (str x.1)) ∧ RdBy w w' b x.2
set_option maxHeartbeats 1600000 in
theorem name_any (b : Nat) (r : Rd) (w : World) (hr : RdIn w b r) : Calls Tryz.prog 34 #[.pointer (some ⟨b, 0, none⟩)] w (StrG w b (nameP r)) := by
 have HR := Lib.hid hr
 have hlt := hr.lt
 obtain ⟨B, hB⟩ : ∃ B, atNameB r = B := ⟨_, rfl⟩
 have HC := Lib.hid (named_lit hr hB)
 have HT := Lib.hid (show nameP r = if B then (txt r, r.adv) else ([], r.fail 5) by unfold nameP; rw [hB])
 have HB := Lib.hid hB
 rw [HT.out]
 clear hr hB HT
 cases B with
 | false =>
  go_enter Tryz.func34, Tryz.ntmps34
  go_wp2_with fail
  refine HC.out.mono ?_
  rintro e w1 ⟨rfl, hb⟩
  have HBL := Lib.hid hb
  clear hb
  go_wp2_with fail
  refine (fail_any b r 5 (by decide) _ (HR.out.below HBL.out)).mono ?_
  rintro e w2 ⟨rfl, ht⟩
  have HT := Lib.hid (RdBy.below HBL.out hlt ht)
  clear ht
  go_wp2
  go_ret
  exact ⟨rfl, HT.out⟩
 | true =>
  have hil : r.next < r.l.length := by have := HB.out; unfold atNameB at this; simp at this; exact this.1
  have hc0 := HR.out.alive hil
  go_enter Tryz.func34, Tryz.ntmps34
  go_wp2_with fail
  refine HC.out.mono ?_
  rintro e w1 ⟨rfl, hb⟩
  have hr1 := HR.out.below hb
  have HBL := Lib.hid hb
  obtain ⟨L, lv, i, c, a, hat⟩ := hr1
  have HAT := Lib.hid hat
  have hL := hat.okl.len
  obtain ⟨A, cc, rfl, h1, h2, hA⟩ := hat.tok
  unfold maxLen at h2
  obtain ⟨q1, q2, q3, q4⟩ := hat.st.resolve_right (fun h => h.1 hc0)
  have hil2 : i < L.length := by rw [q4, ← q3]; exact hil
  obtain ⟨t, ht⟩ : ∃ t, L[i]? = some t := ⟨_, List.getElem?_eq_getElem hil2⟩
  obtain ⟨g, rfl, _, hg, e0, e1, e2⟩ := hA _ t ht
  have hlt1 := lt_of_block hat.blk
  have hgb : g < b := by assumption
  have c0 : w1.cell? ⟨b, 0, none⟩ = some (.slice (some ⟨g, 0, none⟩) L.length cc) := rp_cell hat.blk 0
  have c1 : w1.cell? ⟨b, 1, none⟩ = some (.int .i64 (i : Int)) := rp_cell hat.blk 1
  have f1 : w1.frozen? ⟨b, 1, none⟩ = false := rp_free hat.blk 1
  have hgn : g ≠ b := by omega
  have HX : Hid (txt r = t.text) := Lib.hid (by unfold txt Rd.cur; rw [q3, ← q4, ht]; rfl)
  have HE := Lib.hid (RdBy.below HBL.out hlt (HAT.out.setI hc0 hil2))
  clear hb hat hil ht q1 q2 q3 q4 hA
  obtain ⟨K, T, P⟩ := t
  simp only at e0 e1 e2 ⊢
  go_wp2
  repeat (first | (go_quiet (fail); go_wp2) | (go_region; go_wp2))
  all_goals go_ret
  all_goals exact ⟨(show Ending.returned (.string (str T)) = .returned (.string (str (txt r))) from by rw [HX.out]), HE.out.then_below (by repeat (first | exact Below.refl _ _ | refine Tr.below_drewN ?_ _ | with_reducible refine Below.alloc ?_ (by simp) _))⟩
theorem name_lit {b : Nat} {r : Rd} {w : World} (hr : RdIn w b r) {n : Bytes} {r' : Rd} (h : nameP r = (n, r')) : Calls Tryz.prog 34 #[.pointer (some ⟨b, 0, none⟩)] w (fun e w' => e = .returned (.string (str n)) ∧ RdBy w w' b r') := by
 have := name_any b r w hr
 rw [h] at this; exact this
set_option maxHeartbeats 800000 in
theorem room_any (b : Nat) (r : Rd) (n : Nat) (hn : n ≤ 1000000) (w : World) (hr : RdIn w b r) : Calls Tryz.prog 31 #[.pointer (some ⟨b, 0, none⟩), .int .i64 (n : Int)] w (fun e w' => e = .returned (.tuple #[]) ∧ RdBy w w' b (roomQ n r).2) := by
 have HR := Lib.hid hr
 by_cases h : 200 ≤ n
 · have HT := Lib.hid (show (roomQ n r).2 = r.fail 7 by unfold roomQ; simp only; rw [if_pos h])
   rw [HT.out]
   have hd : decide ((200 : Int) ≤ (n : Int)) = true := decide_eq_true (by omega)
   have hd' : decide (200 ≤ n) = true := decide_eq_true h
   clear h HT hr
   go_enter Tryz.func31, Tryz.ntmps31
   go_wp2_with fail
   refine (fail_any b r 7 (by decide) _ HR.out).mono ?_
   rintro e w2 ⟨rfl, ht⟩
   have HT := Lib.hid ht
   clear ht
   go_wp2
   go_end0
   exact ⟨rfl, HT.out⟩
 · have HT := Lib.hid (show (roomQ n r).2 = r by unfold roomQ; simp only; rw [if_neg h])
   rw [HT.out]
   have hd : decide ((200 : Int) ≤ (n : Int)) = false := decide_eq_false (by omega)
   have hd' : decide (200 ≤ n) = false := decide_eq_false h
   clear h HT hr
   go_enter Tryz.func31, Tryz.ntmps31
   go_wp2
   go_end0
   exact ⟨rfl, RdBy.refl HR.out⟩
theorem room_lit {b : Nat} {r : Rd} {n : Nat} (hn : n ≤ 1000000) {w : World} (hr : RdIn w b r) {r' : Rd} (h : (roomQ n r).2 = r') : Calls Tryz.prog 31 #[.pointer (some ⟨b, 0, none⟩), .int .i64 (n : Int)] w (fun e w' => e = .returned (.tuple #[]) ∧ RdBy w w' b r') := by
 subst h; exact room_any b r n hn w hr
end Go.Proofs.YtdebhngpgabglaaGreat.Rp
/- The document's reader of programs: what is told, structs that are filled. Conditions: a reader lies in memory. -/
namespace Go.Proofs.YtdebhngpgabglaaGreat.Rp
open Go.ChangeShapes Go.WideShapes Go.ChangeAt Go.RowKit
open Go.Proofs.YtdebhngpgabglaaGreat.Ex
open Go.Proofs.YtdebhngpgabglaaGreat.Tr (str ret_bool ret_int Bytes Nd)
open Go.Proofs.YtdebhngpgabglaaGreat.Pg
theorem tok_wide {w : World} {b b' : Nat} {v : Value} {l : List Tok} (h : TokOff w b v l) (hb : b ≤ b') : TokOff w b' v l := by
 obtain ⟨A, c, h0, h1, h2, h3⟩ := h
 refine ⟨A, c, h0, h1, h2, fun i t hi => ?_⟩
 obtain ⟨g, e1, e2, e3⟩ := h3 i t hi
 exact ⟨g, e1, by omega, e3⟩
def ExpG (w : World) (b : Nat) (x : List Nd × Rd) (e : Ending) (w' : World) : Prop := ∃ ev, e = .returned ev ∧ PtW w' (ev, ⟨x.1, 0, 0⟩) ∧ RdBy w w' b x.2
theorem RdBy.block {w w' : World} {b : Nat} {r : Rd} (h : RdBy w w' b r) {B : Nat} {o : Obj} (hB : w.heap[B]? = some o) (hne : B ≠ b) : w'.heap[B]? = some o :=
 (h.grown.block B (lt_of_block hB) (fun e => hne (by injection e))).trans hB
theorem blk2 {W : World} {B : Nat} {T : TypeId} {u0 u1 : Value} (h : W.heap[B]? = some (.cells #[u0, u1] T (0, 0))) (v0 v1 : Value) : ((W.setCell ⟨B, 0, none⟩ v0).setCell ⟨B, 1, none⟩ v1).heap[B]? = some (.cells #[v0, v1] T (0, 0)) := by
 have h2 := setObj_heap (v := v1) (setObj_heap (v := v0) h (k := 0) (by simp)) (k := 1) (by simp)
 simpa using h2
theorem set_other {W : World} {B k : Nat} {v : Value} {B' : Nat} {o : Obj} (h : W.heap[B']? = some o) (hne : B' ≠ B) : (W.setCell ⟨B, k, none⟩ v).heap[B']? = some o :=
 (Below.heap_setCell W ⟨B, k, none⟩ v B' (by simpa using hne)).trans h
def PrmG (w : World) (b : Nat) (x : Prm × Rd) (e : Ending) (w' : World) : Prop := e = .returned (.agg #[.string (str x.1.name), .int .i64 x.1.ty]) ∧ RdBy w w' b x.2
def UntG (w : World) (b : Nat) (x : Unt × Rd) (e : Ending) (w' : World) : Prop := ∃ iv vv qv lv, e = .returned (.agg #[.bool x.1.contract, .string (str x.1.name), iv, .string (str x.1.out.name), .int .i64 x.1.out.ty, vv, qv, lv]) ∧ RowR 37 2 PrmV w' x.1.ins iv ∧ RowR 37 2 PrmV w' x.1.vars vv ∧ RowR 52 2 EqnV w' x.1.eqs qv ∧ RowR 129 6 ItmV w' x.1.items lv ∧ RdBy w w' b x.2
def RowG {α : Type} (T : TypeId) (K : Nat) (R : World → α → List Value → Prop) (w : World) (b : Nat) (x : List α × Rd) (e : Ending) (w' : World) : Prop := ∃ v, e = .returned v ∧ RowR T K R w' x.1 v ∧ RdBy w w' b x.2
theorem RowG.of {α : Type} {T : TypeId} {K : Nat} {R : World → α → List Value → Prop} {w w' : World} {b : Nat} {l : List α} {r : Rd} {X : List α × Rd} {v : Value} (hX : (l, r) = X) (h : RowR T K R w' l v) (g : RdBy w w' b r) : RowG T K R w b X (.returned v) w' := by
 subst hX; exact ⟨v, rfl, h, g⟩
theorem own_form {w : World} {base : Nat} {e : TypeId} {sz : Nat} {v : Value} {n : Nat} {xs : List Value} (h : w.ownsRow base e sz v n xs) : ∃ A c, v = .slice A n c ∧ n ≤ c ∧ c ≤ 9223372036854775807 := by
 obtain ⟨hl, ⟨rfl, rfl⟩ | ⟨g, cap, cur, rfl, hb, hh, hnc, hcm, _⟩⟩ := h
 · exact ⟨none, 0, rfl, Nat.le_refl _, by omega⟩
 · unfold maxLen at hcm; exact ⟨some ⟨g, 0, none⟩, cap, rfl, hnc, hcm⟩
theorem pt_form {w : World} {v : Value} {p : Pt} (h : PtW w (v, p)) : ∃ A n c, v = .slice A n c ∧ n ≤ c ∧ c ≤ 9223372036854775807 := by
 obtain ⟨⟨A, c, hv, h1, h2, _⟩, _⟩ := h
 unfold maxLen at h2
 exact ⟨A, _, c, hv, h1, h2⟩
theorem row_form {α : Type} {T : TypeId} {K : Nat} {R : World → α → List Value → Prop} {w : World} {l : List α} {v : Value} (h : RowR T K R w l v) : ∃ A n c, v = .slice A n c ∧ n ≤ c ∧ c ≤ 9223372036854775807 := by
 obtain ⟨A, c, rfl, h1, h2, _⟩ := h
 unfold maxLen at h2
 exact ⟨A, _, c, rfl, h1, h2⟩
theorem RdBy.row {w w2 W w3 : World} {b : Nat} {q : Rd} {row : Option Nat} (h : RdBy w w2 b q) (hlt : b < w.heap.size) (hW : Below w2.heap.size w2 W) (hg : W.grownBy w3 row) (hrow : ∀ g, row = some g → w.heap.size ≤ g) : RdBy w w3 b q := by
 have hs := h.grown.size
 have hs2 := hW.size
 have hk : ∀ g, g < w.heap.size → w3.heap[g]? = w2.heap[g]? := fun g hg' => (hg.block g (by omega) (fun e => by have := hrow g e.symm; omega)).trans (hW.block g (by omega))
 exact ⟨h.rd.keep (Nat.le_trans hs2 hg.size) (fun g h1 _ => hk g (by omega)) (hk b hlt), ⟨(hg.os.trans hW.os).trans h.grown.os, (hg.tape.trans hW.tape).trans h.grown.tape, (hg.output.trans hW.output).trans h.grown.output, Nat.le_trans hs (Nat.le_trans hs2 hg.size), fun i hi hne => (hk i hi).trans (h.grown.block i hi hne)⟩⟩
theorem set_ne {W : World} {B k : Nat} {v : Value} {g : Nat} (hne : g ≠ B) : (W.setCell ⟨B, k, none⟩ v).heap[g]? = W.heap[g]? := Below.heap_setCell W ⟨B, k, none⟩ v g (by simpa using hne)
theorem stay_set {P : TypeId → Prop} {w : World} {B k : Nat} {cs : Array Value} {T : TypeId} {f : Nat × Nat} (hB : w.heap[B]? = some (Obj.cells cs T f)) (hP : P T) (v : Value) : Stay P w (w.setCell ⟨B, k, none⟩ v) :=
 ⟨by simp [World.setCell], fun g cs' T' f' hg hp => set_ne (by
  rintro rfl
  rw [hB] at hg
  simp only [Option.some.injEq, Obj.cells.injEq] at hg
  exact hp (hg.2.1 ▸ hP))⟩
theorem stay_sets {P : TypeId → Prop} {w W : World} {B : Nat} {cs : Array Value} {T : TypeId} {f : Nat × Nat} (hB : w.heap[B]? = some (Obj.cells cs T f)) (hP : P T) (hs : w.heap.size ≤ W.heap.size) (h : ∀ g, g ≠ B → W.heap[g]? = w.heap[g]?) : Stay P w W :=
 ⟨hs, fun g cs' T' f' hg hp => h g (by
  rintro rfl
  rw [hB] at hg
  simp only [Option.some.injEq, Obj.cells.injEq] at hg
  exact hp (hg.2.1 ▸ hP))⟩
theorem blk3 {W : World} {B : Nat} {T : TypeId} {u0 u1 u2 : Value} (h : W.heap[B]? = some (.cells #[u0, u1, u2] T (0, 0))) (v0 v1 v2 : Value) : (((W.setCell ⟨B, 0, none⟩ v0).setCell ⟨B, 1, none⟩ v1).setCell ⟨B, 2, none⟩ v2).heap[B]? = some (.cells #[v0, v1, v2] T (0, 0)) := by
 have h0 := setObj_heap (v := v0) h (k := 0) (by simp)
 have h1 := setObj_heap (v := v1) h0 (k := 1) (by simp)
 have h2 := setObj_heap (v := v2) h1 (k := 2) (by simp)
 simpa using h2
theorem blk6 {W : World} {B : Nat} {T : TypeId} {u0 u1 u2 u3 u4 u5 : Value} (h : W.heap[B]? = some (.cells #[u0, u1, u2, u3, u4, u5] T (0, 0))) (v0 v1 v2 v3 v4 v5 : Value) : ((((((W.setCell ⟨B, 0, none⟩ v0).setCell ⟨B, 1, none⟩ v1).setCell ⟨B, 2, none⟩ v2).setCell ⟨B, 3, none⟩ v3).setCell ⟨B, 4, none⟩ v4).setCell ⟨B, 5, none⟩ v5).heap[B]? = some (.cells #[v0, v1, v2, v3, v4, v5] T (0, 0)) := by
 have h0 := setObj_heap (v := v0) h (k := 0) (by simp)
 have h1 := setObj_heap (v := v1) h0 (k := 1) (by simp)
 have h2 := setObj_heap (v := v2) h1 (k := 2) (by simp)
 have h3 := setObj_heap (v := v3) h2 (k := 3) (by simp)
 have h4 := setObj_heap (v := v4) h3 (k := 4) (by simp)
 have h5 := setObj_heap (v := v5) h4 (k := 5) (by simp)
 simpa using h5
theorem blk8 {W : World} {B : Nat} {T : TypeId} {u0 u1 u2 u3 u4 u5 u6 u7 : Value} (h : W.heap[B]? = some (.cells #[u0, u1, u2, u3, u4, u5, u6, u7] T (0, 0))) (v0 v1 v2 v3 v4 v5 v6 v7 : Value) : ((((((((W.setCell ⟨B, 0, none⟩ v0).setCell ⟨B, 1, none⟩ v1).setCell ⟨B, 2, none⟩ v2).setCell ⟨B, 3, none⟩ v3).setCell ⟨B, 4, none⟩ v4).setCell ⟨B, 5, none⟩ v5).setCell ⟨B, 6, none⟩ v6).setCell ⟨B, 7, none⟩ v7).heap[B]? = some (.cells #[v0, v1, v2, v3, v4, v5, v6, v7] T (0, 0)) := by
 have h0 := setObj_heap (v := v0) h (k := 0) (by simp)
 have h1 := setObj_heap (v := v1) h0 (k := 1) (by simp)
 have h2 := setObj_heap (v := v2) h1 (k := 2) (by simp)
 have h3 := setObj_heap (v := v3) h2 (k := 3) (by simp)
 have h4 := setObj_heap (v := v4) h3 (k := 4) (by simp)
 have h5 := setObj_heap (v := v5) h4 (k := 5) (by simp)
 have h6 := setObj_heap (v := v6) h5 (k := 6) (by simp)
 have h7 := setObj_heap (v := v7) h6 (k := 7) (by simp)
 simpa using h7
theorem pb {α β : Type} {f : PM α} {g : α → PM β} {r r' : Rd} {a : α} (h : f r = (a, r')) : pBind f g r = g a r' := by unfold pBind; rw [h]
theorem pu {β : Type} {f : PM Unit} {g : Unit → PM β} {r r' : Rd} (h : (f r).2 = r') : pBind f g r = g () r' := by unfold pBind; rw [h]
theorem UntG.of {w w' : World} {b : Nat} {c : Bool} {n on : Bytes} {ot : Int} {i vs : List Prm} {q : List Eqn} {l : List Itm} {iv vv qv lv : Value} {r : Rd} {X : Unt × Rd} (hX : (⟨c, n, i, ⟨on, ot⟩, vs, q, l⟩, r) = X) (h1 : RowR 37 2 PrmV w' i iv) (h2 : RowR 37 2 PrmV w' vs vv) (h3 : RowR 52 2 EqnV w' q qv) (h4 : RowR 129 6 ItmV w' l lv) (g : RdBy w w' b r) :
 UntG w b X (.returned (.agg #[.bool c, .string (str n), iv, .string (str on), .int .i64 ot, vv, qv, lv])) w' := by
 subst hX; exact ⟨iv, vv, qv, lv, rfl, h1, h2, h3, h4, g⟩
theorem news_new (W : World) (cs : Array Value) (T : TypeId) (xs : List Value) (h : cs.toList = xs) {G : Nat} (hG : W.heap.size = G) : ∀ j u, xs[j]? = some u → (W.alloc (.cells cs T)).cell? ((⟨G, 0, none⟩ : Addr).add j) = some u := by
 subst h; subst hG
 exact World.news_of_block (t := T) (fr := (0, 0)) (heap_alloc_new _ _)
theorem PrmG.of {w w' : World} {b : Nat} {n : Bytes} {t : Int} {r : Rd} {X : Prm × Rd} (hX : (⟨n, t⟩, r) = X) (g : RdBy w w' b r) : PrmG w b X (.returned (.agg #[.string (str n), .int .i64 t])) w' := by
 subst hX; exact ⟨rfl, g⟩
theorem inF_dead {α : Type} {sep : Bytes} {one : PM α} {k : Nat} {acc : List α} {r : Rd} (h : r.code ≠ 0) : inF sep one (k + 1) acc r = ([], r) := by
 show (if r.code = 0 then _ else _) = _; rw [if_neg h]
theorem inF_end {α : Type} {sep : Bytes} {one : PM α} {k : Nat} {acc : List α} {r r1 r2 r3 : Rd} {a : α} (h : r.code = 0) (h1 : (roomQ acc.length r).2 = r1) (h2 : one r1 = (a, r2)) (h3 : takeQ [41] r2 = (true, r3)) : inF sep one (k + 1) acc r = (acc ++ [a], r3) := by
 show (if r.code = 0 then _ else _) = _; rw [if_pos h, pu h1, pb h2, pb h3]; rfl
theorem inF_step {α : Type} {sep : Bytes} {one : PM α} {k : Nat} {acc : List α} {r r1 r2 r3 r4 : Rd} {a : α} (h : r.code = 0) (h1 : (roomQ acc.length r).2 = r1) (h2 : one r1 = (a, r2)) (h3 : takeQ [41] r2 = (false, r3)) (h4 : (needQ sep r3).2 = r4) : inF sep one (k + 1) acc r = inF sep one k (acc ++ [a]) r4 := by
 show (if r.code = 0 then _ else _) = _; rw [if_pos h, pu h1, pb h2, pb h3, if_neg (by decide)]
 exact pu h4
theorem inQ_eq {α : Type} {sep : Bytes} {one : PM α} {r r1 r2 : Rd} {B : Bool} (h1 : (needQ [40] r).2 = r1) (h2 : takeQ [41] r1 = (B, r2)) : inQ sep one r = if B then ([], r2) else inF sep one rowMax [] r2 := by
 unfold inQ; rw [pu h1, pb h2]; cases B <;> rfl
theorem room_code {n : Nat} {r r1 : Rd} (h : (roomQ n r).2 = r1) (hc : r1.code = 0) : n < 200 := by
 apply Classical.byContradiction; intro hn
 subst h
 unfold roomQ at hc; simp only at hc; rw [if_pos (by omega)] at hc
 exact stick_rfail 7 (by decide) r hc
theorem varF_dead {k : Nat} {acc : List Prm} {r : Rd} (h : r.code ≠ 0) : varF (k + 1) acc r = ([], r) := by
 show (if r.code = 0 then _ else _) = _; rw [if_neg h]
theorem varF_step {k : Nat} {acc : List Prm} {r r1 r2 r3 : Rd} {a : Prm} {B : Bool} (h : r.code = 0) (h1 : (roomQ acc.length r).2 = r1) (h2 : paramQ r1 = (a, r2)) (h3 : (needQ sSemi r2).2 = r3) (h4 : atNameB r3 = B) : varF (k + 1) acc r = if B then varF k (acc ++ [a]) r3 else (acc ++ [a], r3) := by
 show (if r.code = 0 then _ else _) = _; rw [if_pos h, pu h1, pb h2, pu h3, h4]
theorem eqF_stop {k : Nat} {acc : List Eqn} {r : Rd} (h : atNameB r = false) : eqF (k + 1) acc r = (acc, r) := by
 show (if atNameB r then _ else _) = _; rw [h]; rfl
theorem eqF_step {k : Nat} {acc : List Eqn} {r r1 r2 r3 r4 r5 : Rd} {n : Bytes} {e : List Nd} (h : atNameB r = true) (h1 : (roomQ acc.length r).2 = r1) (h2 : nameP r1 = (n, r2)) (h3 : (needQ sEq r2).2 = r3) (h4 : exprQ r3 = (e, r4)) (h5 : (needQ sSemi r4).2 = r5) : eqF (k + 1) acc r = eqF k (acc ++ [⟨n, e⟩]) r5 := by
 show (if atNameB r then _ else _) = _; rw [h, if_pos rfl, pu h1]
 have : eqnQ r1 = (⟨n, e⟩, r5) := by unfold eqnQ; rw [pb h2, pu h3, pb h4, pu h5]; rfl
 rw [pb this]
theorem itF_stop {k : Nat} {acc : List Itm} {r : Rd} (h : kindQ r = 0) : itF (k + 1) acc r = (acc, r) := by
 show (if kindQ r ≠ 0 then _ else _) = _; rw [if_neg (by simpa using h)]
theorem itF_step {k : Nat} {acc : List Itm} {r r1 r2 : Rd} {x : Option Itm} (h : kindQ r ≠ 0) (h1 : (roomQ acc.length r).2 = r1) (h2 : itemQ r1 = (x, r2)) : itF (k + 1) acc r = itF k (acc ++ x.toList) r2 := by
 show (if kindQ r ≠ 0 then _ else _) = _; rw [if_pos h, pu h1, pb h2]
theorem unF_stop {k : Nat} {acc : List Unt} {r : Rd} (h : atUnitQ r = false) : unF (k + 1) acc r = (acc, r) := by
 show (if atUnitQ r then _ else _) = _; rw [h]; rfl
theorem unF_step {k : Nat} {acc : List Unt} {r r1 r2 : Rd} {u : Unt} (h : atUnitQ r = true) (h1 : (roomQ acc.length r).2 = r1) (h2 : unitQ r1 = (u, r2)) : unF (k + 1) acc r = unF k (acc ++ [u]) r2 := by
 show (if atUnitQ r then _ else _) = _; rw [h, if_pos rfl, pu h1, pb h2]
end Go.Proofs.YtdebhngpgabglaaGreat.Rp
/- Contracts of the document's reader of programs: whether an item begins. Conditions: a reader lies in memory. -/
namespace Go.Proofs.YtdebhngpgabglaaGreat.Rp
open Go.ChangeShapes Go.WideShapes Go.ChangeAt Go.RowKit
open Go.Proofs.YtdebhngpgabglaaGreat.Ex
open Go.Proofs.YtdebhngpgabglaaGreat.Tr (str ret_bool ret_int Bytes Nd)
open Go.Proofs.YtdebhngpgabglaaGreat.Pg
theorem kind_in {r : Rd} (h : kindQ r ≠ 0) : r.next < r.l.length := by
 unfold kindQ at h
 split at h
 · exact isB_in (by assumption)
 split at h
 · exact isB_in (by assumption)
 split at h
 · exact isB_in (by assumption)
 split at h
 · exact isB_in (by assumption)
 split at h
 · exact isB_in (by assumption)
 · exact absurd rfl h
theorem stick_in {α : Type} {sep : Bytes} {one : PM α} (h : Stick one) : ∀ (k : Nat) (acc : List α), Stick (inF sep one k acc)
 | 0, acc => stick_pure []
 | k + 1, acc => fun r hr => by rw [inF_dead hr]; exact hr
theorem stick_inQ {α : Type} {sep : Bytes} {one : PM α} (h : Stick one) : Stick (inQ sep one) := (stick_need _).bind fun _ => (stick_take _).bind fun b => stick_if (stick_pure _) (stick_in h _ _)
theorem stick_itemOf (k : Int) : Stick (itemOfQ k) := by
 unfold itemOfQ
 refine stick_if ?_ (stick_if ?_ (stick_if ?_ ?_))
 · exact stick_param.bind fun _ => (stick_need _).bind fun _ => stick_expr.bind fun _ => (stick_need _).bind fun _ => stick_pure _
 · exact stick_name.bind fun _ => (stick_need _).bind fun _ => stick_expr.bind fun _ => (stick_need _).bind fun _ => stick_expr.bind fun _ => (stick_need _).bind fun _ => stick_pure _
 · exact stick_name.bind fun _ => (stick_inQ stick_expr).bind fun _ => (stick_need _).bind fun _ => stick_pure _
 · exact stick_expr.bind fun _ => (stick_need _).bind fun _ => stick_pure _
theorem stick_item : Stick itemQ := fun r h => by
 unfold itemQ
 split
 · exact h
 · exact ((stick_itemOf _).bind fun _ => stick_pure _) r.adv h
theorem room_in {w : World} {b n : Nat} {r r1 : Rd} (h : RdIn w b r) (k : (roomQ n r).2 = r1) : r1.code ≠ 0 → r1.l = [] := by
 subst k
 unfold roomQ
 simp only
 split
 · intro _; unfold Rd.fail; split <;> rfl
 · exact h.fine
theorem item_dead {r : Rd} (h : r.code ≠ 0 → r.l = []) (hc : r.code ≠ 0) : (itemQ r).1 = none := by
 have : kindQ r = 0 := Classical.byContradiction fun hk => by
  have := kind_in hk; rw [h hc] at this; simp at this
 unfold itemQ; rw [if_pos this]
set_option maxHeartbeats 4000000 in
theorem begins_any (b : Nat) (r : Rd) (w : World) (hr : RdIn w b r) : Calls Tryz.prog 72 #[.pointer (some ⟨b, 0, none⟩)] w (fun e w' => e = .returned (.bool (decide (kindQ r ≠ 0))) ∧ Below w.heap.size w w') := by
 have HR := Lib.hid hr
 clear hr
 have HA : ∀ (s : Bytes) (S : ByteArray) (B : Bool), S = str s → r.isB s = B → ∀ w', Below w.heap.size w w' → Calls Tryz.prog 30 #[.pointer (some ⟨b, 0, none⟩), .string S] w' (fun e w'' => e = .returned (.bool B) ∧ Below w.heap.size w w'') := fun s S B hS hB w' hb =>
  (is_lit hS (HR.out.below hb) hB).mono fun e w'' h => ⟨h.1, hb.trans (h.2.mono hb.size)⟩
 have HAA := Lib.hid HA
 clear HA
 rcases Bool.eq_false_or_eq_true (r.isB wAssume) with a1 | a1
 · have HT : Hid (decide (kindQ r ≠ 0) = true) := Lib.hid (by unfold kindQ; rw [a1]; rfl)
   rw [HT.out]
   have A1 := Lib.hid a1
   clear a1 HT
   go_enter Tryz.func72, Tryz.ntmps72
   go_wp2_with fail
   refine (HAA.out wAssume _ true rfl A1.out _ (Below.refl _ _)).mono ?_
   rintro e w1 ⟨rfl, hb1⟩
   have HB1 := Lib.hid hb1
   clear hb1
   go_wp2
   go_ret
   exact ⟨rfl, HB1.out⟩
 rcases Bool.eq_false_or_eq_true (r.isB wGuarantee) with a2 | a2
 · have HT : Hid (decide (kindQ r ≠ 0) = true) := Lib.hid (by unfold kindQ; rw [a1, a2]; rfl)
   rw [HT.out]
   have A1 := Lib.hid a1
   have A2 := Lib.hid a2
   clear a1 a2 HT
   go_enter Tryz.func72, Tryz.ntmps72
   go_wp2_with fail
   refine (HAA.out wAssume _ false rfl A1.out _ (Below.refl _ _)).mono ?_
   rintro e w1 ⟨rfl, hb1⟩
   have HB1 := Lib.hid hb1
   clear hb1
   go_wp2_with fail
   refine (HAA.out wGuarantee _ true rfl A2.out _ HB1.out).mono ?_
   rintro e w2 ⟨rfl, hb2⟩
   have HB2 := Lib.hid hb2
   clear hb2
   go_wp2
   go_ret
   exact ⟨rfl, HB2.out⟩
 rcases Bool.eq_false_or_eq_true (r.isB wGhost) with a3 | a3
 · have HT : Hid (decide (kindQ r ≠ 0) = true) := Lib.hid (by unfold kindQ; rw [a1, a2, a3]; rfl)
   rw [HT.out]
   have A1 := Lib.hid a1
   have A2 := Lib.hid a2
   have A3 := Lib.hid a3
   clear a1 a2 a3 HT
   go_enter Tryz.func72, Tryz.ntmps72
   go_wp2_with fail
   refine (HAA.out wAssume _ false rfl A1.out _ (Below.refl _ _)).mono ?_
   rintro e w1 ⟨rfl, hb1⟩
   have HB1 := Lib.hid hb1
   clear hb1
   go_wp2_with fail
   refine (HAA.out wGuarantee _ false rfl A2.out _ HB1.out).mono ?_
   rintro e w2 ⟨rfl, hb2⟩
   have HB2 := Lib.hid hb2
   clear hb2
   go_wp2_with fail
   refine (HAA.out wGhost _ true rfl A3.out _ HB2.out).mono ?_
   rintro e w3 ⟨rfl, hb3⟩
   have HB3 := Lib.hid hb3
   clear hb3
   go_wp2
   go_ret
   exact ⟨rfl, HB3.out⟩
 rcases Bool.eq_false_or_eq_true (r.isB wMode) with a4 | a4
 · have HT : Hid (decide (kindQ r ≠ 0) = true) := Lib.hid (by unfold kindQ; rw [a1, a2, a3, a4]; rfl)
   rw [HT.out]
   have A1 := Lib.hid a1
   have A2 := Lib.hid a2
   have A3 := Lib.hid a3
   have A4 := Lib.hid a4
   clear a1 a2 a3 a4 HT
   go_enter Tryz.func72, Tryz.ntmps72
   go_wp2_with fail
   refine (HAA.out wAssume _ false rfl A1.out _ (Below.refl _ _)).mono ?_
   rintro e w1 ⟨rfl, hb1⟩
   have HB1 := Lib.hid hb1
   clear hb1
   go_wp2_with fail
   refine (HAA.out wGuarantee _ false rfl A2.out _ HB1.out).mono ?_
   rintro e w2 ⟨rfl, hb2⟩
   have HB2 := Lib.hid hb2
   clear hb2
   go_wp2_with fail
   refine (HAA.out wGhost _ false rfl A3.out _ HB2.out).mono ?_
   rintro e w3 ⟨rfl, hb3⟩
   have HB3 := Lib.hid hb3
   clear hb3
   go_wp2_with fail
   refine (HAA.out wMode _ true rfl A4.out _ HB3.out).mono ?_
   rintro e w4 ⟨rfl, hb4⟩
   have HB4 := Lib.hid hb4
   clear hb4
   go_wp2
   go_ret
   exact ⟨rfl, HB4.out⟩
 rcases Bool.eq_false_or_eq_true (r.isB wImport) with a5 | a5
 · have HT : Hid (decide (kindQ r ≠ 0) = true) := Lib.hid (by unfold kindQ; rw [a1, a2, a3, a4, a5]; rfl)
   rw [HT.out]
   have A1 := Lib.hid a1
   have A2 := Lib.hid a2
   have A3 := Lib.hid a3
   have A4 := Lib.hid a4
   have A5 := Lib.hid a5
   clear a1 a2 a3 a4 a5 HT
   go_enter Tryz.func72, Tryz.ntmps72
   go_wp2_with fail
   refine (HAA.out wAssume _ false rfl A1.out _ (Below.refl _ _)).mono ?_
   rintro e w1 ⟨rfl, hb1⟩
   have HB1 := Lib.hid hb1
   clear hb1
   go_wp2_with fail
   refine (HAA.out wGuarantee _ false rfl A2.out _ HB1.out).mono ?_
   rintro e w2 ⟨rfl, hb2⟩
   have HB2 := Lib.hid hb2
   clear hb2
   go_wp2_with fail
   refine (HAA.out wGhost _ false rfl A3.out _ HB2.out).mono ?_
   rintro e w3 ⟨rfl, hb3⟩
   have HB3 := Lib.hid hb3
   clear hb3
   go_wp2_with fail
   refine (HAA.out wMode _ false rfl A4.out _ HB3.out).mono ?_
   rintro e w4 ⟨rfl, hb4⟩
   have HB4 := Lib.hid hb4
   clear hb4
   go_wp2_with fail
   refine (HAA.out wImport _ true rfl A5.out _ HB4.out).mono ?_
   rintro e w5 ⟨rfl, hb5⟩
   have HB5 := Lib.hid hb5
   clear hb5
   go_wp2
   go_ret
   exact ⟨rfl, HB5.out⟩
 have HT : Hid (decide (kindQ r ≠ 0) = false) := Lib.hid (by unfold kindQ; rw [a1, a2, a3, a4, a5]; rfl)
 rw [HT.out]
 have A1 := Lib.hid a1
 have A2 := Lib.hid a2
 have A3 := Lib.hid a3
 have A4 := Lib.hid a4
 have A5 := Lib.hid a5
 clear a1 a2 a3 a4 a5 HT
 go_enter Tryz.func72, Tryz.ntmps72
 go_wp2_with fail
 refine (HAA.out wAssume _ false rfl A1.out _ (Below.refl _ _)).mono ?_
 rintro e w1 ⟨rfl, hb1⟩
 have HB1 := Lib.hid hb1
 clear hb1
 go_wp2_with fail
 refine (HAA.out wGuarantee _ false rfl A2.out _ HB1.out).mono ?_
 rintro e w2 ⟨rfl, hb2⟩
 have HB2 := Lib.hid hb2
 clear hb2
 go_wp2_with fail
 refine (HAA.out wGhost _ false rfl A3.out _ HB2.out).mono ?_
 rintro e w3 ⟨rfl, hb3⟩
 have HB3 := Lib.hid hb3
 clear hb3
 go_wp2_with fail
 refine (HAA.out wMode _ false rfl A4.out _ HB3.out).mono ?_
 rintro e w4 ⟨rfl, hb4⟩
 have HB4 := Lib.hid hb4
 clear hb4
 go_wp2_with fail
 refine (HAA.out wImport _ false rfl A5.out _ HB4.out).mono ?_
 rintro e w5 ⟨rfl, hb5⟩
 have HB5 := Lib.hid hb5
 clear hb5
 go_wp2
 go_ret
 exact ⟨rfl, HB5.out⟩
theorem begins_lit {b : Nat} {r : Rd} {w : World} {B : Bool} (hr : RdIn w b r) (h : decide (kindQ r ≠ 0) = B) : Calls Tryz.prog 72 #[.pointer (some ⟨b, 0, none⟩)] w (fun e w' => e = .returned (.bool B) ∧ Below w.heap.size w w') := by
 subst h; exact begins_any b r w hr
end Go.Proofs.YtdebhngpgabglaaGreat.Rp
