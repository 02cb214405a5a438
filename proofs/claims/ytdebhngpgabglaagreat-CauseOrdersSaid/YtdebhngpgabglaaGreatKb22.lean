/- The document's answer for layer expr: an operand. Conditions: a reader lies in memory; the contracts at less fuel. -/
import Derived.Test.YtdebhngpgabglaaGreatKb20
import Derived.Test.YtdebhngpgabglaaGreatKb21
import Derived.RegionTactic
import Derived.BigRegion
import Derived.Test.YtdebhngpgabglaaGreatKa05
import Derived.Test.YtdebhngpgabglaaGreatKb17
import Derived.Test.YtdebhngpgabglaaGreatKa10
import Derived.Test.YtdebhngpgabglaaGreatKb19
import Derived.Test.YtdebhngpgabglaaGreatKa12
set_option linter.unusedVariables false
set_option linter.unusedSimpArgs false
namespace Go.Proofs.YtdebhngpgabglaaGreat.Rf
open Go.ChangeShapes Go.WideShapes Go.ChangeAt Go.RowKit
open Go.Proofs.YtdebhngpgabglaaGreat.Ex Go.Proofs.YtdebhngpgabglaaGreat.Sh
open Go.Proofs.YtdebhngpgabglaaGreat.Tr (str ret_bool ret_int Bytes Nd T joinM roomM binaryB unaryB plainB)
theorem begun_any (L : List Ex.Tok) (hok : OkL L) (ht0 : ∀ t ∈ L, t.text.length ≤ 1000000) (f : Nat) (HL : ∀ g, g ≤ f → RLev L g) (HO : ∀ g, g ≤ f → ROpnd L g) (r0 : Rd) (hc0 : r0.code = 0) (hi0 : r0.next < L.length) (t : Ex.Tok) (htok : L[r0.next]? = some t) (p : Pt) (r1 : Rd) (hrun : BegunRun f r0 p r1) (w : World) (b : Nat) (hr : Rf w b L r0) :
 Calls Tryz.prog 98 #[.pointer (some ⟨b, 0, none⟩), .agg #[.int .i64 t.kind, .string (str t.text), .int .i64 (t.at_ : Int)]] w (Got w b L p r1) := by
 have hg := hok.good t (List.mem_of_getElem? htok)
 have hk : t.kind = 1 ∨ t.kind = 2 ∨ (t.kind = 3 ∨ t.kind = 4) := by
  rcases hg with ⟨_, _, h⟩ | ⟨_, _, _, h⟩ | ⟨_, h⟩
  · have h1 := Lx.digM_kind t.text (by rw [h])
    rw [h] at h1; exact .inr (.inl h1)
  · rcases Lx.letM_kind t.text (by rw [h]) with ⟨h1, _⟩ | ⟨h1, _⟩
    · rw [h] at h1; exact .inr (.inr (.inl h1))
    · rw [h] at h1; exact .inl h1
  · exact .inr (.inr (.inr h))
 rcases hk with hk | hk | hk
 · exact begun_b L hok ht0 f HL HO r0 hc0 hi0 t htok p r1 hrun w b hr hk
 · exact begun_a L hok ht0 f HL HO r0 hc0 hi0 t htok p r1 hrun w b hr hk
 · cases hs : (signsM 9).lookup t.text with
   | some s =>
    obtain ⟨o, u⟩ := s
    have hu : u = false := by
     have h1 := lookup_mem _ _ _ hs
     simp [signsM] at h1
     rcases h1 with ⟨_, _, rfl⟩ | ⟨_, _, rfl⟩ | ⟨_, _, rfl⟩ | ⟨_, _, rfl⟩ | ⟨_, _, rfl⟩ | ⟨_, _, rfl⟩ | ⟨_, _, rfl⟩ <;> rfl
    subst hu
    by_cases h25 : o = 25
    · subst h25
      have hx : t.text = [119, 105, 116, 104, 105, 110] := by
       have h1 := lookup_mem _ _ _ hs
       simp [signsM] at h1
       exact h1
      exact begun_c L hok ht0 f HL HO r0 hc0 hi0 t htok p r1 hrun w b hr hk hx
    · exact begun_d L hok ht0 f HL HO r0 hc0 hi0 t htok p r1 hrun w b hr hk o h25 hs
   | none =>
    have hlive := hr.live hc0
    have hcur := cur_at hlive htok
    have hws : r0.ws = true := by unfold Rd.ws; rw [hcur, hlive]; rcases hk with h | h <;> simp [h, hi0]
    have hisB : ∀ s, r0.isB s = (t.text == s) := fun s => by unfold Rd.isB; rw [hws, hcur]; rfl
    by_cases h1 : t.text = [116, 114, 117, 101]
    · exact begun_e L hok ht0 f HL HO r0 hc0 hi0 t htok p r1 hrun w b hr hk h1
    by_cases h2 : t.text = [102, 97, 108, 115, 101]
    · exact begun_f L hok ht0 f HL HO r0 hc0 hi0 t htok p r1 hrun w b hr hk h2
    by_cases h3 : t.text = [40]
    · exact begun_g L hok ht0 f HL HO r0 hc0 hi0 t htok p r1 hrun w b hr hk h3
    by_cases h4 : t.text = [105, 102]
    · exact begun_h L hok ht0 f HL HO r0 hc0 hi0 t htok p r1 hrun w b hr hk h4
    exact begun_i L hok ht0 f HL HO r0 hc0 hi0 t htok p r1 hrun w b hr hk ⟨hs, by rw [hisB]; simpa using h1, by rw [hisB]; simpa using h2, by rw [hisB]; simpa using h3, by rw [hisB]; simpa using h4⟩
theorem RfAt.setO {w : World} {b : Nat} {L : List Ex.Tok} {r r' : Rd} {lv : Value} {i o o' : Nat} {c a : Int} (h : RfAt w b L r lv i o c a) (ho : o' ≤ 200) (hb : o' = r'.begun) (hl : r'.l = r.l) (hn : r'.next = r.next) (hc : r'.code = r.code) (ha : r'.at_ = r.at_) {v : Int} (hv : v = (o' : Int)) :
 RfTo w (w.setCell ⟨b, 2, none⟩ (.int .i64 v)) b L r' := by
 subst hv
 refine h.turn (i' := i) (o' := o') (c' := c) (a' := a) ?_ (by simp [World.setCell]) rfl rfl rfl (fun g hg => set_heap _ _ _ _ _ hg) h.ile ho hb ?_
 · rw [setObj_heap h.blk (by simp [rfCells])]; simp [rfCells]
 · rw [hc, hl, hn, ha]; exact h.st
theorem opnd_begun {f : Nat} {r r' : Rd} {p : Pt} (h : run (f + 1) .opnd r = some (p, r')) (hb : r.begun ≠ 200) : ∃ r1, BegunRun f r.open_ p r1 ∧ r' = r1.shut := by
 rw [run, if_neg hb] at h
 unfold BegunRun
 cases hs : r.open_.sign 9 with
 | none =>
  rw [hs] at h
  obtain ⟨⟨q, r1⟩, a, b⟩ := map_some h
  simp only [Prod.mk.injEq] at b
  obtain ⟨rfl, rfl⟩ := b
  exact ⟨r1, a, rfl⟩
 | some s =>
  rw [hs] at h
  obtain ⟨⟨q, r1⟩, a, b⟩ := map_some h
  simp only [Prod.mk.injEq] at b
  obtain ⟨rfl, rfl⟩ := b
  exact ⟨r1, ⟨q, a, rfl⟩, rfl⟩
theorem begun_beg {f : Nat} {r0 r1 : Rd} {p : Pt} (h : BegunRun f r0 p r1) (hf : r0.fine) : r1.begun = r0.begun := by
 unfold BegunRun at h
 cases hs : r0.sign 9 with
 | none => rw [hs] at h; exact (run_step _ _ _ _ _ h hf trivial).1.beg
 | some s =>
  rw [hs] at h
  obtain ⟨q, h1, _⟩ := h
  have ha := adv_step r0 (sign_lt hs)
  have hb : Step r0 (if s.1 = 25 then r0.adv.numR 1000 else r0.adv) := by
   split
   · exact ha.trans (numR_step _ _ (ha.fine hf))
   · exact ha
  exact (run_step _ _ _ _ _ h1 (hb.fine hf) trivial).1.beg.trans hb.beg
theorem opnd_end {f : Nat} {r r' : Rd} {p : Pt} (h : run (f + 1) .opnd r = some (p, r')) (hb : r.begun ≠ 200) (he : ¬ r.next < r.l.length) : r' = r.fail 5 := by
 obtain ⟨r1, h1, rfl⟩ := opnd_begun h hb
 have hws : r.open_.ws = false := by unfold Rd.ws Rd.open_; simp; intro h; exact absurd h he
 have hB : ∀ s, r.open_.isB s = false := fun s => by unfold Rd.isB; rw [hws]; rfl
 have hcur : r.open_.cur = noTok := by unfold Rd.cur Rd.open_; rw [List.getElem?_eq_none (by simp; omega)]; rfl
 unfold BegunRun at h1
 have hs : r.open_.sign 9 = none := by unfold Rd.sign; rw [hws]; rfl
 rw [hs] at h1
 cases f with
 | zero => cases h1
 | succ f =>
  simp only at h1
  rw [run, if_neg (by rw [hB]; decide), if_neg (by rw [hB]; decide), if_neg (by rw [hB]; decide), if_neg (by rw [hB]; decide), if_neg (by rw [hcur]; decide), if_neg (by rw [hcur]; rintro ⟨h, _⟩; cases h)] at h1
  simp only [Option.some.injEq, Prod.mk.injEq] at h1
  rw [← h1.2]
  unfold Rd.fail Rd.shut Rd.open_
  simp only
  split <;> simp
set_option maxRecDepth 100000 in
set_option maxHeartbeats 4000000 in
theorem operand_any (L : List Ex.Tok) (hok : OkL L) (ht0 : ∀ t ∈ L, t.text.length ≤ 1000000) (f : Nat) (HL : ∀ g, g ≤ f → RLev L g) (HO : ∀ g, g ≤ f → ROpnd L g) (r : Rd) (p : Pt) (r' : Rd) (k : run (f + 1) .opnd r = some (p, r')) (w : World) (b : Nat) (hr : Rf w b L r) :
 Calls Tryz.prog 96 #[.pointer (some ⟨b, 0, none⟩)] w (Got w b L p r') := by
 have HR := Lib.hid hr
 have hL : L.length ≤ 100000 := by have := hok.len; omega
 have hlt := hr.lt
 by_cases hc : r.code = 0
 rotate_left
 · have HD := Lib.hid (hr.run_dead hc k trivial)
   obtain ⟨c, x3, hiff⟩ := hr.code_cell
   have hd : (c != 0) = true := by simp; exact fun h => hc (hiff.1 h)
   clear HL HO k hr hc hiff
   go_enter Tryz.func96, Tryz.ntmps96
   go_wp2
   go_ret
   exact ⟨_, [], rfl, PtW.nil _ _ rfl, fun h => absurd h HD.out.2, RfTo.refl HD.out.1⟩
 obtain ⟨lv, i, o, c, a, hat⟩ := hr
 have HAT := Lib.hid hat
 obtain ⟨q1, q2, q3, q4⟩ := hat.st.resolve_right (fun h => h.1 hc)
 subst q2
 have x3 : w.cell? ⟨b, 3, none⟩ = some (.int .i64 0) := rf_cell hat.blk 3
 have x2 : w.cell? ⟨b, 2, none⟩ = some (.int .i64 (o : Int)) := rf_cell hat.blk 2
 have f2 : w.frozen? ⟨b, 2, none⟩ = false := rf_free hat.blk 2
 have ho := hat.ole
 have hob := hat.obg
 have h00 : ((0 : Int) != 0) = false := by decide
 by_cases h200 : o = 200
 · have hd : decide ((200 : Int) ≤ (o : Int)) = true := decide_eq_true (by omega)
   have hd' : decide (200 ≤ o) = true := decide_eq_true (by omega)
   have HE : Hid (r' = r.fail 6) := Lib.hid (by
    rw [run, if_pos (by omega)] at k
    simp only [Option.some.injEq, Prod.mk.injEq] at k
    exact k.2.symm)
   clear HL HO k hat
   go_enter Tryz.func96, Tryz.ntmps96
   go_wp2_with fail
   refine (rfail_any b L r 6 (by decide) _ HR.out hL).mono ?_
   rintro e w2 ⟨rfl, hto⟩
   have HT2 := Lib.hid hto
   clear hto
   go_wp2
   go_ret
   exact ⟨_, [], rfl, PtW.nil _ _ rfl, fun h => absurd h (by rw [HE.out]; exact fail_code 6 (by decide) _), by rw [HE.out]; exact HT2.out⟩
 have hd : decide ((200 : Int) ≤ (o : Int)) = false := decide_eq_false (by omega)
 have hd' : decide (200 ≤ o) = false := decide_eq_false (by omega)
 have hbeg : r.begun ≠ 200 := by omega
 obtain ⟨A, cc, hlv, z1, z2, hA⟩ := hat.tok
 subst hlv
 unfold maxLen at z2
 have x0 : w.cell? ⟨b, 0, none⟩ = some (.slice A L.length cc) := rf_cell hat.blk 0
 have x1 : w.cell? ⟨b, 1, none⟩ = some (.int .i64 (i : Int)) := rf_cell hat.blk 1
 have hile := hat.ile
 by_cases hin : i < L.length
 rotate_left
 · have e1 : decide ((L.length : Int) ≤ (i : Int)) = true := decide_eq_true (by omega)
   have e2 : decide (L.length ≤ i) = true := decide_eq_true (by omega)
   have HE := Lib.hid (opnd_end k hbeg (by rw [q3, ← q4]; exact hin))
   clear HL HO k hat hA
   go_enter Tryz.func96, Tryz.ntmps96
   go_wp2
   go_region
   all_goals go_wp2_with fail
   all_goals refine (rfail_any b L r 5 (by decide) _ (HR.out.below (Tr.below_drewN (n := 1) (Below.refl _ _))) hL).mono ?_
   all_goals rintro e w2 ⟨rfl, hto⟩
   all_goals have HT2 := Lib.hid (RfTo.below (Tr.below_drewN (n := 1) (Below.refl _ _)) hlt hto)
   all_goals clear hto
   all_goals go_wp2
   all_goals go_ret
   all_goals exact ⟨_, [], rfl, PtW.nil _ _ rfl, fun h => absurd h (by rw [HE.out]; exact fail_code 5 (by decide) _), by rw [HE.out]; exact HT2.out⟩
 have e1 : decide ((L.length : Int) ≤ (i : Int)) = false := decide_eq_false (by omega)
 have e2 : decide (L.length ≤ i) = false := decide_eq_false (by omega)
 obtain ⟨r1, hbr, rfl⟩ := opnd_begun k hbeg
 have HBR := Lib.hid hbr
 obtain ⟨t, ht⟩ : ∃ t, L[i]? = some t := ⟨_, List.getElem?_eq_getElem hin⟩
 obtain ⟨g, rfl, _, hg, t0, t1, t2⟩ := hA i t ht
 have HTK := Lib.hid (show L[r.open_.next]? = some t from by show L[r.next]? = _; rw [← q4]; exact ht)
 have HC := Lib.hid hc
 have HNX := Lib.hid (show r.open_.next < L.length from by show r.next < _; omega)
 have HLH := Lib.hid HL
 have HOH := Lib.hid HO
 have HOK := Lib.hid hok
 have HT0 := Lib.hid ht0
 have hbn : b ≠ w.heap.size := by omega
 have hgn : g ≠ w.heap.size := by omega
 have hgb : g ≠ b := by omega
 have HBEG := Lib.hid (begun_beg hbr (show r.open_.fine from HR.out.fine))
 have hset0 : RfTo w (w.setCell ⟨b, 2, none⟩ (.int .i64 ((o : Int) + 1))) b L r.open_ := HAT.out.setO (r' := r.open_) (o' := o + 1) (v := (o : Int) + 1) (by omega) (by show o + 1 = r.begun + 1; omega) rfl rfl rfl rfl (by omega)
 have HTA' : Hid (RfTo w (w.setCell ⟨b, 2, none⟩ (.int .i64 ((o : Int) + 1))).drew b L r.open_) := Lib.hid (hset0.then_below (Tr.below_drewN (n := 1) (Below.refl _ _)))
 clear hset0
 have HOBH := Lib.hid hob
 clear HL HO k hat hA hbr ht hok ht0 hc q1 q3 q4 hob hbeg
 obtain ⟨K, TX, P⟩ := t
 simp only at t0 t1 t2
 go_enter Tryz.func96, Tryz.ntmps96
 go_wp2
 go_region
 go_wp2
 obtain ⟨wa, hwa⟩ : ∃ wa, (w.setCell ⟨b, 2, none⟩ (.int .i64 ((o : Int) + 1))).drew = wa := ⟨_, rfl⟩
 rw [hwa]
 rw [hwa] at HTA'
 have hkeep : ∀ gg, gg ≠ b → wa.heap[gg]? = w.heap[gg]? := fun gg hgg => by rw [← hwa]; exact set_heap w b 2 _ gg hgg
 have hsz : w.heap.size = wa.heap.size := by rw [← hwa]; show _ = (w.setCell ⟨b, 2, none⟩ _).heap.size; simp [World.setCell]
 have hbk : wa.heap[b]? = some (.cells (rfCells (.slice (some ⟨g, 0, none⟩) L.length cc) i (o + 1) 0 a) 105 (0, 0)) := by
  rw [← hwa]; show (w.setCell ⟨b, 2, none⟩ (.int .i64 ((o : Int) + 1))).heap[b]? = _; rw [setObj_heap HAT.out.blk (by simp [rfCells])]; simp [rfCells]
 have y0 : wa.cell? ⟨b, 0, none⟩ = some (.slice (some ⟨g, 0, none⟩) L.length cc) := rf_cell hbk 0
 have y1 : wa.cell? ⟨b, 1, none⟩ = some (.int .i64 (i : Int)) := rf_cell hbk 1
 have s0 : wa.cell? ⟨g, i * 3, none⟩ = some (.int .i64 K) := (World.cell?_of_block (w := w) (a := ⟨g, i * 3, none⟩) (hkeep g hgb)).trans t0
 have s1 : wa.cell? ⟨g, i * 3 + 1, none⟩ = some (.string (str TX)) := (World.cell?_of_block (w := w) (a := ⟨g, i * 3 + 1, none⟩) (hkeep g hgb)).trans t1
 have s2 : wa.cell? ⟨g, i * 3 + 2, none⟩ = some (.int .i64 (P : Int)) := (World.cell?_of_block (w := w) (a := ⟨g, i * 3 + 2, none⟩) (hkeep g hgb)).trans t2
 have hltA : b < wa.heap.size := by omega
 have hgA : g < wa.heap.size := by omega
 have hbnA : b ≠ wa.heap.size := by omega
 have hgnA : g ≠ wa.heap.size := by omega
 have HTA : Hid (RfTo w wa b L r.open_) := HTA'
 clear HTA' hwa x0 x1 x2 x3 f2 t0 t1 t2 hkeep hbk hsz hbn hgn
 go_region
 go_wp2_with fail
 refine (begun_any L HOK.out HT0.out f HLH.out HOH.out r.open_ HC.out HNX.out ⟨K, TX, P⟩ HTK.out p r1 HBR.out _ b (HTA.out.then_below (Tr.below_drewN (n := 1) (below_new wa (.cells #[.int .i64 K, .string (str TX), .int .i64 (P : Int)] 85)))).rd).mono ?_
 rintro e w2 ⟨ev, l, rfl, hp2, hrd2, hto2⟩
 have HT2 := Lib.hid ((HTA.out.then_below (Tr.below_drewN (n := 1) (below_new wa (.cells #[.int .i64 K, .string (str TX), .int .i64 (P : Int)] 85)))).trans hto2)
 have HP2 := Lib.hid hp2
 have HRD2 := Lib.hid hrd2
 obtain ⟨⟨A2, c2, hv2, v1, v2, _⟩, _⟩ := hp2
 simp only at hv2 v1
 subst hv2
 unfold maxLen at v2
 clear hrd2 hto2
 obtain ⟨lv2, i2, o2, cc2, a2, hat2⟩ := HT2.out.rd
 have HAT2 := Lib.hid hat2
 have u2 : w2.cell? ⟨b, 2, none⟩ = some (.int .i64 (o2 : Int)) := rf_cell hat2.blk 2
 have uf : w2.frozen? ⟨b, 2, none⟩ = false := rf_free hat2.blk 2
 have ho2 := hat2.ole
 have hob2 : o2 = r.begun + 1 := by have h1 := hat2.obg; have h2 := HBEG.out; simp only [Rd.open_] at h2; omega
 have hge : 1 ≤ o2 := by omega
 clear hob2
 have hlt2 := lt_of_block hat2.blk
 have hset := HAT2.out.setO (r' := r1.shut) (o' := o2 - 1) (v := (o2 : Int) - 1) (by omega) (by simp only [Rd.shut]; have := hat2.obg; omega) rfl rfl rfl rfl (by omega)
 have HSET := Lib.hid hset
 have HPX := Lib.hid (PtW.grownR HP2.out HT2.out.rd hset.grown)
 have hwr : IntKind.i64.wrap ((o2 : Int) - 1) = (o2 : Int) - 1 := IntWalk.i64_in _ (by omega)
 clear hat2 hset
 go_wp2
 go_ret
 exact ⟨_, l, rfl, HPX.out, HRD2.out, HT2.out.trans HSET.out⟩
theorem all_any (L : List Ex.Tok) (hok : OkL L) (ht0 : ∀ t ∈ L, t.text.length ≤ 1000000) : ∀ f, (∀ g, g ≤ f → RLev L g) ∧ (∀ g, g ≤ f → ROpnd L g) := by
 intro f
 induction f with
 | zero =>
  refine ⟨fun g hg => ?_, fun g hg => ?_⟩
  · obtain rfl : g = 0 := by omega
    intro n r p r' h; cases h
  · obtain rfl : g = 0 := by omega
    intro r p r' h; cases h
 | succ f ih =>
  obtain ⟨h1, h2⟩ := ih
  have hO : ROpnd L (f + 1) := fun r p r' h w b hr => operand_any L hok ht0 f h1 h2 r p r' h w b hr
  have hL : RLev L (f + 1) := fun n r p r' h n1 n9 w b hr => by
   match n, n1, n9, h with
   | 1, _, _, h => exact lev1_any L hok f (h1 f (Nat.le_refl _)) r p r' h w b hr
   | 2, _, _, h => exact lev2_any L hok f (h1 f (Nat.le_refl _)) r p r' h w b hr
   | 3, _, _, h => exact lev3_any L hok f h1 r p r' h w b hr
   | 4, _, _, h => exact lev4_any L hok f h1 r p r' h w b hr
   | 5, _, _, h => exact lev5_any L hok f h1 r p r' h w b hr
   | 6, _, _, h => exact lev6_any L hok f h1 r p r' h w b hr
   | 7, _, _, h => exact lev7_any L hok f h1 r p r' h w b hr
   | 8, _, _, h => exact lev8_any L hok f h1 r p r' h w b hr
   | 9, _, _, h =>
    rw [run, if_pos rfl] at h
    exact h2 f (Nat.le_refl _) r p r' h w b hr
  refine ⟨fun g hg => ?_, fun g hg => ?_⟩
  · rcases Nat.lt_or_ge g (f + 1) with h | h
    · exact h1 g (by omega)
    · obtain rfl : g = f + 1 := by omega
      exact hL
  · rcases Nat.lt_or_ge g (f + 1) with h | h
    · exact h2 g (by omega)
    · obtain rfl : g = f + 1 := by omega
      exact hO
end Go.Proofs.YtdebhngpgabglaaGreat.Rf
namespace Go.Proofs.YtdebhngpgabglaaGreat.Ex
open Go.ChangeShapes Go.WideShapes Go.ChangeAt Go.RowKit
open Go.Proofs.YtdebhngpgabglaaGreat.Tr (str ret_bool ret_int Bytes Nd joinM roomM own_block)
theorem parse_nextN {l : List Tok} {x : Pt × Rd} (hl : l.length ≤ 1000000) (h : run (fuelOf l 0) (.lev 1) ⟨l, 0, 0, 0, 0⟩ = some x) : (parseOf l 0 x).2.1 ≤ 1000000 := by
 obtain ⟨p, r⟩ := x
 have h1 := (run_step _ _ _ _ _ h (fun hc => absurd rfl hc) (by simp [Task.pre])).1.top
 simp only at h1
 simp only [parseOf]
 split
 · simp
 · split
   · simp
   · split
     · simp
     · simp only; omega
theorem stayA {w : World} {B : Nat} {o o' : Obj} (h : w.heap[B]? = some o) : (w.alloc o').heap[B]? = some o := (Below.heap_alloc _ _ _ (lt_of_block h)).trans h
end Go.Proofs.YtdebhngpgabglaaGreat.Ex
namespace Go.Proofs.YtdebhngpgabglaaGreat.Rf
open Go.ChangeShapes Go.WideShapes Go.ChangeAt Go.RowKit
open Go.Proofs.YtdebhngpgabglaaGreat.Ex Go.Proofs.YtdebhngpgabglaaGreat.Sh
open Go.Proofs.YtdebhngpgabglaaGreat.Tr (str ret_bool ret_int Bytes Nd T joinM roomM binaryB unaryB plainB)
theorem depth_flat (t : T) (h : t.okB = true) : Tr.depthM (t.flat 0) = t.depth := by
 have hp := t.size_pos
 have hlen := T.flat_len t 0
 have hah : Tr.Ahead (t.flat 0) := fun i n hn k hk => by
  have hg := Tr.good_flat (e := t.flat 0) t 0 h (Tr.Seg.self _) i n hn
  have := hg.ahead k hk; rw [Nat.zero_add] at this; exact this
 rw [Tr.depth_tree hah (by omega)]
 have := Tr.root_flat t h
 unfold Tr.root at this
 rw [this]
theorem pt_eq {w W : World} {e : Ending} {x y : List Nd × Nat × Int × Int} (h : x = y) (k : ParseTo w y e W) : ParseTo w x e W := by rw [h]; exact k
theorem pair_here {w1 : World} {B : Nat} {u0 u1 : Value} (v0 v1 : Value) {T : TypeId} (hh : w1.heap[B]? = some (.cells #[u0, u1] T (0, 0))) :
 ((w1.setCell ⟨B, 0, none⟩ v0).setCell ⟨B, 1, none⟩ v1).cell? ⟨B, 0, none⟩ = some v0 ∧ ((w1.setCell ⟨B, 0, none⟩ v0).setCell ⟨B, 1, none⟩ v1).cell? ⟨B, 1, none⟩ = some v1 := by
 have h2 := setObj_heap (v := v1) (setObj_heap (v := v0) hh (k := 0) (by simp)) (k := 1) (by simp)
 constructor <;> simp [World.cell?, h2]
set_option maxRecDepth 100000 in
set_option maxHeartbeats 4000000 in
theorem rparse_any (l : List Ex.Tok) (hok : OkL l) (ht0 : ∀ t ∈ l, t.text.length ≤ 1000000) (lv : Value) (n : Nat) (hn : n ≤ l.length) (w : World) (hv : TokOff w w.heap.size lv l) (p : Pt) (r' : Rd) (k : run (fuelOf l n) (.lev 1) ⟨l, n, 0, 0, 0⟩ = some (p, r')) :
 Calls Tryz.prog 29 #[lv, .int .i64 (n : Int)] w (ParseTo w (parseOf l n (p, r'))) := by
 have HK := Lib.hid k
 have HOK := Lib.hid hok
 have HT0 := Lib.hid ht0
 have HV := Lib.hid hv
 have hlen := hok.len
 obtain ⟨A, cc, rfl, z1, z2, hA⟩ := hv
 unfold maxLen at z2
 have n0 : decide ((n : Int) < 0) = false := decide_eq_false (by omega)
 have n1 : decide ((l.length : Int) < (n : Int)) = false := decide_eq_false (by omega)
 have n1' : decide (l.length < n) = false := decide_eq_false (by omega)
 obtain ⟨wa, hwa⟩ : ∃ wa, (w.alloc (.cells #[.int .i64 0, .int .i64 0] 46)).alloc (.cells #[.slice A l.length cc, .int .i64 (n : Int), .int .i64 0, .int .i64 0, .int .i64 0] 105) = wa := ⟨_, rfl⟩
 have HBA : Hid (Below w.heap.size w wa) := Lib.hid (by rw [← hwa]; exact (below_new w _).alloc (below_new w _).size _)
 have X0 : Hid (wa.heap[w.heap.size]? = some (.cells #[.int .i64 0, .int .i64 0] 46 (0, 0))) := Lib.hid (by rw [← hwa]; exact stayA (heap_alloc_new w _))
 have X1 : wa.heap[w.heap.size + 1]? = some (.cells #[.slice A l.length cc, .int .i64 (n : Int), .int .i64 0, .int .i64 0, .int .i64 0] 105 (0, 0)) := by rw [← hwa]; exact new_blk (by simp)
 have HRF : Hid (Rf wa (w.heap.size + 1) l ⟨l, n, 0, 0, 0⟩) := Lib.hid ⟨.slice A l.length cc, n, 0, 0, 0, X1, (by
  have hs := HBA.out.size
  have hl := lt_of_block X1
  exact (TokOff.keep (w := w) (b := w.heap.size + 1) (by
   obtain ⟨A', c', e1, e2, e3, e4⟩ := HV.out
   exact ⟨A', c', e1, e2, e3, fun i t hi => by obtain ⟨g, f1, f2, f3⟩ := e4 i t hi; exact ⟨g, f1, by omega, f3⟩⟩) hs (fun g _ hg => HBA.out.block g hg))), hn, by omega, rfl, .inl ⟨rfl, rfl, rfl, rfl⟩⟩
 have HWA := Lib.hid hwa
 clear k hok ht0 hA hwa X1
 go_enter Tryz.func29, Tryz.ntmps29
 go_wp2_with fail
 rw [HWA.out]
 refine (rlev_at (n := 1) ((all_any l HOK.out HT0.out (fuelOf l n)).1 _ (Nat.le_refl _)) HK.out (by omega) (by omega) rfl HRF.out).mono ?_
 rintro e w1 ⟨ev, el, rfl, hp1, hrd1, hto1⟩
 have HP1 := Lib.hid hp1
 have HRD1 := Lib.hid hrd1
 have HT1 := Lib.hid hto1
 have XF : Hid (w1.heap[w.heap.size]? = some (.cells #[.int .i64 0, .int .i64 0] 46 (0, 0))) := Lib.hid ((hto1.grown.block w.heap.size (lt_of_block X0.out) (fun e => by injection e; omega)).trans X0.out)
 have HB1 : Hid (Below w.heap.size w w1) := Lib.hid ⟨hto1.grown.os.trans HBA.out.os, hto1.grown.tape.trans HBA.out.tape, hto1.grown.output.trans HBA.out.output, Nat.le_trans HBA.out.size hto1.grown.size, fun i hi => (hto1.grown.block i (Nat.lt_of_lt_of_le hi HBA.out.size) (fun e => by injection e; omega)).trans (HBA.out.block i hi)⟩
 obtain ⟨⟨A1, c1, hv1, y1, y2, _⟩, _⟩ := hp1
 simp only at hv1 y1
 subst hv1
 unfold maxLen at y2
 clear hrd1 hto1
 obtain ⟨lv, i, o, ec, ea, hat⟩ := HT1.out.rd
 have hst := Lib.hid hat.st
 have d3 : w1.cell? ⟨w.heap.size + 1, 3, none⟩ = some (.int .i64 ec) := rf_cell hat.blk 3
 have d4 : w1.cell? ⟨w.heap.size + 1, 4, none⟩ = some (.int .i64 ea) := rf_cell hat.blk 4
 have d1 : w1.cell? ⟨w.heap.size + 1, 1, none⟩ = some (.int .i64 (i : Int)) := rf_cell hat.blk 1
 have hl1 := lt_of_block hat.blk
 have HBK := Lib.hid hat.blk
 have hl0 : w.heap.size < w1.heap.size := by omega
 have g0 : w1.cell? ⟨w.heap.size, 0, none⟩ = some (.int .i64 0) := (cell_at XF.out 0).trans rfl
 have g1 : w1.cell? ⟨w.heap.size, 1, none⟩ = some (.int .i64 0) := (cell_at XF.out 1).trans rfl
 have h0 : w1.frozen? ⟨w.heap.size, 0, none⟩ = false := free_at XF.out 0
 have h1 : w1.frozen? ⟨w.heap.size, 1, none⟩ = false := free_at XF.out 1
 clear hat
 by_cases hec : ec = 0
 rotate_left
 · have hd : (ec != 0) = true := by simpa using hec
   have HE : Hid (parseOf l n (p, r') = ([], 0, ec, ea)) := Lib.hid (by
    obtain ⟨q1, q2, q3, _⟩ := hst.out.resolve_left (fun h => hec h.2.1)
    simp only [parseOf]; rw [if_pos q1, q2, q3])
   clear hec
   go_wp2
   go_region
   all_goals go_wp2
   all_goals
    refine bodyPost_ret (v := .tuple #[.slice none 0 0, .int .i64 (0), .agg #[.int .i64 (ec), .int .i64 (ea)]]) ?_ rfl (pt_eq HE.out ⟨_, rfl, (PtW.nil _ ⟨[], 0, 0⟩ rfl), ?_⟩)
    · obtain ⟨k0, k1⟩ := pair_here (.int .i64 (ec)) (.int .i64 (ea)) XF.out
      clear g0 g1 h0 h1 d1 d3 d4
      simp [results, Tryz.results29, go_sem, k0, k1]
    · repeat (first | exact HB1.out | refine Below.setCell ?_ (by exact Nat.le_refl _) _ | refine Below.drew ?_)
 have q := hst.out.resolve_right (fun h => h.1 (by
  have := h.2.1; omega))
 have hrc : r'.code = 0 := q.1
 obtain ⟨t, ht, hp, hl⟩ := HRD1.out hrc
 have hd : (ec != 0) = false := by rw [hec]; rfl
 have hel : el.length = t.size := by rw [hl]; exact T.flat_len t 0
 have hpn : p.nodes = t.size := by rw [hp]; rfl
 have hpd : p.deep = t.depth := by rw [hp]; rfl
 have HPE : Hid (t.size ≤ 5000 → t.depth ≤ 40 → p.e = el) := Lib.hid (by rw [hp, hl]; intro a b; exact if_pos ⟨a, b⟩)
 have HDF : Hid (Tr.depthM el = t.depth) := Lib.hid (by rw [hl]; exact depth_flat t ht.1)
 have HNX : Hid (i = r'.next) := Lib.hid q.2.2.2
 have HRC := Lib.hid hrc
 have HPN := Lib.hid hpn
 have HPD := Lib.hid hpd
 have HEL := Lib.hid hel
 have HEC := Lib.hid hec
 clear q hp hl ht hrc hpn hpd hec
 obtain ⟨sz, hsz⟩ : ∃ sz, t.size = sz := ⟨_, rfl⟩
 obtain ⟨dp, hdp⟩ : ∃ dp, t.depth = dp := ⟨_, rfl⟩
 rw [hsz] at HPN HPE HEL hel
 rw [hdp] at HPD HPE HDF
 clear hsz hdp
 by_cases h5 : 5000 < sz
 · have hd5 : decide ((5000 : Int) < (el.length : Int)) = true := by rw [decide_eq_true_iff]; omega
   have HE : Hid (parseOf l n (p, r') = ([], 0, 7, atM l n)) := Lib.hid (by
    have h1 := HPN.out
    simp only [parseOf]; rw [if_neg (by simp [HRC.out]), if_pos (by omega)])
   clear hel
   go_wp2_with fail
   refine (rat_any _ l w1.heap.size n _ (HV.out.rise HB1.out (Below.refl _ _)) (by omega)).mono ?_
   rintro e w5 ⟨rfl, rfl⟩
   go_wp2
   all_goals
    refine bodyPost_ret (v := .tuple #[.slice none 0 0, .int .i64 (0), .agg #[.int .i64 (7), .int .i64 (atM l n)]]) ?_ rfl (pt_eq HE.out ⟨_, rfl, (PtW.nil _ ⟨[], 0, 0⟩ rfl), ?_⟩)
    · obtain ⟨k0, k1⟩ := pair_here (.int .i64 (7)) (.int .i64 (atM l n)) XF.out
      clear g0 g1 h0 h1 d1 d3 d4
      simp [results, Tryz.results29, go_sem, k0, k1]
    · repeat (first | exact HB1.out | refine Below.setCell ?_ (by exact Nat.le_refl _) _ | refine Below.drew ?_)
 have hd5 : decide ((5000 : Int) < (el.length : Int)) = false := by rw [decide_eq_false_iff_not]; omega
 have hcall := Tr.rdepth_any _ el _ HP1.out.1 (by omega)
 rw [HDF.out] at hcall
 clear hel
 go_wp2_with fail
 refine hcall.mono ?_
 rintro e w2 ⟨rfl, hb2⟩
 have HB2 : Hid (Below w.heap.size w w2) := Lib.hid (HB1.out.trans (hb2.mono (by omega)))
 have HP2 := Lib.hid (HP1.out.below hb2)
 have XG : Hid (w2.heap[w.heap.size]? = some (.cells #[.int .i64 0, .int .i64 0] 46 (0, 0))) := Lib.hid ((hb2.block _ (lt_of_block XF.out)).trans XF.out)
 have hbk : w2.heap[w.heap.size + 1]? = some (.cells (rfCells lv i o ec ea) 105 (0, 0)) := (hb2.block _ (lt_of_block HBK.out)).trans HBK.out
 clear g0 g1 h0 h1 d1 d3 d4 hcall hb2 hl0 hl1
 have d1 : w2.cell? ⟨w.heap.size + 1, 1, none⟩ = some (.int .i64 (i : Int)) := rf_cell hbk 1
 have g0 : w2.cell? ⟨w.heap.size, 0, none⟩ = some (.int .i64 0) := (cell_at XG.out 0).trans rfl
 have g1 : w2.cell? ⟨w.heap.size, 1, none⟩ = some (.int .i64 0) := (cell_at XG.out 1).trans rfl
 have h0 : w2.frozen? ⟨w.heap.size, 0, none⟩ = false := free_at XG.out 0
 have h1 : w2.frozen? ⟨w.heap.size, 1, none⟩ = false := free_at XG.out 1
 have hl1 := lt_of_block hbk
 have hl0 : w.heap.size < w2.heap.size := by omega
 clear hbk
 by_cases h4 : 40 < dp
 · have hd4 : decide ((40 : Int) < (dp : Int)) = true := by rw [decide_eq_true_iff]; omega
   have HE : Hid (parseOf l n (p, r') = ([], 0, 6, atM l n)) := Lib.hid (by
    have h1 := HPN.out
    have h2 := HPD.out
    simp only [parseOf]; rw [if_neg (by simp [HRC.out]), if_neg (by omega), if_pos (by omega)])
   go_wp2_with fail
   refine (rat_any _ l w2.heap.size n _ (HV.out.rise HB2.out (Below.refl _ _)) (by omega)).mono ?_
   rintro e w5 ⟨rfl, rfl⟩
   go_wp2
   all_goals
    refine bodyPost_ret (v := .tuple #[.slice none 0 0, .int .i64 (0), .agg #[.int .i64 (6), .int .i64 (atM l n)]]) ?_ rfl (pt_eq HE.out ⟨_, rfl, (PtW.nil _ ⟨[], 0, 0⟩ rfl), ?_⟩)
    · obtain ⟨k0, k1⟩ := pair_here (.int .i64 (6)) (.int .i64 (atM l n)) XG.out
      clear g0 g1 h0 h1 d1
      simp [results, Tryz.results29, go_sem, k0, k1]
    · repeat (first | exact HB2.out | refine Below.setCell ?_ (by exact Nat.le_refl _) _ | refine Below.drew ?_)
 have hd4 : decide ((40 : Int) < (dp : Int)) = false := by rw [decide_eq_false_iff_not]; omega
 have HE : Hid (parseOf l n (p, r') = (el, i, 0, 0)) := Lib.hid (by
  have h1 := HPN.out
  have h2 := HPD.out
  simp only [parseOf]; rw [if_neg (by simp [HRC.out]), if_neg (by omega), if_neg (by omega), HPE.out (by omega) (by omega), HNX.out])
 go_wp2
 go_region
 all_goals go_wp2
 all_goals
  refine bodyPost_ret (v := .tuple #[.slice A1 el.length c1, .int .i64 ((i : Int)), .agg #[.int .i64 (0), .int .i64 (0)]]) ?_ rfl (pt_eq HE.out ⟨_, rfl, (by first | exact ((HP2.out.set XG.out (by decide) _).set (setObj_heap (v := .int .i64 0) XG.out (k := 0) (by simp)) (by decide) _) | exact ((HP2.out.set XG.out (by decide) _).set (setObj_heap (v := .int .i64 0) XG.out (k := 0) (by simp)) (by decide) _).drew), ?_⟩)
  · obtain ⟨k0, k1⟩ := pair_here (.int .i64 (0)) (.int .i64 (0)) XG.out
    clear g0 g1 h0 h1 d1
    simp [results, Tryz.results29, go_sem, k0, k1]
  · repeat (first | exact HB2.out | refine Below.setCell ?_ (by exact Nat.le_refl _) _ | refine Below.drew ?_)
end Go.Proofs.YtdebhngpgabglaaGreat.Rf
namespace Go.Proofs.YtdebhngpgabglaaGreat.Lx
open Go.ChangeShapes Go.WideShapes Go.ChangeAt Go.RowKit
set_option maxHeartbeats 1600000 in
theorem refSign_any (s : ByteArray) (w : World) (h : s.size ≤ maxLen) (hp : 0 < s.size) :
 Calls Tryz.prog 68 #[.string s] w fun e w' => e = .returned (.string (str (signOf s.toList))) ∧ Below w.heap.size w w' := by
 unfold maxLen at h
 have hne : s.toList ≠ [] := by intro e; have := toList_len s; rw [e] at this; simp at this; omega
 have HF := Lib.hid (find_sign s.toList hne)
 have HL := Lib.hid (toList_len s)
 clear hne
 go_enter Tryz.func68, Tryz.ntmps68
 go_wp2_with fail
 refine (signs_any _).mono ?_
 rintro e w1 ⟨rfl, ht, hb⟩
 rw [show signTexts.length = 16 from rfl]
 have HT := Lib.hid ht
 have HB := Lib.hid hb
 clear ht hb
 go_wp2
 go_loopw [4] (fun i wr => ∃ k n : Nat, k ≤ 16 ∧ i = .int .i64 k ∧ wr = w1.drewN n ∧ (signTexts.take k).find? (fits_ s.toList) = none) (fun i _ => 16 - (intOf i).toNat)
 case atStart => exact ⟨0, 0, Nat.zero_le _, rfl, rfl, rfl⟩
 case round =>
  obtain ⟨k, n, hk, rfl, rfl, hc⟩ := hrel
  have HC := Lib.hid hc
  clear hc
  by_cases hlt : k < 16
  · obtain ⟨x, hx⟩ : ∃ x, signTexts[k]? = some x := ⟨_, List.getElem?_eq_getElem hlt⟩
    have c0 := HT.out.2 k x hx
    have HX := Lib.hid hx
    clear hx
    have hst := str_toList x
    have hsz := str_size x
    by_cases h1 : x.length ≤ s.size
    · have h1' : decide (x.length ≤ s.size) = true := by simpa using h1
      have he : (s.extract 0 x.length).toList = s.toList.take x.length := by rw [extract_toList]; rfl
      rcases Bool.eq_false_or_eq_true ((s.extract 0 x.length).toList == x) with hq | hq
      · have hfit : fits_ s.toList x = true := by
         unfold fits_; rw [HL.out, h1', ← he, hq]; rfl
        have HS := Lib.hid (show signOf s.toList = x from by
         have h2 := HF.out
         rw [find_hit HC.out HX.out hfit] at h2
         split at h2
         · cases h2
         · exact (Option.some.inj h2).symm)
        clear he hfit
        go_wp2
        go_quiet (fail)
        go_wp2
        go_ret
        exact ⟨ret_str (by rw [HS.out]), Below.trans HB.out ⟨rfl, rfl, rfl, Nat.le_refl _, fun _ _ => rfl⟩⟩
      · have hfit : fits_ s.toList x = false := by
         unfold fits_; rw [← he, hq, Bool.and_false]
        have HS := Lib.hid (find_next HC.out HX.out hfit)
        clear he hfit
        go_wp2
        go_quiet (fail)
        go_wp2
        refine ⟨⟨k + 1, n + nq, by omega, by go_num, rfl, HS.out⟩, by simp [intOf]; omega⟩
    · have h1' : decide (x.length ≤ s.size) = false := by simpa using h1
      have hfit : fits_ s.toList x = false := by
       unfold fits_; rw [HL.out, h1', Bool.false_and]
      have HS := Lib.hid (find_next HC.out HX.out hfit)
      clear hfit
      go_wp2
      go_quiet (fail)
      go_wp2
      refine ⟨⟨k + 1, n + nq, by omega, by go_num, rfl, HS.out⟩, by simp [intOf]; omega⟩
  · have HS := Lib.hid (show signOf s.toList = [] from by
     have h2 := HF.out
     have h3 := HC.out
     rw [List.take_of_length_le (by show (16 : Nat) ≤ k; omega)] at h3
     rw [h3] at h2
     split at h2
     · assumption
     · cases h2)
    go_wp2
    go_ret
    exact ⟨ret_str (by rw [HS.out]; rfl), Below.trans HB.out ⟨rfl, rfl, rfl, Nat.le_refl _, fun _ _ => rfl⟩⟩
def oneTok (l : Bytes) (p : Int) (W : World) : Ending → World → Prop :=
 GivesTok W (if (one l).2.2 = 0 then (one l).2.1 else 0) (if (one l).2.2 = 0 then (one l).1 else []) (if (one l).2.2 = 0 then p else 0) (one l).2.2
theorem oneTok_bad {l : Bytes} {T : Bytes} {K E : Int} (h : one l = (T, K, E)) (hE : E ≠ 0) (p : Int) (W : World) : oneTok l p W = GivesTok W 0 [] 0 E := by
 unfold oneTok; rw [h]; simp [hE]
theorem oneTok_ok {l : Bytes} {T : Bytes} {K : Int} (h : one l = (T, K, 0)) (p : Int) (W : World) : oneTok l p W = GivesTok W K T p 0 := by
 unfold oneTok; rw [h]; simp
theorem one_dig (s : ByteArray) (k : Nat) (hp : 0 < s.size) (hd : digitB s[0] = true) (hT : (s.extract 0 k).toList = s.toList.takeWhile digitB) (hk : 0 < k) (hex : (s.extract 0 k).size = k) :
 (1 < k ∧ s[0] = 48 → ∀ p W, oneTok s.toList p W = GivesTok W 0 [] 0 2) ∧ (2147483647 < val (s.extract 0 k).toList → ∀ p W, oneTok s.toList p W = GivesTok W 0 [] 0 2) ∧
 (¬ (1 < k ∧ s[0] = 48) → ¬ 2147483647 < val (s.extract 0 k).toList → ∀ p W, oneTok s.toList p W = GivesTok W 2 (s.extract 0 k).toList p 0) := by
 have ho : one s.toList = ((s.extract 0 k).toList, digM (s.extract 0 k).toList) := by
  unfold one; rw [head_get s hp, if_pos hd, hT]
 have hl : (s.extract 0 k).toList.length = k := by rw [toList_len, hex]
 have hne : (s.extract 0 k).toList ≠ [] := by intro e; rw [e] at hl; simp at hl; omega
 have hh : (s.extract 0 k).toList.headD 0 = s[0] := by
  rw [hT]
  have := head_get s hp
  cases hs : s.toList with
  | nil => rw [hs] at hT; rw [hT] at hne; exact absurd rfl hne
  | cons a r =>
   rw [hs] at this; rw [List.headD_cons] at this
   rw [List.takeWhile_cons, this, hd]; rfl
 have hv := digM_val (s.extract 0 k).toList (by rw [hT]; exact takeWhile_ok _ _) hne
 rw [hl, hh] at hv
 refine ⟨fun h p W => ?_, fun h p W => ?_, fun h1 h2 p W => ?_⟩
 · rw [if_pos (.inl h)] at hv; rw [hv] at ho; exact oneTok_bad ho (by decide) p W
 · rw [if_pos (.inr h)] at hv; rw [hv] at ho; exact oneTok_bad ho (by decide) p W
 · rw [if_neg (fun e => e.elim h1 h2)] at hv; rw [hv] at ho; exact oneTok_ok ho p W
set_option maxRecDepth 100000 in
set_option maxHeartbeats 4000000 in
theorem refOneDigit_any (s : ByteArray) (p : Int) (w : World) (h : s.size ≤ maxLen) (hp : 0 < s.size) (hd : digitB s[0] = true) :
 Calls Tryz.prog 47 #[.string s, .int .i64 p] w (oneTok s.toList p w) := by
 unfold maxLen at h
 have HC := Lib.hid (drop_cons s 0 hp).symm
 rw [List.drop_zero] at HC
 go_enter Tryz.func47, Tryz.ntmps47
 go_wp2_with (go_at_call 64; refine (refDigit_any _ _).mono ?_; rintro e w' ⟨rfl, rfl⟩)
 go_loop [6] (fun i => ∃ k : Nat, k ≤ s.size ∧ i = .int .i64 k ∧ ((s.toList.drop 0).take (k - 0)).all digitB = true) (fun i => s.size - (intOf i).toNat)
 case atStart => exact ⟨0, Nat.zero_le _, rfl, by simp⟩
 case round =>
  obtain ⟨k, hk, rfl, hs⟩ := hrel
  by_cases hlt : k < s.size
  · rcases Bool.eq_false_or_eq_true (digitB s[k]) with hb | hb
    · have HN := Lib.hid (row_more s digitB 0 k (Nat.zero_le _) hlt hs hb)
      clear hs
      go_wp2_with (go_at_call 64; refine (refDigit_any _ _).mono ?_; rintro e w' ⟨rfl, rfl⟩)
      go_round
      case rel => exact ⟨k + 1, by omega, by go_num, HN.out⟩
      case measure => simp [intOf]; omega
    · have HTT := Lib.hid (show (s.extract 0 k).toList = s.toList.takeWhile digitB from row_end s digitB 0 k (Nat.zero_le _) hk hs (fun _ => hb))
      have hkp : 0 < k := by
       rcases Nat.eq_zero_or_pos k with rfl | h0
       · have h1 := HTT.out
         rw [← HC.out, List.takeWhile_cons, hd] at h1
         have h2 := congrArg List.length h1
         rw [toList_len, ByteArray.size_extract] at h2
         simp at h2
       · exact h0
      have hex : (s.extract 0 k).size = k := by rw [ByteArray.size_extract]; omega
      have HO := Lib.hid (one_dig s k hp hd HTT.out hkp hex)
      have H59 := Lib.hid (show ∀ W, Calls Tryz.prog 65 #[.string (s.extract 0 k)] W (Tells (s.extract 0 k).toList W) from fun W => value_any _ W (by rw [hex]; unfold maxLen; omega) (by rw [HTT.out]; exact takeWhile_ok _ _))
      clear hex hs
      rcases Bool.eq_false_or_eq_true ((s[0].toNat : Int) == 48) with z | z
      · by_cases h1 : 1 < k
        · have h1' : decide ((1 : Int) < k) = true := by simp; omega
          go_wp2_with (first | (go_at_call 64; refine (refDigit_any _ _).mono ?_; rintro e w' ⟨rfl, rfl⟩) | (go_at_call 65; refine (H59.out _).mono ?_; rintro e w1 ⟨n, rfl, hn, rfl⟩))
          rw [HO.out.1 ⟨h1, (eq_cast _ _).2 (by simpa using z)⟩ p w]
          exact bodyPost_ret (v := .tuple #[.agg #[.int .i64 0, .string ⟨#[]⟩, .int .i64 0], .int .i64 2]) (by simp [results, Tryz.results47, go_sem]) rfl ⟨rfl, (Below.refl _ _).alloc (Nat.le_refl _) _⟩
        · have h1' : decide ((1 : Int) < k) = false := by simp; omega
          go_wp2_with (first | (go_at_call 64; refine (refDigit_any _ _).mono ?_; rintro e w' ⟨rfl, rfl⟩) | (go_at_call 65; refine (H59.out _).mono ?_; rintro e w1 ⟨n, rfl, hn, rfl⟩))
          · have hb : 2147483647 < val (s.extract 0 k).toList := by assumption
            rw [HO.out.2.1 hb p w]
            exact bodyPost_ret (v := .tuple #[.agg #[.int .i64 0, .string ⟨#[]⟩, .int .i64 0], .int .i64 2]) (by simp [results, Tryz.results47, go_sem]) rfl ⟨rfl, (Below.refl _ _).alloc (Nat.le_refl _) _⟩
          · have hb : ¬ 2147483647 < val (s.extract 0 k).toList := by assumption
            rw [HO.out.2.2 (fun e => h1 e.1) hb p w]
            exact bodyPost_ret (v := .tuple #[.agg #[.int .i64 2, .string (s.extract 0 k), .int .i64 p], .int .i64 0]) (by simp [results, Tryz.results47, go_sem]) rfl ⟨by rw [str_of], (Below.refl _ _).alloc (Nat.le_refl _) _⟩
      · have z' : (s[0] : UInt8) ≠ 48 := by intro e; rw [e] at z; simp at z
        by_cases h1 : 1 < k
        · have h1' : decide ((1 : Int) < k) = true := by simp; omega
          go_wp2_with (first | (go_at_call 64; refine (refDigit_any _ _).mono ?_; rintro e w' ⟨rfl, rfl⟩) | (go_at_call 65; refine (H59.out _).mono ?_; rintro e w1 ⟨n, rfl, hn, rfl⟩))
          · have hb : 2147483647 < val (s.extract 0 k).toList := by assumption
            rw [HO.out.2.1 hb p w]
            exact bodyPost_ret (v := .tuple #[.agg #[.int .i64 0, .string ⟨#[]⟩, .int .i64 0], .int .i64 2]) (by simp [results, Tryz.results47, go_sem]) rfl ⟨rfl, (Below.refl _ _).alloc (Nat.le_refl _) _⟩
          · have hb : ¬ 2147483647 < val (s.extract 0 k).toList := by assumption
            rw [HO.out.2.2 (fun e => z' e.2) hb p w]
            exact bodyPost_ret (v := .tuple #[.agg #[.int .i64 2, .string (s.extract 0 k), .int .i64 p], .int .i64 0]) (by simp [results, Tryz.results47, go_sem]) rfl ⟨by rw [str_of], (Below.refl _ _).alloc (Nat.le_refl _) _⟩
        · have h1' : decide ((1 : Int) < k) = false := by simp; omega
          go_wp2_with (first | (go_at_call 64; refine (refDigit_any _ _).mono ?_; rintro e w' ⟨rfl, rfl⟩) | (go_at_call 65; refine (H59.out _).mono ?_; rintro e w1 ⟨n, rfl, hn, rfl⟩))
          · have hb : 2147483647 < val (s.extract 0 k).toList := by assumption
            rw [HO.out.2.1 hb p w]
            exact bodyPost_ret (v := .tuple #[.agg #[.int .i64 0, .string ⟨#[]⟩, .int .i64 0], .int .i64 2]) (by simp [results, Tryz.results47, go_sem]) rfl ⟨rfl, (Below.refl _ _).alloc (Nat.le_refl _) _⟩
          · have hb : ¬ 2147483647 < val (s.extract 0 k).toList := by assumption
            rw [HO.out.2.2 (fun e => z' e.2) hb p w]
            exact bodyPost_ret (v := .tuple #[.agg #[.int .i64 2, .string (s.extract 0 k), .int .i64 p], .int .i64 0]) (by simp [results, Tryz.results47, go_sem]) rfl ⟨by rw [str_of], (Below.refl _ _).alloc (Nat.le_refl _) _⟩
  · have HTT := Lib.hid (show (s.extract 0 k).toList = s.toList.takeWhile digitB from row_end s digitB 0 k (Nat.zero_le _) hk hs (fun h => absurd h hlt))
    have hkp : 0 < k := by
     rcases Nat.eq_zero_or_pos k with rfl | h0
     · have h1 := HTT.out
       rw [← HC.out, List.takeWhile_cons, hd] at h1
       have h2 := congrArg List.length h1
       rw [toList_len, ByteArray.size_extract] at h2
       simp at h2
     · exact h0
    have hex : (s.extract 0 k).size = k := by rw [ByteArray.size_extract]; omega
    have HO := Lib.hid (one_dig s k hp hd HTT.out hkp hex)
    have H59 := Lib.hid (show ∀ W, Calls Tryz.prog 65 #[.string (s.extract 0 k)] W (Tells (s.extract 0 k).toList W) from fun W => value_any _ W (by rw [hex]; unfold maxLen; omega) (by rw [HTT.out]; exact takeWhile_ok _ _))
    clear hex hs
    rcases Bool.eq_false_or_eq_true ((s[0].toNat : Int) == 48) with z | z
    · by_cases h1 : 1 < k
      · have h1' : decide ((1 : Int) < k) = true := by simp; omega
        go_wp2_with (first | (go_at_call 64; refine (refDigit_any _ _).mono ?_; rintro e w' ⟨rfl, rfl⟩) | (go_at_call 65; refine (H59.out _).mono ?_; rintro e w1 ⟨n, rfl, hn, rfl⟩))
        rw [HO.out.1 ⟨h1, (eq_cast _ _).2 (by simpa using z)⟩ p w]
        exact bodyPost_ret (v := .tuple #[.agg #[.int .i64 0, .string ⟨#[]⟩, .int .i64 0], .int .i64 2]) (by simp [results, Tryz.results47, go_sem]) rfl ⟨rfl, (Below.refl _ _).alloc (Nat.le_refl _) _⟩
      · have h1' : decide ((1 : Int) < k) = false := by simp; omega
        go_wp2_with (first | (go_at_call 64; refine (refDigit_any _ _).mono ?_; rintro e w' ⟨rfl, rfl⟩) | (go_at_call 65; refine (H59.out _).mono ?_; rintro e w1 ⟨n, rfl, hn, rfl⟩))
        · have hb : 2147483647 < val (s.extract 0 k).toList := by assumption
          rw [HO.out.2.1 hb p w]
          exact bodyPost_ret (v := .tuple #[.agg #[.int .i64 0, .string ⟨#[]⟩, .int .i64 0], .int .i64 2]) (by simp [results, Tryz.results47, go_sem]) rfl ⟨rfl, (Below.refl _ _).alloc (Nat.le_refl _) _⟩
        · have hb : ¬ 2147483647 < val (s.extract 0 k).toList := by assumption
          rw [HO.out.2.2 (fun e => h1 e.1) hb p w]
          exact bodyPost_ret (v := .tuple #[.agg #[.int .i64 2, .string (s.extract 0 k), .int .i64 p], .int .i64 0]) (by simp [results, Tryz.results47, go_sem]) rfl ⟨by rw [str_of], (Below.refl _ _).alloc (Nat.le_refl _) _⟩
    · have z' : (s[0] : UInt8) ≠ 48 := by intro e; rw [e] at z; simp at z
      by_cases h1 : 1 < k
      · have h1' : decide ((1 : Int) < k) = true := by simp; omega
        go_wp2_with (first | (go_at_call 64; refine (refDigit_any _ _).mono ?_; rintro e w' ⟨rfl, rfl⟩) | (go_at_call 65; refine (H59.out _).mono ?_; rintro e w1 ⟨n, rfl, hn, rfl⟩))
        · have hb : 2147483647 < val (s.extract 0 k).toList := by assumption
          rw [HO.out.2.1 hb p w]
          exact bodyPost_ret (v := .tuple #[.agg #[.int .i64 0, .string ⟨#[]⟩, .int .i64 0], .int .i64 2]) (by simp [results, Tryz.results47, go_sem]) rfl ⟨rfl, (Below.refl _ _).alloc (Nat.le_refl _) _⟩
        · have hb : ¬ 2147483647 < val (s.extract 0 k).toList := by assumption
          rw [HO.out.2.2 (fun e => z' e.2) hb p w]
          exact bodyPost_ret (v := .tuple #[.agg #[.int .i64 2, .string (s.extract 0 k), .int .i64 p], .int .i64 0]) (by simp [results, Tryz.results47, go_sem]) rfl ⟨by rw [str_of], (Below.refl _ _).alloc (Nat.le_refl _) _⟩
      · have h1' : decide ((1 : Int) < k) = false := by simp; omega
        go_wp2_with (first | (go_at_call 64; refine (refDigit_any _ _).mono ?_; rintro e w' ⟨rfl, rfl⟩) | (go_at_call 65; refine (H59.out _).mono ?_; rintro e w1 ⟨n, rfl, hn, rfl⟩))
        · have hb : 2147483647 < val (s.extract 0 k).toList := by assumption
          rw [HO.out.2.1 hb p w]
          exact bodyPost_ret (v := .tuple #[.agg #[.int .i64 0, .string ⟨#[]⟩, .int .i64 0], .int .i64 2]) (by simp [results, Tryz.results47, go_sem]) rfl ⟨rfl, (Below.refl _ _).alloc (Nat.le_refl _) _⟩
        · have hb : ¬ 2147483647 < val (s.extract 0 k).toList := by assumption
          rw [HO.out.2.2 (fun e => z' e.2) hb p w]
          exact bodyPost_ret (v := .tuple #[.agg #[.int .i64 2, .string (s.extract 0 k), .int .i64 p], .int .i64 0]) (by simp [results, Tryz.results47, go_sem]) rfl ⟨by rw [str_of], (Below.refl _ _).alloc (Nat.le_refl _) _⟩
end Go.Proofs.YtdebhngpgabglaaGreat.Lx
