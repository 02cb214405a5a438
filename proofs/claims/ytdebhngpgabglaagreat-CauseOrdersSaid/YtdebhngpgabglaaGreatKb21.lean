/- The document's answer for layer expr: an operand that begins with a token: false. Conditions: a reader lies in memory at a token; the contracts at less fuel. -/
import Derived.Test.YtdebhngpgabglaaGreatKb20
import Derived.Test.YtdebhngpgabglaaGreatKb18
set_option linter.unusedVariables false
set_option linter.unusedSimpArgs false
namespace Go.Proofs.YtdebhngpgabglaaGreat.Rf
open Go.ChangeShapes Go.WideShapes Go.ChangeAt Go.RowKit
open Go.Proofs.YtdebhngpgabglaaGreat.Ex Go.Proofs.YtdebhngpgabglaaGreat.Sh
open Go.Proofs.YtdebhngpgabglaaGreat.Tr (str ret_bool ret_int Bytes Nd T joinM roomM binaryB unaryB plainB)
set_option maxRecDepth 100000 in
set_option maxHeartbeats 4000000 in
theorem begun_f (L : List Ex.Tok) (hok : OkL L) (ht0 : ∀ t ∈ L, t.text.length ≤ 1000000) (f : Nat) (HL : ∀ g, g ≤ f → RLev L g) (HO : ∀ g, g ≤ f → ROpnd L g) (r0 : Rd) (hc0 : r0.code = 0) (hi0 : r0.next < L.length) (t : Ex.Tok) (htok : L[r0.next]? = some t) (p : Pt) (r1 : Rd) (hrun : BegunRun f r0 p r1) (w : World) (b : Nat) (hr : Rf w b L r0) (hk : t.kind = 3 ∨ t.kind = 4) (hsel : t.text = [102, 97, 108, 115, 101]) :
 Calls Tryz.prog 98 #[.pointer (some ⟨b, 0, none⟩), .agg #[.int .i64 t.kind, .string (str t.text), .int .i64 (t.at_ : Int)]] w (Got w b L p r1) := by
 have HLL := Lib.hid HL
 have HOO := Lib.hid HO
 have HR := Lib.hid hr
 have hL : L.length ≤ 100000 := by have := hok.len; omega
 have HLEN := Lib.hid hok.len
 have hlive := hr.live hc0
 have hcur := cur_at hlive htok
 have hgood := hok.good t (List.mem_of_getElem? htok)
 have htl := ht0 t (List.mem_of_getElem? htok)
 have hlt := hr.lt
 have hK1 : (t.kind == 2) = false := by rcases hk with h | h <;> rw [h] <;> decide
 have hK2 : (t.kind == 1) = false := by rcases hk with h | h <;> rw [h] <;> decide
 have hws : r0.ws = true := by unfold Rd.ws; rw [hcur, hlive]; rcases hk with h | h <;> simp [h, hi0]
 have hisB : ∀ s, r0.isB s = (t.text == s) := fun s => by unfold Rd.isB; rw [hws, hcur]; rfl
 have hsg9 : r0.sign 9 = (signsM 9).lookup t.text := by unfold Rd.sign; rw [if_pos hws, hcur]
 have HPRE := Lib.hid (prefix_any t.text)
 have hpre : preM t.text = 0 := by rw [hsel]; rfl
 rw [hpre] at HPRE
 have hBtrue : r0.isB [116, 114, 117, 101] = false := by rw [hisB, hsel]; decide
 have HBtrue := Lib.hid hBtrue
 have hBfalse : r0.isB [102, 97, 108, 115, 101] = true := by rw [hisB, hsel]; decide
 have HBfalse := Lib.hid hBfalse
 have hBlp : r0.isB [40] = false := by rw [hisB, hsel]; decide
 have HBlp := Lib.hid hBlp
 have hBif : r0.isB [105, 102] = false := by rw [hisB, hsel]; decide
 have HBif := Lib.hid hBif
 have hsgl : ∃ g, g + 1 = f ∧ run (g + 1) .single r0 = some (p, r1) := by
  have h := hrun
  unfold BegunRun at h
  rw [hsg9] at h
  rw [hsel] at h
  cases f with
  | zero => cases h
  | succ g => exact ⟨g, rfl, h⟩
 obtain ⟨g, rfl, hsg⟩ := hsgl
 have hp : p = joined 2 0 [] [] ∧ r1 = r0.adv := by
  have h := hsg
  rw [run, if_neg (by rw [show lp = [40] from rfl, hBlp]; decide), if_neg (by rw [hBif]; decide), if_neg (by rw [hBtrue]; decide), if_pos hBfalse] at h
  simp only [Option.some.injEq, Prod.mk.injEq] at h
  exact ⟨h.1.symm, h.2.symm⟩
 obtain ⟨rfl, rfl⟩ := hp
 clear hsg
 obtain ⟨K, TX, P⟩ := t
 simp only at hK1 hK2 htl hisB hsg9 HPRE hk hsel ⊢
 have HOK := Lib.hid hok
 have hK3 : (K != 4) = true → (K != 3) = false := by rcases hk with h | h <;> simp [h]
 have HRB : Hid (Rf (w.alloc (.cells #[.int .i64 K, .string (str TX), .int .i64 (P : Int)] 85)) b L r0) := Lib.hid (hr.below (below_new w _))
 have HBW := Lib.hid (below_new w (.cells #[.int .i64 K, .string (str TX), .int .i64 (P : Int)] 85))
 have HI0 := Lib.hid hi0
 have HC0 := Lib.hid hc0
 clear HL HO hr hrun hlive hcur hgood htok hisB hsg9 hws hi0 hc0 ht0 hpre hsel hBtrue hBfalse hBlp hBif
 obtain ⟨G, hG⟩ : ∃ G, (K != 4) = G := ⟨_, rfl⟩
 have hG3 : G = true → (K != 3) = false := fun h => hK3 (by rw [hG]; exact h)
 clear hK3 hk
 cases G
 all_goals
  first | have hG4 := hG3 rfl | skip
  go_enter Tryz.func98, Tryz.ntmps98
  go_wp2_with fail
  refine (HPRE.out _).mono ?_
  rintro e w' ⟨rfl, rfl⟩
  have HTw0 : Hid (RfTo w (w.alloc (.cells #[.int .i64 K, .string (str TX), .int .i64 (P : Int)] 85)) b L r0) := Lib.hid (RfTo.of_below HR.out HBW.out)
  go_wp2_with fail
  refine (take_ok (s := [116, 114, 117, 101]) rfl HBtrue.out HTw0.out.rd hL).mono ?_
  rintro e w1 ⟨rfl, ht⟩
  have HTw1 : Hid (RfTo w w1 b L r0) := Lib.hid (HTw0.out.trans ht)
  clear ht
  go_wp2_with fail
  refine (take_ok (s := [102, 97, 108, 115, 101]) rfl HBfalse.out HTw1.out.rd hL).mono ?_
  rintro e w2 ⟨rfl, ht⟩
  have HTw2 : Hid (RfTo w w2 b L r0.adv) := Lib.hid (HTw1.out.trans ht)
  clear ht
  go_wp2_with fail
  refine (Tr.rjoin_all _ [] 2 0 [] _ (parts_none _) (by show (0 : Nat) ≤ 80000; omega)).mono ?_
  rintro e w9 ⟨v, rfl, ho, hb⟩
  have HM := Lib.hid (make_of (Below.refl _ _) ⟨v, rfl, ho, hb⟩)
  obtain ⟨A, cv, rfl, -, -, -⟩ := Tr.Nodes.of_own ho
  clear ho hb
  go_wp2
  go_ret
  obtain ⟨ev, e1, e2, e3⟩ := HM.out
  exact ⟨ev, _, e1, e2, Read.leaf (o := 2) (n := 0) (by omega) (by decide), HTw2.out.then_below e3⟩
end Go.Proofs.YtdebhngpgabglaaGreat.Rf
namespace Go.Proofs.YtdebhngpgabglaaGreat.Rf
open Go.ChangeShapes Go.WideShapes Go.ChangeAt Go.RowKit
open Go.Proofs.YtdebhngpgabglaaGreat.Ex Go.Proofs.YtdebhngpgabglaaGreat.Sh
open Go.Proofs.YtdebhngpgabglaaGreat.Tr (str ret_bool ret_int Bytes Nd T joinM roomM binaryB unaryB plainB)
set_option maxRecDepth 100000 in
set_option maxHeartbeats 4000000 in
theorem begun_g (L : List Ex.Tok) (hok : OkL L) (ht0 : ∀ t ∈ L, t.text.length ≤ 1000000) (f : Nat) (HL : ∀ g, g ≤ f → RLev L g) (HO : ∀ g, g ≤ f → ROpnd L g) (r0 : Rd) (hc0 : r0.code = 0) (hi0 : r0.next < L.length) (t : Ex.Tok) (htok : L[r0.next]? = some t) (p : Pt) (r1 : Rd) (hrun : BegunRun f r0 p r1) (w : World) (b : Nat) (hr : Rf w b L r0) (hk : t.kind = 3 ∨ t.kind = 4) (hsel : t.text = [40]) :
 Calls Tryz.prog 98 #[.pointer (some ⟨b, 0, none⟩), .agg #[.int .i64 t.kind, .string (str t.text), .int .i64 (t.at_ : Int)]] w (Got w b L p r1) := by
 have HLL := Lib.hid HL
 have HOO := Lib.hid HO
 have HR := Lib.hid hr
 have hL : L.length ≤ 100000 := by have := hok.len; omega
 have HLEN := Lib.hid hok.len
 have hlive := hr.live hc0
 have hcur := cur_at hlive htok
 have hgood := hok.good t (List.mem_of_getElem? htok)
 have htl := ht0 t (List.mem_of_getElem? htok)
 have hlt := hr.lt
 have hK1 : (t.kind == 2) = false := by rcases hk with h | h <;> rw [h] <;> decide
 have hK2 : (t.kind == 1) = false := by rcases hk with h | h <;> rw [h] <;> decide
 have hws : r0.ws = true := by unfold Rd.ws; rw [hcur, hlive]; rcases hk with h | h <;> simp [h, hi0]
 have hisB : ∀ s, r0.isB s = (t.text == s) := fun s => by unfold Rd.isB; rw [hws, hcur]; rfl
 have hsg9 : r0.sign 9 = (signsM 9).lookup t.text := by unfold Rd.sign; rw [if_pos hws, hcur]
 have HPRE := Lib.hid (prefix_any t.text)
 have hpre : preM t.text = 0 := by rw [hsel]; rfl
 rw [hpre] at HPRE
 have hBtrue : r0.isB [116, 114, 117, 101] = false := by rw [hisB, hsel]; decide
 have HBtrue := Lib.hid hBtrue
 have hBfalse : r0.isB [102, 97, 108, 115, 101] = false := by rw [hisB, hsel]; decide
 have HBfalse := Lib.hid hBfalse
 have hBlp : r0.isB [40] = true := by rw [hisB, hsel]; decide
 have HBlp := Lib.hid hBlp
 have hBif : r0.isB [105, 102] = false := by rw [hisB, hsel]; decide
 have HBif := Lib.hid hBif
 have hsgl : ∃ g, g + 1 = f ∧ run (g + 1) .single r0 = some (p, r1) := by
  have h := hrun
  unfold BegunRun at h
  rw [hsg9] at h
  rw [hsel] at h
  cases f with
  | zero => cases h
  | succ g => exact ⟨g, rfl, h⟩
 obtain ⟨g, rfl, hsg⟩ := hsgl
 have hp : ∃ q, run g (.lev 1) r0.adv = some (p, q) ∧ r1 = q.need rp := by
  have h := hsg
  rw [run, if_pos (show r0.isB lp = true from hBlp)] at h
  obtain ⟨⟨a, q⟩, h1, h2⟩ := map_some h
  simp only [Prod.mk.injEq] at h2
  obtain ⟨rfl, rfl⟩ := h2
  exact ⟨q, h1, rfl⟩
 obtain ⟨q, hq, rfl⟩ := hp
 have HQ := Lib.hid hq
 clear hsg hq
 obtain ⟨K, TX, P⟩ := t
 simp only at hK1 hK2 htl hisB hsg9 HPRE hk hsel ⊢
 have HOK := Lib.hid hok
 have hK3 : (K != 4) = true → (K != 3) = false := by rcases hk with h | h <;> simp [h]
 have HRB : Hid (Rf (w.alloc (.cells #[.int .i64 K, .string (str TX), .int .i64 (P : Int)] 85)) b L r0) := Lib.hid (hr.below (below_new w _))
 have HBW := Lib.hid (below_new w (.cells #[.int .i64 K, .string (str TX), .int .i64 (P : Int)] 85))
 have HI0 := Lib.hid hi0
 have HC0 := Lib.hid hc0
 clear HL HO hr hrun hlive hcur hgood htok hisB hsg9 hws hi0 hc0 ht0 hpre hsel hBtrue hBfalse hBlp hBif
 obtain ⟨G, hG⟩ : ∃ G, (K != 4) = G := ⟨_, rfl⟩
 have hG3 : G = true → (K != 3) = false := fun h => hK3 (by rw [hG]; exact h)
 clear hK3 hk
 cases G
 all_goals
  first | have hG4 := hG3 rfl | skip
  go_enter Tryz.func98, Tryz.ntmps98
  go_wp2_with fail
  refine (HPRE.out _).mono ?_
  rintro e w' ⟨rfl, rfl⟩
  have HTw0 : Hid (RfTo w (w.alloc (.cells #[.int .i64 K, .string (str TX), .int .i64 (P : Int)] 85)) b L r0) := Lib.hid (RfTo.of_below HR.out HBW.out)
  go_wp2_with fail
  refine (take_ok (s := [116, 114, 117, 101]) rfl HBtrue.out HTw0.out.rd hL).mono ?_
  rintro e w1 ⟨rfl, ht⟩
  have HTw1 : Hid (RfTo w w1 b L r0) := Lib.hid (HTw0.out.trans ht)
  clear ht
  go_wp2_with fail
  refine (take_ok (s := [102, 97, 108, 115, 101]) rfl HBfalse.out HTw1.out.rd hL).mono ?_
  rintro e w2 ⟨rfl, ht⟩
  have HTw2 : Hid (RfTo w w2 b L r0) := Lib.hid (HTw1.out.trans ht)
  clear ht
  go_wp2_with fail
  refine (take_ok (s := [40]) rfl HBlp.out HTw2.out.rd hL).mono ?_
  rintro e w3 ⟨rfl, ht⟩
  have HTw3 : Hid (RfTo w w3 b L r0.adv) := Lib.hid (HTw2.out.trans ht)
  clear ht
  go_wp2_with fail
  refine (rlev_at (n := 1) (HLL.out g (by omega)) HQ.out (by omega) (by omega) rfl HTw3.out.rd).mono ?_
  rintro e w5 ⟨ev, l, rfl, hp4, hrd, hto⟩
  have HP4 := Lib.hid hp4
  have HRD := Lib.hid hrd
  have HT4 := Lib.hid (HTw3.out.trans hto)
  obtain ⟨⟨A4, c4, hv4, y1, y2, _⟩, _⟩ := hp4
  simp only at hv4 y1
  subst hv4
  unfold maxLen at y2
  clear hrd hto
  go_wp2_with fail
  refine (need_at (s := rp) rfl HT4.out.rd hL).mono ?_
  rintro e w6 ⟨rfl, ht⟩
  have HT5 := Lib.hid (HT4.out.trans ht)
  have HP5 := Lib.hid (PtW.grownR HP4.out HT4.out.rd ht.grown)
  clear ht
  go_wp2
  go_ret
  exact ⟨_, l, rfl, HP5.out, fun hc => HRD.out (need_code hc), HT5.out⟩
end Go.Proofs.YtdebhngpgabglaaGreat.Rf
namespace Go.Proofs.YtdebhngpgabglaaGreat.Rf
open Go.ChangeShapes Go.WideShapes Go.ChangeAt Go.RowKit
open Go.Proofs.YtdebhngpgabglaaGreat.Ex Go.Proofs.YtdebhngpgabglaaGreat.Sh
open Go.Proofs.YtdebhngpgabglaaGreat.Tr (str ret_bool ret_int Bytes Nd T joinM roomM binaryB unaryB plainB)
set_option maxRecDepth 100000 in
set_option maxHeartbeats 4000000 in
theorem begun_h (L : List Ex.Tok) (hok : OkL L) (ht0 : ∀ t ∈ L, t.text.length ≤ 1000000) (f : Nat) (HL : ∀ g, g ≤ f → RLev L g) (HO : ∀ g, g ≤ f → ROpnd L g) (r0 : Rd) (hc0 : r0.code = 0) (hi0 : r0.next < L.length) (t : Ex.Tok) (htok : L[r0.next]? = some t) (p : Pt) (r1 : Rd) (hrun : BegunRun f r0 p r1) (w : World) (b : Nat) (hr : Rf w b L r0) (hk : t.kind = 3 ∨ t.kind = 4) (hsel : t.text = [105, 102]) :
 Calls Tryz.prog 98 #[.pointer (some ⟨b, 0, none⟩), .agg #[.int .i64 t.kind, .string (str t.text), .int .i64 (t.at_ : Int)]] w (Got w b L p r1) := by
 have HLL := Lib.hid HL
 have HOO := Lib.hid HO
 have HR := Lib.hid hr
 have hL : L.length ≤ 100000 := by have := hok.len; omega
 have HLEN := Lib.hid hok.len
 have hlive := hr.live hc0
 have hcur := cur_at hlive htok
 have hgood := hok.good t (List.mem_of_getElem? htok)
 have htl := ht0 t (List.mem_of_getElem? htok)
 have hlt := hr.lt
 have hK1 : (t.kind == 2) = false := by rcases hk with h | h <;> rw [h] <;> decide
 have hK2 : (t.kind == 1) = false := by rcases hk with h | h <;> rw [h] <;> decide
 have hws : r0.ws = true := by unfold Rd.ws; rw [hcur, hlive]; rcases hk with h | h <;> simp [h, hi0]
 have hisB : ∀ s, r0.isB s = (t.text == s) := fun s => by unfold Rd.isB; rw [hws, hcur]; rfl
 have hsg9 : r0.sign 9 = (signsM 9).lookup t.text := by unfold Rd.sign; rw [if_pos hws, hcur]
 have HPRE := Lib.hid (prefix_any t.text)
 have hpre : preM t.text = 0 := by rw [hsel]; rfl
 rw [hpre] at HPRE
 have hBtrue : r0.isB [116, 114, 117, 101] = false := by rw [hisB, hsel]; decide
 have HBtrue := Lib.hid hBtrue
 have hBfalse : r0.isB [102, 97, 108, 115, 101] = false := by rw [hisB, hsel]; decide
 have HBfalse := Lib.hid hBfalse
 have hBlp : r0.isB [40] = false := by rw [hisB, hsel]; decide
 have HBlp := Lib.hid hBlp
 have hBif : r0.isB [105, 102] = true := by rw [hisB, hsel]; decide
 have HBif := Lib.hid hBif
 have hsgl : ∃ g, g + 1 = f ∧ run (g + 1) .single r0 = some (p, r1) := by
  have h := hrun
  unfold BegunRun at h
  rw [hsg9] at h
  rw [hsel] at h
  cases f with
  | zero => cases h
  | succ g => exact ⟨g, rfl, h⟩
 obtain ⟨g, rfl, hsg⟩ := hsgl
 have hp : ∃ a b' c q1 q2, run g (.lev 1) r0.adv = some (a, q1) ∧ run g (.lev 1) (q1.need [116, 104, 101, 110]) = some (b', q2) ∧ run g (.lev 1) (q2.need [101, 108, 115, 101]) = some (c, r1) ∧ p = joined 26 0 [] [a, b', c] := by
  have h := hsg
  rw [run, if_neg (by rw [show lp = [40] from rfl, hBlp]; decide), if_pos hBif] at h
  obtain ⟨⟨a, q1⟩, h1, h⟩ := bind_some h
  obtain ⟨⟨b', q2⟩, h2, h⟩ := bind_some h
  obtain ⟨⟨c, q3⟩, h3, h⟩ := map_some h
  simp only [Prod.mk.injEq] at h
  obtain ⟨rfl, rfl⟩ := h
  exact ⟨a, b', c, q1, q2, h1, h2, h3, rfl⟩
 obtain ⟨a, b', c, q1, q2, hq1, hq2, hq3, rfl⟩ := hp
 have HQ1 := Lib.hid hq1
 have HQ2 := Lib.hid hq2
 have HQ3 := Lib.hid hq3
 clear hsg hq1 hq2 hq3
 obtain ⟨K, TX, P⟩ := t
 simp only at hK1 hK2 htl hisB hsg9 HPRE hk hsel ⊢
 have HOK := Lib.hid hok
 have hK3 : (K != 4) = true → (K != 3) = false := by rcases hk with h | h <;> simp [h]
 have HRB : Hid (Rf (w.alloc (.cells #[.int .i64 K, .string (str TX), .int .i64 (P : Int)] 85)) b L r0) := Lib.hid (hr.below (below_new w _))
 have HBW := Lib.hid (below_new w (.cells #[.int .i64 K, .string (str TX), .int .i64 (P : Int)] 85))
 have HI0 := Lib.hid hi0
 have HC0 := Lib.hid hc0
 clear HL HO hr hrun hlive hcur hgood htok hisB hsg9 hws hi0 hc0 ht0 hpre hsel hBtrue hBfalse hBlp hBif
 obtain ⟨G, hG⟩ : ∃ G, (K != 4) = G := ⟨_, rfl⟩
 have hG3 : G = true → (K != 3) = false := fun h => hK3 (by rw [hG]; exact h)
 clear hK3 hk
 cases G
 all_goals
  first | have hG4 := hG3 rfl | skip
  go_enter Tryz.func98, Tryz.ntmps98
  go_wp2_with fail
  refine (HPRE.out _).mono ?_
  rintro e w' ⟨rfl, rfl⟩
  have HTw0 : Hid (RfTo w (w.alloc (.cells #[.int .i64 K, .string (str TX), .int .i64 (P : Int)] 85)) b L r0) := Lib.hid (RfTo.of_below HR.out HBW.out)
  go_wp2_with fail
  refine (take_ok (s := [116, 114, 117, 101]) rfl HBtrue.out HTw0.out.rd hL).mono ?_
  rintro e w1 ⟨rfl, ht⟩
  have HTw1 : Hid (RfTo w w1 b L r0) := Lib.hid (HTw0.out.trans ht)
  clear ht
  go_wp2_with fail
  refine (take_ok (s := [102, 97, 108, 115, 101]) rfl HBfalse.out HTw1.out.rd hL).mono ?_
  rintro e w2 ⟨rfl, ht⟩
  have HTw2 : Hid (RfTo w w2 b L r0) := Lib.hid (HTw1.out.trans ht)
  clear ht
  go_wp2_with fail
  refine (take_ok (s := [40]) rfl HBlp.out HTw2.out.rd hL).mono ?_
  rintro e w3 ⟨rfl, ht⟩
  have HTw3 : Hid (RfTo w w3 b L r0) := Lib.hid (HTw2.out.trans ht)
  clear ht
  go_wp2_with fail
  refine (take_ok (s := [105, 102]) rfl HBif.out HTw3.out.rd hL).mono ?_
  rintro e w4 ⟨rfl, ht⟩
  have HTw4 : Hid (RfTo w w4 b L r0.adv) := Lib.hid (HTw3.out.trans ht)
  clear ht
  go_wp2_with fail
  refine (choice_any L HOK.out g (HLL.out g (by omega)) r0.adv a b' c q1 q2 r1 HQ1.out HQ2.out HQ3.out _ b HTw4.out.rd).mono ?_
  rintro e w5 ⟨ev, l, rfl, hp4, hrd, hto⟩
  have HP4 := Lib.hid hp4
  have HRD := Lib.hid hrd
  have HT4 := Lib.hid (HTw4.out.trans hto)
  obtain ⟨⟨A4, c4, hv4, y1, y2, _⟩, _⟩ := hp4
  simp only at hv4 y1
  subst hv4
  unfold maxLen at y2
  clear hrd hto
  go_wp2
  go_ret
  exact ⟨_, l, rfl, HP4.out, HRD.out, HT4.out⟩
end Go.Proofs.YtdebhngpgabglaaGreat.Rf
namespace Go.Proofs.YtdebhngpgabglaaGreat.Rf
open Go.ChangeShapes Go.WideShapes Go.ChangeAt Go.RowKit
open Go.Proofs.YtdebhngpgabglaaGreat.Ex Go.Proofs.YtdebhngpgabglaaGreat.Sh
open Go.Proofs.YtdebhngpgabglaaGreat.Tr (str ret_bool ret_int Bytes Nd T joinM roomM binaryB unaryB plainB)
set_option maxRecDepth 100000 in
set_option maxHeartbeats 4000000 in
theorem begun_i (L : List Ex.Tok) (hok : OkL L) (ht0 : ∀ t ∈ L, t.text.length ≤ 1000000) (f : Nat) (HL : ∀ g, g ≤ f → RLev L g) (HO : ∀ g, g ≤ f → ROpnd L g) (r0 : Rd) (hc0 : r0.code = 0) (hi0 : r0.next < L.length) (t : Ex.Tok) (htok : L[r0.next]? = some t) (p : Pt) (r1 : Rd) (hrun : BegunRun f r0 p r1) (w : World) (b : Nat) (hr : Rf w b L r0) (hk : t.kind = 3 ∨ t.kind = 4) (hsel : (signsM 9).lookup t.text = none ∧ r0.isB [116, 114, 117, 101] = false ∧ r0.isB [102, 97, 108, 115, 101] = false ∧ r0.isB [40] = false ∧ r0.isB [105, 102] = false) :
 Calls Tryz.prog 98 #[.pointer (some ⟨b, 0, none⟩), .agg #[.int .i64 t.kind, .string (str t.text), .int .i64 (t.at_ : Int)]] w (Got w b L p r1) := by
 have HLL := Lib.hid HL
 have HOO := Lib.hid HO
 have HR := Lib.hid hr
 have hL : L.length ≤ 100000 := by have := hok.len; omega
 have HLEN := Lib.hid hok.len
 have hlive := hr.live hc0
 have hcur := cur_at hlive htok
 have hgood := hok.good t (List.mem_of_getElem? htok)
 have htl := ht0 t (List.mem_of_getElem? htok)
 have hlt := hr.lt
 have hK1 : (t.kind == 2) = false := by rcases hk with h | h <;> rw [h] <;> decide
 have hK2 : (t.kind == 1) = false := by rcases hk with h | h <;> rw [h] <;> decide
 have hws : r0.ws = true := by unfold Rd.ws; rw [hcur, hlive]; rcases hk with h | h <;> simp [h, hi0]
 have hisB : ∀ s, r0.isB s = (t.text == s) := fun s => by unfold Rd.isB; rw [hws, hcur]; rfl
 have hsg9 : r0.sign 9 = (signsM 9).lookup t.text := by unfold Rd.sign; rw [if_pos hws, hcur]
 have HPRE := Lib.hid (prefix_any t.text)
 have hpre : preM t.text = 0 := by unfold preM; rw [hsel.1]
 rw [hpre] at HPRE
 have hBtrue : r0.isB [116, 114, 117, 101] = false := hsel.2.1
 have HBtrue := Lib.hid hBtrue
 have hBfalse : r0.isB [102, 97, 108, 115, 101] = false := hsel.2.2.1
 have HBfalse := Lib.hid hBfalse
 have hBlp : r0.isB [40] = false := hsel.2.2.2.1
 have HBlp := Lib.hid hBlp
 have hBif : r0.isB [105, 102] = false := hsel.2.2.2.2
 have HBif := Lib.hid hBif
 have hsgl : ∃ g, g + 1 = f ∧ run (g + 1) .single r0 = some (p, r1) := by
  have h := hrun
  unfold BegunRun at h
  rw [hsg9] at h
  rw [hsel.1] at h
  cases f with
  | zero => cases h
  | succ g => exact ⟨g, rfl, h⟩
 obtain ⟨g, rfl, hsg⟩ := hsgl
 have hp : p = Pt.zero ∧ r1 = r0.fail 5 := by
  have h := hsg
  have hk2 : ¬ r0.cur.kind = 2 := by rw [hcur]; simpa using hK1
  have hk1 : ¬ (r0.cur.kind = 1 ∧ r0.cur.text ≠ []) := fun h => by rw [hcur] at h; have := h.1; simp [this] at hK2
  rw [run, if_neg (by rw [show lp = [40] from rfl, hBlp]; decide), if_neg (by rw [hBif]; decide), if_neg (by rw [hBtrue]; decide), if_neg (by rw [hBfalse]; decide), if_neg hk2, if_neg hk1] at h
  simp only [Option.some.injEq, Prod.mk.injEq] at h
  exact ⟨h.1.symm, h.2.symm⟩
 obtain ⟨rfl, rfl⟩ := hp
 clear hsg
 obtain ⟨K, TX, P⟩ := t
 simp only at hK1 hK2 htl hisB hsg9 HPRE hk hsel ⊢
 have HOK := Lib.hid hok
 have hK3 : (K != 4) = true → (K != 3) = false := by rcases hk with h | h <;> simp [h]
 have HRB : Hid (Rf (w.alloc (.cells #[.int .i64 K, .string (str TX), .int .i64 (P : Int)] 85)) b L r0) := Lib.hid (hr.below (below_new w _))
 have HBW := Lib.hid (below_new w (.cells #[.int .i64 K, .string (str TX), .int .i64 (P : Int)] 85))
 have HI0 := Lib.hid hi0
 have HC0 := Lib.hid hc0
 clear HL HO hr hrun hlive hcur hgood htok hisB hsg9 hws hi0 hc0 ht0 hpre hsel hBtrue hBfalse hBlp hBif
 obtain ⟨G, hG⟩ : ∃ G, (K != 4) = G := ⟨_, rfl⟩
 have hG3 : G = true → (K != 3) = false := fun h => hK3 (by rw [hG]; exact h)
 clear hK3 hk
 cases G
 all_goals
  first | have hG4 := hG3 rfl | skip
  go_enter Tryz.func98, Tryz.ntmps98
  go_wp2_with fail
  refine (HPRE.out _).mono ?_
  rintro e w' ⟨rfl, rfl⟩
  have HTw0 : Hid (RfTo w (w.alloc (.cells #[.int .i64 K, .string (str TX), .int .i64 (P : Int)] 85)) b L r0) := Lib.hid (RfTo.of_below HR.out HBW.out)
  go_wp2_with fail
  refine (take_ok (s := [116, 114, 117, 101]) rfl HBtrue.out HTw0.out.rd hL).mono ?_
  rintro e w1 ⟨rfl, ht⟩
  have HTw1 : Hid (RfTo w w1 b L r0) := Lib.hid (HTw0.out.trans ht)
  clear ht
  go_wp2_with fail
  refine (take_ok (s := [102, 97, 108, 115, 101]) rfl HBfalse.out HTw1.out.rd hL).mono ?_
  rintro e w2 ⟨rfl, ht⟩
  have HTw2 : Hid (RfTo w w2 b L r0) := Lib.hid (HTw1.out.trans ht)
  clear ht
  go_wp2_with fail
  refine (take_ok (s := [40]) rfl HBlp.out HTw2.out.rd hL).mono ?_
  rintro e w3 ⟨rfl, ht⟩
  have HTw3 : Hid (RfTo w w3 b L r0) := Lib.hid (HTw2.out.trans ht)
  clear ht
  go_wp2_with fail
  refine (take_ok (s := [105, 102]) rfl HBif.out HTw3.out.rd hL).mono ?_
  rintro e w4 ⟨rfl, ht⟩
  have HTw4 : Hid (RfTo w w4 b L r0) := Lib.hid (HTw3.out.trans ht)
  clear ht
  go_wp2_with fail
  refine (rfail_any b L r0 5 (by decide) _ HTw4.out.rd hL).mono ?_
  rintro e w5 ⟨rfl, hto⟩
  have HT5 := Lib.hid (HTw4.out.trans hto)
  clear hto
  go_wp2
  go_ret
  exact ⟨_, [], rfl, PtW.nil _ _ rfl, fun hc => absurd hc (fail_code 5 (by decide) _), HT5.out⟩
end Go.Proofs.YtdebhngpgabglaaGreat.Rf
namespace Go.Proofs.YtdebhngpgabglaaGreat.Rf
open Go.ChangeShapes Go.WideShapes Go.ChangeAt Go.RowKit
open Go.Proofs.YtdebhngpgabglaaGreat.Ex Go.Proofs.YtdebhngpgabglaaGreat.Sh
open Go.Proofs.YtdebhngpgabglaaGreat.Tr (str ret_bool ret_int Bytes Nd T joinM roomM binaryB unaryB)
set_option maxRecDepth 100000 in
set_option maxHeartbeats 4000000 in
theorem lev3_any (L : List Ex.Tok) (hok : OkL L) (f : Nat) (H : ∀ g, g ≤ f → RLev L g) (r : Rd) (p : Pt) (r' : Rd) (h : run (f + 1) (.lev 3) r = some (p, r')) (w : World) (b : Nat) (hr : Rf w b L r) :
 Calls Tryz.prog 83 #[.pointer (some ⟨b, 0, none⟩)] w (Got w b L p r') := by
 have HH := Lib.hid H
 have HR := Lib.hid hr
 have hlt := hr.lt
 have hL : L.length ≤ 100000 := by have := hok.len; omega
 have HLEN := Lib.hid hok.len
 obtain ⟨q, r1, k1, k2⟩ := lev_left (n := 3) (by omega) (by omega) h
 have HK1 := Lib.hid k1
 have HK2 := Lib.hid k2
 cases f with
 | zero => cases k1
 | succ f =>
 have hq1 : q.nodes ≤ r1.mu := by have := (run_step _ _ _ _ _ k1 hr.fine (by simp [Task.pre])).2.2; simp only [Task.base] at this; omega
 have HQ1 := Lib.hid hq1
 clear h k1 k2 H hr hq1
 go_enter Tryz.func83, Tryz.ntmps83
 go_wp2_with fail
 refine (rlev_at (n := 4) (HH.out (f + 1) (Nat.le_refl _)) HK1.out (by omega) (by omega) rfl HR.out).mono ?_
 rintro e w1 ⟨ev, l, rfl, hp1, hrd, hto⟩
 have HP1 := Lib.hid hp1
 have HRD := Lib.hid hrd
 have HTO := Lib.hid hto
 obtain ⟨⟨A1, c1, hv1, y1, y2, _⟩, _⟩ := hp1
 simp only at hv1 y1
 subst hv1
 unfold maxLen at y2
 clear hrd hto
 go_wp2
 go_loopg [3] f (fun g s3 wr => ∃ (rr : Rd) (pp : Pt) (ev : Value) (l : List Nd), g ≤ f ∧ ev = s3 ∧ LAt w b L 3 p r' g wr rr pp ev l)
 case atStart => exact ⟨r1, q, _, l, Nat.le_refl _, rfl, ⟨HK2.out, HP1.out, HRD.out, HTO.out, HQ1.out⟩⟩
 case round =>
  obtain ⟨rr, pp, ev, l', hgf, hev, hat⟩ := hrel
  subst hev
  have HAT := Lib.hid hat
  obtain ⟨⟨A2, c2, hv2, y3, y4, _⟩, _⟩ := hat.pt
  simp only at hv2 y3
  subst hv2
  unfold maxLen at y4
  clear hat
  obtain ⟨B0, hB0⟩ : ∃ B, rr.isB [115, 105, 110, 99, 101] = B := ⟨_, rfl⟩
  have hsg := sign3_eq rr
  rw [hB0] at hsg
  have HB0 := Lib.hid hB0
  clear hB0
  cases B0 with
  | true =>
   simp only [Bool.false_eq_true, if_false, if_true] at hsg
   have HTwr : Hid (RfTo w wr b L rr) := Lib.hid HAT.out.rto
   have HPwr := Lib.hid HAT.out.pt
   obtain ⟨q3, r3, k3, k4⟩ := ll_some HAT.out.run_ hsg (by decide)
   have HK3 := Lib.hid k3
   have HK4 := Lib.hid k4
   clear k3 k4 hsg
   go_wp2_with fail
   refine (take_ok (s := [115, 105, 110, 99, 101]) rfl HB0.out HTwr.out.rd hL).mono ?_
   rintro e wt ⟨rfl, ht2⟩
   have HTT : Hid (RfTo w wt b L rr.adv) := Lib.hid (HTwr.out.trans ht2)
   have HPT := Lib.hid (PtW.grownR HPwr.out HTwr.out.rd (show wr.grownBy wt (some b) from ht2.grown))
   clear ht2
   go_wp2_with fail
   refine (rlev_at (n := 4) (HH.out gk (by omega)) HK3.out (by omega) (by omega) rfl HTT.out.rd).mono ?_
   rintro e w3 ⟨ev3, l3, rfl, hp3, hrd3, hto3⟩
   have HP3 := Lib.hid hp3
   have HRD3 := Lib.hid hrd3
   have HTO3 := Lib.hid hto3
   have HP23 := Lib.hid (PtW.grownR HPT.out HTT.out.rd HTO3.out.grown)
   obtain ⟨⟨A3, c3, hv3, y5, y6, _⟩, _⟩ := hp3
   simp only at hv3 y5
   subst hv3
   unfold maxLen at y6
   have HST := Lib.hid (run_step _ _ _ _ _ HK3.out HTT.out.rd.fine (by simp [Task.pre]))
   have hsz : r3.code = 0 → l'.length + l3.length ≤ 50000 := fun hc => by
    have hc1 : rr.code = 0 := (show rr.adv.code = 0 from run_ok0 HK3.out hc)
    have e1 := HAT.out.rd.len hc1
    have e2 := HRD3.out.len hc
    have e3 := HAT.out.nd
    have e4 := HTT.out.rd.step_len' HK3.out (by simp [Task.pre]) rfl HTO3.out.rd hc
    have e5 := HAT.out.rto.rd.next_le hc1
    unfold Rd.mu at e3
    rw [if_pos hc1] at e3
    have := HLEN.out
    omega
   have HSZ := Lib.hid hsz
   clear hrd3 hto3 hsz
   go_wp2_with fail
   refine (rjoin2_any b L r3 20 l' l3 _ _ _ HTO3.out.rd HP23.out HP3.out (fun hc => by have := HSZ.out hc; unfold roomM; simp; omega)).mono ?_
   rintro e w4 ⟨ev4, rfl, hp4, hb4⟩
   obtain ⟨J, hJ⟩ : ∃ J, (if r3.code = 0 then joinM 20 0 [] [l', l3] else []) = J := ⟨_, rfl⟩
   rw [hJ] at hp4
   have HJ := Lib.hid hJ
   clear hJ
   have HP4 := Lib.hid hp4
   obtain ⟨⟨A4, c4, hv4, y7, y8, _⟩, _⟩ := hp4
   simp only at hv4 y7
   subst hv4
   unfold maxLen at y8
   have HB4 := Lib.hid hb4
   clear hb4
   cases gk with
   | zero => have := HK4.out; simp [run] at this
   | succ gk =>
   go_wp2
   go_roundg gk
   case measure => omega
   case rel => exact ⟨r3, sjoin (20, false) pp q3, _, _, by omega, rfl, LAt.next HAT.out (o := 20) (by decide) HK3.out HK4.out HRD3.out HJ.out HP4.out ((HTT.out.trans HTO3.out).then_below HB4.out) HST.out.2.2 HSZ.out⟩
  | false =>
   simp only [Bool.false_eq_true, if_false] at hsg
   obtain ⟨rfl, rfl⟩ := ll_none HAT.out.run_ hsg
   have HTwr : Hid (RfTo w wr b L r') := Lib.hid HAT.out.rto
   have HPwr := Lib.hid HAT.out.pt
   clear hsg
   go_wp2_with fail
   refine (take_ok (s := [115, 105, 110, 99, 101]) rfl HB0.out HTwr.out.rd hL).mono ?_
   rintro e wt ⟨rfl, ht2⟩
   have HTT : Hid (RfTo w wt b L r') := Lib.hid (HTwr.out.trans ht2)
   have HPT := Lib.hid (PtW.grownR HPwr.out HTwr.out.rd (show wr.grownBy wt (some b) from ht2.grown))
   clear ht2
   go_wp2
   go_ret
   exact ⟨_, l', rfl, HPT.out, HAT.out.rd, HTT.out⟩
end Go.Proofs.YtdebhngpgabglaaGreat.Rf
namespace Go.Proofs.YtdebhngpgabglaaGreat.Rf
open Go.ChangeShapes Go.WideShapes Go.ChangeAt Go.RowKit
open Go.Proofs.YtdebhngpgabglaaGreat.Ex Go.Proofs.YtdebhngpgabglaaGreat.Sh
open Go.Proofs.YtdebhngpgabglaaGreat.Tr (str ret_bool ret_int Bytes Nd T joinM roomM binaryB unaryB)
set_option maxRecDepth 100000 in
set_option maxHeartbeats 4000000 in
theorem lev4_any (L : List Ex.Tok) (hok : OkL L) (f : Nat) (H : ∀ g, g ≤ f → RLev L g) (r : Rd) (p : Pt) (r' : Rd) (h : run (f + 1) (.lev 4) r = some (p, r')) (w : World) (b : Nat) (hr : Rf w b L r) :
 Calls Tryz.prog 88 #[.pointer (some ⟨b, 0, none⟩)] w (Got w b L p r') := by
 have HH := Lib.hid H
 have HR := Lib.hid hr
 have hlt := hr.lt
 have hL : L.length ≤ 100000 := by have := hok.len; omega
 have HLEN := Lib.hid hok.len
 obtain ⟨q, r1, k1, k2⟩ := lev_left (n := 4) (by omega) (by omega) h
 have HK1 := Lib.hid k1
 have HK2 := Lib.hid k2
 cases f with
 | zero => cases k1
 | succ f =>
 have hq1 : q.nodes ≤ r1.mu := by have := (run_step _ _ _ _ _ k1 hr.fine (by simp [Task.pre])).2.2; simp only [Task.base] at this; omega
 have HQ1 := Lib.hid hq1
 clear h k1 k2 H hr hq1
 go_enter Tryz.func88, Tryz.ntmps88
 go_wp2_with fail
 refine (rlev_at (n := 5) (HH.out (f + 1) (Nat.le_refl _)) HK1.out (by omega) (by omega) rfl HR.out).mono ?_
 rintro e w1 ⟨ev, l, rfl, hp1, hrd, hto⟩
 have HP1 := Lib.hid hp1
 have HRD := Lib.hid hrd
 have HTO := Lib.hid hto
 obtain ⟨⟨A1, c1, hv1, y1, y2, _⟩, _⟩ := hp1
 simp only at hv1 y1
 subst hv1
 unfold maxLen at y2
 clear hrd hto
 go_wp2
 go_loopg [3] f (fun g s3 wr => ∃ (rr : Rd) (pp : Pt) (ev : Value) (l : List Nd), g ≤ f ∧ ev = s3 ∧ LAt w b L 4 p r' g wr rr pp ev l)
 case atStart => exact ⟨r1, q, _, l, Nat.le_refl _, rfl, ⟨HK2.out, HP1.out, HRD.out, HTO.out, HQ1.out⟩⟩
 case round =>
  obtain ⟨rr, pp, ev, l', hgf, hev, hat⟩ := hrel
  subst hev
  have HAT := Lib.hid hat
  obtain ⟨⟨A2, c2, hv2, y3, y4, _⟩, _⟩ := hat.pt
  simp only at hv2 y3
  subst hv2
  unfold maxLen at y4
  clear hat
  obtain ⟨B0, hB0⟩ : ∃ B, rr.isB [111, 114] = B := ⟨_, rfl⟩
  obtain ⟨B1, hB1⟩ : ∃ B, rr.isB [120, 111, 114] = B := ⟨_, rfl⟩
  have hsg := sign4_eq rr
  rw [hB0, hB1] at hsg
  have hx01 : B0 = true → B1 = false := fun h => by rw [← hB1]; exact isB_other (by rw [hB0]; exact h) (by decide)
  have HB0 := Lib.hid hB0
  have HB1 := Lib.hid hB1
  clear hB0 hB1
  cases B0 with
  | true =>
   simp only [Bool.false_eq_true, if_false, if_true] at hsg
   obtain rfl := hx01 rfl
   have HTwr : Hid (RfTo w wr b L rr) := Lib.hid HAT.out.rto
   have HPwr := Lib.hid HAT.out.pt
   obtain ⟨q3, r3, k3, k4⟩ := ll_some HAT.out.run_ hsg (by decide)
   have HK3 := Lib.hid k3
   have HK4 := Lib.hid k4
   have hin := isB_lt HB0.out
   have hc0 : rr.code = 0 := code_of_isB HAT.out.rto.rd HB0.out
   clear k3 k4 hsg
   go_wp2_with fail
   refine (is_ok (s := [111, 114]) rfl HB0.out HTwr.out.rd hL).mono ?_
   rintro e wi1 ⟨rfl, hb⟩
   have HTwi1 := Lib.hid (HTwr.out.then_below hb)
   have HPwi1 := Lib.hid (HPwr.out.below hb)
   clear hb
   go_wp2_with fail
   refine (is_ok (s := [120, 111, 114]) rfl HB1.out HTwi1.out.rd hL).mono ?_
   rintro e wi2 ⟨rfl, hb⟩
   have HTwi2 := Lib.hid (HTwi1.out.then_below hb)
   have HPwi2 := Lib.hid (HPwi1.out.below hb)
   clear hb
   obtain ⟨lv, i, o, c, a, hat⟩ := HTwi2.out.rd
   have HA := Lib.hid hat
   have hil : i < L.length := by
    rcases hat.st with ⟨_, _, h3, h4⟩ | ⟨h1, _⟩
    · rw [h4, ← h3]; exact hin
    · exact absurd hc0 h1
   have x1 : wi2.cell? ⟨b, 1, none⟩ = some (.int .i64 (i : Int)) := rf_cell hat.blk 1
   have f1 : wi2.frozen? ⟨b, 1, none⟩ = false := rf_free hat.blk 1
   clear hat hin
   obtain ⟨wt, hwt⟩ : ∃ wt, wi2.setCell ⟨b, 1, none⟩ (.int .i64 ((i : Int) + 1)) = wt := ⟨_, rfl⟩
   have hset : RfTo wi2 wt b L rr.adv := by rw [← hwt]; exact HA.out.setI hc0 hil
   have HTT : Hid (RfTo w wt b L rr.adv) := Lib.hid (HTwi2.out.trans hset)
   have HPT := Lib.hid (PtW.grownR HPwi2.out HTwi2.out.rd hset.grown)
   have HWT := Lib.hid hwt
   clear hset hwt
   go_wp2_with fail
   rw [HWT.out]
   refine (rlev_at (n := 5) (HH.out gk (by omega)) HK3.out (by omega) (by omega) rfl HTT.out.rd).mono ?_
   rintro e w3 ⟨ev3, l3, rfl, hp3, hrd3, hto3⟩
   have HP3 := Lib.hid hp3
   have HRD3 := Lib.hid hrd3
   have HTO3 := Lib.hid hto3
   have HP23 := Lib.hid (PtW.grownR HPT.out HTT.out.rd HTO3.out.grown)
   obtain ⟨⟨A3, c3, hv3, y5, y6, _⟩, _⟩ := hp3
   simp only at hv3 y5
   subst hv3
   unfold maxLen at y6
   have HST := Lib.hid (run_step _ _ _ _ _ HK3.out HTT.out.rd.fine (by simp [Task.pre]))
   have hsz : r3.code = 0 → l'.length + l3.length ≤ 50000 := fun hc => by
    have hc1 : rr.code = 0 := (show rr.adv.code = 0 from run_ok0 HK3.out hc)
    have e1 := HAT.out.rd.len hc1
    have e2 := HRD3.out.len hc
    have e3 := HAT.out.nd
    have e4 := HTT.out.rd.step_len' HK3.out (by simp [Task.pre]) rfl HTO3.out.rd hc
    have e5 := HAT.out.rto.rd.next_le hc1
    unfold Rd.mu at e3
    rw [if_pos hc1] at e3
    have := HLEN.out
    omega
   have HSZ := Lib.hid hsz
   clear hrd3 hto3 hsz
   go_wp2_with fail
   refine (rjoin2_any b L r3 7 l' l3 _ _ _ HTO3.out.rd HP23.out HP3.out (fun hc => by have := HSZ.out hc; unfold roomM; simp; omega)).mono ?_
   rintro e w4 ⟨ev4, rfl, hp4, hb4⟩
   obtain ⟨J, hJ⟩ : ∃ J, (if r3.code = 0 then joinM 7 0 [] [l', l3] else []) = J := ⟨_, rfl⟩
   rw [hJ] at hp4
   have HJ := Lib.hid hJ
   clear hJ
   have HP4 := Lib.hid hp4
   obtain ⟨⟨A4, c4, hv4, y7, y8, _⟩, _⟩ := hp4
   simp only at hv4 y7
   subst hv4
   unfold maxLen at y8
   have HB4 := Lib.hid hb4
   clear hb4
   cases gk with
   | zero => have := HK4.out; simp [run] at this
   | succ gk =>
   go_wp2
   go_roundg gk
   case measure => omega
   case rel => exact ⟨r3, sjoin (7, false) pp q3, _, _, by omega, rfl, LAt.next HAT.out (o := 7) (by decide) HK3.out HK4.out HRD3.out HJ.out HP4.out ((HTT.out.trans HTO3.out).then_below HB4.out) HST.out.2.2 HSZ.out⟩
  | false =>
   cases B1 with
   | true =>
    simp only [Bool.false_eq_true, if_false, if_true] at hsg
    have HTwr : Hid (RfTo w wr b L rr) := Lib.hid HAT.out.rto
    have HPwr := Lib.hid HAT.out.pt
    obtain ⟨q3, r3, k3, k4⟩ := ll_some HAT.out.run_ hsg (by decide)
    have HK3 := Lib.hid k3
    have HK4 := Lib.hid k4
    have hin := isB_lt HB1.out
    have hc0 : rr.code = 0 := code_of_isB HAT.out.rto.rd HB1.out
    clear k3 k4 hsg
    go_wp2_with fail
    refine (is_ok (s := [111, 114]) rfl HB0.out HTwr.out.rd hL).mono ?_
    rintro e wi1 ⟨rfl, hb⟩
    have HTwi1 := Lib.hid (HTwr.out.then_below hb)
    have HPwi1 := Lib.hid (HPwr.out.below hb)
    clear hb
    go_wp2_with fail
    refine (is_ok (s := [120, 111, 114]) rfl HB1.out HTwi1.out.rd hL).mono ?_
    rintro e wi2 ⟨rfl, hb⟩
    have HTwi2 := Lib.hid (HTwi1.out.then_below hb)
    have HPwi2 := Lib.hid (HPwi1.out.below hb)
    clear hb
    go_wp2_with fail
    refine (is_ok (s := [120, 111, 114]) rfl HB1.out HTwi2.out.rd hL).mono ?_
    rintro e wi3 ⟨rfl, hb⟩
    have HTwi3 := Lib.hid (HTwi2.out.then_below hb)
    have HPwi3 := Lib.hid (HPwi2.out.below hb)
    clear hb
    obtain ⟨lv, i, o, c, a, hat⟩ := HTwi3.out.rd
    have HA := Lib.hid hat
    have hil : i < L.length := by
     rcases hat.st with ⟨_, _, h3, h4⟩ | ⟨h1, _⟩
     · rw [h4, ← h3]; exact hin
     · exact absurd hc0 h1
    have x1 : wi3.cell? ⟨b, 1, none⟩ = some (.int .i64 (i : Int)) := rf_cell hat.blk 1
    have f1 : wi3.frozen? ⟨b, 1, none⟩ = false := rf_free hat.blk 1
    clear hat hin
    obtain ⟨wt, hwt⟩ : ∃ wt, wi3.setCell ⟨b, 1, none⟩ (.int .i64 ((i : Int) + 1)) = wt := ⟨_, rfl⟩
    have hset : RfTo wi3 wt b L rr.adv := by rw [← hwt]; exact HA.out.setI hc0 hil
    have HTT : Hid (RfTo w wt b L rr.adv) := Lib.hid (HTwi3.out.trans hset)
    have HPT := Lib.hid (PtW.grownR HPwi3.out HTwi3.out.rd hset.grown)
    have HWT := Lib.hid hwt
    clear hset hwt
    go_wp2_with fail
    rw [HWT.out]
    refine (rlev_at (n := 5) (HH.out gk (by omega)) HK3.out (by omega) (by omega) rfl HTT.out.rd).mono ?_
    rintro e w3 ⟨ev3, l3, rfl, hp3, hrd3, hto3⟩
    have HP3 := Lib.hid hp3
    have HRD3 := Lib.hid hrd3
    have HTO3 := Lib.hid hto3
    have HP23 := Lib.hid (PtW.grownR HPT.out HTT.out.rd HTO3.out.grown)
    obtain ⟨⟨A3, c3, hv3, y5, y6, _⟩, _⟩ := hp3
    simp only at hv3 y5
    subst hv3
    unfold maxLen at y6
    have HST := Lib.hid (run_step _ _ _ _ _ HK3.out HTT.out.rd.fine (by simp [Task.pre]))
    have hsz : r3.code = 0 → l'.length + l3.length ≤ 50000 := fun hc => by
     have hc1 : rr.code = 0 := (show rr.adv.code = 0 from run_ok0 HK3.out hc)
     have e1 := HAT.out.rd.len hc1
     have e2 := HRD3.out.len hc
     have e3 := HAT.out.nd
     have e4 := HTT.out.rd.step_len' HK3.out (by simp [Task.pre]) rfl HTO3.out.rd hc
     have e5 := HAT.out.rto.rd.next_le hc1
     unfold Rd.mu at e3
     rw [if_pos hc1] at e3
     have := HLEN.out
     omega
    have HSZ := Lib.hid hsz
    clear hrd3 hto3 hsz
    go_wp2_with fail
    refine (rjoin2_any b L r3 8 l' l3 _ _ _ HTO3.out.rd HP23.out HP3.out (fun hc => by have := HSZ.out hc; unfold roomM; simp; omega)).mono ?_
    rintro e w4 ⟨ev4, rfl, hp4, hb4⟩
    obtain ⟨J, hJ⟩ : ∃ J, (if r3.code = 0 then joinM 8 0 [] [l', l3] else []) = J := ⟨_, rfl⟩
    rw [hJ] at hp4
    have HJ := Lib.hid hJ
    clear hJ
    have HP4 := Lib.hid hp4
    obtain ⟨⟨A4, c4, hv4, y7, y8, _⟩, _⟩ := hp4
    simp only at hv4 y7
    subst hv4
    unfold maxLen at y8
    have HB4 := Lib.hid hb4
    clear hb4
    cases gk with
    | zero => have := HK4.out; simp [run] at this
    | succ gk =>
    go_wp2
    go_roundg gk
    case measure => omega
    case rel => exact ⟨r3, sjoin (8, false) pp q3, _, _, by omega, rfl, LAt.next HAT.out (o := 8) (by decide) HK3.out HK4.out HRD3.out HJ.out HP4.out ((HTT.out.trans HTO3.out).then_below HB4.out) HST.out.2.2 HSZ.out⟩
   | false =>
    simp only [Bool.false_eq_true, if_false] at hsg
    obtain ⟨rfl, rfl⟩ := ll_none HAT.out.run_ hsg
    have HTwr : Hid (RfTo w wr b L r') := Lib.hid HAT.out.rto
    have HPwr := Lib.hid HAT.out.pt
    clear hsg
    go_wp2_with fail
    refine (is_ok (s := [111, 114]) rfl HB0.out HTwr.out.rd hL).mono ?_
    rintro e wi1 ⟨rfl, hb⟩
    have HTwi1 := Lib.hid (HTwr.out.then_below hb)
    have HPwi1 := Lib.hid (HPwr.out.below hb)
    clear hb
    go_wp2_with fail
    refine (is_ok (s := [120, 111, 114]) rfl HB1.out HTwi1.out.rd hL).mono ?_
    rintro e wi2 ⟨rfl, hb⟩
    have HTwi2 := Lib.hid (HTwi1.out.then_below hb)
    have HPwi2 := Lib.hid (HPwi1.out.below hb)
    clear hb
    go_wp2
    go_ret
    exact ⟨_, l', rfl, HPwi2.out, HAT.out.rd, HTwi2.out⟩
end Go.Proofs.YtdebhngpgabglaaGreat.Rf
namespace Go.Proofs.YtdebhngpgabglaaGreat.Rf
open Go.ChangeShapes Go.WideShapes Go.ChangeAt Go.RowKit
open Go.Proofs.YtdebhngpgabglaaGreat.Ex Go.Proofs.YtdebhngpgabglaaGreat.Sh
open Go.Proofs.YtdebhngpgabglaaGreat.Tr (str ret_bool ret_int Bytes Nd T joinM roomM binaryB unaryB)
set_option maxRecDepth 100000 in
set_option maxHeartbeats 4000000 in
theorem lev5_any (L : List Ex.Tok) (hok : OkL L) (f : Nat) (H : ∀ g, g ≤ f → RLev L g) (r : Rd) (p : Pt) (r' : Rd) (h : run (f + 1) (.lev 5) r = some (p, r')) (w : World) (b : Nat) (hr : Rf w b L r) :
 Calls Tryz.prog 91 #[.pointer (some ⟨b, 0, none⟩)] w (Got w b L p r') := by
 have HH := Lib.hid H
 have HR := Lib.hid hr
 have hlt := hr.lt
 have hL : L.length ≤ 100000 := by have := hok.len; omega
 have HLEN := Lib.hid hok.len
 obtain ⟨q, r1, k1, k2⟩ := lev_left (n := 5) (by omega) (by omega) h
 have HK1 := Lib.hid k1
 have HK2 := Lib.hid k2
 cases f with
 | zero => cases k1
 | succ f =>
 have hq1 : q.nodes ≤ r1.mu := by have := (run_step _ _ _ _ _ k1 hr.fine (by simp [Task.pre])).2.2; simp only [Task.base] at this; omega
 have HQ1 := Lib.hid hq1
 clear h k1 k2 H hr hq1
 go_enter Tryz.func91, Tryz.ntmps91
 go_wp2_with fail
 refine (rlev_at (n := 6) (HH.out (f + 1) (Nat.le_refl _)) HK1.out (by omega) (by omega) rfl HR.out).mono ?_
 rintro e w1 ⟨ev, l, rfl, hp1, hrd, hto⟩
 have HP1 := Lib.hid hp1
 have HRD := Lib.hid hrd
 have HTO := Lib.hid hto
 obtain ⟨⟨A1, c1, hv1, y1, y2, _⟩, _⟩ := hp1
 simp only at hv1 y1
 subst hv1
 unfold maxLen at y2
 clear hrd hto
 go_wp2
 go_loopg [3] f (fun g s3 wr => ∃ (rr : Rd) (pp : Pt) (ev : Value) (l : List Nd), g ≤ f ∧ ev = s3 ∧ LAt w b L 5 p r' g wr rr pp ev l)
 case atStart => exact ⟨r1, q, _, l, Nat.le_refl _, rfl, ⟨HK2.out, HP1.out, HRD.out, HTO.out, HQ1.out⟩⟩
 case round =>
  obtain ⟨rr, pp, ev, l', hgf, hev, hat⟩ := hrel
  subst hev
  have HAT := Lib.hid hat
  obtain ⟨⟨A2, c2, hv2, y3, y4, _⟩, _⟩ := hat.pt
  simp only at hv2 y3
  subst hv2
  unfold maxLen at y4
  clear hat
  obtain ⟨B0, hB0⟩ : ∃ B, rr.isB [97, 110, 100] = B := ⟨_, rfl⟩
  have hsg := sign5_eq rr
  rw [hB0] at hsg
  have HB0 := Lib.hid hB0
  clear hB0
  cases B0 with
  | true =>
   simp only [Bool.false_eq_true, if_false, if_true] at hsg
   have HTwr : Hid (RfTo w wr b L rr) := Lib.hid HAT.out.rto
   have HPwr := Lib.hid HAT.out.pt
   obtain ⟨q3, r3, k3, k4⟩ := ll_some HAT.out.run_ hsg (by decide)
   have HK3 := Lib.hid k3
   have HK4 := Lib.hid k4
   clear k3 k4 hsg
   go_wp2_with fail
   refine (take_ok (s := [97, 110, 100]) rfl HB0.out HTwr.out.rd hL).mono ?_
   rintro e wt ⟨rfl, ht2⟩
   have HTT : Hid (RfTo w wt b L rr.adv) := Lib.hid (HTwr.out.trans ht2)
   have HPT := Lib.hid (PtW.grownR HPwr.out HTwr.out.rd (show wr.grownBy wt (some b) from ht2.grown))
   clear ht2
   go_wp2_with fail
   refine (rlev_at (n := 6) (HH.out gk (by omega)) HK3.out (by omega) (by omega) rfl HTT.out.rd).mono ?_
   rintro e w3 ⟨ev3, l3, rfl, hp3, hrd3, hto3⟩
   have HP3 := Lib.hid hp3
   have HRD3 := Lib.hid hrd3
   have HTO3 := Lib.hid hto3
   have HP23 := Lib.hid (PtW.grownR HPT.out HTT.out.rd HTO3.out.grown)
   obtain ⟨⟨A3, c3, hv3, y5, y6, _⟩, _⟩ := hp3
   simp only at hv3 y5
   subst hv3
   unfold maxLen at y6
   have HST := Lib.hid (run_step _ _ _ _ _ HK3.out HTT.out.rd.fine (by simp [Task.pre]))
   have hsz : r3.code = 0 → l'.length + l3.length ≤ 50000 := fun hc => by
    have hc1 : rr.code = 0 := (show rr.adv.code = 0 from run_ok0 HK3.out hc)
    have e1 := HAT.out.rd.len hc1
    have e2 := HRD3.out.len hc
    have e3 := HAT.out.nd
    have e4 := HTT.out.rd.step_len' HK3.out (by simp [Task.pre]) rfl HTO3.out.rd hc
    have e5 := HAT.out.rto.rd.next_le hc1
    unfold Rd.mu at e3
    rw [if_pos hc1] at e3
    have := HLEN.out
    omega
   have HSZ := Lib.hid hsz
   clear hrd3 hto3 hsz
   go_wp2_with fail
   refine (rjoin2_any b L r3 6 l' l3 _ _ _ HTO3.out.rd HP23.out HP3.out (fun hc => by have := HSZ.out hc; unfold roomM; simp; omega)).mono ?_
   rintro e w4 ⟨ev4, rfl, hp4, hb4⟩
   obtain ⟨J, hJ⟩ : ∃ J, (if r3.code = 0 then joinM 6 0 [] [l', l3] else []) = J := ⟨_, rfl⟩
   rw [hJ] at hp4
   have HJ := Lib.hid hJ
   clear hJ
   have HP4 := Lib.hid hp4
   obtain ⟨⟨A4, c4, hv4, y7, y8, _⟩, _⟩ := hp4
   simp only at hv4 y7
   subst hv4
   unfold maxLen at y8
   have HB4 := Lib.hid hb4
   clear hb4
   cases gk with
   | zero => have := HK4.out; simp [run] at this
   | succ gk =>
   go_wp2
   go_roundg gk
   case measure => omega
   case rel => exact ⟨r3, sjoin (6, false) pp q3, _, _, by omega, rfl, LAt.next HAT.out (o := 6) (by decide) HK3.out HK4.out HRD3.out HJ.out HP4.out ((HTT.out.trans HTO3.out).then_below HB4.out) HST.out.2.2 HSZ.out⟩
  | false =>
   simp only [Bool.false_eq_true, if_false] at hsg
   obtain ⟨rfl, rfl⟩ := ll_none HAT.out.run_ hsg
   have HTwr : Hid (RfTo w wr b L r') := Lib.hid HAT.out.rto
   have HPwr := Lib.hid HAT.out.pt
   clear hsg
   go_wp2_with fail
   refine (take_ok (s := [97, 110, 100]) rfl HB0.out HTwr.out.rd hL).mono ?_
   rintro e wt ⟨rfl, ht2⟩
   have HTT : Hid (RfTo w wt b L r') := Lib.hid (HTwr.out.trans ht2)
   have HPT := Lib.hid (PtW.grownR HPwr.out HTwr.out.rd (show wr.grownBy wt (some b) from ht2.grown))
   clear ht2
   go_wp2
   go_ret
   exact ⟨_, l', rfl, HPT.out, HAT.out.rd, HTT.out⟩
end Go.Proofs.YtdebhngpgabglaaGreat.Rf
namespace Go.Proofs.YtdebhngpgabglaaGreat.Rf
open Go.ChangeShapes Go.WideShapes Go.ChangeAt Go.RowKit
open Go.Proofs.YtdebhngpgabglaaGreat.Ex Go.Proofs.YtdebhngpgabglaaGreat.Sh
open Go.Proofs.YtdebhngpgabglaaGreat.Tr (str ret_bool ret_int Bytes Nd T joinM roomM binaryB unaryB)
theorem lev_six {f : Nat} {r r' : Rd} {p : Pt} (h : run (f + 1) (.lev 6) r = some (p, r')) : ∃ q r1, run f (.lev 7) r = some (q, r1) ∧ ((r1.sign 6 = none ∧ p = q ∧ r' = r1) ∨ ∃ s q2 g, g ≤ f ∧ r1.sign 6 = some s ∧ run g (.lev 7) r1.adv = some (q2, r') ∧ p = sjoin s q q2) := by
 obtain ⟨q, r1, h1, h2⟩ := lev_left (n := 6) (by omega) (by omega) h
 refine ⟨q, r1, h1, ?_⟩
 cases f with
 | zero => cases h1
 | succ f =>
  rw [run] at h2
  cases hs : r1.sign 6 with
  | none =>
   rw [hs] at h2
   simp only [Option.some.injEq, Prod.mk.injEq] at h2
   exact .inl ⟨rfl, h2.1.symm, h2.2.symm⟩
  | some s =>
   rw [hs] at h2
   obtain ⟨⟨q2, r2⟩, a, b⟩ := bind_some h2
   simp only [if_true, Option.some.injEq, Prod.mk.injEq] at b
   obtain ⟨rfl, rfl⟩ := b
   exact .inr ⟨s, q2, f, by omega, rfl, a, rfl⟩
theorem sign6_eq (r : Rd) : r.sign 6 = if r.isB [61] then some (10, false) else if r.isB [60, 62] then some (11, false) else if r.isB [60] then some (12, false) else if r.isB [60, 61] then some (13, false) else if r.isB [62] then some (12, true) else if r.isB [62, 61] then some (13, true) else none := by
 unfold Rd.sign Rd.isB
 cases r.ws with
 | false => simp
 | true =>
  simp only [Bool.true_and, if_true, signsM, List.lookup_cons, List.lookup_nil]
  repeat' (split <;> simp_all)
set_option maxRecDepth 100000 in
set_option maxHeartbeats 8000000 in
theorem lev6_any (L : List Ex.Tok) (hok : OkL L) (f : Nat) (H : ∀ g, g ≤ f → RLev L g) (r : Rd) (p : Pt) (r' : Rd) (h : run (f + 1) (.lev 6) r = some (p, r')) (w : World) (b : Nat) (hr : Rf w b L r) :
 Calls Tryz.prog 93 #[.pointer (some ⟨b, 0, none⟩)] w (Got w b L p r') := by
 have HH := Lib.hid H
 have HR := Lib.hid hr
 have hL : L.length ≤ 100000 := by have := hok.len; omega
 have HLEN := Lib.hid hok.len
 obtain ⟨q, r1, k1, k2⟩ := lev_six h
 have HK1 := Lib.hid k1
 obtain ⟨B0, hB0⟩ : ∃ B, r1.isB [61] = B := ⟨_, rfl⟩
 obtain ⟨B1, hB1⟩ : ∃ B, r1.isB [60, 62] = B := ⟨_, rfl⟩
 obtain ⟨B2, hB2⟩ : ∃ B, r1.isB [60] = B := ⟨_, rfl⟩
 obtain ⟨B3, hB3⟩ : ∃ B, r1.isB [60, 61] = B := ⟨_, rfl⟩
 obtain ⟨B4, hB4⟩ : ∃ B, r1.isB [62] = B := ⟨_, rfl⟩
 obtain ⟨B5, hB5⟩ : ∃ B, r1.isB [62, 61] = B := ⟨_, rfl⟩
 rw [sign6_eq, hB0, hB1, hB2, hB3, hB4, hB5] at k2
 have HB0 := Lib.hid hB0
 have HB1 := Lib.hid hB1
 have HB2 := Lib.hid hB2
 have HB3 := Lib.hid hB3
 have HB4 := Lib.hid hB4
 have HB5 := Lib.hid hB5
 clear h k1 H hr hB0 hB1 hB2 hB3 hB4 hB5
 cases B0 with
 | true =>
  simp only [Bool.false_eq_true, if_false, if_true] at k2
  obtain ⟨q2, g, hg, k3, hp⟩ : ∃ q2 g, g ≤ f ∧ run g (.lev 7) r1.adv = some (q2, r') ∧ p = sjoin (10, false) q q2 := by
   rcases k2 with ⟨h1, _⟩ | ⟨s, q2, g, hg, h1, h2, h3⟩
   · cases h1
   · simp only [Option.some.injEq] at h1; subst h1; exact ⟨q2, g, hg, h2, h3⟩
  subst hp
  have HK3 := Lib.hid k3
  clear k2 k3
  go_enter Tryz.func93, Tryz.ntmps93
  go_wp2_with fail
  refine (rlev_at (n := 7) (HH.out f (Nat.le_refl _)) HK1.out (by omega) (by omega) rfl HR.out).mono ?_
  rintro e w1 ⟨ev, l, rfl, hp1, hrd, hto⟩
  have HPw1 := Lib.hid hp1
  have HRD := Lib.hid hrd
  have HTw1 := Lib.hid hto
  obtain ⟨⟨A1, c1, hv1, y1, y2, _⟩, _⟩ := hp1
  simp only at hv1 y1
  subst hv1
  unfold maxLen at y2
  clear hrd hto
  go_wp2_with fail
  refine (take_ok (s := [61]) rfl HB0.out HTw1.out.rd hL).mono ?_
  rintro e wt0 ⟨rfl, ht2⟩
  have HTwt0 : Hid (RfTo w wt0 b L r1.adv) := Lib.hid (HTw1.out.trans ht2)
  have HPwt0 := Lib.hid (PtW.grownR HPw1.out HTw1.out.rd (show w1.grownBy wt0 (some b) from ht2.grown))
  clear ht2
  go_wp2_with fail
  refine (rlev_at (n := 7) (HH.out g hg) HK3.out (by omega) (by omega) rfl HTwt0.out.rd).mono ?_
  rintro e w3 ⟨ev3, l3, rfl, hp3, hrd3, hto3⟩
  have HP3 := Lib.hid hp3
  have HRD3 := Lib.hid hrd3
  have HTO3 := Lib.hid hto3
  have HP23 := Lib.hid (PtW.grownR HPwt0.out HTwt0.out.rd HTO3.out.grown)
  obtain ⟨⟨A3, c3, hv3, y3, y4, _⟩, _⟩ := hp3
  simp only at hv3 y3
  subst hv3
  unfold maxLen at y4
  clear hrd3 hto3
  have hsz : r'.code = 0 → l.length + l3.length ≤ 40000 := fun hc => by
   have hc1 : r1.code = 0 := (show r1.adv.code = 0 from run_ok0 HK3.out hc)
   have e1 := HRD.out.len hc1
   have e2 := HRD3.out.len hc
   have e3 := HR.out.step_len' HK1.out (by simp [Task.pre]) rfl HTw1.out.rd hc1
   have e4 := HTwt0.out.rd.step_len' HK3.out (by simp [Task.pre]) rfl HTO3.out.rd hc
   have := HLEN.out
   omega
  have HSZ := Lib.hid hsz
  clear hsz
  go_wp2_with fail
  refine (rjoin2_any b L r' 10 l l3 _ _ _ HTO3.out.rd HP23.out HP3.out (fun hc => by have := HSZ.out hc; unfold roomM; simp; omega)).mono ?_
  rintro e w4 ⟨ev4, rfl, hp4, hb4⟩
  obtain ⟨J, hJ⟩ : ∃ J, (if r'.code = 0 then joinM 10 0 [] [l, l3] else []) = J := ⟨_, rfl⟩
  rw [hJ] at hp4
  have HJ := Lib.hid hJ
  clear hJ
  have HP4 := Lib.hid hp4
  obtain ⟨⟨A4, c4, hv4, y5, y6, _⟩, _⟩ := hp4
  simp only at hv4 y5
  subst hv4
  unfold maxLen at y6
  have HB4 := Lib.hid hb4
  clear hb4
  go_wp2
  go_ret
  exact ⟨_, J, rfl, HP4.out, (by have := Read.two (o := 10) (by decide) HRD.out HRD3.out (fun hc => (show r1.adv.code = 0 from run_ok0 HK3.out hc)) (fun hc => by have := HSZ.out hc; omega); rw [HJ.out] at this; exact this), (HTwt0.out.trans HTO3.out).then_below HB4.out⟩
 | false =>
  cases B1 with
  | true =>
   simp only [Bool.false_eq_true, if_false, if_true] at k2
   obtain ⟨q2, g, hg, k3, hp⟩ : ∃ q2 g, g ≤ f ∧ run g (.lev 7) r1.adv = some (q2, r') ∧ p = sjoin (11, false) q q2 := by
    rcases k2 with ⟨h1, _⟩ | ⟨s, q2, g, hg, h1, h2, h3⟩
    · cases h1
    · simp only [Option.some.injEq] at h1; subst h1; exact ⟨q2, g, hg, h2, h3⟩
   subst hp
   have HK3 := Lib.hid k3
   clear k2 k3
   go_enter Tryz.func93, Tryz.ntmps93
   go_wp2_with fail
   refine (rlev_at (n := 7) (HH.out f (Nat.le_refl _)) HK1.out (by omega) (by omega) rfl HR.out).mono ?_
   rintro e w1 ⟨ev, l, rfl, hp1, hrd, hto⟩
   have HPw1 := Lib.hid hp1
   have HRD := Lib.hid hrd
   have HTw1 := Lib.hid hto
   obtain ⟨⟨A1, c1, hv1, y1, y2, _⟩, _⟩ := hp1
   simp only at hv1 y1
   subst hv1
   unfold maxLen at y2
   clear hrd hto
   go_wp2_with fail
   refine (take_ok (s := [61]) rfl HB0.out HTw1.out.rd hL).mono ?_
   rintro e wt0 ⟨rfl, ht2⟩
   have HTwt0 : Hid (RfTo w wt0 b L r1) := Lib.hid (HTw1.out.trans ht2)
   have HPwt0 := Lib.hid (PtW.grownR HPw1.out HTw1.out.rd (show w1.grownBy wt0 (some b) from ht2.grown))
   clear ht2
   go_wp2_with fail
   refine (take_ok (s := [60, 62]) rfl HB1.out HTwt0.out.rd hL).mono ?_
   rintro e wt1 ⟨rfl, ht2⟩
   have HTwt1 : Hid (RfTo w wt1 b L r1.adv) := Lib.hid (HTwt0.out.trans ht2)
   have HPwt1 := Lib.hid (PtW.grownR HPwt0.out HTwt0.out.rd (show wt0.grownBy wt1 (some b) from ht2.grown))
   clear ht2
   go_wp2_with fail
   refine (rlev_at (n := 7) (HH.out g hg) HK3.out (by omega) (by omega) rfl HTwt1.out.rd).mono ?_
   rintro e w3 ⟨ev3, l3, rfl, hp3, hrd3, hto3⟩
   have HP3 := Lib.hid hp3
   have HRD3 := Lib.hid hrd3
   have HTO3 := Lib.hid hto3
   have HP23 := Lib.hid (PtW.grownR HPwt1.out HTwt1.out.rd HTO3.out.grown)
   obtain ⟨⟨A3, c3, hv3, y3, y4, _⟩, _⟩ := hp3
   simp only at hv3 y3
   subst hv3
   unfold maxLen at y4
   clear hrd3 hto3
   have hsz : r'.code = 0 → l.length + l3.length ≤ 40000 := fun hc => by
    have hc1 : r1.code = 0 := (show r1.adv.code = 0 from run_ok0 HK3.out hc)
    have e1 := HRD.out.len hc1
    have e2 := HRD3.out.len hc
    have e3 := HR.out.step_len' HK1.out (by simp [Task.pre]) rfl HTw1.out.rd hc1
    have e4 := HTwt1.out.rd.step_len' HK3.out (by simp [Task.pre]) rfl HTO3.out.rd hc
    have := HLEN.out
    omega
   have HSZ := Lib.hid hsz
   clear hsz
   go_wp2_with fail
   refine (rjoin2_any b L r' 11 l l3 _ _ _ HTO3.out.rd HP23.out HP3.out (fun hc => by have := HSZ.out hc; unfold roomM; simp; omega)).mono ?_
   rintro e w4 ⟨ev4, rfl, hp4, hb4⟩
   obtain ⟨J, hJ⟩ : ∃ J, (if r'.code = 0 then joinM 11 0 [] [l, l3] else []) = J := ⟨_, rfl⟩
   rw [hJ] at hp4
   have HJ := Lib.hid hJ
   clear hJ
   have HP4 := Lib.hid hp4
   obtain ⟨⟨A4, c4, hv4, y5, y6, _⟩, _⟩ := hp4
   simp only at hv4 y5
   subst hv4
   unfold maxLen at y6
   have HB4 := Lib.hid hb4
   clear hb4
   go_wp2
   go_ret
   exact ⟨_, J, rfl, HP4.out, (by have := Read.two (o := 11) (by decide) HRD.out HRD3.out (fun hc => (show r1.adv.code = 0 from run_ok0 HK3.out hc)) (fun hc => by have := HSZ.out hc; omega); rw [HJ.out] at this; exact this), (HTwt1.out.trans HTO3.out).then_below HB4.out⟩
  | false =>
   cases B2 with
   | true =>
    simp only [Bool.false_eq_true, if_false, if_true] at k2
    obtain ⟨q2, g, hg, k3, hp⟩ : ∃ q2 g, g ≤ f ∧ run g (.lev 7) r1.adv = some (q2, r') ∧ p = sjoin (12, false) q q2 := by
     rcases k2 with ⟨h1, _⟩ | ⟨s, q2, g, hg, h1, h2, h3⟩
     · cases h1
     · simp only [Option.some.injEq] at h1; subst h1; exact ⟨q2, g, hg, h2, h3⟩
    subst hp
    have HK3 := Lib.hid k3
    clear k2 k3
    go_enter Tryz.func93, Tryz.ntmps93
    go_wp2_with fail
    refine (rlev_at (n := 7) (HH.out f (Nat.le_refl _)) HK1.out (by omega) (by omega) rfl HR.out).mono ?_
    rintro e w1 ⟨ev, l, rfl, hp1, hrd, hto⟩
    have HPw1 := Lib.hid hp1
    have HRD := Lib.hid hrd
    have HTw1 := Lib.hid hto
    obtain ⟨⟨A1, c1, hv1, y1, y2, _⟩, _⟩ := hp1
    simp only at hv1 y1
    subst hv1
    unfold maxLen at y2
    clear hrd hto
    go_wp2_with fail
    refine (take_ok (s := [61]) rfl HB0.out HTw1.out.rd hL).mono ?_
    rintro e wt0 ⟨rfl, ht2⟩
    have HTwt0 : Hid (RfTo w wt0 b L r1) := Lib.hid (HTw1.out.trans ht2)
    have HPwt0 := Lib.hid (PtW.grownR HPw1.out HTw1.out.rd (show w1.grownBy wt0 (some b) from ht2.grown))
    clear ht2
    go_wp2_with fail
    refine (take_ok (s := [60, 62]) rfl HB1.out HTwt0.out.rd hL).mono ?_
    rintro e wt1 ⟨rfl, ht2⟩
    have HTwt1 : Hid (RfTo w wt1 b L r1) := Lib.hid (HTwt0.out.trans ht2)
    have HPwt1 := Lib.hid (PtW.grownR HPwt0.out HTwt0.out.rd (show wt0.grownBy wt1 (some b) from ht2.grown))
    clear ht2
    go_wp2_with fail
    refine (take_ok (s := [60]) rfl HB2.out HTwt1.out.rd hL).mono ?_
    rintro e wt2 ⟨rfl, ht2⟩
    have HTwt2 : Hid (RfTo w wt2 b L r1.adv) := Lib.hid (HTwt1.out.trans ht2)
    have HPwt2 := Lib.hid (PtW.grownR HPwt1.out HTwt1.out.rd (show wt1.grownBy wt2 (some b) from ht2.grown))
    clear ht2
    go_wp2_with fail
    refine (rlev_at (n := 7) (HH.out g hg) HK3.out (by omega) (by omega) rfl HTwt2.out.rd).mono ?_
    rintro e w3 ⟨ev3, l3, rfl, hp3, hrd3, hto3⟩
    have HP3 := Lib.hid hp3
    have HRD3 := Lib.hid hrd3
    have HTO3 := Lib.hid hto3
    have HP23 := Lib.hid (PtW.grownR HPwt2.out HTwt2.out.rd HTO3.out.grown)
    obtain ⟨⟨A3, c3, hv3, y3, y4, _⟩, _⟩ := hp3
    simp only at hv3 y3
    subst hv3
    unfold maxLen at y4
    clear hrd3 hto3
    have hsz : r'.code = 0 → l.length + l3.length ≤ 40000 := fun hc => by
     have hc1 : r1.code = 0 := (show r1.adv.code = 0 from run_ok0 HK3.out hc)
     have e1 := HRD.out.len hc1
     have e2 := HRD3.out.len hc
     have e3 := HR.out.step_len' HK1.out (by simp [Task.pre]) rfl HTw1.out.rd hc1
     have e4 := HTwt2.out.rd.step_len' HK3.out (by simp [Task.pre]) rfl HTO3.out.rd hc
     have := HLEN.out
     omega
    have HSZ := Lib.hid hsz
    clear hsz
    go_wp2_with fail
    refine (rjoin2_any b L r' 12 l l3 _ _ _ HTO3.out.rd HP23.out HP3.out (fun hc => by have := HSZ.out hc; unfold roomM; simp; omega)).mono ?_
    rintro e w4 ⟨ev4, rfl, hp4, hb4⟩
    obtain ⟨J, hJ⟩ : ∃ J, (if r'.code = 0 then joinM 12 0 [] [l, l3] else []) = J := ⟨_, rfl⟩
    rw [hJ] at hp4
    have HJ := Lib.hid hJ
    clear hJ
    have HP4 := Lib.hid hp4
    obtain ⟨⟨A4, c4, hv4, y5, y6, _⟩, _⟩ := hp4
    simp only at hv4 y5
    subst hv4
    unfold maxLen at y6
    have HB4 := Lib.hid hb4
    clear hb4
    go_wp2
    go_ret
    exact ⟨_, J, rfl, HP4.out, (by have := Read.two (o := 12) (by decide) HRD.out HRD3.out (fun hc => (show r1.adv.code = 0 from run_ok0 HK3.out hc)) (fun hc => by have := HSZ.out hc; omega); rw [HJ.out] at this; exact this), (HTwt2.out.trans HTO3.out).then_below HB4.out⟩
   | false =>
    cases B3 with
    | true =>
     simp only [Bool.false_eq_true, if_false, if_true] at k2
     obtain ⟨q2, g, hg, k3, hp⟩ : ∃ q2 g, g ≤ f ∧ run g (.lev 7) r1.adv = some (q2, r') ∧ p = sjoin (13, false) q q2 := by
      rcases k2 with ⟨h1, _⟩ | ⟨s, q2, g, hg, h1, h2, h3⟩
      · cases h1
      · simp only [Option.some.injEq] at h1; subst h1; exact ⟨q2, g, hg, h2, h3⟩
     subst hp
     have HK3 := Lib.hid k3
     clear k2 k3
     go_enter Tryz.func93, Tryz.ntmps93
     go_wp2_with fail
     refine (rlev_at (n := 7) (HH.out f (Nat.le_refl _)) HK1.out (by omega) (by omega) rfl HR.out).mono ?_
     rintro e w1 ⟨ev, l, rfl, hp1, hrd, hto⟩
     have HPw1 := Lib.hid hp1
     have HRD := Lib.hid hrd
     have HTw1 := Lib.hid hto
     obtain ⟨⟨A1, c1, hv1, y1, y2, _⟩, _⟩ := hp1
     simp only at hv1 y1
     subst hv1
     unfold maxLen at y2
     clear hrd hto
     go_wp2_with fail
     refine (take_ok (s := [61]) rfl HB0.out HTw1.out.rd hL).mono ?_
     rintro e wt0 ⟨rfl, ht2⟩
     have HTwt0 : Hid (RfTo w wt0 b L r1) := Lib.hid (HTw1.out.trans ht2)
     have HPwt0 := Lib.hid (PtW.grownR HPw1.out HTw1.out.rd (show w1.grownBy wt0 (some b) from ht2.grown))
     clear ht2
     go_wp2_with fail
     refine (take_ok (s := [60, 62]) rfl HB1.out HTwt0.out.rd hL).mono ?_
     rintro e wt1 ⟨rfl, ht2⟩
     have HTwt1 : Hid (RfTo w wt1 b L r1) := Lib.hid (HTwt0.out.trans ht2)
     have HPwt1 := Lib.hid (PtW.grownR HPwt0.out HTwt0.out.rd (show wt0.grownBy wt1 (some b) from ht2.grown))
     clear ht2
     go_wp2_with fail
     refine (take_ok (s := [60]) rfl HB2.out HTwt1.out.rd hL).mono ?_
     rintro e wt2 ⟨rfl, ht2⟩
     have HTwt2 : Hid (RfTo w wt2 b L r1) := Lib.hid (HTwt1.out.trans ht2)
     have HPwt2 := Lib.hid (PtW.grownR HPwt1.out HTwt1.out.rd (show wt1.grownBy wt2 (some b) from ht2.grown))
     clear ht2
     go_wp2_with fail
     refine (take_ok (s := [60, 61]) rfl HB3.out HTwt2.out.rd hL).mono ?_
     rintro e wt3 ⟨rfl, ht2⟩
     have HTwt3 : Hid (RfTo w wt3 b L r1.adv) := Lib.hid (HTwt2.out.trans ht2)
     have HPwt3 := Lib.hid (PtW.grownR HPwt2.out HTwt2.out.rd (show wt2.grownBy wt3 (some b) from ht2.grown))
     clear ht2
     go_wp2_with fail
     refine (rlev_at (n := 7) (HH.out g hg) HK3.out (by omega) (by omega) rfl HTwt3.out.rd).mono ?_
     rintro e w3 ⟨ev3, l3, rfl, hp3, hrd3, hto3⟩
     have HP3 := Lib.hid hp3
     have HRD3 := Lib.hid hrd3
     have HTO3 := Lib.hid hto3
     have HP23 := Lib.hid (PtW.grownR HPwt3.out HTwt3.out.rd HTO3.out.grown)
     obtain ⟨⟨A3, c3, hv3, y3, y4, _⟩, _⟩ := hp3
     simp only at hv3 y3
     subst hv3
     unfold maxLen at y4
     clear hrd3 hto3
     have hsz : r'.code = 0 → l.length + l3.length ≤ 40000 := fun hc => by
      have hc1 : r1.code = 0 := (show r1.adv.code = 0 from run_ok0 HK3.out hc)
      have e1 := HRD.out.len hc1
      have e2 := HRD3.out.len hc
      have e3 := HR.out.step_len' HK1.out (by simp [Task.pre]) rfl HTw1.out.rd hc1
      have e4 := HTwt3.out.rd.step_len' HK3.out (by simp [Task.pre]) rfl HTO3.out.rd hc
      have := HLEN.out
      omega
     have HSZ := Lib.hid hsz
     clear hsz
     go_wp2_with fail
     refine (rjoin2_any b L r' 13 l l3 _ _ _ HTO3.out.rd HP23.out HP3.out (fun hc => by have := HSZ.out hc; unfold roomM; simp; omega)).mono ?_
     rintro e w4 ⟨ev4, rfl, hp4, hb4⟩
     obtain ⟨J, hJ⟩ : ∃ J, (if r'.code = 0 then joinM 13 0 [] [l, l3] else []) = J := ⟨_, rfl⟩
     rw [hJ] at hp4
     have HJ := Lib.hid hJ
     clear hJ
     have HP4 := Lib.hid hp4
     obtain ⟨⟨A4, c4, hv4, y5, y6, _⟩, _⟩ := hp4
     simp only at hv4 y5
     subst hv4
     unfold maxLen at y6
     have HB4 := Lib.hid hb4
     clear hb4
     go_wp2
     go_ret
     exact ⟨_, J, rfl, HP4.out, (by have := Read.two (o := 13) (by decide) HRD.out HRD3.out (fun hc => (show r1.adv.code = 0 from run_ok0 HK3.out hc)) (fun hc => by have := HSZ.out hc; omega); rw [HJ.out] at this; exact this), (HTwt3.out.trans HTO3.out).then_below HB4.out⟩
    | false =>
     cases B4 with
     | true =>
      simp only [Bool.false_eq_true, if_false, if_true] at k2
      obtain ⟨q2, g, hg, k3, hp⟩ : ∃ q2 g, g ≤ f ∧ run g (.lev 7) r1.adv = some (q2, r') ∧ p = sjoin (12, true) q q2 := by
       rcases k2 with ⟨h1, _⟩ | ⟨s, q2, g, hg, h1, h2, h3⟩
       · cases h1
       · simp only [Option.some.injEq] at h1; subst h1; exact ⟨q2, g, hg, h2, h3⟩
      subst hp
      have HK3 := Lib.hid k3
      clear k2 k3
      go_enter Tryz.func93, Tryz.ntmps93
      go_wp2_with fail
      refine (rlev_at (n := 7) (HH.out f (Nat.le_refl _)) HK1.out (by omega) (by omega) rfl HR.out).mono ?_
      rintro e w1 ⟨ev, l, rfl, hp1, hrd, hto⟩
      have HPw1 := Lib.hid hp1
      have HRD := Lib.hid hrd
      have HTw1 := Lib.hid hto
      obtain ⟨⟨A1, c1, hv1, y1, y2, _⟩, _⟩ := hp1
      simp only at hv1 y1
      subst hv1
      unfold maxLen at y2
      clear hrd hto
      go_wp2_with fail
      refine (take_ok (s := [61]) rfl HB0.out HTw1.out.rd hL).mono ?_
      rintro e wt0 ⟨rfl, ht2⟩
      have HTwt0 : Hid (RfTo w wt0 b L r1) := Lib.hid (HTw1.out.trans ht2)
      have HPwt0 := Lib.hid (PtW.grownR HPw1.out HTw1.out.rd (show w1.grownBy wt0 (some b) from ht2.grown))
      clear ht2
      go_wp2_with fail
      refine (take_ok (s := [60, 62]) rfl HB1.out HTwt0.out.rd hL).mono ?_
      rintro e wt1 ⟨rfl, ht2⟩
      have HTwt1 : Hid (RfTo w wt1 b L r1) := Lib.hid (HTwt0.out.trans ht2)
      have HPwt1 := Lib.hid (PtW.grownR HPwt0.out HTwt0.out.rd (show wt0.grownBy wt1 (some b) from ht2.grown))
      clear ht2
      go_wp2_with fail
      refine (take_ok (s := [60]) rfl HB2.out HTwt1.out.rd hL).mono ?_
      rintro e wt2 ⟨rfl, ht2⟩
      have HTwt2 : Hid (RfTo w wt2 b L r1) := Lib.hid (HTwt1.out.trans ht2)
      have HPwt2 := Lib.hid (PtW.grownR HPwt1.out HTwt1.out.rd (show wt1.grownBy wt2 (some b) from ht2.grown))
      clear ht2
      go_wp2_with fail
      refine (take_ok (s := [60, 61]) rfl HB3.out HTwt2.out.rd hL).mono ?_
      rintro e wt3 ⟨rfl, ht2⟩
      have HTwt3 : Hid (RfTo w wt3 b L r1) := Lib.hid (HTwt2.out.trans ht2)
      have HPwt3 := Lib.hid (PtW.grownR HPwt2.out HTwt2.out.rd (show wt2.grownBy wt3 (some b) from ht2.grown))
      clear ht2
      go_wp2_with fail
      refine (take_ok (s := [62]) rfl HB4.out HTwt3.out.rd hL).mono ?_
      rintro e wt4 ⟨rfl, ht2⟩
      have HTwt4 : Hid (RfTo w wt4 b L r1.adv) := Lib.hid (HTwt3.out.trans ht2)
      have HPwt4 := Lib.hid (PtW.grownR HPwt3.out HTwt3.out.rd (show wt3.grownBy wt4 (some b) from ht2.grown))
      clear ht2
      go_wp2_with fail
      refine (rlev_at (n := 7) (HH.out g hg) HK3.out (by omega) (by omega) rfl HTwt4.out.rd).mono ?_
      rintro e w3 ⟨ev3, l3, rfl, hp3, hrd3, hto3⟩
      have HP3 := Lib.hid hp3
      have HRD3 := Lib.hid hrd3
      have HTO3 := Lib.hid hto3
      have HP23 := Lib.hid (PtW.grownR HPwt4.out HTwt4.out.rd HTO3.out.grown)
      obtain ⟨⟨A3, c3, hv3, y3, y4, _⟩, _⟩ := hp3
      simp only at hv3 y3
      subst hv3
      unfold maxLen at y4
      clear hrd3 hto3
      have hsz : r'.code = 0 → l.length + l3.length ≤ 40000 := fun hc => by
       have hc1 : r1.code = 0 := (show r1.adv.code = 0 from run_ok0 HK3.out hc)
       have e1 := HRD.out.len hc1
       have e2 := HRD3.out.len hc
       have e3 := HR.out.step_len' HK1.out (by simp [Task.pre]) rfl HTw1.out.rd hc1
       have e4 := HTwt4.out.rd.step_len' HK3.out (by simp [Task.pre]) rfl HTO3.out.rd hc
       have := HLEN.out
       omega
      have HSZ := Lib.hid hsz
      clear hsz
      go_wp2_with fail
      refine (rjoin2_any b L r' 12 l3 l _ _ _ HTO3.out.rd HP3.out HP23.out (fun hc => by have := HSZ.out hc; unfold roomM; simp; omega)).mono ?_
      rintro e w4 ⟨ev4, rfl, hp4, hb4⟩
      obtain ⟨J, hJ⟩ : ∃ J, (if r'.code = 0 then joinM 12 0 [] [l3, l] else []) = J := ⟨_, rfl⟩
      rw [hJ] at hp4
      have HJ := Lib.hid hJ
      clear hJ
      have HP4 := Lib.hid hp4
      obtain ⟨⟨A4, c4, hv4, y5, y6, _⟩, _⟩ := hp4
      simp only at hv4 y5
      subst hv4
      unfold maxLen at y6
      have HB4 := Lib.hid hb4
      clear hb4
      go_wp2
      go_ret
      exact ⟨_, J, rfl, HP4.out, (by have := Read.two (o := 12) (r1 := r') (by decide) HRD3.out (fun hc => HRD.out (show r1.adv.code = 0 from run_ok0 HK3.out hc)) (fun hc => hc) (fun hc => by have := HSZ.out hc; omega); rw [HJ.out] at this; exact this), (HTwt4.out.trans HTO3.out).then_below HB4.out⟩
     | false =>
      cases B5 with
      | true =>
       simp only [Bool.false_eq_true, if_false, if_true] at k2
       obtain ⟨q2, g, hg, k3, hp⟩ : ∃ q2 g, g ≤ f ∧ run g (.lev 7) r1.adv = some (q2, r') ∧ p = sjoin (13, true) q q2 := by
        rcases k2 with ⟨h1, _⟩ | ⟨s, q2, g, hg, h1, h2, h3⟩
        · cases h1
        · simp only [Option.some.injEq] at h1; subst h1; exact ⟨q2, g, hg, h2, h3⟩
       subst hp
       have HK3 := Lib.hid k3
       clear k2 k3
       go_enter Tryz.func93, Tryz.ntmps93
       go_wp2_with fail
       refine (rlev_at (n := 7) (HH.out f (Nat.le_refl _)) HK1.out (by omega) (by omega) rfl HR.out).mono ?_
       rintro e w1 ⟨ev, l, rfl, hp1, hrd, hto⟩
       have HPw1 := Lib.hid hp1
       have HRD := Lib.hid hrd
       have HTw1 := Lib.hid hto
       obtain ⟨⟨A1, c1, hv1, y1, y2, _⟩, _⟩ := hp1
       simp only at hv1 y1
       subst hv1
       unfold maxLen at y2
       clear hrd hto
       go_wp2_with fail
       refine (take_ok (s := [61]) rfl HB0.out HTw1.out.rd hL).mono ?_
       rintro e wt0 ⟨rfl, ht2⟩
       have HTwt0 : Hid (RfTo w wt0 b L r1) := Lib.hid (HTw1.out.trans ht2)
       have HPwt0 := Lib.hid (PtW.grownR HPw1.out HTw1.out.rd (show w1.grownBy wt0 (some b) from ht2.grown))
       clear ht2
       go_wp2_with fail
       refine (take_ok (s := [60, 62]) rfl HB1.out HTwt0.out.rd hL).mono ?_
       rintro e wt1 ⟨rfl, ht2⟩
       have HTwt1 : Hid (RfTo w wt1 b L r1) := Lib.hid (HTwt0.out.trans ht2)
       have HPwt1 := Lib.hid (PtW.grownR HPwt0.out HTwt0.out.rd (show wt0.grownBy wt1 (some b) from ht2.grown))
       clear ht2
       go_wp2_with fail
       refine (take_ok (s := [60]) rfl HB2.out HTwt1.out.rd hL).mono ?_
       rintro e wt2 ⟨rfl, ht2⟩
       have HTwt2 : Hid (RfTo w wt2 b L r1) := Lib.hid (HTwt1.out.trans ht2)
       have HPwt2 := Lib.hid (PtW.grownR HPwt1.out HTwt1.out.rd (show wt1.grownBy wt2 (some b) from ht2.grown))
       clear ht2
       go_wp2_with fail
       refine (take_ok (s := [60, 61]) rfl HB3.out HTwt2.out.rd hL).mono ?_
       rintro e wt3 ⟨rfl, ht2⟩
       have HTwt3 : Hid (RfTo w wt3 b L r1) := Lib.hid (HTwt2.out.trans ht2)
       have HPwt3 := Lib.hid (PtW.grownR HPwt2.out HTwt2.out.rd (show wt2.grownBy wt3 (some b) from ht2.grown))
       clear ht2
       go_wp2_with fail
       refine (take_ok (s := [62]) rfl HB4.out HTwt3.out.rd hL).mono ?_
       rintro e wt4 ⟨rfl, ht2⟩
       have HTwt4 : Hid (RfTo w wt4 b L r1) := Lib.hid (HTwt3.out.trans ht2)
       have HPwt4 := Lib.hid (PtW.grownR HPwt3.out HTwt3.out.rd (show wt3.grownBy wt4 (some b) from ht2.grown))
       clear ht2
       go_wp2_with fail
       refine (take_ok (s := [62, 61]) rfl HB5.out HTwt4.out.rd hL).mono ?_
       rintro e wt5 ⟨rfl, ht2⟩
       have HTwt5 : Hid (RfTo w wt5 b L r1.adv) := Lib.hid (HTwt4.out.trans ht2)
       have HPwt5 := Lib.hid (PtW.grownR HPwt4.out HTwt4.out.rd (show wt4.grownBy wt5 (some b) from ht2.grown))
       clear ht2
       go_wp2_with fail
       refine (rlev_at (n := 7) (HH.out g hg) HK3.out (by omega) (by omega) rfl HTwt5.out.rd).mono ?_
       rintro e w3 ⟨ev3, l3, rfl, hp3, hrd3, hto3⟩
       have HP3 := Lib.hid hp3
       have HRD3 := Lib.hid hrd3
       have HTO3 := Lib.hid hto3
       have HP23 := Lib.hid (PtW.grownR HPwt5.out HTwt5.out.rd HTO3.out.grown)
       obtain ⟨⟨A3, c3, hv3, y3, y4, _⟩, _⟩ := hp3
       simp only at hv3 y3
       subst hv3
       unfold maxLen at y4
       clear hrd3 hto3
       have hsz : r'.code = 0 → l.length + l3.length ≤ 40000 := fun hc => by
        have hc1 : r1.code = 0 := (show r1.adv.code = 0 from run_ok0 HK3.out hc)
        have e1 := HRD.out.len hc1
        have e2 := HRD3.out.len hc
        have e3 := HR.out.step_len' HK1.out (by simp [Task.pre]) rfl HTw1.out.rd hc1
        have e4 := HTwt5.out.rd.step_len' HK3.out (by simp [Task.pre]) rfl HTO3.out.rd hc
        have := HLEN.out
        omega
       have HSZ := Lib.hid hsz
       clear hsz
       go_wp2_with fail
       refine (rjoin2_any b L r' 13 l3 l _ _ _ HTO3.out.rd HP3.out HP23.out (fun hc => by have := HSZ.out hc; unfold roomM; simp; omega)).mono ?_
       rintro e w4 ⟨ev4, rfl, hp4, hb4⟩
       obtain ⟨J, hJ⟩ : ∃ J, (if r'.code = 0 then joinM 13 0 [] [l3, l] else []) = J := ⟨_, rfl⟩
       rw [hJ] at hp4
       have HJ := Lib.hid hJ
       clear hJ
       have HP4 := Lib.hid hp4
       obtain ⟨⟨A4, c4, hv4, y5, y6, _⟩, _⟩ := hp4
       simp only at hv4 y5
       subst hv4
       unfold maxLen at y6
       have HB4 := Lib.hid hb4
       clear hb4
       go_wp2
       go_ret
       exact ⟨_, J, rfl, HP4.out, (by have := Read.two (o := 13) (r1 := r') (by decide) HRD3.out (fun hc => HRD.out (show r1.adv.code = 0 from run_ok0 HK3.out hc)) (fun hc => hc) (fun hc => by have := HSZ.out hc; omega); rw [HJ.out] at this; exact this), (HTwt5.out.trans HTO3.out).then_below HB4.out⟩
      | false =>
       simp only [Bool.false_eq_true, if_false] at k2
       obtain ⟨rfl, rfl⟩ : p = q ∧ r' = r1 := by
        rcases k2 with ⟨_, h1, h2⟩ | ⟨s, q2, g, hg, h1, _⟩
        · exact ⟨h1, h2⟩
        · cases h1
       clear k2
       go_enter Tryz.func93, Tryz.ntmps93
       go_wp2_with fail
       refine (rlev_at (n := 7) (HH.out f (Nat.le_refl _)) HK1.out (by omega) (by omega) rfl HR.out).mono ?_
       rintro e w1 ⟨ev, l, rfl, hp1, hrd, hto⟩
       have HPw1 := Lib.hid hp1
       have HRD := Lib.hid hrd
       have HTw1 := Lib.hid hto
       obtain ⟨⟨A1, c1, hv1, y1, y2, _⟩, _⟩ := hp1
       simp only at hv1 y1
       subst hv1
       unfold maxLen at y2
       clear hrd hto
       go_wp2_with fail
       refine (take_ok (s := [61]) rfl HB0.out HTw1.out.rd hL).mono ?_
       rintro e wt0 ⟨rfl, ht2⟩
       have HTwt0 : Hid (RfTo w wt0 b L r') := Lib.hid (HTw1.out.trans ht2)
       have HPwt0 := Lib.hid (PtW.grownR HPw1.out HTw1.out.rd (show w1.grownBy wt0 (some b) from ht2.grown))
       clear ht2
       go_wp2_with fail
       refine (take_ok (s := [60, 62]) rfl HB1.out HTwt0.out.rd hL).mono ?_
       rintro e wt1 ⟨rfl, ht2⟩
       have HTwt1 : Hid (RfTo w wt1 b L r') := Lib.hid (HTwt0.out.trans ht2)
       have HPwt1 := Lib.hid (PtW.grownR HPwt0.out HTwt0.out.rd (show wt0.grownBy wt1 (some b) from ht2.grown))
       clear ht2
       go_wp2_with fail
       refine (take_ok (s := [60]) rfl HB2.out HTwt1.out.rd hL).mono ?_
       rintro e wt2 ⟨rfl, ht2⟩
       have HTwt2 : Hid (RfTo w wt2 b L r') := Lib.hid (HTwt1.out.trans ht2)
       have HPwt2 := Lib.hid (PtW.grownR HPwt1.out HTwt1.out.rd (show wt1.grownBy wt2 (some b) from ht2.grown))
       clear ht2
       go_wp2_with fail
       refine (take_ok (s := [60, 61]) rfl HB3.out HTwt2.out.rd hL).mono ?_
       rintro e wt3 ⟨rfl, ht2⟩
       have HTwt3 : Hid (RfTo w wt3 b L r') := Lib.hid (HTwt2.out.trans ht2)
       have HPwt3 := Lib.hid (PtW.grownR HPwt2.out HTwt2.out.rd (show wt2.grownBy wt3 (some b) from ht2.grown))
       clear ht2
       go_wp2_with fail
       refine (take_ok (s := [62]) rfl HB4.out HTwt3.out.rd hL).mono ?_
       rintro e wt4 ⟨rfl, ht2⟩
       have HTwt4 : Hid (RfTo w wt4 b L r') := Lib.hid (HTwt3.out.trans ht2)
       have HPwt4 := Lib.hid (PtW.grownR HPwt3.out HTwt3.out.rd (show wt3.grownBy wt4 (some b) from ht2.grown))
       clear ht2
       go_wp2_with fail
       refine (take_ok (s := [62, 61]) rfl HB5.out HTwt4.out.rd hL).mono ?_
       rintro e wt5 ⟨rfl, ht2⟩
       have HTwt5 : Hid (RfTo w wt5 b L r') := Lib.hid (HTwt4.out.trans ht2)
       have HPwt5 := Lib.hid (PtW.grownR HPwt4.out HTwt4.out.rd (show wt4.grownBy wt5 (some b) from ht2.grown))
       clear ht2
       go_wp2
       go_ret
       exact ⟨_, l, rfl, HPwt5.out, HRD.out, HTwt5.out⟩
end Go.Proofs.YtdebhngpgabglaaGreat.Rf
namespace Go.Proofs.YtdebhngpgabglaaGreat.Rf
open Go.ChangeShapes Go.WideShapes Go.ChangeAt Go.RowKit
open Go.Proofs.YtdebhngpgabglaaGreat.Ex Go.Proofs.YtdebhngpgabglaaGreat.Sh
open Go.Proofs.YtdebhngpgabglaaGreat.Tr (str ret_bool ret_int Bytes Nd T joinM roomM binaryB unaryB)
set_option maxRecDepth 100000 in
set_option maxHeartbeats 4000000 in
theorem lev7_any (L : List Ex.Tok) (hok : OkL L) (f : Nat) (H : ∀ g, g ≤ f → RLev L g) (r : Rd) (p : Pt) (r' : Rd) (h : run (f + 1) (.lev 7) r = some (p, r')) (w : World) (b : Nat) (hr : Rf w b L r) :
 Calls Tryz.prog 94 #[.pointer (some ⟨b, 0, none⟩)] w (Got w b L p r') := by
 have HH := Lib.hid H
 have HR := Lib.hid hr
 have hlt := hr.lt
 have hL : L.length ≤ 100000 := by have := hok.len; omega
 have HLEN := Lib.hid hok.len
 obtain ⟨q, r1, k1, k2⟩ := lev_left (n := 7) (by omega) (by omega) h
 have HK1 := Lib.hid k1
 have HK2 := Lib.hid k2
 cases f with
 | zero => cases k1
 | succ f =>
 have hq1 : q.nodes ≤ r1.mu := by have := (run_step _ _ _ _ _ k1 hr.fine (by simp [Task.pre])).2.2; simp only [Task.base] at this; omega
 have HQ1 := Lib.hid hq1
 clear h k1 k2 H hr hq1
 go_enter Tryz.func94, Tryz.ntmps94
 go_wp2_with fail
 refine (rlev_at (n := 8) (HH.out (f + 1) (Nat.le_refl _)) HK1.out (by omega) (by omega) rfl HR.out).mono ?_
 rintro e w1 ⟨ev, l, rfl, hp1, hrd, hto⟩
 have HP1 := Lib.hid hp1
 have HRD := Lib.hid hrd
 have HTO := Lib.hid hto
 obtain ⟨⟨A1, c1, hv1, y1, y2, _⟩, _⟩ := hp1
 simp only at hv1 y1
 subst hv1
 unfold maxLen at y2
 clear hrd hto
 go_wp2
 go_loopg [3] f (fun g s3 wr => ∃ (rr : Rd) (pp : Pt) (ev : Value) (l : List Nd), g ≤ f ∧ ev = s3 ∧ LAt w b L 7 p r' g wr rr pp ev l)
 case atStart => exact ⟨r1, q, _, l, Nat.le_refl _, rfl, ⟨HK2.out, HP1.out, HRD.out, HTO.out, HQ1.out⟩⟩
 case round =>
  obtain ⟨rr, pp, ev, l', hgf, hev, hat⟩ := hrel
  subst hev
  have HAT := Lib.hid hat
  obtain ⟨⟨A2, c2, hv2, y3, y4, _⟩, _⟩ := hat.pt
  simp only at hv2 y3
  subst hv2
  unfold maxLen at y4
  clear hat
  obtain ⟨B0, hB0⟩ : ∃ B, rr.isB [43] = B := ⟨_, rfl⟩
  obtain ⟨B1, hB1⟩ : ∃ B, rr.isB [45] = B := ⟨_, rfl⟩
  have hsg := sign7_eq rr
  rw [hB0, hB1] at hsg
  have hx01 : B0 = true → B1 = false := fun h => by rw [← hB1]; exact isB_other (by rw [hB0]; exact h) (by decide)
  have HB0 := Lib.hid hB0
  have HB1 := Lib.hid hB1
  clear hB0 hB1
  cases B0 with
  | true =>
   simp only [Bool.false_eq_true, if_false, if_true] at hsg
   obtain rfl := hx01 rfl
   have HTwr : Hid (RfTo w wr b L rr) := Lib.hid HAT.out.rto
   have HPwr := Lib.hid HAT.out.pt
   obtain ⟨q3, r3, k3, k4⟩ := ll_some HAT.out.run_ hsg (by decide)
   have HK3 := Lib.hid k3
   have HK4 := Lib.hid k4
   have hin := isB_lt HB0.out
   have hc0 : rr.code = 0 := code_of_isB HAT.out.rto.rd HB0.out
   clear k3 k4 hsg
   go_wp2_with fail
   refine (is_ok (s := [43]) rfl HB0.out HTwr.out.rd hL).mono ?_
   rintro e wi1 ⟨rfl, hb⟩
   have HTwi1 := Lib.hid (HTwr.out.then_below hb)
   have HPwi1 := Lib.hid (HPwr.out.below hb)
   clear hb
   go_wp2_with fail
   refine (is_ok (s := [45]) rfl HB1.out HTwi1.out.rd hL).mono ?_
   rintro e wi2 ⟨rfl, hb⟩
   have HTwi2 := Lib.hid (HTwi1.out.then_below hb)
   have HPwi2 := Lib.hid (HPwi1.out.below hb)
   clear hb
   obtain ⟨lv, i, o, c, a, hat⟩ := HTwi2.out.rd
   have HA := Lib.hid hat
   have hil : i < L.length := by
    rcases hat.st with ⟨_, _, h3, h4⟩ | ⟨h1, _⟩
    · rw [h4, ← h3]; exact hin
    · exact absurd hc0 h1
   have x1 : wi2.cell? ⟨b, 1, none⟩ = some (.int .i64 (i : Int)) := rf_cell hat.blk 1
   have f1 : wi2.frozen? ⟨b, 1, none⟩ = false := rf_free hat.blk 1
   clear hat hin
   obtain ⟨wt, hwt⟩ : ∃ wt, wi2.setCell ⟨b, 1, none⟩ (.int .i64 ((i : Int) + 1)) = wt := ⟨_, rfl⟩
   have hset : RfTo wi2 wt b L rr.adv := by rw [← hwt]; exact HA.out.setI hc0 hil
   have HTT : Hid (RfTo w wt b L rr.adv) := Lib.hid (HTwi2.out.trans hset)
   have HPT := Lib.hid (PtW.grownR HPwi2.out HTwi2.out.rd hset.grown)
   have HWT := Lib.hid hwt
   clear hset hwt
   go_wp2_with fail
   rw [HWT.out]
   refine (rlev_at (n := 8) (HH.out gk (by omega)) HK3.out (by omega) (by omega) rfl HTT.out.rd).mono ?_
   rintro e w3 ⟨ev3, l3, rfl, hp3, hrd3, hto3⟩
   have HP3 := Lib.hid hp3
   have HRD3 := Lib.hid hrd3
   have HTO3 := Lib.hid hto3
   have HP23 := Lib.hid (PtW.grownR HPT.out HTT.out.rd HTO3.out.grown)
   obtain ⟨⟨A3, c3, hv3, y5, y6, _⟩, _⟩ := hp3
   simp only at hv3 y5
   subst hv3
   unfold maxLen at y6
   have HST := Lib.hid (run_step _ _ _ _ _ HK3.out HTT.out.rd.fine (by simp [Task.pre]))
   have hsz : r3.code = 0 → l'.length + l3.length ≤ 50000 := fun hc => by
    have hc1 : rr.code = 0 := (show rr.adv.code = 0 from run_ok0 HK3.out hc)
    have e1 := HAT.out.rd.len hc1
    have e2 := HRD3.out.len hc
    have e3 := HAT.out.nd
    have e4 := HTT.out.rd.step_len' HK3.out (by simp [Task.pre]) rfl HTO3.out.rd hc
    have e5 := HAT.out.rto.rd.next_le hc1
    unfold Rd.mu at e3
    rw [if_pos hc1] at e3
    have := HLEN.out
    omega
   have HSZ := Lib.hid hsz
   clear hrd3 hto3 hsz
   go_wp2_with fail
   refine (rjoin2_any b L r3 14 l' l3 _ _ _ HTO3.out.rd HP23.out HP3.out (fun hc => by have := HSZ.out hc; unfold roomM; simp; omega)).mono ?_
   rintro e w4 ⟨ev4, rfl, hp4, hb4⟩
   obtain ⟨J, hJ⟩ : ∃ J, (if r3.code = 0 then joinM 14 0 [] [l', l3] else []) = J := ⟨_, rfl⟩
   rw [hJ] at hp4
   have HJ := Lib.hid hJ
   clear hJ
   have HP4 := Lib.hid hp4
   obtain ⟨⟨A4, c4, hv4, y7, y8, _⟩, _⟩ := hp4
   simp only at hv4 y7
   subst hv4
   unfold maxLen at y8
   have HB4 := Lib.hid hb4
   clear hb4
   cases gk with
   | zero => have := HK4.out; simp [run] at this
   | succ gk =>
   go_wp2
   go_roundg gk
   case measure => omega
   case rel => exact ⟨r3, sjoin (14, false) pp q3, _, _, by omega, rfl, LAt.next HAT.out (o := 14) (by decide) HK3.out HK4.out HRD3.out HJ.out HP4.out ((HTT.out.trans HTO3.out).then_below HB4.out) HST.out.2.2 HSZ.out⟩
  | false =>
   cases B1 with
   | true =>
    simp only [Bool.false_eq_true, if_false, if_true] at hsg
    have HTwr : Hid (RfTo w wr b L rr) := Lib.hid HAT.out.rto
    have HPwr := Lib.hid HAT.out.pt
    obtain ⟨q3, r3, k3, k4⟩ := ll_some HAT.out.run_ hsg (by decide)
    have HK3 := Lib.hid k3
    have HK4 := Lib.hid k4
    have hin := isB_lt HB1.out
    have hc0 : rr.code = 0 := code_of_isB HAT.out.rto.rd HB1.out
    clear k3 k4 hsg
    go_wp2_with fail
    refine (is_ok (s := [43]) rfl HB0.out HTwr.out.rd hL).mono ?_
    rintro e wi1 ⟨rfl, hb⟩
    have HTwi1 := Lib.hid (HTwr.out.then_below hb)
    have HPwi1 := Lib.hid (HPwr.out.below hb)
    clear hb
    go_wp2_with fail
    refine (is_ok (s := [45]) rfl HB1.out HTwi1.out.rd hL).mono ?_
    rintro e wi2 ⟨rfl, hb⟩
    have HTwi2 := Lib.hid (HTwi1.out.then_below hb)
    have HPwi2 := Lib.hid (HPwi1.out.below hb)
    clear hb
    go_wp2_with fail
    refine (is_ok (s := [45]) rfl HB1.out HTwi2.out.rd hL).mono ?_
    rintro e wi3 ⟨rfl, hb⟩
    have HTwi3 := Lib.hid (HTwi2.out.then_below hb)
    have HPwi3 := Lib.hid (HPwi2.out.below hb)
    clear hb
    obtain ⟨lv, i, o, c, a, hat⟩ := HTwi3.out.rd
    have HA := Lib.hid hat
    have hil : i < L.length := by
     rcases hat.st with ⟨_, _, h3, h4⟩ | ⟨h1, _⟩
     · rw [h4, ← h3]; exact hin
     · exact absurd hc0 h1
    have x1 : wi3.cell? ⟨b, 1, none⟩ = some (.int .i64 (i : Int)) := rf_cell hat.blk 1
    have f1 : wi3.frozen? ⟨b, 1, none⟩ = false := rf_free hat.blk 1
    clear hat hin
    obtain ⟨wt, hwt⟩ : ∃ wt, wi3.setCell ⟨b, 1, none⟩ (.int .i64 ((i : Int) + 1)) = wt := ⟨_, rfl⟩
    have hset : RfTo wi3 wt b L rr.adv := by rw [← hwt]; exact HA.out.setI hc0 hil
    have HTT : Hid (RfTo w wt b L rr.adv) := Lib.hid (HTwi3.out.trans hset)
    have HPT := Lib.hid (PtW.grownR HPwi3.out HTwi3.out.rd hset.grown)
    have HWT := Lib.hid hwt
    clear hset hwt
    go_wp2_with fail
    rw [HWT.out]
    refine (rlev_at (n := 8) (HH.out gk (by omega)) HK3.out (by omega) (by omega) rfl HTT.out.rd).mono ?_
    rintro e w3 ⟨ev3, l3, rfl, hp3, hrd3, hto3⟩
    have HP3 := Lib.hid hp3
    have HRD3 := Lib.hid hrd3
    have HTO3 := Lib.hid hto3
    have HP23 := Lib.hid (PtW.grownR HPT.out HTT.out.rd HTO3.out.grown)
    obtain ⟨⟨A3, c3, hv3, y5, y6, _⟩, _⟩ := hp3
    simp only at hv3 y5
    subst hv3
    unfold maxLen at y6
    have HST := Lib.hid (run_step _ _ _ _ _ HK3.out HTT.out.rd.fine (by simp [Task.pre]))
    have hsz : r3.code = 0 → l'.length + l3.length ≤ 50000 := fun hc => by
     have hc1 : rr.code = 0 := (show rr.adv.code = 0 from run_ok0 HK3.out hc)
     have e1 := HAT.out.rd.len hc1
     have e2 := HRD3.out.len hc
     have e3 := HAT.out.nd
     have e4 := HTT.out.rd.step_len' HK3.out (by simp [Task.pre]) rfl HTO3.out.rd hc
     have e5 := HAT.out.rto.rd.next_le hc1
     unfold Rd.mu at e3
     rw [if_pos hc1] at e3
     have := HLEN.out
     omega
    have HSZ := Lib.hid hsz
    clear hrd3 hto3 hsz
    go_wp2_with fail
    refine (rjoin2_any b L r3 15 l' l3 _ _ _ HTO3.out.rd HP23.out HP3.out (fun hc => by have := HSZ.out hc; unfold roomM; simp; omega)).mono ?_
    rintro e w4 ⟨ev4, rfl, hp4, hb4⟩
    obtain ⟨J, hJ⟩ : ∃ J, (if r3.code = 0 then joinM 15 0 [] [l', l3] else []) = J := ⟨_, rfl⟩
    rw [hJ] at hp4
    have HJ := Lib.hid hJ
    clear hJ
    have HP4 := Lib.hid hp4
    obtain ⟨⟨A4, c4, hv4, y7, y8, _⟩, _⟩ := hp4
    simp only at hv4 y7
    subst hv4
    unfold maxLen at y8
    have HB4 := Lib.hid hb4
    clear hb4
    cases gk with
    | zero => have := HK4.out; simp [run] at this
    | succ gk =>
    go_wp2
    go_roundg gk
    case measure => omega
    case rel => exact ⟨r3, sjoin (15, false) pp q3, _, _, by omega, rfl, LAt.next HAT.out (o := 15) (by decide) HK3.out HK4.out HRD3.out HJ.out HP4.out ((HTT.out.trans HTO3.out).then_below HB4.out) HST.out.2.2 HSZ.out⟩
   | false =>
    simp only [Bool.false_eq_true, if_false] at hsg
    obtain ⟨rfl, rfl⟩ := ll_none HAT.out.run_ hsg
    have HTwr : Hid (RfTo w wr b L r') := Lib.hid HAT.out.rto
    have HPwr := Lib.hid HAT.out.pt
    clear hsg
    go_wp2_with fail
    refine (is_ok (s := [43]) rfl HB0.out HTwr.out.rd hL).mono ?_
    rintro e wi1 ⟨rfl, hb⟩
    have HTwi1 := Lib.hid (HTwr.out.then_below hb)
    have HPwi1 := Lib.hid (HPwr.out.below hb)
    clear hb
    go_wp2_with fail
    refine (is_ok (s := [45]) rfl HB1.out HTwi1.out.rd hL).mono ?_
    rintro e wi2 ⟨rfl, hb⟩
    have HTwi2 := Lib.hid (HTwi1.out.then_below hb)
    have HPwi2 := Lib.hid (HPwi1.out.below hb)
    clear hb
    go_wp2
    go_ret
    exact ⟨_, l', rfl, HPwi2.out, HAT.out.rd, HTwi2.out⟩
end Go.Proofs.YtdebhngpgabglaaGreat.Rf
namespace Go.Proofs.YtdebhngpgabglaaGreat.Rf
open Go.ChangeShapes Go.WideShapes Go.ChangeAt Go.RowKit
open Go.Proofs.YtdebhngpgabglaaGreat.Ex Go.Proofs.YtdebhngpgabglaaGreat.Sh
open Go.Proofs.YtdebhngpgabglaaGreat.Tr (str ret_bool ret_int Bytes Nd T joinM roomM binaryB unaryB)
set_option maxRecDepth 100000 in
set_option maxHeartbeats 4000000 in
theorem lev8_any (L : List Ex.Tok) (hok : OkL L) (f : Nat) (H : ∀ g, g ≤ f → RLev L g) (r : Rd) (p : Pt) (r' : Rd) (h : run (f + 1) (.lev 8) r = some (p, r')) (w : World) (b : Nat) (hr : Rf w b L r) :
 Calls Tryz.prog 95 #[.pointer (some ⟨b, 0, none⟩)] w (Got w b L p r') := by
 have HH := Lib.hid H
 have HR := Lib.hid hr
 have hlt := hr.lt
 have hL : L.length ≤ 100000 := by have := hok.len; omega
 have HLEN := Lib.hid hok.len
 obtain ⟨q, r1, k1, k2⟩ := lev_left (n := 8) (by omega) (by omega) h
 have HK1 := Lib.hid k1
 have HK2 := Lib.hid k2
 cases f with
 | zero => cases k1
 | succ f =>
 have hq1 : q.nodes ≤ r1.mu := by have := (run_step _ _ _ _ _ k1 hr.fine (by simp [Task.pre])).2.2; simp only [Task.base] at this; omega
 have HQ1 := Lib.hid hq1
 clear h k1 k2 H hr hq1
 go_enter Tryz.func95, Tryz.ntmps95
 go_wp2_with fail
 refine (rlev_at (n := 9) (HH.out (f + 1) (Nat.le_refl _)) HK1.out (by omega) (by omega) rfl HR.out).mono ?_
 rintro e w1 ⟨ev, l, rfl, hp1, hrd, hto⟩
 have HP1 := Lib.hid hp1
 have HRD := Lib.hid hrd
 have HTO := Lib.hid hto
 obtain ⟨⟨A1, c1, hv1, y1, y2, _⟩, _⟩ := hp1
 simp only at hv1 y1
 subst hv1
 unfold maxLen at y2
 clear hrd hto
 go_wp2
 go_loopg [3] f (fun g s3 wr => ∃ (rr : Rd) (pp : Pt) (ev : Value) (l : List Nd), g ≤ f ∧ ev = s3 ∧ LAt w b L 8 p r' g wr rr pp ev l)
 case atStart => exact ⟨r1, q, _, l, Nat.le_refl _, rfl, ⟨HK2.out, HP1.out, HRD.out, HTO.out, HQ1.out⟩⟩
 case round =>
  obtain ⟨rr, pp, ev, l', hgf, hev, hat⟩ := hrel
  subst hev
  have HAT := Lib.hid hat
  obtain ⟨⟨A2, c2, hv2, y3, y4, _⟩, _⟩ := hat.pt
  simp only at hv2 y3
  subst hv2
  unfold maxLen at y4
  clear hat
  obtain ⟨B0, hB0⟩ : ∃ B, rr.isB [42] = B := ⟨_, rfl⟩
  obtain ⟨B1, hB1⟩ : ∃ B, rr.isB [100, 105, 118] = B := ⟨_, rfl⟩
  obtain ⟨B2, hB2⟩ : ∃ B, rr.isB [109, 111, 100] = B := ⟨_, rfl⟩
  have hsg := sign8_eq rr
  rw [hB0, hB1, hB2] at hsg
  have hx01 : B0 = true → B1 = false := fun h => by rw [← hB1]; exact isB_other (by rw [hB0]; exact h) (by decide)
  have hx02 : B0 = true → B2 = false := fun h => by rw [← hB2]; exact isB_other (by rw [hB0]; exact h) (by decide)
  have hx12 : B1 = true → B2 = false := fun h => by rw [← hB2]; exact isB_other (by rw [hB1]; exact h) (by decide)
  have HB0 := Lib.hid hB0
  have HB1 := Lib.hid hB1
  have HB2 := Lib.hid hB2
  clear hB0 hB1 hB2
  cases B0 with
  | true =>
   simp only [Bool.false_eq_true, if_false, if_true] at hsg
   obtain rfl := hx01 rfl
   obtain rfl := hx02 rfl
   have HTwr : Hid (RfTo w wr b L rr) := Lib.hid HAT.out.rto
   have HPwr := Lib.hid HAT.out.pt
   obtain ⟨q3, r3, k3, k4⟩ := ll_some HAT.out.run_ hsg (by decide)
   have HK3 := Lib.hid k3
   have HK4 := Lib.hid k4
   have hin := isB_lt HB0.out
   have hc0 : rr.code = 0 := code_of_isB HAT.out.rto.rd HB0.out
   clear k3 k4 hsg
   go_wp2_with fail
   refine (is_ok (s := [42]) rfl HB0.out HTwr.out.rd hL).mono ?_
   rintro e wi1 ⟨rfl, hb⟩
   have HTwi1 := Lib.hid (HTwr.out.then_below hb)
   have HPwi1 := Lib.hid (HPwr.out.below hb)
   clear hb
   go_wp2_with fail
   refine (is_ok (s := [100, 105, 118]) rfl HB1.out HTwi1.out.rd hL).mono ?_
   rintro e wi2 ⟨rfl, hb⟩
   have HTwi2 := Lib.hid (HTwi1.out.then_below hb)
   have HPwi2 := Lib.hid (HPwi1.out.below hb)
   clear hb
   go_wp2_with fail
   refine (is_ok (s := [109, 111, 100]) rfl HB2.out HTwi2.out.rd hL).mono ?_
   rintro e wi3 ⟨rfl, hb⟩
   have HTwi3 := Lib.hid (HTwi2.out.then_below hb)
   have HPwi3 := Lib.hid (HPwi2.out.below hb)
   clear hb
   obtain ⟨lv, i, o, c, a, hat⟩ := HTwi3.out.rd
   have HA := Lib.hid hat
   have hil : i < L.length := by
    rcases hat.st with ⟨_, _, h3, h4⟩ | ⟨h1, _⟩
    · rw [h4, ← h3]; exact hin
    · exact absurd hc0 h1
   have x1 : wi3.cell? ⟨b, 1, none⟩ = some (.int .i64 (i : Int)) := rf_cell hat.blk 1
   have f1 : wi3.frozen? ⟨b, 1, none⟩ = false := rf_free hat.blk 1
   clear hat hin
   obtain ⟨wt, hwt⟩ : ∃ wt, wi3.setCell ⟨b, 1, none⟩ (.int .i64 ((i : Int) + 1)) = wt := ⟨_, rfl⟩
   have hset : RfTo wi3 wt b L rr.adv := by rw [← hwt]; exact HA.out.setI hc0 hil
   have HTT : Hid (RfTo w wt b L rr.adv) := Lib.hid (HTwi3.out.trans hset)
   have HPT := Lib.hid (PtW.grownR HPwi3.out HTwi3.out.rd hset.grown)
   have HWT := Lib.hid hwt
   clear hset hwt
   go_wp2_with fail
   rw [HWT.out]
   refine (rlev_at (n := 9) (HH.out gk (by omega)) HK3.out (by omega) (by omega) rfl HTT.out.rd).mono ?_
   rintro e w3 ⟨ev3, l3, rfl, hp3, hrd3, hto3⟩
   have HP3 := Lib.hid hp3
   have HRD3 := Lib.hid hrd3
   have HTO3 := Lib.hid hto3
   have HP23 := Lib.hid (PtW.grownR HPT.out HTT.out.rd HTO3.out.grown)
   obtain ⟨⟨A3, c3, hv3, y5, y6, _⟩, _⟩ := hp3
   simp only at hv3 y5
   subst hv3
   unfold maxLen at y6
   have HST := Lib.hid (run_step _ _ _ _ _ HK3.out HTT.out.rd.fine (by simp [Task.pre]))
   have hsz : r3.code = 0 → l'.length + l3.length ≤ 50000 := fun hc => by
    have hc1 : rr.code = 0 := (show rr.adv.code = 0 from run_ok0 HK3.out hc)
    have e1 := HAT.out.rd.len hc1
    have e2 := HRD3.out.len hc
    have e3 := HAT.out.nd
    have e4 := HTT.out.rd.step_len' HK3.out (by simp [Task.pre]) rfl HTO3.out.rd hc
    have e5 := HAT.out.rto.rd.next_le hc1
    unfold Rd.mu at e3
    rw [if_pos hc1] at e3
    have := HLEN.out
    omega
   have HSZ := Lib.hid hsz
   clear hrd3 hto3 hsz
   go_wp2_with fail
   refine (rjoin2_any b L r3 16 l' l3 _ _ _ HTO3.out.rd HP23.out HP3.out (fun hc => by have := HSZ.out hc; unfold roomM; simp; omega)).mono ?_
   rintro e w4 ⟨ev4, rfl, hp4, hb4⟩
   obtain ⟨J, hJ⟩ : ∃ J, (if r3.code = 0 then joinM 16 0 [] [l', l3] else []) = J := ⟨_, rfl⟩
   rw [hJ] at hp4
   have HJ := Lib.hid hJ
   clear hJ
   have HP4 := Lib.hid hp4
   obtain ⟨⟨A4, c4, hv4, y7, y8, _⟩, _⟩ := hp4
   simp only at hv4 y7
   subst hv4
   unfold maxLen at y8
   have HB4 := Lib.hid hb4
   clear hb4
   cases gk with
   | zero => have := HK4.out; simp [run] at this
   | succ gk =>
   go_wp2
   go_roundg gk
   case measure => omega
   case rel => exact ⟨r3, sjoin (16, false) pp q3, _, _, by omega, rfl, LAt.next HAT.out (o := 16) (by decide) HK3.out HK4.out HRD3.out HJ.out HP4.out ((HTT.out.trans HTO3.out).then_below HB4.out) HST.out.2.2 HSZ.out⟩
  | false =>
   cases B1 with
   | true =>
    simp only [Bool.false_eq_true, if_false, if_true] at hsg
    obtain rfl := hx12 rfl
    have HTwr : Hid (RfTo w wr b L rr) := Lib.hid HAT.out.rto
    have HPwr := Lib.hid HAT.out.pt
    obtain ⟨q3, r3, k3, k4⟩ := ll_some HAT.out.run_ hsg (by decide)
    have HK3 := Lib.hid k3
    have HK4 := Lib.hid k4
    have hin := isB_lt HB1.out
    have hc0 : rr.code = 0 := code_of_isB HAT.out.rto.rd HB1.out
    clear k3 k4 hsg
    go_wp2_with fail
    refine (is_ok (s := [42]) rfl HB0.out HTwr.out.rd hL).mono ?_
    rintro e wi1 ⟨rfl, hb⟩
    have HTwi1 := Lib.hid (HTwr.out.then_below hb)
    have HPwi1 := Lib.hid (HPwr.out.below hb)
    clear hb
    go_wp2_with fail
    refine (is_ok (s := [100, 105, 118]) rfl HB1.out HTwi1.out.rd hL).mono ?_
    rintro e wi2 ⟨rfl, hb⟩
    have HTwi2 := Lib.hid (HTwi1.out.then_below hb)
    have HPwi2 := Lib.hid (HPwi1.out.below hb)
    clear hb
    go_wp2_with fail
    refine (is_ok (s := [100, 105, 118]) rfl HB1.out HTwi2.out.rd hL).mono ?_
    rintro e wi3 ⟨rfl, hb⟩
    have HTwi3 := Lib.hid (HTwi2.out.then_below hb)
    have HPwi3 := Lib.hid (HPwi2.out.below hb)
    clear hb
    go_wp2_with fail
    refine (is_ok (s := [109, 111, 100]) rfl HB2.out HTwi3.out.rd hL).mono ?_
    rintro e wi4 ⟨rfl, hb⟩
    have HTwi4 := Lib.hid (HTwi3.out.then_below hb)
    have HPwi4 := Lib.hid (HPwi3.out.below hb)
    clear hb
    obtain ⟨lv, i, o, c, a, hat⟩ := HTwi4.out.rd
    have HA := Lib.hid hat
    have hil : i < L.length := by
     rcases hat.st with ⟨_, _, h3, h4⟩ | ⟨h1, _⟩
     · rw [h4, ← h3]; exact hin
     · exact absurd hc0 h1
    have x1 : wi4.cell? ⟨b, 1, none⟩ = some (.int .i64 (i : Int)) := rf_cell hat.blk 1
    have f1 : wi4.frozen? ⟨b, 1, none⟩ = false := rf_free hat.blk 1
    clear hat hin
    obtain ⟨wt, hwt⟩ : ∃ wt, wi4.setCell ⟨b, 1, none⟩ (.int .i64 ((i : Int) + 1)) = wt := ⟨_, rfl⟩
    have hset : RfTo wi4 wt b L rr.adv := by rw [← hwt]; exact HA.out.setI hc0 hil
    have HTT : Hid (RfTo w wt b L rr.adv) := Lib.hid (HTwi4.out.trans hset)
    have HPT := Lib.hid (PtW.grownR HPwi4.out HTwi4.out.rd hset.grown)
    have HWT := Lib.hid hwt
    clear hset hwt
    go_wp2_with fail
    rw [HWT.out]
    refine (rlev_at (n := 9) (HH.out gk (by omega)) HK3.out (by omega) (by omega) rfl HTT.out.rd).mono ?_
    rintro e w3 ⟨ev3, l3, rfl, hp3, hrd3, hto3⟩
    have HP3 := Lib.hid hp3
    have HRD3 := Lib.hid hrd3
    have HTO3 := Lib.hid hto3
    have HP23 := Lib.hid (PtW.grownR HPT.out HTT.out.rd HTO3.out.grown)
    obtain ⟨⟨A3, c3, hv3, y5, y6, _⟩, _⟩ := hp3
    simp only at hv3 y5
    subst hv3
    unfold maxLen at y6
    have HST := Lib.hid (run_step _ _ _ _ _ HK3.out HTT.out.rd.fine (by simp [Task.pre]))
    have hsz : r3.code = 0 → l'.length + l3.length ≤ 50000 := fun hc => by
     have hc1 : rr.code = 0 := (show rr.adv.code = 0 from run_ok0 HK3.out hc)
     have e1 := HAT.out.rd.len hc1
     have e2 := HRD3.out.len hc
     have e3 := HAT.out.nd
     have e4 := HTT.out.rd.step_len' HK3.out (by simp [Task.pre]) rfl HTO3.out.rd hc
     have e5 := HAT.out.rto.rd.next_le hc1
     unfold Rd.mu at e3
     rw [if_pos hc1] at e3
     have := HLEN.out
     omega
    have HSZ := Lib.hid hsz
    clear hrd3 hto3 hsz
    go_wp2_with fail
    refine (rjoin2_any b L r3 17 l' l3 _ _ _ HTO3.out.rd HP23.out HP3.out (fun hc => by have := HSZ.out hc; unfold roomM; simp; omega)).mono ?_
    rintro e w4 ⟨ev4, rfl, hp4, hb4⟩
    obtain ⟨J, hJ⟩ : ∃ J, (if r3.code = 0 then joinM 17 0 [] [l', l3] else []) = J := ⟨_, rfl⟩
    rw [hJ] at hp4
    have HJ := Lib.hid hJ
    clear hJ
    have HP4 := Lib.hid hp4
    obtain ⟨⟨A4, c4, hv4, y7, y8, _⟩, _⟩ := hp4
    simp only at hv4 y7
    subst hv4
    unfold maxLen at y8
    have HB4 := Lib.hid hb4
    clear hb4
    cases gk with
    | zero => have := HK4.out; simp [run] at this
    | succ gk =>
    go_wp2
    go_roundg gk
    case measure => omega
    case rel => exact ⟨r3, sjoin (17, false) pp q3, _, _, by omega, rfl, LAt.next HAT.out (o := 17) (by decide) HK3.out HK4.out HRD3.out HJ.out HP4.out ((HTT.out.trans HTO3.out).then_below HB4.out) HST.out.2.2 HSZ.out⟩
   | false =>
    cases B2 with
    | true =>
     simp only [Bool.false_eq_true, if_false, if_true] at hsg
     have HTwr : Hid (RfTo w wr b L rr) := Lib.hid HAT.out.rto
     have HPwr := Lib.hid HAT.out.pt
     obtain ⟨q3, r3, k3, k4⟩ := ll_some HAT.out.run_ hsg (by decide)
     have HK3 := Lib.hid k3
     have HK4 := Lib.hid k4
     have hin := isB_lt HB2.out
     have hc0 : rr.code = 0 := code_of_isB HAT.out.rto.rd HB2.out
     clear k3 k4 hsg
     go_wp2_with fail
     refine (is_ok (s := [42]) rfl HB0.out HTwr.out.rd hL).mono ?_
     rintro e wi1 ⟨rfl, hb⟩
     have HTwi1 := Lib.hid (HTwr.out.then_below hb)
     have HPwi1 := Lib.hid (HPwr.out.below hb)
     clear hb
     go_wp2_with fail
     refine (is_ok (s := [100, 105, 118]) rfl HB1.out HTwi1.out.rd hL).mono ?_
     rintro e wi2 ⟨rfl, hb⟩
     have HTwi2 := Lib.hid (HTwi1.out.then_below hb)
     have HPwi2 := Lib.hid (HPwi1.out.below hb)
     clear hb
     go_wp2_with fail
     refine (is_ok (s := [109, 111, 100]) rfl HB2.out HTwi2.out.rd hL).mono ?_
     rintro e wi3 ⟨rfl, hb⟩
     have HTwi3 := Lib.hid (HTwi2.out.then_below hb)
     have HPwi3 := Lib.hid (HPwi2.out.below hb)
     clear hb
     go_wp2_with fail
     refine (is_ok (s := [100, 105, 118]) rfl HB1.out HTwi3.out.rd hL).mono ?_
     rintro e wi4 ⟨rfl, hb⟩
     have HTwi4 := Lib.hid (HTwi3.out.then_below hb)
     have HPwi4 := Lib.hid (HPwi3.out.below hb)
     clear hb
     go_wp2_with fail
     refine (is_ok (s := [109, 111, 100]) rfl HB2.out HTwi4.out.rd hL).mono ?_
     rintro e wi5 ⟨rfl, hb⟩
     have HTwi5 := Lib.hid (HTwi4.out.then_below hb)
     have HPwi5 := Lib.hid (HPwi4.out.below hb)
     clear hb
     obtain ⟨lv, i, o, c, a, hat⟩ := HTwi5.out.rd
     have HA := Lib.hid hat
     have hil : i < L.length := by
      rcases hat.st with ⟨_, _, h3, h4⟩ | ⟨h1, _⟩
      · rw [h4, ← h3]; exact hin
      · exact absurd hc0 h1
     have x1 : wi5.cell? ⟨b, 1, none⟩ = some (.int .i64 (i : Int)) := rf_cell hat.blk 1
     have f1 : wi5.frozen? ⟨b, 1, none⟩ = false := rf_free hat.blk 1
     clear hat hin
     obtain ⟨wt, hwt⟩ : ∃ wt, wi5.setCell ⟨b, 1, none⟩ (.int .i64 ((i : Int) + 1)) = wt := ⟨_, rfl⟩
     have hset : RfTo wi5 wt b L rr.adv := by rw [← hwt]; exact HA.out.setI hc0 hil
     have HTT : Hid (RfTo w wt b L rr.adv) := Lib.hid (HTwi5.out.trans hset)
     have HPT := Lib.hid (PtW.grownR HPwi5.out HTwi5.out.rd hset.grown)
     have HWT := Lib.hid hwt
     clear hset hwt
     go_wp2_with fail
     rw [HWT.out]
     refine (rlev_at (n := 9) (HH.out gk (by omega)) HK3.out (by omega) (by omega) rfl HTT.out.rd).mono ?_
     rintro e w3 ⟨ev3, l3, rfl, hp3, hrd3, hto3⟩
     have HP3 := Lib.hid hp3
     have HRD3 := Lib.hid hrd3
     have HTO3 := Lib.hid hto3
     have HP23 := Lib.hid (PtW.grownR HPT.out HTT.out.rd HTO3.out.grown)
     obtain ⟨⟨A3, c3, hv3, y5, y6, _⟩, _⟩ := hp3
     simp only at hv3 y5
     subst hv3
     unfold maxLen at y6
     have HST := Lib.hid (run_step _ _ _ _ _ HK3.out HTT.out.rd.fine (by simp [Task.pre]))
     have hsz : r3.code = 0 → l'.length + l3.length ≤ 50000 := fun hc => by
      have hc1 : rr.code = 0 := (show rr.adv.code = 0 from run_ok0 HK3.out hc)
      have e1 := HAT.out.rd.len hc1
      have e2 := HRD3.out.len hc
      have e3 := HAT.out.nd
      have e4 := HTT.out.rd.step_len' HK3.out (by simp [Task.pre]) rfl HTO3.out.rd hc
      have e5 := HAT.out.rto.rd.next_le hc1
      unfold Rd.mu at e3
      rw [if_pos hc1] at e3
      have := HLEN.out
      omega
     have HSZ := Lib.hid hsz
     clear hrd3 hto3 hsz
     go_wp2_with fail
     refine (rjoin2_any b L r3 18 l' l3 _ _ _ HTO3.out.rd HP23.out HP3.out (fun hc => by have := HSZ.out hc; unfold roomM; simp; omega)).mono ?_
     rintro e w4 ⟨ev4, rfl, hp4, hb4⟩
     obtain ⟨J, hJ⟩ : ∃ J, (if r3.code = 0 then joinM 18 0 [] [l', l3] else []) = J := ⟨_, rfl⟩
     rw [hJ] at hp4
     have HJ := Lib.hid hJ
     clear hJ
     have HP4 := Lib.hid hp4
     obtain ⟨⟨A4, c4, hv4, y7, y8, _⟩, _⟩ := hp4
     simp only at hv4 y7
     subst hv4
     unfold maxLen at y8
     have HB4 := Lib.hid hb4
     clear hb4
     cases gk with
     | zero => have := HK4.out; simp [run] at this
     | succ gk =>
     go_wp2
     go_roundg gk
     case measure => omega
     case rel => exact ⟨r3, sjoin (18, false) pp q3, _, _, by omega, rfl, LAt.next HAT.out (o := 18) (by decide) HK3.out HK4.out HRD3.out HJ.out HP4.out ((HTT.out.trans HTO3.out).then_below HB4.out) HST.out.2.2 HSZ.out⟩
    | false =>
     simp only [Bool.false_eq_true, if_false] at hsg
     obtain ⟨rfl, rfl⟩ := ll_none HAT.out.run_ hsg
     have HTwr : Hid (RfTo w wr b L r') := Lib.hid HAT.out.rto
     have HPwr := Lib.hid HAT.out.pt
     clear hsg
     go_wp2_with fail
     refine (is_ok (s := [42]) rfl HB0.out HTwr.out.rd hL).mono ?_
     rintro e wi1 ⟨rfl, hb⟩
     have HTwi1 := Lib.hid (HTwr.out.then_below hb)
     have HPwi1 := Lib.hid (HPwr.out.below hb)
     clear hb
     go_wp2_with fail
     refine (is_ok (s := [100, 105, 118]) rfl HB1.out HTwi1.out.rd hL).mono ?_
     rintro e wi2 ⟨rfl, hb⟩
     have HTwi2 := Lib.hid (HTwi1.out.then_below hb)
     have HPwi2 := Lib.hid (HPwi1.out.below hb)
     clear hb
     go_wp2_with fail
     refine (is_ok (s := [109, 111, 100]) rfl HB2.out HTwi2.out.rd hL).mono ?_
     rintro e wi3 ⟨rfl, hb⟩
     have HTwi3 := Lib.hid (HTwi2.out.then_below hb)
     have HPwi3 := Lib.hid (HPwi2.out.below hb)
     clear hb
     go_wp2
     go_ret
     exact ⟨_, l', rfl, HPwi3.out, HAT.out.rd, HTwi3.out⟩
end Go.Proofs.YtdebhngpgabglaaGreat.Rf
