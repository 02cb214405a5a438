/- The document's answer for layer expr: an operand that begins with a token: false. Conditions: a reader lies in memory at a token; the contracts at less fuel. -/
import Derived.Test.YtobkcdkffcenbaaGreatDoorKb20
import Derived.Test.YtobkcdkffcenbaaGreatDoorKb18
set_option linter.unusedVariables false
set_option linter.unusedSimpArgs false
namespace Go.Proofs.YtobkcdkffcenbaaGreatDoor.Rf
open Go.ChangeShapes Go.WideShapes Go.ChangeAt Go.RowKit
open Go.Proofs.YtobkcdkffcenbaaGreatDoor.Ex Go.Proofs.YtobkcdkffcenbaaGreatDoor.Sh
open Go.Proofs.YtobkcdkffcenbaaGreatDoor.Tr (str ret_bool ret_int Bytes Nd T joinM roomM binaryB unaryB plainB)
set_option maxRecDepth 100000 in
set_option maxHeartbeats 4000000 in
theorem begun_f (L : List Ex.Tok) (hok : OkL L) (ht0 : ∀ t ∈ L, t.text.length ≤ 1000000) (f : Nat) (HL : ∀ g, g ≤ f → RLev L g) (HO : ∀ g, g ≤ f → ROpnd L g) (r0 : Rd) (hc0 : r0.code = 0) (hi0 : r0.next < L.length) (t : Ex.Tok) (htok : L[r0.next]? = some t) (p : Pt) (r1 : Rd) (hrun : BegunRun f r0 p r1) (w : World) (b : Nat) (hr : Rf w b L r0) (hk : t.kind = 3 ∨ t.kind = 4) (hsel : t.text = [102, 97, 108, 115, 101]) :
    Calls Tryz.prog 116 #[.pointer (some ⟨b, 0, none⟩), .agg #[.int .i64 t.kind, .string (str t.text), .int .i64 (t.at_ : Int)]] w (Got w b L p r1) := by
  have HLL := Lib.hid HL
  have HOO := Lib.hid HO
  have HR := Lib.hid hr
  have hL : L.length ≤ 100000 := by have := hok.len; omega
  have HLEN := Lib.hid hok.len
  have hlive := hr.live hc0
  have hcur := cur_at hlive htok
  have hgood := hok.good t (List.mem_of_getElem? htok)
  have htl := ht0 t (List.mem_of_getElem? htok)
  have hlt := hr.lt
  have hK1 : (t.kind == 2) = false := by rcases hk with h | h <;> rw [h] <;> decide
  have hK2 : (t.kind == 1) = false := by rcases hk with h | h <;> rw [h] <;> decide
  have hws : r0.ws = true := by unfold Rd.ws; rw [hcur, hlive]; rcases hk with h | h <;> simp [h, hi0]
  have hisB : ∀ s, r0.isB s = (t.text == s) := fun s => by unfold Rd.isB; rw [hws, hcur]; rfl
  have hsg9 : r0.sign 9 = (signsM 9).lookup t.text := by unfold Rd.sign; rw [if_pos hws, hcur]
  have HPRE := Lib.hid (prefix_any t.text)
  have hpre : preM t.text = 0 := by rw [hsel]; rfl
  rw [hpre] at HPRE
  have hBtrue : r0.isB [116, 114, 117, 101] = false := by rw [hisB, hsel]; decide
  have HBtrue := Lib.hid hBtrue
  have hBfalse : r0.isB [102, 97, 108, 115, 101] = true := by rw [hisB, hsel]; decide
  have HBfalse := Lib.hid hBfalse
  have hBlp : r0.isB [40] = false := by rw [hisB, hsel]; decide
  have HBlp := Lib.hid hBlp
  have hBif : r0.isB [105, 102] = false := by rw [hisB, hsel]; decide
  have HBif := Lib.hid hBif
  have hsgl : ∃ g, g + 1 = f ∧ run (g + 1) .single r0 = some (p, r1) := by
    have h := hrun
    unfold BegunRun at h
    rw [hsg9] at h
    rw [hsel] at h
    cases f with
    | zero => cases h
    | succ g => exact ⟨g, rfl, h⟩
  obtain ⟨g, rfl, hsg⟩ := hsgl
  have hp : p = joined 2 0 [] [] ∧ r1 = r0.adv := by
    have h := hsg
    rw [run, if_neg (by rw [show lp = [40] from rfl, hBlp]; decide), if_neg (by rw [hBif]; decide), if_neg (by rw [hBtrue]; decide), if_pos hBfalse] at h
    simp only [Option.some.injEq, Prod.mk.injEq] at h
    exact ⟨h.1.symm, h.2.symm⟩
  obtain ⟨rfl, rfl⟩ := hp
  clear hsg
  obtain ⟨K, TX, P⟩ := t
  simp only at hK1 hK2 htl hisB hsg9 HPRE hk hsel ⊢
  have HOK := Lib.hid hok
  have hK3 : (K != 4) = true → (K != 3) = false := by rcases hk with h | h <;> simp [h]
  have HRB : Hid (Rf (w.alloc (.cells #[.int .i64 K, .string (str TX), .int .i64 (P : Int)] 105)) b L r0) := Lib.hid (hr.below (below_new w _))
  have HBW := Lib.hid (below_new w (.cells #[.int .i64 K, .string (str TX), .int .i64 (P : Int)] 105))
  have HI0 := Lib.hid hi0
  have HC0 := Lib.hid hc0
  clear HL HO hr hrun hlive hcur hgood htok hisB hsg9 hws hi0 hc0 ht0 hpre hsel hBtrue hBfalse hBlp hBif
  obtain ⟨G, hG⟩ : ∃ G, (K != 4) = G := ⟨_, rfl⟩
  have hG3 : G = true → (K != 3) = false := fun h => hK3 (by rw [hG]; exact h)
  clear hK3 hk
  cases G
  all_goals
    first | have hG4 := hG3 rfl | skip
    go_enter Tryz.func116, Tryz.ntmps116
    go_wp2_with fail
    refine (HPRE.out _).mono ?_
    rintro e w' ⟨rfl, rfl⟩
    have HTw0 : Hid (RfTo w (w.alloc (.cells #[.int .i64 K, .string (str TX), .int .i64 (P : Int)] 105)) b L r0) := Lib.hid (RfTo.of_below HR.out HBW.out)
    go_wp2_with fail
    refine (take_ok (s := [116, 114, 117, 101]) rfl HBtrue.out HTw0.out.rd hL).mono ?_
    rintro e w1 ⟨rfl, ht⟩
    have HTw1 : Hid (RfTo w w1 b L r0) := Lib.hid (HTw0.out.trans ht)
    clear ht
    go_wp2_with fail
    refine (take_ok (s := [102, 97, 108, 115, 101]) rfl HBfalse.out HTw1.out.rd hL).mono ?_
    rintro e w2 ⟨rfl, ht⟩
    have HTw2 : Hid (RfTo w w2 b L r0.adv) := Lib.hid (HTw1.out.trans ht)
    clear ht
    go_wp2_with fail
    refine (Tr.rjoin_all _ [] 2 0 [] _ (parts_none _) (by show (0 : Nat) ≤ 80000; omega)).mono ?_
    rintro e w9 ⟨v, rfl, ho, hb⟩
    have HM := Lib.hid (make_of (Below.refl _ _) ⟨v, rfl, ho, hb⟩)
    obtain ⟨A, cv, rfl, -, -, -⟩ := Tr.Nodes.of_own ho
    clear ho hb
    go_wp2
    go_ret
    obtain ⟨ev, e1, e2, e3⟩ := HM.out
    exact ⟨ev, _, e1, e2, Read.leaf (o := 2) (n := 0) (by omega) (by decide), HTw2.out.then_below e3⟩
end Go.Proofs.YtobkcdkffcenbaaGreatDoor.Rf
namespace Go.Proofs.YtobkcdkffcenbaaGreatDoor.Rf
open Go.ChangeShapes Go.WideShapes Go.ChangeAt Go.RowKit
open Go.Proofs.YtobkcdkffcenbaaGreatDoor.Ex Go.Proofs.YtobkcdkffcenbaaGreatDoor.Sh
open Go.Proofs.YtobkcdkffcenbaaGreatDoor.Tr (str ret_bool ret_int Bytes Nd T joinM roomM binaryB unaryB plainB)
set_option maxRecDepth 100000 in
set_option maxHeartbeats 4000000 in
theorem begun_g (L : List Ex.Tok) (hok : OkL L) (ht0 : ∀ t ∈ L, t.text.length ≤ 1000000) (f : Nat) (HL : ∀ g, g ≤ f → RLev L g) (HO : ∀ g, g ≤ f → ROpnd L g) (r0 : Rd) (hc0 : r0.code = 0) (hi0 : r0.next < L.length) (t : Ex.Tok) (htok : L[r0.next]? = some t) (p : Pt) (r1 : Rd) (hrun : BegunRun f r0 p r1) (w : World) (b : Nat) (hr : Rf w b L r0) (hk : t.kind = 3 ∨ t.kind = 4) (hsel : t.text = [40]) :
    Calls Tryz.prog 116 #[.pointer (some ⟨b, 0, none⟩), .agg #[.int .i64 t.kind, .string (str t.text), .int .i64 (t.at_ : Int)]] w (Got w b L p r1) := by
  have HLL := Lib.hid HL
  have HOO := Lib.hid HO
  have HR := Lib.hid hr
  have hL : L.length ≤ 100000 := by have := hok.len; omega
  have HLEN := Lib.hid hok.len
  have hlive := hr.live hc0
  have hcur := cur_at hlive htok
  have hgood := hok.good t (List.mem_of_getElem? htok)
  have htl := ht0 t (List.mem_of_getElem? htok)
  have hlt := hr.lt
  have hK1 : (t.kind == 2) = false := by rcases hk with h | h <;> rw [h] <;> decide
  have hK2 : (t.kind == 1) = false := by rcases hk with h | h <;> rw [h] <;> decide
  have hws : r0.ws = true := by unfold Rd.ws; rw [hcur, hlive]; rcases hk with h | h <;> simp [h, hi0]
  have hisB : ∀ s, r0.isB s = (t.text == s) := fun s => by unfold Rd.isB; rw [hws, hcur]; rfl
  have hsg9 : r0.sign 9 = (signsM 9).lookup t.text := by unfold Rd.sign; rw [if_pos hws, hcur]
  have HPRE := Lib.hid (prefix_any t.text)
  have hpre : preM t.text = 0 := by rw [hsel]; rfl
  rw [hpre] at HPRE
  have hBtrue : r0.isB [116, 114, 117, 101] = false := by rw [hisB, hsel]; decide
  have HBtrue := Lib.hid hBtrue
  have hBfalse : r0.isB [102, 97, 108, 115, 101] = false := by rw [hisB, hsel]; decide
  have HBfalse := Lib.hid hBfalse
  have hBlp : r0.isB [40] = true := by rw [hisB, hsel]; decide
  have HBlp := Lib.hid hBlp
  have hBif : r0.isB [105, 102] = false := by rw [hisB, hsel]; decide
  have HBif := Lib.hid hBif
  have hsgl : ∃ g, g + 1 = f ∧ run (g + 1) .single r0 = some (p, r1) := by
    have h := hrun
    unfold BegunRun at h
    rw [hsg9] at h
    rw [hsel] at h
    cases f with
    | zero => cases h
    | succ g => exact ⟨g, rfl, h⟩
  obtain ⟨g, rfl, hsg⟩ := hsgl
  have hp : ∃ q, run g (.lev 1) r0.adv = some (p, q) ∧ r1 = q.need rp := by
    have h := hsg
    rw [run, if_pos (show r0.isB lp = true from hBlp)] at h
    obtain ⟨⟨a, q⟩, h1, h2⟩ := map_some h
    simp only [Prod.mk.injEq] at h2
    obtain ⟨rfl, rfl⟩ := h2
    exact ⟨q, h1, rfl⟩
  obtain ⟨q, hq, rfl⟩ := hp
  have HQ := Lib.hid hq
  clear hsg hq
  obtain ⟨K, TX, P⟩ := t
  simp only at hK1 hK2 htl hisB hsg9 HPRE hk hsel ⊢
  have HOK := Lib.hid hok
  have hK3 : (K != 4) = true → (K != 3) = false := by rcases hk with h | h <;> simp [h]
  have HRB : Hid (Rf (w.alloc (.cells #[.int .i64 K, .string (str TX), .int .i64 (P : Int)] 105)) b L r0) := Lib.hid (hr.below (below_new w _))
  have HBW := Lib.hid (below_new w (.cells #[.int .i64 K, .string (str TX), .int .i64 (P : Int)] 105))
  have HI0 := Lib.hid hi0
  have HC0 := Lib.hid hc0
  clear HL HO hr hrun hlive hcur hgood htok hisB hsg9 hws hi0 hc0 ht0 hpre hsel hBtrue hBfalse hBlp hBif
  obtain ⟨G, hG⟩ : ∃ G, (K != 4) = G := ⟨_, rfl⟩
  have hG3 : G = true → (K != 3) = false := fun h => hK3 (by rw [hG]; exact h)
  clear hK3 hk
  cases G
  all_goals
    first | have hG4 := hG3 rfl | skip
    go_enter Tryz.func116, Tryz.ntmps116
    go_wp2_with fail
    refine (HPRE.out _).mono ?_
    rintro e w' ⟨rfl, rfl⟩
    have HTw0 : Hid (RfTo w (w.alloc (.cells #[.int .i64 K, .string (str TX), .int .i64 (P : Int)] 105)) b L r0) := Lib.hid (RfTo.of_below HR.out HBW.out)
    go_wp2_with fail
    refine (take_ok (s := [116, 114, 117, 101]) rfl HBtrue.out HTw0.out.rd hL).mono ?_
    rintro e w1 ⟨rfl, ht⟩
    have HTw1 : Hid (RfTo w w1 b L r0) := Lib.hid (HTw0.out.trans ht)
    clear ht
    go_wp2_with fail
    refine (take_ok (s := [102, 97, 108, 115, 101]) rfl HBfalse.out HTw1.out.rd hL).mono ?_
    rintro e w2 ⟨rfl, ht⟩
    have HTw2 : Hid (RfTo w w2 b L r0) := Lib.hid (HTw1.out.trans ht)
    clear ht
    go_wp2_with fail
    refine (take_ok (s := [40]) rfl HBlp.out HTw2.out.rd hL).mono ?_
    rintro e w3 ⟨rfl, ht⟩
    have HTw3 : Hid (RfTo w w3 b L r0.adv) := Lib.hid (HTw2.out.trans ht)
    clear ht
    go_wp2_with fail
    refine (rlev_at (n := 1) (HLL.out g (by omega)) HQ.out (by omega) (by omega) rfl HTw3.out.rd).mono ?_
    rintro e w5 ⟨ev, l, rfl, hp4, hrd, hto⟩
    have HP4 := Lib.hid hp4
    have HRD := Lib.hid hrd
    have HT4 := Lib.hid (HTw3.out.trans hto)
    obtain ⟨⟨A4, c4, hv4, y1, y2, _⟩, _⟩ := hp4
    simp only at hv4 y1
    subst hv4
    unfold maxLen at y2
    clear hrd hto
    go_wp2_with fail
    refine (need_at (s := rp) rfl HT4.out.rd hL).mono ?_
    rintro e w6 ⟨rfl, ht⟩
    have HT5 := Lib.hid (HT4.out.trans ht)
    have HP5 := Lib.hid (PtW.grownR HP4.out HT4.out.rd ht.grown)
    clear ht
    go_wp2
    go_ret
    exact ⟨_, l, rfl, HP5.out, fun hc => HRD.out (need_code hc), HT5.out⟩
end Go.Proofs.YtobkcdkffcenbaaGreatDoor.Rf
namespace Go.Proofs.YtobkcdkffcenbaaGreatDoor.Rf
open Go.ChangeShapes Go.WideShapes Go.ChangeAt Go.RowKit
open Go.Proofs.YtobkcdkffcenbaaGreatDoor.Ex Go.Proofs.YtobkcdkffcenbaaGreatDoor.Sh
open Go.Proofs.YtobkcdkffcenbaaGreatDoor.Tr (str ret_bool ret_int Bytes Nd T joinM roomM binaryB unaryB plainB)
set_option maxRecDepth 100000 in
set_option maxHeartbeats 4000000 in
theorem begun_h (L : List Ex.Tok) (hok : OkL L) (ht0 : ∀ t ∈ L, t.text.length ≤ 1000000) (f : Nat) (HL : ∀ g, g ≤ f → RLev L g) (HO : ∀ g, g ≤ f → ROpnd L g) (r0 : Rd) (hc0 : r0.code = 0) (hi0 : r0.next < L.length) (t : Ex.Tok) (htok : L[r0.next]? = some t) (p : Pt) (r1 : Rd) (hrun : BegunRun f r0 p r1) (w : World) (b : Nat) (hr : Rf w b L r0) (hk : t.kind = 3 ∨ t.kind = 4) (hsel : t.text = [105, 102]) :
    Calls Tryz.prog 116 #[.pointer (some ⟨b, 0, none⟩), .agg #[.int .i64 t.kind, .string (str t.text), .int .i64 (t.at_ : Int)]] w (Got w b L p r1) := by
  have HLL := Lib.hid HL
  have HOO := Lib.hid HO
  have HR := Lib.hid hr
  have hL : L.length ≤ 100000 := by have := hok.len; omega
  have HLEN := Lib.hid hok.len
  have hlive := hr.live hc0
  have hcur := cur_at hlive htok
  have hgood := hok.good t (List.mem_of_getElem? htok)
  have htl := ht0 t (List.mem_of_getElem? htok)
  have hlt := hr.lt
  have hK1 : (t.kind == 2) = false := by rcases hk with h | h <;> rw [h] <;> decide
  have hK2 : (t.kind == 1) = false := by rcases hk with h | h <;> rw [h] <;> decide
  have hws : r0.ws = true := by unfold Rd.ws; rw [hcur, hlive]; rcases hk with h | h <;> simp [h, hi0]
  have hisB : ∀ s, r0.isB s = (t.text == s) := fun s => by unfold Rd.isB; rw [hws, hcur]; rfl
  have hsg9 : r0.sign 9 = (signsM 9).lookup t.text := by unfold Rd.sign; rw [if_pos hws, hcur]
  have HPRE := Lib.hid (prefix_any t.text)
  have hpre : preM t.text = 0 := by rw [hsel]; rfl
  rw [hpre] at HPRE
  have hBtrue : r0.isB [116, 114, 117, 101] = false := by rw [hisB, hsel]; decide
  have HBtrue := Lib.hid hBtrue
  have hBfalse : r0.isB [102, 97, 108, 115, 101] = false := by rw [hisB, hsel]; decide
  have HBfalse := Lib.hid hBfalse
  have hBlp : r0.isB [40] = false := by rw [hisB, hsel]; decide
  have HBlp := Lib.hid hBlp
  have hBif : r0.isB [105, 102] = true := by rw [hisB, hsel]; decide
  have HBif := Lib.hid hBif
  have hsgl : ∃ g, g + 1 = f ∧ run (g + 1) .single r0 = some (p, r1) := by
    have h := hrun
    unfold BegunRun at h
    rw [hsg9] at h
    rw [hsel] at h
    cases f with
    | zero => cases h
    | succ g => exact ⟨g, rfl, h⟩
  obtain ⟨g, rfl, hsg⟩ := hsgl
  have hp : ∃ a b' c q1 q2, run g (.lev 1) r0.adv = some (a, q1) ∧ run g (.lev 1) (q1.need [116, 104, 101, 110]) = some (b', q2) ∧ run g (.lev 1) (q2.need [101, 108, 115, 101]) = some (c, r1) ∧ p = joined 26 0 [] [a, b', c] := by
    have h := hsg
    rw [run, if_neg (by rw [show lp = [40] from rfl, hBlp]; decide), if_pos hBif] at h
    obtain ⟨⟨a, q1⟩, h1, h⟩ := bind_some h
    obtain ⟨⟨b', q2⟩, h2, h⟩ := bind_some h
    obtain ⟨⟨c, q3⟩, h3, h⟩ := map_some h
    simp only [Prod.mk.injEq] at h
    obtain ⟨rfl, rfl⟩ := h
    exact ⟨a, b', c, q1, q2, h1, h2, h3, rfl⟩
  obtain ⟨a, b', c, q1, q2, hq1, hq2, hq3, rfl⟩ := hp
  have HQ1 := Lib.hid hq1
  have HQ2 := Lib.hid hq2
  have HQ3 := Lib.hid hq3
  clear hsg hq1 hq2 hq3
  obtain ⟨K, TX, P⟩ := t
  simp only at hK1 hK2 htl hisB hsg9 HPRE hk hsel ⊢
  have HOK := Lib.hid hok
  have hK3 : (K != 4) = true → (K != 3) = false := by rcases hk with h | h <;> simp [h]
  have HRB : Hid (Rf (w.alloc (.cells #[.int .i64 K, .string (str TX), .int .i64 (P : Int)] 105)) b L r0) := Lib.hid (hr.below (below_new w _))
  have HBW := Lib.hid (below_new w (.cells #[.int .i64 K, .string (str TX), .int .i64 (P : Int)] 105))
  have HI0 := Lib.hid hi0
  have HC0 := Lib.hid hc0
  clear HL HO hr hrun hlive hcur hgood htok hisB hsg9 hws hi0 hc0 ht0 hpre hsel hBtrue hBfalse hBlp hBif
  obtain ⟨G, hG⟩ : ∃ G, (K != 4) = G := ⟨_, rfl⟩
  have hG3 : G = true → (K != 3) = false := fun h => hK3 (by rw [hG]; exact h)
  clear hK3 hk
  cases G
  all_goals
    first | have hG4 := hG3 rfl | skip
    go_enter Tryz.func116, Tryz.ntmps116
    go_wp2_with fail
    refine (HPRE.out _).mono ?_
    rintro e w' ⟨rfl, rfl⟩
    have HTw0 : Hid (RfTo w (w.alloc (.cells #[.int .i64 K, .string (str TX), .int .i64 (P : Int)] 105)) b L r0) := Lib.hid (RfTo.of_below HR.out HBW.out)
    go_wp2_with fail
    refine (take_ok (s := [116, 114, 117, 101]) rfl HBtrue.out HTw0.out.rd hL).mono ?_
    rintro e w1 ⟨rfl, ht⟩
    have HTw1 : Hid (RfTo w w1 b L r0) := Lib.hid (HTw0.out.trans ht)
    clear ht
    go_wp2_with fail
    refine (take_ok (s := [102, 97, 108, 115, 101]) rfl HBfalse.out HTw1.out.rd hL).mono ?_
    rintro e w2 ⟨rfl, ht⟩
    have HTw2 : Hid (RfTo w w2 b L r0) := Lib.hid (HTw1.out.trans ht)
    clear ht
    go_wp2_with fail
    refine (take_ok (s := [40]) rfl HBlp.out HTw2.out.rd hL).mono ?_
    rintro e w3 ⟨rfl, ht⟩
    have HTw3 : Hid (RfTo w w3 b L r0) := Lib.hid (HTw2.out.trans ht)
    clear ht
    go_wp2_with fail
    refine (take_ok (s := [105, 102]) rfl HBif.out HTw3.out.rd hL).mono ?_
    rintro e w4 ⟨rfl, ht⟩
    have HTw4 : Hid (RfTo w w4 b L r0.adv) := Lib.hid (HTw3.out.trans ht)
    clear ht
    go_wp2_with fail
    refine (choice_any L HOK.out g (HLL.out g (by omega)) r0.adv a b' c q1 q2 r1 HQ1.out HQ2.out HQ3.out _ b HTw4.out.rd).mono ?_
    rintro e w5 ⟨ev, l, rfl, hp4, hrd, hto⟩
    have HP4 := Lib.hid hp4
    have HRD := Lib.hid hrd
    have HT4 := Lib.hid (HTw4.out.trans hto)
    obtain ⟨⟨A4, c4, hv4, y1, y2, _⟩, _⟩ := hp4
    simp only at hv4 y1
    subst hv4
    unfold maxLen at y2
    clear hrd hto
    go_wp2
    go_ret
    exact ⟨_, l, rfl, HP4.out, HRD.out, HT4.out⟩
end Go.Proofs.YtobkcdkffcenbaaGreatDoor.Rf
namespace Go.Proofs.YtobkcdkffcenbaaGreatDoor.Rf
open Go.ChangeShapes Go.WideShapes Go.ChangeAt Go.RowKit
open Go.Proofs.YtobkcdkffcenbaaGreatDoor.Ex Go.Proofs.YtobkcdkffcenbaaGreatDoor.Sh
open Go.Proofs.YtobkcdkffcenbaaGreatDoor.Tr (str ret_bool ret_int Bytes Nd T joinM roomM binaryB unaryB plainB)
set_option maxRecDepth 100000 in
set_option maxHeartbeats 4000000 in
theorem begun_i (L : List Ex.Tok) (hok : OkL L) (ht0 : ∀ t ∈ L, t.text.length ≤ 1000000) (f : Nat) (HL : ∀ g, g ≤ f → RLev L g) (HO : ∀ g, g ≤ f → ROpnd L g) (r0 : Rd) (hc0 : r0.code = 0) (hi0 : r0.next < L.length) (t : Ex.Tok) (htok : L[r0.next]? = some t) (p : Pt) (r1 : Rd) (hrun : BegunRun f r0 p r1) (w : World) (b : Nat) (hr : Rf w b L r0) (hk : t.kind = 3 ∨ t.kind = 4) (hsel : (signsM 9).lookup t.text = none ∧ r0.isB [116, 114, 117, 101] = false ∧ r0.isB [102, 97, 108, 115, 101] = false ∧ r0.isB [40] = false ∧ r0.isB [105, 102] = false) :
    Calls Tryz.prog 116 #[.pointer (some ⟨b, 0, none⟩), .agg #[.int .i64 t.kind, .string (str t.text), .int .i64 (t.at_ : Int)]] w (Got w b L p r1) := by
  have HLL := Lib.hid HL
  have HOO := Lib.hid HO
  have HR := Lib.hid hr
  have hL : L.length ≤ 100000 := by have := hok.len; omega
  have HLEN := Lib.hid hok.len
  have hlive := hr.live hc0
  have hcur := cur_at hlive htok
  have hgood := hok.good t (List.mem_of_getElem? htok)
  have htl := ht0 t (List.mem_of_getElem? htok)
  have hlt := hr.lt
  have hK1 : (t.kind == 2) = false := by rcases hk with h | h <;> rw [h] <;> decide
  have hK2 : (t.kind == 1) = false := by rcases hk with h | h <;> rw [h] <;> decide
  have hws : r0.ws = true := by unfold Rd.ws; rw [hcur, hlive]; rcases hk with h | h <;> simp [h, hi0]
  have hisB : ∀ s, r0.isB s = (t.text == s) := fun s => by unfold Rd.isB; rw [hws, hcur]; rfl
  have hsg9 : r0.sign 9 = (signsM 9).lookup t.text := by unfold Rd.sign; rw [if_pos hws, hcur]
  have HPRE := Lib.hid (prefix_any t.text)
  have hpre : preM t.text = 0 := by unfold preM; rw [hsel.1]
  rw [hpre] at HPRE
  have hBtrue : r0.isB [116, 114, 117, 101] = false := hsel.2.1
  have HBtrue := Lib.hid hBtrue
  have hBfalse : r0.isB [102, 97, 108, 115, 101] = false := hsel.2.2.1
  have HBfalse := Lib.hid hBfalse
  have hBlp : r0.isB [40] = false := hsel.2.2.2.1
  have HBlp := Lib.hid hBlp
  have hBif : r0.isB [105, 102] = false := hsel.2.2.2.2
  have HBif := Lib.hid hBif
  have hsgl : ∃ g, g + 1 = f ∧ run (g + 1) .single r0 = some (p, r1) := by
    have h := hrun
    unfold BegunRun at h
    rw [hsg9] at h
    rw [hsel.1] at h
    cases f with
    | zero => cases h
    | succ g => exact ⟨g, rfl, h⟩
  obtain ⟨g, rfl, hsg⟩ := hsgl
  have hp : p = Pt.zero ∧ r1 = r0.fail 5 := by
    have h := hsg
    have hk2 : ¬ r0.cur.kind = 2 := by rw [hcur]; simpa using hK1
    have hk1 : ¬ (r0.cur.kind = 1 ∧ r0.cur.text ≠ []) := fun h => by rw [hcur] at h; have := h.1; simp [this] at hK2
    rw [run, if_neg (by rw [show lp = [40] from rfl, hBlp]; decide), if_neg (by rw [hBif]; decide), if_neg (by rw [hBtrue]; decide), if_neg (by rw [hBfalse]; decide), if_neg hk2, if_neg hk1] at h
    simp only [Option.some.injEq, Prod.mk.injEq] at h
    exact ⟨h.1.symm, h.2.symm⟩
  obtain ⟨rfl, rfl⟩ := hp
  clear hsg
  obtain ⟨K, TX, P⟩ := t
  simp only at hK1 hK2 htl hisB hsg9 HPRE hk hsel ⊢
  have HOK := Lib.hid hok
  have hK3 : (K != 4) = true → (K != 3) = false := by rcases hk with h | h <;> simp [h]
  have HRB : Hid (Rf (w.alloc (.cells #[.int .i64 K, .string (str TX), .int .i64 (P : Int)] 105)) b L r0) := Lib.hid (hr.below (below_new w _))
  have HBW := Lib.hid (below_new w (.cells #[.int .i64 K, .string (str TX), .int .i64 (P : Int)] 105))
  have HI0 := Lib.hid hi0
  have HC0 := Lib.hid hc0
  clear HL HO hr hrun hlive hcur hgood htok hisB hsg9 hws hi0 hc0 ht0 hpre hsel hBtrue hBfalse hBlp hBif
  obtain ⟨G, hG⟩ : ∃ G, (K != 4) = G := ⟨_, rfl⟩
  have hG3 : G = true → (K != 3) = false := fun h => hK3 (by rw [hG]; exact h)
  clear hK3 hk
  cases G
  all_goals
    first | have hG4 := hG3 rfl | skip
    go_enter Tryz.func116, Tryz.ntmps116
    go_wp2_with fail
    refine (HPRE.out _).mono ?_
    rintro e w' ⟨rfl, rfl⟩
    have HTw0 : Hid (RfTo w (w.alloc (.cells #[.int .i64 K, .string (str TX), .int .i64 (P : Int)] 105)) b L r0) := Lib.hid (RfTo.of_below HR.out HBW.out)
    go_wp2_with fail
    refine (take_ok (s := [116, 114, 117, 101]) rfl HBtrue.out HTw0.out.rd hL).mono ?_
    rintro e w1 ⟨rfl, ht⟩
    have HTw1 : Hid (RfTo w w1 b L r0) := Lib.hid (HTw0.out.trans ht)
    clear ht
    go_wp2_with fail
    refine (take_ok (s := [102, 97, 108, 115, 101]) rfl HBfalse.out HTw1.out.rd hL).mono ?_
    rintro e w2 ⟨rfl, ht⟩
    have HTw2 : Hid (RfTo w w2 b L r0) := Lib.hid (HTw1.out.trans ht)
    clear ht
    go_wp2_with fail
    refine (take_ok (s := [40]) rfl HBlp.out HTw2.out.rd hL).mono ?_
    rintro e w3 ⟨rfl, ht⟩
    have HTw3 : Hid (RfTo w w3 b L r0) := Lib.hid (HTw2.out.trans ht)
    clear ht
    go_wp2_with fail
    refine (take_ok (s := [105, 102]) rfl HBif.out HTw3.out.rd hL).mono ?_
    rintro e w4 ⟨rfl, ht⟩
    have HTw4 : Hid (RfTo w w4 b L r0) := Lib.hid (HTw3.out.trans ht)
    clear ht
    go_wp2_with fail
    refine (rfail_any b L r0 5 (by decide) _ HTw4.out.rd hL).mono ?_
    rintro e w5 ⟨rfl, hto⟩
    have HT5 := Lib.hid (HTw4.out.trans hto)
    clear hto
    go_wp2
    go_ret
    exact ⟨_, [], rfl, PtW.nil _ _ rfl, fun hc => absurd hc (fail_code 5 (by decide) _), HT5.out⟩
end Go.Proofs.YtobkcdkffcenbaaGreatDoor.Rf
namespace Go.Proofs.YtobkcdkffcenbaaGreatDoor.Rf
open Go.ChangeShapes Go.WideShapes Go.ChangeAt Go.RowKit
open Go.Proofs.YtobkcdkffcenbaaGreatDoor.Ex Go.Proofs.YtobkcdkffcenbaaGreatDoor.Sh
open Go.Proofs.YtobkcdkffcenbaaGreatDoor.Tr (str ret_bool ret_int Bytes Nd T joinM roomM binaryB unaryB)
end Go.Proofs.YtobkcdkffcenbaaGreatDoor.Rf
namespace Go.Proofs.YtobkcdkffcenbaaGreatDoor.Rf
open Go.ChangeShapes Go.WideShapes Go.ChangeAt Go.RowKit
open Go.Proofs.YtobkcdkffcenbaaGreatDoor.Ex Go.Proofs.YtobkcdkffcenbaaGreatDoor.Sh
open Go.Proofs.YtobkcdkffcenbaaGreatDoor.Tr (str ret_bool ret_int Bytes Nd T joinM roomM binaryB unaryB)
end Go.Proofs.YtobkcdkffcenbaaGreatDoor.Rf
namespace Go.Proofs.YtobkcdkffcenbaaGreatDoor.Rf
open Go.ChangeShapes Go.WideShapes Go.ChangeAt Go.RowKit
open Go.Proofs.YtobkcdkffcenbaaGreatDoor.Ex Go.Proofs.YtobkcdkffcenbaaGreatDoor.Sh
open Go.Proofs.YtobkcdkffcenbaaGreatDoor.Tr (str ret_bool ret_int Bytes Nd T joinM roomM binaryB unaryB)
end Go.Proofs.YtobkcdkffcenbaaGreatDoor.Rf
namespace Go.Proofs.YtobkcdkffcenbaaGreatDoor.Rf
open Go.ChangeShapes Go.WideShapes Go.ChangeAt Go.RowKit
open Go.Proofs.YtobkcdkffcenbaaGreatDoor.Ex Go.Proofs.YtobkcdkffcenbaaGreatDoor.Sh
open Go.Proofs.YtobkcdkffcenbaaGreatDoor.Tr (str ret_bool ret_int Bytes Nd T joinM roomM binaryB unaryB)
end Go.Proofs.YtobkcdkffcenbaaGreatDoor.Rf
namespace Go.Proofs.YtobkcdkffcenbaaGreatDoor.Rf
open Go.ChangeShapes Go.WideShapes Go.ChangeAt Go.RowKit
open Go.Proofs.YtobkcdkffcenbaaGreatDoor.Ex Go.Proofs.YtobkcdkffcenbaaGreatDoor.Sh
open Go.Proofs.YtobkcdkffcenbaaGreatDoor.Tr (str ret_bool ret_int Bytes Nd T joinM roomM binaryB unaryB)
end Go.Proofs.YtobkcdkffcenbaaGreatDoor.Rf
namespace Go.Proofs.YtobkcdkffcenbaaGreatDoor.Rf
open Go.ChangeShapes Go.WideShapes Go.ChangeAt Go.RowKit
open Go.Proofs.YtobkcdkffcenbaaGreatDoor.Ex Go.Proofs.YtobkcdkffcenbaaGreatDoor.Sh
open Go.Proofs.YtobkcdkffcenbaaGreatDoor.Tr (str ret_bool ret_int Bytes Nd T joinM roomM binaryB unaryB)
end Go.Proofs.YtobkcdkffcenbaaGreatDoor.Rf

