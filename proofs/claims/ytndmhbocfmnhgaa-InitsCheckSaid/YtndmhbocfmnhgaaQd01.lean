/- The function live of the statements of layer inits: its sources, what they are. Conditions: none. -/
import Derived.Test.YtndmhbocfmnhgaaQd00
import Derived.Test.YtndmhbocfmnhgaaQa08
import Derived.Test.YtndmhbocfmnhgaaPq24
namespace Go.Proofs.Ytndmhbocfmnhgaa.In
open Go.ChangeShapes Go.WideShapes Go.ChangeAt Go.RowKit
open Go.Proofs.Ytndmhbocfmnhgaa.Ex Go.Proofs.Ytndmhbocfmnhgaa.Pg Go.Proofs.Ytndmhbocfmnhgaa.Rp
open Go.Proofs.Ytndmhbocfmnhgaa.Tr (str ret_bool ret_int Bytes Nd Nodes T Lab)
set_option linter.unusedVariables false
set_option linter.unusedSimpArgs false

def s1 : Bytes := [49, 32, 43, 32, 112, 114, 101, 32, 97]
def s2 : Bytes := [48, 32, 45, 62, 32, 112, 114, 101, 32, 97]
def s3 : Bytes := [112, 114, 101, 32, 112, 114, 101, 32, 97]
def s4 : Bytes := [110, 111, 100, 101, 32, 102, 40, 97, 58, 105, 110, 116, 41, 32, 114, 101, 116, 117, 114, 110, 115, 40, 99, 58, 105, 110, 116, 41, 32, 108, 101, 116, 32, 99, 61, 112, 114, 101, 32, 97, 59, 32, 116, 101, 108, 32, 109, 97, 105, 110, 32, 102, 59]
def tPre : T := .l1 ⟨21, 0, []⟩ (.l0 ⟨3, 0, [97]⟩)
def t1 : T := .l2 ⟨14, 0, []⟩ (.l0 ⟨1, 1, []⟩) tPre
def t2 : T := .l2 ⟨19, 0, []⟩ (.l0 ⟨1, 0, []⟩) tPre
def t3 : T := .l1 ⟨21, 0, []⟩ tPre
theorem read1 : readM s1 = (t1.flat 0, 0, 0) := by decide +kernel
theorem read2 : readM s2 = (t2.flat 0, 0, 0) := by decide +kernel
theorem read3 : readM s3 = (t3.flat 0, 0, 0) := by decide +kernel
theorem ofM_flat (t : T) (hok : t.okB = true) (hr : t.lab.op ≠ 28) (hs : t.size ≤ 5000) (hd : t.depth ≤ 40) : ofM (t.flat 0) = (match inT t with | some v => ((v : Int), 0) | none => (0, 11)) := by
  unfold ofM; rw [if_pos (Tr.may_yes (Tr.may_flat t hok hr hs hd)), Tr.root_flat t hok]; cases inT t <;> rfl
theorem of1 : ofM (t1.flat 0) = (1, 0) := by rw [ofM_flat t1 (by decide) (by decide) (by decide) (by decide)]; rfl
theorem of2 : ofM (t2.flat 0) = (0, 0) := by rw [ofM_flat t2 (by decide) (by decide) (by decide) (by decide)]; rfl
theorem of3 : ofM (t3.flat 0) = (0, 11) := by rw [ofM_flat t3 (by decide) (by decide) (by decide) (by decide)]; rfl
theorem ofPre : ofM (tPre.flat 0) = (1, 0) := by rw [ofM_flat tPre (by decide) (by decide) (by decide) (by decide)]; rfl
theorem of0 : ofM [] = (0, 1) := ofM_not (Tr.may_no (fun h => absurd h.pos (by simp)))
def rd4 : Rd := ⟨(Lx.lexM s4).toks, 0, 0, 0, 0⟩
def a1 := unF rowMax [] rd4
def a2 : Rd := (needQ wMain a1.2).2
def a3 := nameP a2
def a4 : Rd := (needQ sSemi a3.2).2
def a5 := takeQ wFallback a4
def u4 : Unt := ⟨false, [102], [⟨[97], 2⟩], ⟨[99], 2⟩, [], [⟨[99], tPre.flat 0⟩], []⟩
theorem k4a : a1.1 = [u4] := by decide +kernel
theorem k4b : a3.1 = [102] ∧ a5.1 = false ∧ a5.2.code = 0 ∧ ¬ a5.2.next < a5.2.l.length := by decide +kernel
theorem k4n : (Lx.lexM s4).toks.length = 23 := by decide +kernel
theorem lex4 : Lx.lexM s4 = .ok (Lx.lexM s4).toks := by
  cases h : Lx.lexM s4 with
  | ok l => rfl
  | bad c a => have := k4n; rw [h] at this; cases this
theorem check4 : checkF 0 [u4] = (11, 0) := by
  have h : unitM u4 = 11 := by
    rw [unitM_plain rfl]
    show firstE [tPre.flat 0] = 11
    have hb : begunM (tPre.flat 0) = 11 := by unfold begunM; rw [ofPre]; rfl
    unfold firstE; rw [hb]; rfl
  unfold checkF; rw [h]; rfl
theorem read_at {S : ByteArray} {s : Bytes} {x : List Nd × Int × Int} {w : World} (hS : S = str s) (t : readM s = x) (hn : s.length ≤ 1000000) (hl : ∀ l, Lx.lexM s = .ok l → l.length ≤ 20000) : Calls Try.prog 20 #[.string S] w (ReadTo w x) := by
  subst hS
  have h := Rf.rread_any (str s) w (by rw [Tr.str_size]; unfold maxLen; omega) (by rw [Tr.str_toList]; exact hl)
  rw [Tr.str_toList, t] at h; exact h
theorem short_lex {s : Bytes} (h : (Lx.lexM s).toks.length ≤ 20000) : ∀ l, Lx.lexM s = .ok l → l.length ≤ 20000 := fun l hl => by rw [hl] at h; exact h
theorem sh1 : (Lx.lexM s1).toks.length ≤ 20000 := by decide +kernel
theorem sh2 : (Lx.lexM s2).toks.length ≤ 20000 := by decide +kernel
theorem sh3 : (Lx.lexM s3).toks.length ≤ 20000 := by decide +kernel
theorem pair_eta {α β : Type} (x : α × β) : x = (x.1, x.2) := rfl
theorem g40 : unF rowMax [] ⟨(Lx.lexM s4).toks, 0, 0, 0, 0⟩ = (a1.1, a1.2) := pair_eta a1
theorem g41 : (needQ wMain a1.2).2 = a2 := by unfold a2; rfl
theorem g42 : nameP a2 = (a3.1, a3.2) := pair_eta a3
theorem g43 : (needQ sSemi a3.2).2 = a4 := by unfold a4; rfl
theorem g44 : takeQ wFallback a4 = (false, a5.2) := (pair_eta a5).trans (by rw [k4b.2.1])
theorem parse4 (w : World) (S : ByteArray) (hS : S = str s4) : Calls Try.prog 21 #[.string S] w (ParG w (⟨[u4], [102], []⟩, 0, 0)) := by
  subst hS
  have hl : Lx.lexM (str s4).toList = .ok (Lx.lexM s4).toks := by rw [Tr.str_toList]; exact lex4
  have h := parse_ok0 (str s4) w (by rw [Tr.str_size]; exact Nat.le_trans (show s4.length ≤ 1000 by decide) (by unfold maxLen; omega)) (Lx.lexM s4).toks hl (by rw [k4n]; omega) a1.1 a3.1 [] a1.2 a2 a3.2 a4 a5.2 a5.2 a5.2 g40 g41 g42 g43 g44 rfl k4b.2.2.1 k4b.2.2.2
  rw [k4a, k4b.1] at h
  exact h
end Go.Proofs.Ytndmhbocfmnhgaa.In

/- The function live of the statements of layer inits answers true and leaves what was there as it was. Conditions: none. -/
namespace Go.Proofs.Ytndmhbocfmnhgaa.In
open Go.ChangeShapes Go.WideShapes Go.ChangeAt Go.RowKit
open Go.Proofs.Ytndmhbocfmnhgaa.Ex Go.Proofs.Ytndmhbocfmnhgaa.Pg Go.Proofs.Ytndmhbocfmnhgaa.Rp
open Go.Proofs.Ytndmhbocfmnhgaa.Tr (str ret_bool ret_int Bytes Nd Nodes T Lab)
set_option linter.unusedVariables false
set_option linter.unusedSimpArgs false

attribute [local go_sem ↓] Lx.eql_fault Lx.guard_fault
theorem of_lit {v : Value} {e : List Nd} {x : Int × Int} {w : World} (hv : Nodes w v e) (h : ofM e = x) : Calls Try.prog 10 #[v] w (NodePost w x) := by subst h; exact of_any v e w hv
theorem check_lit {us : List Unt} {uv : Value} {S B : ByteArray} {m b : Bytes} {x : Int × Int} {w : World} (hS : S = str m) (hB : B = str b) (hu : RowR 58 8 UntV w us uv) (hi0 : ∀ u ∈ us, u.items = []) (h : checkF 0 us = x) :
    Calls Try.prog 13 #[.agg #[uv, .string S, .string B]] w (fun e w' => e = .returned (.agg #[.int .i64 x.1, .int .i64 x.2]) ∧ Below w.heap.size w w') := by
  subst h; subst hS; subst hB; exact check_plain us uv m b w hu hi0
theorem fault_same (a : Int) : Lx.faultB a a 0 0 = true := by unfold Lx.faultB; simp
set_option maxRecDepth 100000 in
set_option maxHeartbeats 8000000 in
theorem live_any (w : World) : Calls Try.prog 9 #[] w (fun e w' => e = .returned (.bool true) ∧ Below w.heap.size w w') := by
  have hf1 := fault_same 11
  have hf0 := fault_same 0
  go_enter Try.func9, Try.ntmps9
  go_wp2_with fail
  refine (read_at (s := s1) rfl read1 (by decide) (short_lex sh1)).mono ?_
  rintro e w1 ⟨v1, rfl, hp1, hb1⟩
  obtain ⟨wa, hwa⟩ : ∃ W, w1.alloc (.cells #[.int .i64 0, .int .i64 0] 34) = W := ⟨_, rfl⟩
  have hba : Below w1.heap.size w1 wa := hwa ▸ below_new w1 _
  have HPa := Lib.hid (hp1.below hba)
  have HBa := Lib.hid (hb1.trans (hba.mono hb1.size))
  obtain ⟨A1, n1, c1, rfl, y1, y2⟩ := pt_form hp1
  have HWA := Lib.hid hwa
  clear hp1 hb1 hba hwa
  go_wp2_with fail
  rw [HWA.out]
  refine (read_at (s := s2) rfl read2 (by decide) (short_lex sh2)).mono ?_
  rintro e w2 ⟨v2, rfl, hp2, hb2⟩
  obtain ⟨wb, hwb⟩ : ∃ W, w2.alloc (.cells #[.int .i64 0, .int .i64 0] 34) = W := ⟨_, rfl⟩
  have hbb : Below w2.heap.size w2 wb := hwb ▸ below_new w2 _
  have hb2' := hb2.trans (hbb.mono hb2.size)
  have HPb := Lib.hid (hp2.below hbb)
  have HPab := Lib.hid (HPa.out.below hb2')
  have HBb := Lib.hid (HBa.out.trans (hb2'.mono HBa.out.size))
  obtain ⟨A2, n2, c2, rfl, y3, y4⟩ := pt_form hp2
  have HWB := Lib.hid hwb
  clear hp2 hb2 hbb hb2' hwb
  go_wp2_with fail
  rw [HWB.out]
  refine (read_at (s := s3) rfl read3 (by decide) (short_lex sh3)).mono ?_
  rintro e w3 ⟨v3, rfl, hp3, hb3⟩
  obtain ⟨wc, hwc⟩ : ∃ W, w3.alloc (.cells #[.int .i64 0, .int .i64 0] 34) = W := ⟨_, rfl⟩
  have hbc : Below w3.heap.size w3 wc := hwc ▸ below_new w3 _
  have hb3' := hb3.trans (hbc.mono hb3.size)
  have HP3 := Lib.hid (hp3.below hbc)
  have HP1 := Lib.hid (HPab.out.below hb3')
  have HP2 := Lib.hid (HPb.out.below hb3')
  have HB3 := Lib.hid (HBb.out.trans (hb3'.mono HBb.out.size))
  obtain ⟨A3, n3, c3, rfl, y5, y6⟩ := pt_form hp3
  have HWC := Lib.hid hwc
  clear hp3 hb3 hbc hb3' hwc
  go_wp2_with fail
  rw [HWC.out]
  refine (of_lit HP1.out.1 of1).mono ?_
  rintro e w4 ⟨rfl, hb4⟩
  have HP24 := Lib.hid (HP2.out.below hb4)
  have HP34 := Lib.hid (HP3.out.below hb4)
  have HB4 := Lib.hid (HB3.out.trans (hb4.mono HB3.out.size))
  clear hb4
  go_wp2_with fail
  refine (of_lit HP24.out.1 of2).mono ?_
  rintro e w5 ⟨rfl, hb5⟩
  have HP35 := Lib.hid (HP34.out.below hb5)
  have HB5 := Lib.hid (HB4.out.trans (hb5.mono HB4.out.size))
  clear hb5
  go_wp2_with fail
  refine (of_lit HP35.out.1 of3).mono ?_
  rintro e w6 ⟨rfl, hb6⟩
  have HB6 := Lib.hid (HB5.out.trans (hb6.mono HB5.out.size))
  clear hb6
  go_wp2_with fail
  refine (of_lit (e := []) (PtW.nil w6 ⟨[], 0, 0⟩ rfl).1 of0).mono ?_
  rintro e w7 ⟨rfl, hb7⟩
  have HB7 := Lib.hid (HB6.out.trans (hb7.mono HB6.out.size))
  clear hb7
  go_wp2_with fail
  refine (parse4 _ _ rfl).mono ?_
  rintro e w8 ⟨uv, rfl, hu, hb8⟩
  have HU8 := Lib.hid hu
  have HB8 := Lib.hid (HB7.out.trans (hb8.mono HB7.out.size))
  obtain ⟨A4, n4, c4, rfl, y7, y8⟩ := row_form hu
  have N9 := two_new w8 (.cells #[.slice A4 n4 c4, .string (str [102]), .string (str [])] 31) (.cells #[.int .i64 0, .int .i64 0] 34)
  obtain ⟨w9, hw9⟩ : ∃ W, (w8.alloc (.cells #[.slice A4 n4 c4, .string (str [102]), .string (str [])] 31)).alloc (.cells #[.int .i64 0, .int .i64 0] 34) = W := ⟨_, rfl⟩
  rw [hw9] at N9
  have HU9 := Lib.hid (HU8.out.stay (Stay.below (P := fun _ => False) N9.1) (fun h => h) (fun a x hx => UntV.stay (Stay.below (P := fun _ => False) N9.1) ⟨fun h => h, fun h => h, fun h => h, fun h => h, fun h => h⟩ a x hx))
  have HB9 := Lib.hid (HB8.out.trans (N9.1.mono HB8.out.size))
  have p0 : w9.cell? ⟨w8.heap.size, 0, none⟩ = some (.slice A4 n4 c4) := (cell_at N9.2.1 0).trans rfl
  have p1 : w9.cell? ⟨w8.heap.size, 1, none⟩ = some (.string (str [102])) := (cell_at N9.2.1 1).trans rfl
  have p2 : w9.cell? ⟨w8.heap.size, 2, none⟩ = some (.string (str [])) := (cell_at N9.2.1 2).trans rfl
  have lp := lt_of_block N9.2.1
  have HW9 := Lib.hid hw9
  clear hu hb8 N9 hw9
  go_wp2_with fail
  rw [HW9.out]
  refine (check_lit (m := [102]) (b := []) rfl rfl HU9.out (fun u hu => by simp at hu; subst hu; rfl) check4).mono ?_
  rintro e w10 ⟨rfl, hb10⟩
  have HB10 := Lib.hid (HB9.out.trans (hb10.mono HB9.out.size))
  clear hb10
  go_wp2_with fail
  refine (check_lit (m := []) (b := []) (us := []) (x := (0, 0)) rfl rfl (RowR.nil _ _ _ _) (fun u hu => by simp at hu) rfl).mono ?_
  rintro e w11 ⟨rfl, hb11⟩
  have HB11 := Lib.hid (HB10.out.trans (hb11.mono HB10.out.size))
  clear hb11
  go_wp2
  go_ret
  exact ⟨rfl, HB11.out⟩
end Go.Proofs.Ytndmhbocfmnhgaa.In

