/- The function live of the statements of layer types: its sources, what they are of. Conditions: none. -/
import Derived.Test.YtobkcdkffcenbaaGreatDoorSa11
import Derived.Test.YtobkcdkffcenbaaGreatDoorSa15
import Derived.Test.YtobkcdkffcenbaaGreatDoorRows
import Derived.Test.YtobkcdkffcenbaaGreatDoorTie
import Derived.ProofKit
import Derived.LaidMore
import Derived.OpenShut
import Derived.Stop.Joined
import Derived.Test.YtobkcdkffcenbaaGreatDoorSa02
set_option linter.unusedVariables false
set_option linter.unusedSimpArgs false
namespace Go.Proofs.YtobkcdkffcenbaaGreatDoor.Ty
open Go.ChangeShapes Go.WideShapes Go.ChangeAt Go.RowKit
open Go.Proofs.YtobkcdkffcenbaaGreatDoor.Ex Go.Proofs.YtobkcdkffcenbaaGreatDoor.Pg
open Go.Proofs.YtobkcdkffcenbaaGreatDoor.Lp (ParG readsP)
open Go.Proofs.YtobkcdkffcenbaaGreatDoor.Tr (str ret_bool ret_int Bytes Nd Nodes T Lab Short)
def s1 : Bytes := [102, 40, 97, 44, 32, 111, 110, 99, 101, 32, 98, 41, 32, 43, 32, 112, 114, 101, 32, 97]
def s2 : Bytes := [97, 32, 60, 32, 116, 114, 117, 101]
def s3 : Bytes := [102, 40, 98, 44, 32, 97, 41]
def s4 : Bytes := [102, 40, 97, 41]
def s5 : Bytes := [120]
def s6 : Bytes := [110, 111, 100, 101, 32, 102, 40, 97, 58, 105, 110, 116, 41, 32, 114, 101, 116, 117, 114, 110, 115, 40, 99, 58, 98, 111, 111, 108, 41, 32, 108, 101, 116, 32, 99, 61, 97, 59, 32, 116, 101, 108, 32, 109, 97, 105, 110, 32, 102, 59]
def tA : T := .l0 ⟨3, 0, [97]⟩
def tB : T := .l0 ⟨3, 0, [98]⟩
def t1 : T := .l2 ⟨14, 0, []⟩ (.l1 ⟨27, 0, [102]⟩ (.l2 ⟨28, 0, []⟩ (.l1 ⟨28, 0, []⟩ tA) (.l1 ⟨22, 0, []⟩ tB))) (.l1 ⟨21, 0, []⟩ tA)
def t2 : T := .l2 ⟨12, 0, []⟩ tA (.l0 ⟨2, 1, []⟩)
def t3 : T := .l1 ⟨27, 0, [102]⟩ (.l2 ⟨28, 0, []⟩ (.l1 ⟨28, 0, []⟩ tB) tA)
def t4 : T := .l1 ⟨27, 0, [102]⟩ (.l1 ⟨28, 0, []⟩ tA)
def t5 : T := .l0 ⟨3, 0, [120]⟩
theorem read1 : Lr.reads s1 (t1.flat 0) = true := by decide +kernel
theorem read2 : Lr.reads s2 (t2.flat 0) = true := by decide +kernel
theorem read3 : Lr.reads s3 (t3.flat 0) = true := by decide +kernel
theorem read4 : Lr.reads s4 (t4.flat 0) = true := by decide +kernel
theorem read5 : Lr.reads s5 (t5.flat 0) = true := by decide +kernel
def lL : List Prm := [⟨[97], 2⟩, ⟨[98], 1⟩]
def uL : List Unt := [⟨false, [102], lL, ⟨[99], 2⟩, [], [], []⟩]
abbrev eL : Env := envOf lL uL
theorem tyM_flat (E : Env) (t : T) (hok : t.okB = true) (hr : t.lab.op ≠ 28) (hs : t.size ≤ 5000) (hd : t.depth ≤ 40) : tyM E (t.flat 0) = ansY (tyT E t) := by
  unfold tyM; rw [if_pos (Tr.may_yes (Tr.may_flat t hok hr hs hd)), Tr.root_flat t hok]; cases tyT E t <;> rfl
theorem ty1' : tyM eL (t1.flat 0) = (2, 0) := by rw [tyM_flat eL t1 (by decide) (by decide) (by decide) (by decide)]; rfl
theorem ty2' : tyM eL (t2.flat 0) = (0, 10) := by rw [tyM_flat eL t2 (by decide) (by decide) (by decide) (by decide)]; rfl
theorem ty3' : tyM eL (t3.flat 0) = (0, 10) := by rw [tyM_flat eL t3 (by decide) (by decide) (by decide) (by decide)]; rfl
theorem ty4' : tyM eL (t4.flat 0) = (0, 14) := by rw [tyM_flat eL t4 (by decide) (by decide) (by decide) (by decide)]; rfl
theorem ty5' : tyM eL (t5.flat 0) = (0, 8) := by rw [tyM_flat eL t5 (by decide) (by decide) (by decide) (by decide)]; rfl
theorem ty0' : tyM eL [] = (0, 1) := of_not eL (Tr.may_no (fun h => absurd h.pos (by simp)))
def u6 : Unt := ⟨false, [102], [⟨[97], 2⟩], ⟨[99], 1⟩, [], [⟨[99], tA.flat 0⟩], []⟩
theorem read6 : readsP s6 ⟨[u6], [102], []⟩ = true := by decide +kernel
theorem check6 : checkM 0 noN [u6] = (10, 0) := by
  have hq : eqnM ⟨strOf (streamsM u6), noN⟩ ⟨[99], tA.flat 0⟩ = 10 := by
    show isM ⟨strOf (streamsM u6), noN⟩ (tA.flat 0) 1 = 10
    unfold isM
    rw [tyM_flat _ tA (by decide) (by decide) (by decide) (by decide)]
    rfl
  have h : unitM noN u6 = 10 := by
    unfold unitM
    rw [if_neg (by show ¬ ((0 : Int) ≠ 0); decide)]
    show eqnsM ⟨strOf (streamsM u6), noN⟩ [⟨[99], tA.flat 0⟩] = 10
    unfold eqnsM; rw [hq]; rfl
  unfold checkM; rw [h]; rfl
theorem read_at {S : ByteArray} {s : Bytes} {x : List Nd} {w : World} (hS : S = str s) (t : Lr.reads s x = true) (hn : s.length ≤ 1000000) : Calls Tryz.prog 33 #[.string S] w (fun e w' => ∃ v, e = .returned (.tuple #[v, .agg #[.int .i64 0, .int .i64 0]]) ∧ PtW w' (v, ⟨x, 0, 0⟩) ∧ Below w.heap.size w w') := by
  subst hS
  exact (Lr.read_ok (str s) x w (by rw [Tr.str_size]; unfold maxLen; omega) (by rw [Tr.str_toList]; exact t)).mono (fun e w' ⟨v, h1, h2, h3⟩ => ⟨v, h1, Lp.pt_of h2, h3⟩)
theorem parse6 (w : World) (S : ByteArray) (hS : S = str s6) : Calls Tryz.prog 14 #[.string S] w (ParG w (⟨[u6], [102], []⟩, 0, 0)) := by
  subst hS
  exact Lp.parse_go (str s6) w (by rw [Tr.str_size]; exact Nat.le_trans (show s6.length ≤ 1000 by decide) (by unfold maxLen; omega)) [u6] [102] [] (by rw [Tr.str_toList]; exact read6)
theorem shortB {e : List Nd} (h : (e.all fun x => decide (x.name.length ≤ 1000)) = true) : Short e := fun x hx => by
  have := List.all_eq_true.1 h x hx
  simp at this
  unfold maxLen; omega
set_option maxHeartbeats 1600000 in
theorem lread_any {S : ByteArray} {s : Bytes} {l : List Nd} {w : World} (hS : S = str s) (t : Lr.reads s l = true) (hn : s.length ≤ 1000000) :
    Calls Tryz.prog 13 #[.string S] w (fun e w' => ∃ v, e = .returned v ∧ Nodes w' v l ∧ Below w.heap.size w w') := by
  have HC := Lib.hid (read_at (w := w) hS t hn)
  clear hS t
  go_enter Tryz.func13, Tryz.ntmps13
  go_wp2_with fail
  refine HC.out.mono ?_
  rintro e w1 ⟨v1, rfl, hp1, hb1⟩
  have HP := Lib.hid (hp1.below (below_new w1 (.cells #[.int .i64 0, .int .i64 0] 29)))
  have HB := Lib.hid (hb1.trans ((below_new w1 (.cells #[.int .i64 0, .int .i64 0] 29)).mono hb1.size))
  obtain ⟨A1, c1, rfl, y1, y2⟩ := Lp.pt_form hp1
  clear hp1 hb1
  go_wp2
  go_ret
  exact ⟨_, rfl, HP.out.1, HB.out⟩
end Go.Proofs.YtobkcdkffcenbaaGreatDoor.Ty

/- The function live of the statements of layer types answers true and leaves what was there as it was. Conditions: the table lies in memory. -/
namespace Go.Proofs.YtobkcdkffcenbaaGreatDoor.Ty
open Go.ChangeShapes Go.WideShapes Go.ChangeAt Go.RowKit
open Go.Proofs.YtobkcdkffcenbaaGreatDoor.Ex Go.Proofs.YtobkcdkffcenbaaGreatDoor.Pg
open Go.Proofs.YtobkcdkffcenbaaGreatDoor.Tr (str ret_bool ret_int Bytes Nd Nodes T Lab Short below_new)
open Go.Proofs.YtobkcdkffcenbaaGreatDoor.Ow (PrmN UntN RowN)
attribute [local go_sem ↓] Lx.eql_fault Lx.guard_fault
theorem fault_same (a : Int) : Lx.faultB a a 0 0 = true := by unfold Lx.faultB; simp
theorem fit6 : Ow.FitU u6 := by
  refine ⟨by show 1 ≤ maxLen; unfold maxLen; omega, by show 1 ≤ maxLen; unfold maxLen; omega, fun p hp => ?_, fun p hp => ?_, fun q hq => ?_, fun i hi => ?_⟩
  · have : p = ⟨[97], 2⟩ := by simpa [u6] using hp
    subst this
    show 1 ≤ maxLen
    unfold maxLen; omega
  · simp [u6] at hp
  · have : q = ⟨[99], tA.flat 0⟩ := by simpa [u6] using hq
    subst this
    exact ⟨by show 1 ≤ maxLen; unfold maxLen; omega, shortB (by decide)⟩
  · simp [u6] at hi
theorem small6 : ∀ u ∈ [u6], SmallU u := fun u hu => by
  simp at hu; subst hu
  exact ⟨by show 1 ≤ 1000; omega, by show 0 ≤ 1000; omega, by show 0 ≤ 1000000; omega⟩
theorem check_lit {us : List Unt} {uv : Value} {S B : ByteArray} {m b : Bytes} {x : Int × Int} {w : World} (hS : S = str m) (hB : B = str b) (hT : ShAt w) (hu : RowN 8 UntN w us uv) (hs : ∀ u ∈ us, SmallU u) (h : checkM 0 noN us = x) :
    Calls Tryz.prog 7 #[.agg #[uv, .string S, .string B]] w (FltPost w x) := by
  subst h; subst hS; subst hB; exact check_any us uv m b w hT hu hs
theorem row_l {w W : World} {B : Nat} (h : W.heap[B]? = some (.cells #[.string (str [97]), .int .i64 2, .string (str [98]), .int .i64 1] 45 (0, 0))) : RowN 2 PrmN W lL (.slice (some ⟨B, 0, none⟩) 2 2) := by
  refine ⟨some ⟨B, 0, none⟩, 2, rfl, Nat.le_refl _, by unfold maxLen; omega, fun i a ha => ?_⟩
  match i, ha with
  | 0, ha =>
    simp [lL] at ha; subst ha
    refine ⟨B, 0, _, rfl, lt_of_block h, ⟨rfl, by show 1 ≤ maxLen; unfold maxLen; omega⟩, rfl, fun k hk => ?_⟩
    rw [cells_at h]
    match k, hk with
    | 0, _ => rfl
    | 1, _ => rfl
  | 1, ha =>
    simp [lL] at ha; subst ha
    refine ⟨B, 0, _, rfl, lt_of_block h, ⟨rfl, by show 1 ≤ maxLen; unfold maxLen; omega⟩, rfl, fun k hk => ?_⟩
    rw [cells_at h]
    match k, hk with
    | 0, _ => rfl
    | 1, _ => rfl
  | i + 2, ha => simp [lL] at ha
theorem rown_nil {α : Type} (K : Nat) (R : World → α → List Value → Prop) (w : World) : RowN K R w [] (.slice none 0 0) := ⟨none, 0, rfl, Nat.le_refl _, by unfold maxLen; omega, fun i a h => by simp at h⟩
theorem row_u {w W : World} {B C : Nat} (h : W.heap[B]? = some (.cells #[.string (str [97]), .int .i64 2, .string (str [98]), .int .i64 1] 45 (0, 0)))
    (k : W.heap[C]? = some (.cells #[.bool false, .string (str [102]), .slice (some ⟨B, 0, none⟩) 2 2, .string (str [99]), .int .i64 2, .slice none 0 0, .slice none 0 0, .slice none 0 0] 49 (0, 0))) : RowN 8 UntN W uL (.slice (some ⟨C, 0, none⟩) 1 1) := by
  refine ⟨some ⟨C, 0, none⟩, 1, rfl, Nat.le_refl _, by unfold maxLen; omega, fun i a ha => ?_⟩
  match i, ha with
  | 0, ha =>
    simp [uL] at ha; subst ha
    refine ⟨C, 0, _, rfl, lt_of_block k, ⟨_, _, _, _, rfl, row_l (w := W) h, rown_nil _ _ _, rown_nil _ _ _, rown_nil _ _ _, by show 1 ≤ maxLen; unfold maxLen; omega, by show 1 ≤ maxLen; unfold maxLen; omega⟩, rfl, fun j hj => ?_⟩
    rw [cells_at k]
    match j, hj with
    | 0, _ => rfl
    | 1, _ => rfl
    | 2, _ => rfl
    | 3, _ => rfl
    | 4, _ => rfl
    | 5, _ => rfl
    | 6, _ => rfl
    | 7, _ => rfl
  | i + 1, ha => simp [uL] at ha
set_option maxRecDepth 100000 in
set_option maxHeartbeats 8000000 in
theorem live_any (w : World) (hT : ShAt w) : Calls Tryz.prog 6 #[] w (fun e w' => e = .returned (.bool true) ∧ Below w.heap.size w w') := by
  have hf1 := fault_same 10
  have hf0 := fault_same 0
  have N := news_two w (.cells #[.string (str [97]), .int .i64 2, .string (str [98]), .int .i64 1] 45) (.cells #[.bool false, .string (str [102]), .slice (some ⟨w.heap.size, 0, none⟩) 2 2, .string (str [99]), .int .i64 2, .slice none 0 0, .slice none 0 0, .slice none 0 0] 49)
  obtain ⟨w2, hw2⟩ : ∃ W, (w.alloc (.cells #[.string (str [97]), .int .i64 2, .string (str [98]), .int .i64 1] 45)).alloc (.cells #[.bool false, .string (str [102]), .slice (some ⟨w.heap.size, 0, none⟩) 2 2, .string (str [99]), .int .i64 2, .slice none 0 0, .slice none 0 0, .slice none 0 0] 49) = W := ⟨_, rfl⟩
  rw [hw2] at N
  have l1 := lt_of_block N.2.1
  have l2 := lt_of_block N.2.2
  have HB2 := Lib.hid N.1
  have HTW : Hid (∀ W, Below w2.heap.size w2 W → ShAt W) := Lib.hid (fun W h => hT.below (N.1.trans (h.mono N.1.size)) hT.1)
  have HO : Hid (∀ (W : World) (v : Value) (e : List Nd) (x : Int × Int), Below w2.heap.size w2 W → Nodes W v e → Short e → tyM eL e = x → Calls Tryz.prog 9 #[v, .slice (some ⟨w.heap.size, 0, none⟩) 2 2, .slice (some ⟨w.heap.size + 1, 0, none⟩) 1 1] W (fun e' W' => e' = .returned (.tuple #[.int .i64 x.1, .int .i64 x.2]) ∧ Below w2.heap.size w2 W')) := Lib.hid (fun W v e x h hv hs hx => by
    have a1 := (h.block _ l1).trans N.2.1
    have a2 := (h.block _ l2).trans N.2.2
    have := Of_any v _ _ e lL uL W (hT.below (N.1.trans (h.mono N.1.size)) hT.1) hv hs (row_l (w := W) a1) (row_u (w := W) a1 a2)
    rw [hx] at this
    exact this.mono (fun r W' hh => ⟨hh.1, h.trans (hh.2.mono h.size)⟩))
  have HRD : Hid (∀ (W : World) (S : ByteArray) (s : Bytes) (l : List Nd), Below w2.heap.size w2 W → S = str s → Lr.reads s l = true → s.length ≤ 1000000 → Calls Tryz.prog 13 #[.string S] W (fun e' W' => ∃ v, e' = .returned v ∧ Nodes W' v l ∧ Below w2.heap.size w2 W')) := Lib.hid (fun W S s l h h1 h2 h3 =>
    (lread_any (w := W) h1 h2 h3).mono (fun r W' ⟨v, hh1, hh2, hh3⟩ => ⟨v, hh1, hh2, h.trans (hh3.mono h.size)⟩))
  have HW2 := Lib.hid hw2
  clear N l1 l2 hw2 hT
  go_enter Tryz.func6, Tryz.ntmps6
  go_wp2_with fail
  first | rw [HW2.out] | (change Calls Tryz.prog 13 #[.string (str s1)] ((w.alloc (.cells #[.string (str [97]), .int .i64 2, .string (str [98]), .int .i64 1] 45)).alloc (.cells #[.bool false, .string (str [102]), .slice (some ⟨w.heap.size, 0, none⟩) 2 2, .string (str [99]), .int .i64 2, .slice none 0 0, .slice none 0 0, .slice none 0 0] 49)) _; rw [HW2.out])
  refine (HRD.out _ _ s1 _ (Below.refl _ _) rfl read1 (by decide)).mono ?_
  rintro e w3 ⟨v1, rfl, hv1, hb3⟩
  have HB3 := Lib.hid hb3
  have HC1 := Lib.hid (HO.out w3 v1 _ _ hb3 hv1 (shortB (by decide)) ty1')
  obtain ⟨A1, c1, rfl, -⟩ := hv1
  clear hb3
  go_wp2_with fail
  refine HC1.out.mono ?_
  rintro e w4 ⟨rfl, hb4⟩
  have HB4 := Lib.hid hb4
  clear hb4
  go_wp2_with fail
  refine (HRD.out _ _ s2 _ HB4.out rfl read2 (by decide)).mono ?_
  rintro e w5 ⟨v2, rfl, hv2, hb5⟩
  have HB5 := Lib.hid hb5
  have HC2 := Lib.hid (HO.out w5 v2 _ _ hb5 hv2 (shortB (by decide)) ty2')
  obtain ⟨A2, c2, rfl, -⟩ := hv2
  clear hb5
  go_wp2_with fail
  refine HC2.out.mono ?_
  rintro e w6 ⟨rfl, hb6⟩
  have HB6 := Lib.hid hb6
  clear hb6
  go_wp2_with fail
  refine (HRD.out _ _ s3 _ HB6.out rfl read3 (by decide)).mono ?_
  rintro e w7 ⟨v3, rfl, hv3, hb7⟩
  have HB7 := Lib.hid hb7
  have HC3 := Lib.hid (HO.out w7 v3 _ _ hb7 hv3 (shortB (by decide)) ty3')
  obtain ⟨A3, c3, rfl, -⟩ := hv3
  clear hb7
  go_wp2_with fail
  refine HC3.out.mono ?_
  rintro e w8 ⟨rfl, hb8⟩
  have HB8 := Lib.hid hb8
  clear hb8
  go_wp2_with fail
  refine (HRD.out _ _ s4 _ HB8.out rfl read4 (by decide)).mono ?_
  rintro e w9 ⟨v4, rfl, hv4, hb9⟩
  have HB9 := Lib.hid hb9
  have HC4 := Lib.hid (HO.out w9 v4 _ _ hb9 hv4 (shortB (by decide)) ty4')
  obtain ⟨A4, c4, rfl, -⟩ := hv4
  clear hb9
  go_wp2_with fail
  refine HC4.out.mono ?_
  rintro e w10 ⟨rfl, hb10⟩
  have HB10 := Lib.hid hb10
  clear hb10
  go_wp2_with fail
  refine (HRD.out _ _ s5 _ HB10.out rfl read5 (by decide)).mono ?_
  rintro e w11 ⟨v5, rfl, hv5, hb11⟩
  have HB11 := Lib.hid hb11
  have HC5 := Lib.hid (HO.out w11 v5 _ _ hb11 hv5 (shortB (by decide)) ty5')
  obtain ⟨A5, c5, rfl, -⟩ := hv5
  clear hb11
  go_wp2_with fail
  refine HC5.out.mono ?_
  rintro e w12 ⟨rfl, hb12⟩
  have HB12 := Lib.hid hb12
  clear hb12
  go_wp2_with fail
  refine (HO.out w12 _ [] _ HB12.out (PtW.nil w12 ⟨[], 0, 0⟩ rfl).1 (fun x hx => by simp at hx) ty0').mono ?_
  rintro e w13 ⟨rfl, hb13⟩
  have HB13 := Lib.hid hb13
  clear hb13
  go_wp2_with fail
  refine (parse6 _ _ rfl).mono ?_
  rintro e w20 ⟨uv, rfl, hu, hb20⟩
  have HU20 := Lib.hid (Ow.row_read (S := UntN) hu (fun a ha x h => by simp at ha; subst ha; exact Ow.unt_read _ _ fit6 h))
  have HB20 : Hid (Below w2.heap.size w2 w20) := Lib.hid (HB13.out.trans (hb20.mono HB13.out.size))
  obtain ⟨A6, n6, c6, rfl⟩ := Lp.row_form hu
  have N9 := news_two w20 (.cells #[.slice A6 n6 c6, .string (str [102]), .string (str [])] 24) (.cells #[.int .i64 0, .int .i64 0] 29)
  obtain ⟨w21, hw21⟩ : ∃ W, (w20.alloc (.cells #[.slice A6 n6 c6, .string (str [102]), .string (str [])] 24)).alloc (.cells #[.int .i64 0, .int .i64 0] 29) = W := ⟨_, rfl⟩
  rw [hw21] at N9
  have HU21 := Lib.hid (HU20.out.below N9.1 (UntN.below N9.1))
  have HB21 : Hid (Below w2.heap.size w2 w21) := Lib.hid (HB20.out.trans (N9.1.mono HB20.out.size))
  have p0 : w21.cell? ⟨w20.heap.size, 0, none⟩ = some (.slice A6 n6 c6) := (cells_at N9.2.1 0).trans rfl
  have p1 : w21.cell? ⟨w20.heap.size, 1, none⟩ = some (.string (str [102])) := (cells_at N9.2.1 1).trans rfl
  have p2 : w21.cell? ⟨w20.heap.size, 2, none⟩ = some (.string (str [])) := (cells_at N9.2.1 2).trans rfl
  have lp := lt_of_block N9.2.1
  have HW21 := Lib.hid hw21
  clear hu hb20 N9 hw21
  go_wp2_with fail
  rw [HW21.out]
  refine (check_lit (m := [102]) (b := []) rfl rfl (HTW.out w21 HB21.out) HU21.out small6 check6).mono ?_
  rintro e w22 ⟨rfl, hb22⟩
  have HB22 : Hid (Below w2.heap.size w2 w22) := Lib.hid (HB21.out.trans (hb22.mono HB21.out.size))
  clear hb22
  go_wp2_with fail
  refine (check_lit (m := []) (b := []) (us := []) (x := (0, 0)) rfl rfl (HTW.out w22 HB22.out) (rown_nil _ _ _) (fun u hu => by simp at hu) rfl).mono ?_
  rintro e w23 ⟨rfl, hb23⟩
  have HB23 : Hid (Below w.heap.size w w23) := Lib.hid (HB2.out.trans ((HB22.out.trans (hb23.mono HB22.out.size)).mono HB2.out.size))
  clear hb23
  go_wp2
  go_ret
  exact ⟨rfl, HB23.out⟩
end Go.Proofs.YtobkcdkffcenbaaGreatDoor.Ty

/- What the listed variable is worth to layer types; rows that are arguments. Conditions: it reads as its own text lays it. -/
namespace Go.Proofs.YtobkcdkffcenbaaGreatDoor.Ty
open Go.ChangeShapes Go.WideShapes Go.ChangeAt Go.WideMaps Go.WideElems Go.RowKit
open Go.Proofs.YtobkcdkffcenbaaGreatDoor.Pg (Prm Unt)
set_option maxRecDepth 100000
def laid1 : List (String × DataW Unit) := [("bailment/types.shapes", Rows.laid_bailment_types_shapes)]
theorem gShp : Tryz.prog.globalNamed "bailment/types.shapes" = some 0 := by kernel_rfl
def shpData : List (DataW Unit) := (List.range 27).map (fun (k : Nat) => .agg [.agg [.lit (.int .i64 (shapeAt k).1), .lit (.int .i64 (shapeAt k).2.1), .lit (.int .i64 (shapeAt k).2.2.1)], .lit (.int .i64 (shapeAt k).2.2.2)])
theorem shp_eq : Rows.laid_bailment_types_shapes = DataW.agg shpData := by kernel_rfl
theorem cellsShp : Tryz.prog.cellsOf 126 = 4 := by kernel_rfl
theorem cellsTab : Tryz.prog.cellsOf 127 = 108 := by kernel_rfl
theorem cellsArr : Tryz.prog.cellsOf 124 = 3 := by kernel_rfl
theorem cellsInt : Tryz.prog.cellsOf 3 = 1 := by kernel_rfl
theorem arr_cells {enc : TypeId × Value → Unit} {w : World} {base : Nat} {sp : Nat → Bool} {held : Bool} {fuel : Nat} {v0 v1 v2 : Value} {a b c : Int} {p : List MemPlace}
    (h : DataW.trod enc Tryz.prog w base sp held fuel 124 [v0, v1, v2] = some (.agg [.lit (.int .i64 a), .lit (.int .i64 b), .lit (.int .i64 c)], p)) : v0 = .int .i64 a ∧ v1 = .int .i64 b ∧ v2 = .int .i64 c := by
  cases fuel with
  | zero => simp [DataW.trod] at h
  | succ fuel =>
    simp only [DataW.trod, Tryz.underlying124, cellsArr, cellsInt] at h
    split at h
    · obtain ⟨xs, hm, hx⟩ := Option.map_eq_some_iff.1 h
      have hxs : xs.map (·.1) = [.lit (.int .i64 a), .lit (.int .i64 b), .lit (.int .i64 c)] := by
        have := congrArg Prod.fst hx
        simpa using this
      have one : ∀ (k : Nat) (v : Value) (z : Int), k < 3 → [v0, v1, v2][k]? = some v → [a, b, c][k]? = some z → v = .int .i64 z := fun k v z hk hv hz => by
        obtain ⟨y, hy, hf⟩ := Lib.mapM_at hm k k (by simp [hk])
        have h2 : (xs.map (·.1))[k]? = some y.1 := by simp [hy]
        rw [hxs] at h2
        have h3 : y.1 = .lit (.int .i64 z) := by
          match k, hk with
          | 0, _ => simp at h2 hz; rw [← h2, hz]
          | 1, _ => simp at h2 hz; rw [← h2, hz]
          | 2, _ => simp at h2 hz; rw [← h2, hz]
        have hv' : ([v0, v1, v2].drop (k * 1)).take 1 = [v] := by
          match k, hk with
          | 0, _ => simp at hv ⊢; exact hv
          | 1, _ => simp at hv ⊢; exact hv
          | 2, _ => simp at hv ⊢; exact hv
        rw [hv'] at hf
        obtain ⟨n, e1, q1, _⟩ := DataW.trod_int Tryz.underlying3 hf
        simp only [List.cons.injEq, and_true] at e1
        subst e1
        subst q1
        simp only [DataW.lit.injEq, Lit.int.injEq, true_and] at h3
        rw [h3]
      exact ⟨one 0 v0 a (by omega) rfl rfl, one 1 v1 b (by omega) rfl rfl, one 2 v2 c (by omega) rfl rfl⟩
    · cases h
theorem shp_cells {enc : TypeId × Value → Unit} {w : World} {base : Nat} {sp : Nat → Bool} {held : Bool} {fuel : Nat} {cs : List Value} {p : List MemPlace}
    (h : DataW.trod enc Tryz.prog w base sp held fuel 127 cs = some (Rows.laid_bailment_types_shapes, p)) (k : Nat) (hk : k < 27) :
    cs[k * 4]? = some (.int .i64 (shapeAt k).1) ∧ cs[k * 4 + 1]? = some (.int .i64 (shapeAt k).2.1) ∧ cs[k * 4 + 2]? = some (.int .i64 (shapeAt k).2.2.1) ∧ cs[k * 4 + 3]? = some (.int .i64 (shapeAt k).2.2.2) := by
  rw [shp_eq] at h
  cases fuel with
  | zero => simp [DataW.trod] at h
  | succ fuel =>
    simp only [DataW.trod, Tryz.underlying127, cellsShp, cellsTab] at h
    split at h
    · rename_i hl
      obtain ⟨xs, hm, hx⟩ := Option.map_eq_some_iff.1 h
      have hxs : xs.map (·.1) = shpData := by
        have := congrArg Prod.fst hx
        simpa using this
      obtain ⟨b, hb, hf⟩ := Lib.mapM_at hm k k (by simp [hk])
      have h2 : (xs.map (·.1))[k]? = some b.1 := by simp [hb]
      rw [hxs] at h2
      simp only [shpData, List.getElem?_map, List.getElem?_range hk, Option.map_some, Option.some.injEq] at h2
      obtain ⟨ys, m, _, hbv, hlen, hyl, hfi⟩ := DataW.trod_struct Tryz.underlying126 hf
      have hy2 : ys.length = 2 := hyl
      rw [hbv] at h2
      simp only [DataW.agg.injEq] at h2
      generalize hr : (cs.drop (k * 4)).take 4 = r at hlen hfi
      rw [cellsShp] at hlen
      match ys, hy2, r, hlen with
      | [y0, y1], _, [v0, v1, v2, v3], _ =>
        have g0 : DataW.trod enc Tryz.prog w base sp held m 124 [v0, v1, v2] = some y0 := by have := hfi 0 _ rfl; simpa [cellsArr, cellsInt] using this
        have g1 : DataW.trod enc Tryz.prog w base sp held m 3 [v3] = some y1 := by have := hfi 1 _ rfl; simpa [cellsArr, cellsInt] using this
        simp only [List.map_cons, List.map_nil, List.cons.injEq, and_true] at h2
        obtain ⟨d0, pl0⟩ := y0
        obtain ⟨rfl, h22⟩ := h2
        obtain ⟨e0, e1, e2⟩ := arr_cells g0
        obtain ⟨n, e3, q3, _⟩ := DataW.trod_int Tryz.underlying3 g1
        simp only [List.cons.injEq, and_true] at e3
        subst e3
        subst q3
        simp only [DataW.lit.injEq, Lit.int.injEq, true_and] at h22
        have c : ∀ j, j < 4 → cs[k * 4 + j]? = [v0, v1, v2, Value.int .i64 n][j]? := fun j hj => by
          have := congrArg (·[j]?) hr
          simp only [List.getElem?_take, List.getElem?_drop] at this
          rw [if_pos hj] at this
          exact this
        refine ⟨?_, ?_, ?_, ?_⟩
        · rw [show k * 4 = k * 4 + 0 from rfl, c 0 (by omega), e0]; rfl
        · rw [c 1 (by omega), e1]; rfl
        · rw [c 2 (by omega), e2]; rfl
        · rw [c 3 (by omega), h22]; rfl
    · cases h
theorem sh_of {W : World} (h : laidMetH Tryz.prog laid1 W) : ShAt W := by
  rw [MakeChecks.laidMetH_plain _ _ _ (by kernel_rfl)] at h
  obtain ⟨ps, ⟨g0, t0, cs0, f0, p0, q0, hg0, ht0, hv0, hd0, _, _⟩, _, _⟩ := h
  obtain rfl := Option.some.inj (gShp.symm.trans hg0)
  have tS : (Tryz.prog.globals[0]?).map (·.type) = some 127 := by kernel_rfl
  obtain rfl := Option.some.inj (tS.symm.trans ht0)
  have hc : ∀ i, W.cell? ⟨0, i, none⟩ = cs0.toList[i]? := fun i => by
    have := World.var?_cell hg0 hv0 i
    rw [this]; simp
  have key := fun k hk => shp_cells hd0 k hk
  refine ⟨?_, fun k hk => ⟨(hc _).trans (key k hk).1, (hc _).trans (key k hk).2.1, (hc _).trans (key k hk).2.2.1, (hc _).trans (key k hk).2.2.2⟩⟩
  have h0 := (hc 0).trans (key 0 (by omega)).1
  rcases Nat.lt_or_ge 0 W.heap.size with h | h
  · exact h
  · simp [World.cell?, Array.getElem?_eq_none h] at h0
section
variable {H : Type} {enc : TypeId × Value → H} {w : World} {base : Nat} {spare : Nat → Bool} {held : Bool}
end
end Go.Proofs.YtobkcdkffcenbaaGreatDoor.Ty

/- Layer inits: the document's Small: what is small has few equations, items and arguments. Conditions: what is looked at is read as a program's units. -/
namespace Go.Proofs.YtobkcdkffcenbaaGreatDoor.In
open Go.ChangeShapes Go.WideShapes Go.ChangeAt Go.RowKit
open Go.Proofs.YtobkcdkffcenbaaGreatDoor.Ex Go.Proofs.YtobkcdkffcenbaaGreatDoor.Pg Go.Proofs.YtobkcdkffcenbaaGreatDoor.Op
open Go.Proofs.YtobkcdkffcenbaaGreatDoor.Tr (str ret_bool ret_int Bytes Nd Nodes)
def SmallU (u : Unt) : Prop := u.eqs.length ≤ 30 ∧ u.items.length ≤ 30 ∧ (∀ x ∈ u.items, x.args.length ≤ 30) ∧ u.ins.length ≤ 30 ∧ u.vars.length ≤ 30
def SmallP (us : List Unt) : Prop := ∀ u ∈ us, SmallU u
def SmallPost (w : World) (us : List Unt) (e : Ending) (w' : World) : Prop := ∃ r, e = .returned (.bool r) ∧ Below w.heap.size w w' ∧ (r = true → SmallP us)
theorem small_no {w w' : World} {us : List Unt} (h : Below w.heap.size w w') : SmallPost w us (.returned (.bool false)) w' := ⟨false, rfl, h, fun h => by cases h⟩
set_option maxRecDepth 100000 in
set_option maxHeartbeats 8000000 in
theorem small_any (us : List Unt) (uv : Value) (m b : Bytes) (w : World) (hu : RowN 8 UntN w us uv) : Calls Tryz.prog 5 #[.agg #[uv, .string (str m), .string (str b)]] w (SmallPost w us) := by
  obtain ⟨A3, c3, hqv, q1, q2, -⟩ := rown_form hu
  have HU : Hid (RowN 8 UntN w us (.slice A3 us.length c3)) := Lib.hid (hqv ▸ hu)
  subst hqv
  unfold maxLen at q2
  clear hu
  obtain ⟨w1, hw1⟩ : ∃ W, w.alloc (.cells #[.slice A3 us.length c3, .string (str m), .string (str b)] 24) = W := ⟨_, rfl⟩
  have hb1 : Below w.heap.size w w1 := hw1 ▸ below_new w _
  have hX : w1.heap[w.heap.size]? = some (.cells #[.slice A3 us.length c3, .string (str m), .string (str b)] 24 (0, 0)) := hw1 ▸ heap_alloc_new w _
  have HX := Lib.hid hX
  have x0 : w1.cell? ⟨w.heap.size, 0, none⟩ = some (.slice A3 us.length c3) := (cell_at hX 0).trans rfl
  have lx := lt_of_block hX
  have HB1 := Lib.hid hb1
  have HROW : Hid (∀ wr, Below w1.heap.size w1 wr → RowN 8 UntN wr us (.slice A3 us.length c3)) := Lib.hid (fun wr hb => HU.out.below (hb1.trans (hb.mono hb1.size)) (UntN.below (hb1.trans (hb.mono hb1.size))))
  have hs1 := hb1.size
  clear hb1 hX
  go_enter Tryz.func5, Tryz.ntmps5
  by_cases h30 : us.length ≤ 30
  case neg =>
    have hd : decide ((30 : Int) < us.length) = true := by simp; omega
    go_wp2
    go_ret
    exact small_no HB1.out
  have hd : decide ((30 : Int) < us.length) = false := by simp; omega
  go_wp2
  clear hd x0
  go_loopw [3] (fun c wr => ∃ j : Nat, j ≤ us.length ∧ c = .int .i64 j ∧ Below w1.heap.size w1 wr ∧ ∀ u ∈ us.take j, SmallU u) (fun c _ => us.length - (intOf c).toNat)
  case atStart => exact ⟨0, Nat.zero_le _, rfl, Below.refl _ _, by simp⟩
  case round =>
    obtain ⟨j, hj, rfl, hb, hm⟩ := hrel
    have HB := Lib.hid hb
    have HMM := Lib.hid hm
    have hsr := hb.size
    have x0 : wr.cell? ⟨w.heap.size, 0, none⟩ = some (.slice A3 us.length c3) := (HB.out.cell (p := ⟨w.heap.size, 0, none⟩) lx).trans ((cell_at HX.out 0).trans rfl)
    have lxr : w.heap.size < wr.heap.size := by omega
    clear hb hm
    by_cases hlt : j < us.length
    · obtain ⟨u, he⟩ : ∃ q, us[j]? = some q := ⟨_, List.getElem?_eq_getElem hlt⟩
      have HT : Hid (us.take (j + 1) = us.take j ++ [u]) := Lib.hid (by rw [List.take_add_one, he]; rfl)
      obtain ⟨g, o, cc, x, hov, hg, hux, -, hcell⟩ := rown_at (HROW.out wr HB.out) he
      obtain ⟨iv, vv, qv, lv, rfl, h1, h2, h3, h4, -⟩ := hux
      simp only [Value.slice.injEq] at hov
      obtain ⟨rfl, -, rfl⟩ := hov
      obtain ⟨A5, c5, rfl, k1, k2, -⟩ := rown_form h1
      obtain ⟨A6, c6, rfl, k3, k4, -⟩ := rown_form h2
      obtain ⟨A7, c7, rfl, k5, k6, -⟩ := rown_form h3
      obtain ⟨A8, c8, rfl, k7, k8, -⟩ := rown_form h4
      unfold maxLen at k2 k4 k6 k8
      have e0 : wr.cell? ⟨g, o + j * 8, none⟩ = some (.bool u.contract) := hcell 0 (by omega)
      have e1 : wr.cell? ⟨g, o + j * 8 + 1, none⟩ = some (.string (str u.name)) := hcell 1 (by omega)
      have e2 : wr.cell? ⟨g, o + j * 8 + 2, none⟩ = some (.slice A5 u.ins.length c5) := hcell 2 (by omega)
      have e3 : wr.cell? ⟨g, o + j * 8 + 3, none⟩ = some (.string (str u.out.name)) := hcell 3 (by omega)
      have e4 : wr.cell? ⟨g, o + j * 8 + 4, none⟩ = some (.int .i64 u.out.ty) := hcell 4 (by omega)
      have e5 : wr.cell? ⟨g, o + j * 8 + 5, none⟩ = some (.slice A6 u.vars.length c6) := hcell 5 (by omega)
      have e6 : wr.cell? ⟨g, o + j * 8 + 6, none⟩ = some (.slice A7 u.eqs.length c7) := hcell 6 (by omega)
      have e7 : wr.cell? ⟨g, o + j * 8 + 7, none⟩ = some (.slice A8 u.items.length c8) := hcell 7 (by omega)
      obtain ⟨w2, hw2⟩ : ∃ W, wr.alloc (.cells #[.bool u.contract, .string (str u.name), .slice A5 u.ins.length c5, .string (str u.out.name), .int .i64 u.out.ty, .slice A6 u.vars.length c6, .slice A7 u.eqs.length c7, .slice A8 u.items.length c8] 49) = W := ⟨_, rfl⟩
      have hb2 : Below wr.heap.size wr w2 := hw2 ▸ below_new wr _
      have hX2 : w2.heap[wr.heap.size]? = some (.cells #[.bool u.contract, .string (str u.name), .slice A5 u.ins.length c5, .string (str u.out.name), .int .i64 u.out.ty, .slice A6 u.vars.length c6, .slice A7 u.eqs.length c7, .slice A8 u.items.length c8] 49 (0, 0)) := hw2 ▸ heap_alloc_new wr _
      have HX2 := Lib.hid hX2
      have z2 : w2.cell? ⟨wr.heap.size, 2, none⟩ = some (.slice A5 u.ins.length c5) := (cell_at hX2 2).trans rfl
      have z5 : w2.cell? ⟨wr.heap.size, 5, none⟩ = some (.slice A6 u.vars.length c6) := (cell_at hX2 5).trans rfl
      have z6 : w2.cell? ⟨wr.heap.size, 6, none⟩ = some (.slice A7 u.eqs.length c7) := (cell_at hX2 6).trans rfl
      have z7 : w2.cell? ⟨wr.heap.size, 7, none⟩ = some (.slice A8 u.items.length c8) := (cell_at hX2 7).trans rfl
      have lz := lt_of_block hX2
      have HZ7 : Hid (∀ wq, Below w2.heap.size w2 wq → wq.cell? ⟨wr.heap.size, 7, none⟩ = some (.slice A8 u.items.length c8)) := Lib.hid (fun wq h => (h.cell (p := ⟨wr.heap.size, 7, none⟩) lz).trans z7)
      have HB2 := Lib.hid (HB.out.trans (hb2.mono hsr))
      have hs2 := hb2.size
      have HS12 : Hid (w1.heap.size ≤ w2.heap.size) := Lib.hid (by omega)
      have HQ2 := Lib.hid (h3.below hb2 (EqnN.below hb2))
      have HL2 := Lib.hid (h4.below hb2 (ItmN.below hb2))
      have HOUT : Hid (∀ w', Below w2.heap.size w2 w' → SmallPost w us (.returned (.bool false)) w') := Lib.hid (fun w' h => small_no (HB1.out.trans ((HB2.out.trans (h.mono (by omega))).mono hs1)))
      clear hcell h1 h2 h3 h4 hb2 hX2
      by_cases t1 : u.ins.length ≤ 30
      case neg =>
        have hd : decide ((30 : Int) < u.ins.length) = true := by simp; omega
        go_wp2
        go_ret
        exact HOUT.out w2 (Below.refl _ _)
      have d1 : decide ((30 : Int) < u.ins.length) = false := by simp; omega
      by_cases t2 : u.vars.length ≤ 30
      case neg =>
        have hd : decide ((30 : Int) < u.vars.length) = true := by simp; omega
        go_wp2
        go_ret
        exact HOUT.out w2 (Below.refl _ _)
      have d2 : decide ((30 : Int) < u.vars.length) = false := by simp; omega
      by_cases t3 : u.eqs.length ≤ 30
      case neg =>
        have hd : decide ((30 : Int) < u.eqs.length) = true := by simp; omega
        go_wp2
        go_ret
        exact HOUT.out w2 (Below.refl _ _)
      have d3 : decide ((30 : Int) < u.eqs.length) = false := by simp; omega
      by_cases t4 : u.items.length ≤ 30
      case neg =>
        have hd : decide ((30 : Int) < u.items.length) = true := by simp; omega
        go_wp2
        go_ret
        exact HOUT.out w2 (Below.refl _ _)
      have d4 : decide ((30 : Int) < u.items.length) = false := by simp; omega
      go_wp2
      clear d1 d2 d3 d4 z2 z5 z7 e0 e1 e2 e3 e4 e5 e6 e7
      go_loopw [5] (fun c wr => ∃ k : Nat, k ≤ u.eqs.length ∧ c = .int .i64 k ∧ wr = w2) (fun c _ => u.eqs.length - (intOf c).toNat)
      case atStart => exact ⟨0, Nat.zero_le _, rfl, rfl⟩
      case round =>
        obtain ⟨k, hk, rfl, rfl⟩ := hrel
        by_cases hlt2 : k < u.eqs.length
        · obtain ⟨q, hq⟩ : ∃ q, u.eqs[k]? = some q := ⟨_, List.getElem?_eq_getElem hlt2⟩
          obtain ⟨g2, o2, cc2, x2, hov2, hg2, ⟨ev, rfl, hp, -⟩, -, hcell2⟩ := rown_at HQ2.out hq
          simp only [Value.slice.injEq] at hov2
          obtain ⟨rfl, -, rfl⟩ := hov2
          obtain ⟨A9, c9, rfl, v1, v2⟩ := nodesz_form hp
          have f1 : wr.cell? ⟨g2, o2 + k * 2 + 1, none⟩ = some (.slice A9 q.e.length c9) := hcell2 1 (by omega)
          clear hcell2
          by_cases t5 : q.e.length ≤ 200
          case neg =>
            have hd : decide ((200 : Int) < q.e.length) = true := by simp; omega
            go_wp2
            go_ret
            exact HOUT.out wr (Below.refl _ _)
          have hd : decide ((200 : Int) < q.e.length) = false := by simp; omega
          go_wp2
          exact ⟨⟨k + 1, by omega, by go_num, trivial⟩, by simp [intOf]; omega⟩
        · have hkl : k = u.eqs.length := by omega
          subst hkl
          have z7 := HZ7.out _ (Below.refl _ _)
          go_wp2
          go_loopw [6] (fun c wq => ∃ k : Nat, k ≤ u.items.length ∧ c = .int .i64 k ∧ Below wr.heap.size wr wq ∧ ∀ x ∈ u.items.take k, x.args.length ≤ 30) (fun c _ => u.items.length - (intOf c).toNat)
          case atStart => exact ⟨0, Nat.zero_le _, rfl, Below.refl _ _, by simp⟩
          case round =>
            obtain ⟨k, hk, rfl, hbq, hmk⟩ := hrel
            have HBQ := Lib.hid hbq
            have HMK := Lib.hid hmk
            have hsq := hbq.size
            have z7 := HZ7.out _ hbq
            clear hbq hmk
            by_cases hlt2 : k < u.items.length
            · obtain ⟨t, hit⟩ : ∃ q, u.items[k]? = some q := ⟨_, List.getElem?_eq_getElem hlt2⟩
              have HTI : Hid (u.items.take (k + 1) = u.items.take k ++ [t]) := Lib.hid (by rw [List.take_add_one, hit]; rfl)
              obtain ⟨g3, o3, cc3, x3, hov3, hg3, ⟨ev, fv, av, rfl, hp1, hp2, hp3, -⟩, -, hcell⟩ := rown_at (HL2.out.below HBQ.out (ItmN.below HBQ.out)) hit
              simp only [Value.slice.injEq] at hov3
              obtain ⟨rfl, -, rfl⟩ := hov3
              obtain ⟨A10, c10, rfl, v1, v2⟩ := nodesz_form hp1
              obtain ⟨A11, c11, rfl, v3, v4⟩ := nodesz_form hp2
              obtain ⟨A12, c12, rfl, v5, v6, -⟩ := rown_form hp3
              unfold maxLen at v2 v4 v6
              have e0 : wr.cell? ⟨g3, o3 + k * 6, none⟩ = some (.int .i64 t.kind) := hcell 0 (by omega)
              have e1 : wr.cell? ⟨g3, o3 + k * 6 + 1, none⟩ = some (.string (str t.name)) := hcell 1 (by omega)
              have e2 : wr.cell? ⟨g3, o3 + k * 6 + 2, none⟩ = some (.int .i64 t.ty) := hcell 2 (by omega)
              have e3 : wr.cell? ⟨g3, o3 + k * 6 + 3, none⟩ = some (.slice A10 t.e.length c10) := hcell 3 (by omega)
              have e4 : wr.cell? ⟨g3, o3 + k * 6 + 4, none⟩ = some (.slice A11 t.f.length c11) := hcell 4 (by omega)
              have e5 : wr.cell? ⟨g3, o3 + k * 6 + 5, none⟩ = some (.slice A12 t.args.length c12) := hcell 5 (by omega)
              obtain ⟨w3, hw3⟩ : ∃ W, wr.alloc (.cells #[.int .i64 t.kind, .string (str t.name), .int .i64 t.ty, .slice A10 t.e.length c10, .slice A11 t.f.length c11, .slice A12 t.args.length c12] 53) = W := ⟨_, rfl⟩
              have hb3 : Below wr.heap.size wr w3 := hw3 ▸ below_new wr _
              have hX3 : w3.heap[wr.heap.size]? = some (.cells #[.int .i64 t.kind, .string (str t.name), .int .i64 t.ty, .slice A10 t.e.length c10, .slice A11 t.f.length c11, .slice A12 t.args.length c12] 53 (0, 0)) := hw3 ▸ heap_alloc_new wr _
              have z3 : w3.cell? ⟨wr.heap.size, 3, none⟩ = some (.slice A10 t.e.length c10) := (cell_at hX3 3).trans rfl
              have z4 : w3.cell? ⟨wr.heap.size, 4, none⟩ = some (.slice A11 t.f.length c11) := (cell_at hX3 4).trans rfl
              have z5 : w3.cell? ⟨wr.heap.size, 5, none⟩ = some (.slice A12 t.args.length c12) := (cell_at hX3 5).trans rfl
              have HZ5 := Lib.hid z5
              have l3 := lt_of_block hX3
              have HA := Lib.hid (hp3.below hb3 (ExpN.below hb3))
              have HB3 := Lib.hid (HBQ.out.trans (hb3.mono hsq))
              clear hcell hp1 hp2 hp3 hb3 hX3
              by_cases t5 : t.e.length ≤ 200
              case neg =>
                have hd : decide ((200 : Int) < t.e.length) = true := by simp; omega
                go_wp2
                go_ret
                exact HOUT.out w3 HB3.out
              have d5 : decide ((200 : Int) < t.e.length) = false := by simp; omega
              by_cases t6 : t.f.length ≤ 200
              case neg =>
                have hd : decide ((200 : Int) < t.f.length) = true := by simp; omega
                go_wp2
                go_ret
                exact HOUT.out w3 HB3.out
              have d6 : decide ((200 : Int) < t.f.length) = false := by simp; omega
              by_cases t7 : t.args.length ≤ 30
              case neg =>
                have hd : decide ((30 : Int) < t.args.length) = true := by simp; omega
                go_wp2
                go_ret
                exact HOUT.out w3 HB3.out
              have d7 : decide ((30 : Int) < t.args.length) = false := by simp; omega
              go_wp2
              clear d5 d6 d7 e0 e1 e2 e3 e4 e5
              go_loopw [8] (fun c ws => ∃ i : Nat, i ≤ t.args.length ∧ c = .int .i64 i ∧ ws = w3) (fun c _ => t.args.length - (intOf c).toNat)
              case atStart => exact ⟨0, Nat.zero_le _, rfl, rfl⟩
              case round =>
                obtain ⟨i, hi, rfl, rfl⟩ := hrel
                by_cases hlt3 : i < t.args.length
                · obtain ⟨a, ha⟩ : ∃ q, t.args[i]? = some q := ⟨_, List.getElem?_eq_getElem hlt3⟩
                  obtain ⟨g4, o4, cc4, x4, hov4, hg4, ⟨ev, rfl, hp, -⟩, -, hcell4⟩ := rown_at HA.out ha
                  simp only [Value.slice.injEq] at hov4
                  obtain ⟨rfl, -, rfl⟩ := hov4
                  obtain ⟨A13, c13, rfl, v7, v8⟩ := nodesz_form hp
                  have f1 : wr.cell? ⟨g4, o4 + i * 1, none⟩ = some (.slice A13 a.length c13) := hcell4 0 (by omega)
                  rw [Nat.mul_one] at f1
                  clear hcell4
                  by_cases t8 : a.length ≤ 200
                  case neg =>
                    have hd : decide ((200 : Int) < a.length) = true := by simp; omega
                    go_wp2
                    go_ret
                    exact HOUT.out wr HB3.out
                  have hd : decide ((200 : Int) < a.length) = false := by simp; omega
                  go_wp2
                  exact ⟨⟨i + 1, by omega, by go_num, trivial⟩, by simp [intOf]; omega⟩
                · have hil : i = t.args.length := by omega
                  subst hil
                  go_wp2
                  refine ⟨⟨k + 1, by omega, by go_num, HB3.out, ?_⟩, by simp [intOf]; omega⟩
                  rw [HTI.out]
                  intro x hx
                  rcases List.mem_append.1 hx with h | h
                  · exact HMK.out x h
                  · simp at h; rw [h]; exact t7
            · have hkl : k = u.items.length := by omega
              subst hkl
              go_wp2
              refine ⟨⟨j + 1, by omega, by go_num, HB2.out.trans (HBQ.out.mono HS12.out), ?_⟩, by simp [intOf]; omega⟩
              rw [HT.out]
              intro x hx
              rcases List.mem_append.1 hx with h | h
              · exact HMM.out x h
              · simp at h; rw [h]; exact ⟨t3, t4, by have := HMK.out; rwa [List.take_length] at this, t1, t2⟩
    · have hjl : j = us.length := by omega
      subst hjl
      have HN : Hid (SmallP us) := Lib.hid (by have := HMM.out; rwa [List.take_length] at this)
      go_wp2
      go_ret
      exact ⟨true, rfl, HB1.out.trans (HB.out.mono hs1), fun _ => HN.out⟩
end Go.Proofs.YtobkcdkffcenbaaGreatDoor.In

