/- The function live of the statements of layer cause: its sources, what they are. Conditions: none. -/
import Derived.Test.YtlhcajhgbkgjbaaTa08
import Derived.Test.YtlhcajhgbkgjbaaTa17
import Derived.Test.YtlhcajhgbkgjbaaVb24
import Derived.Test.YtlhcajhgbkgjbaaTa03
import Derived.Test.YtlhcajhgbkgjbaaVb16
import Derived.Deep.Slices
set_option linter.unusedVariables false
set_option linter.unusedSimpArgs false
namespace Go.Proofs.Ytlhcajhgbkgjbaa.Ca
open Go.ChangeShapes Go.WideShapes Go.ChangeAt Go.RowKit
open Go.Proofs.Ytlhcajhgbkgjbaa.Ex Go.Proofs.Ytlhcajhgbkgjbaa.Pg Go.Proofs.Ytlhcajhgbkgjbaa.Rp
open Go.Proofs.Ytlhcajhgbkgjbaa.Tr (str ret_bool ret_int Bytes Nd Nodes T Lab)
def s1 : Bytes := [97, 32, 43, 32, 112, 114, 101, 32, 98, 32, 43, 32, 102, 40, 99, 44, 32, 112, 114, 101, 118, 32, 100, 41, 32, 43, 32, 97]
def s2 : Bytes := [121]
def s3 : Bytes := [48, 32, 45, 62, 32, 112, 114, 101, 32, 120]
def s4 : Bytes := [120]
def s5 : Bytes := [110, 111, 100, 101, 32, 102, 40, 41, 32, 114, 101, 116, 117, 114, 110, 115, 40, 99, 58, 105, 110, 116, 41, 32, 108, 101, 116, 32, 99, 61, 99, 59, 32, 116, 101, 108, 32, 109, 97, 105, 110, 32, 102, 59]
def tV (c : UInt8) : T := .l0 ⟨3, 0, [c]⟩
def t1 : T := .l2 ⟨14, 0, []⟩ (.l2 ⟨14, 0, []⟩ (.l2 ⟨14, 0, []⟩ (tV 97) (.l1 ⟨21, 0, []⟩ (tV 98))) (.l1 ⟨27, 0, [102]⟩ (.l2 ⟨28, 0, []⟩ (.l1 ⟨28, 0, []⟩ (tV 99)) (.l1 ⟨24, 0, []⟩ (tV 100))))) (tV 97)
def t3 : T := .l2 ⟨19, 0, []⟩ (.l0 ⟨1, 0, []⟩) (.l1 ⟨21, 0, []⟩ (tV 120))
theorem read1 : readM s1 = (t1.flat 0, 0, 0) := by decide +kernel
theorem read2 : readM s2 = ((tV 121).flat 0, 0, 0) := by decide +kernel
theorem read3 : readM s3 = (t3.flat 0, 0, 0) := by decide +kernel
theorem read4 : readM s4 = ((tV 120).flat 0, 0, 0) := by decide +kernel
theorem needs_flat (t : T) (hok : t.okB = true) (hr : t.lab.op ≠ 28) (hs : t.size ≤ 5000) (hd : t.depth ≤ 40) : needsM (t.flat 0) = needT t := by
  unfold needsM; rw [if_pos (Tr.may_yes (Tr.may_flat t hok hr hs hd)), Tr.root_flat t hok]
theorem need1 : needsM (t1.flat 0) = [[97], [99]] := by rw [needs_flat t1 (by decide) (by decide) (by decide) (by decide)]; decide
theorem need2 : needsM ((tV 121).flat 0) = [[121]] := by rw [needs_flat _ (by decide) (by decide) (by decide) (by decide)]; decide
theorem need3 : needsM (t3.flat 0) = [] := by rw [needs_flat t3 (by decide) (by decide) (by decide) (by decide)]; decide
theorem need4 : needsM ((tV 120).flat 0) = [[120]] := by rw [needs_flat _ (by decide) (by decide) (by decide) (by decide)]; decide
theorem need5 : needsM ((tV 99).flat 0) = [[99]] := by rw [needs_flat _ (by decide) (by decide) (by decide) (by decide)]; decide
def l1 : List Eqn := [⟨[120], (tV 121).flat 0⟩, ⟨[121], t3.flat 0⟩]
def l2 : List Eqn := [⟨[120], (tV 121).flat 0⟩, ⟨[121], (tV 120).flat 0⟩]
def l5 : List Eqn := [⟨[99], (tV 99).flat 0⟩]
theorem ord1 : orderM (qsOf l1) = some [1, 0] := by
  unfold qsOf l1; simp only [List.map_cons, List.map_nil, need2, need3]; decide +kernel
theorem ord2 : orderM (qsOf l2) = none := by
  unfold qsOf l2; simp only [List.map_cons, List.map_nil, need2, need4]; decide +kernel
theorem ord5 : orderM (qsOf l5) = none := by
  unfold qsOf l5; simp only [List.map_cons, List.map_nil, need5]; decide +kernel
theorem chk5 : checkM 0 [l5] = (12, 0) := by unfold checkM; rw [if_pos ord5]; rfl
def rd5 : Rd := ⟨(Lx.lexM s5).toks, 0, 0, 0, 0⟩
def a1 := unF rowMax [] rd5
def a2 : Rd := (needQ wMain a1.2).2
def a3 := nameP a2
def a4 : Rd := (needQ sSemi a3.2).2
def a5 := takeQ wFallback a4
def u5 : Unt := ⟨false, [102], [], ⟨[99], 2⟩, [], l5, []⟩
theorem k5a : a1.1 = [u5] := by decide +kernel
theorem k5b : a3.1 = [102] ∧ a5.1 = false ∧ a5.2.code = 0 ∧ ¬ a5.2.next < a5.2.l.length := by decide +kernel
theorem k5n : (Lx.lexM s5).toks.length = 19 := by decide +kernel
theorem lex5 : Lx.lexM s5 = .ok (Lx.lexM s5).toks := by
  cases h : Lx.lexM s5 with
  | ok l => rfl
  | bad c a => have := k5n; rw [h] at this; cases this
theorem read_at {S : ByteArray} {s : Bytes} {x : List Nd × Int × Int} {w : World} (hS : S = str s) (t : readM s = x) (hn : s.length ≤ 1000000) (hl : ∀ l, Lx.lexM s = .ok l → l.length ≤ 20000) : Calls Try.prog 14 #[.string S] w (ReadTo w x) := by
  subst hS
  have h := Rf.rread_any (str s) w (by rw [Tr.str_size]; unfold maxLen; omega) (by rw [Tr.str_toList]; exact hl)
  rw [Tr.str_toList, t] at h; exact h
theorem short_lex {s : Bytes} (h : (Lx.lexM s).toks.length ≤ 20000) : ∀ l, Lx.lexM s = .ok l → l.length ≤ 20000 := fun l hl => by rw [hl] at h; exact h
theorem sh1 : (Lx.lexM s1).toks.length ≤ 20000 := by decide +kernel
theorem sh2 : (Lx.lexM s2).toks.length ≤ 20000 := by decide +kernel
theorem sh3 : (Lx.lexM s3).toks.length ≤ 20000 := by decide +kernel
theorem sh4 : (Lx.lexM s4).toks.length ≤ 20000 := by decide +kernel
theorem pair_eta {α β : Type} (x : α × β) : x = (x.1, x.2) := rfl
theorem g50 : unF rowMax [] ⟨(Lx.lexM s5).toks, 0, 0, 0, 0⟩ = (a1.1, a1.2) := pair_eta a1
theorem g51 : (needQ wMain a1.2).2 = a2 := by unfold a2; rfl
theorem g52 : nameP a2 = (a3.1, a3.2) := pair_eta a3
theorem g53 : (needQ sSemi a3.2).2 = a4 := by unfold a4; rfl
theorem g54 : takeQ wFallback a4 = (false, a5.2) := (pair_eta a5).trans (by rw [k5b.2.1])
theorem parse5 (w : World) (S : ByteArray) (hS : S = str s5) : Calls Try.prog 16 #[.string S] w (ParG w (⟨[u5], [102], []⟩, 0, 0)) := by
  subst hS
  have hl : Lx.lexM (str s5).toList = .ok (Lx.lexM s5).toks := by rw [Tr.str_toList]; exact lex5
  have h := parse_ok0 (str s5) w (by rw [Tr.str_size]; exact Nat.le_trans (show s5.length ≤ 1000 by decide) (by unfold maxLen; omega)) (Lx.lexM s5).toks hl (by rw [k5n]; omega) a1.1 a3.1 [] a1.2 a2 a3.2 a4 a5.2 a5.2 a5.2 g50 g51 g52 g53 g54 rfl k5b.2.2.1 k5b.2.2.2
  rw [k5a, k5b.1] at h
  exact h
theorem short1 (t : T) (h : ∀ x ∈ t.flat 0, x.name.length ≤ 1000) : Tr.Short (t.flat 0) := fun x hx => Nat.le_trans (h x hx) (by unfold maxLen; omega)
def EqPost (w : World) (N : ByteArray) (l : List Nd) (e : Ending) (w' : World) : Prop := ∃ A n c, e = .returned (.agg #[.string N, .slice A n c]) ∧ PtW w' (.slice A n c, ⟨l, 0, 0⟩) ∧ Below w.heap.size w w'
set_option maxRecDepth 100000 in
set_option maxHeartbeats 4000000 in
theorem eq_any (N S : ByteArray) (s : Bytes) (l : List Nd) (w : World) (hS : S = str s) (t : readM s = (l, 0, 0)) (hn : s.length ≤ 1000000) (hl : ∀ l, Lx.lexM s = .ok l → l.length ≤ 20000) : Calls Try.prog 15 #[.string N, .string S] w (EqPost w N l) := by
  have HL := Lib.hid hl
  have HT := Lib.hid t
  have HS := Lib.hid hS
  have HN := Lib.hid hn
  obtain ⟨wR, hwR⟩ : ∃ W, w.alloc (.cells #[.string ⟨#[]⟩, .slice none 0 0] 34) = W := ⟨_, rfl⟩
  have hbR : Below w.heap.size w wR := hwR ▸ below_new w _
  have hR : wR.heap[w.heap.size]? = some (.cells #[.string ⟨#[]⟩, .slice none 0 0] 34 (0, 0)) := hwR ▸ heap_alloc_new w _
  have hRl := lt_of_block hR
  have HWR := Lib.hid hwR
  have HBR := Lib.hid hbR
  have HR := Lib.hid hR
  clear hl t hS hn hwR hbR hR
  go_enter Try.func15, Try.ntmps15
  go_wp2_with fail
  rw [HWR.out]
  refine (read_at HS.out HT.out HN.out HL.out).mono ?_
  rintro e w1 ⟨v1, rfl, hp1, hb1⟩
  have HP1 := Lib.hid hp1
  have HB1 := Lib.hid (HBR.out.trans (hb1.mono HBR.out.size))
  obtain ⟨A1, n1, c1, rfl, y1, y2⟩ := pt_form hp1
  have hR1 : w1.heap[w.heap.size]? = some (.cells #[.string ⟨#[]⟩, .slice none 0 0] 34 (0, 0)) := (hb1.block _ hRl).trans HR.out
  have r0 : w1.cell? ⟨w.heap.size, 0, none⟩ = some (.string ⟨#[]⟩) := by simp [World.cell?, hR1]
  have r1 : w1.cell? ⟨w.heap.size, 1, none⟩ = some (.slice none 0 0) := by simp [World.cell?, hR1]
  have f0 : w1.frozen? ⟨w.heap.size, 0, none⟩ = false := by simp [World.frozen?, hR1]
  have f1 : w1.frozen? ⟨w.heap.size, 1, none⟩ = false := by simp [World.frozen?, hR1]
  have hRl1 : w.heap.size < w1.heap.size := lt_of_block hR1
  have hne : w1.heap.size ≠ w.heap.size := by omega
  have HR1 := Lib.hid hR1
  clear hp1 hb1 hR1
  go_wp2
  obtain ⟨W, hW⟩ : ∃ W, W = ((w1.setCell ⟨w.heap.size, 0, none⟩ (.string N)).setCell ⟨w.heap.size, 1, none⟩ (.slice A1 n1 c1)).alloc (.cells #[.int .i64 0, .int .i64 0] 42) := ⟨_, rfl⟩
  rw [← hW]
  have Z1 := set2 HR1.out (.string N) (.slice A1 n1 c1)
  have Z : W.heap[w.heap.size]? = some (.cells #[.string N, .slice A1 n1 c1] 34 (0, 0)) := by rw [hW, Below.heap_alloc _ _ _ (by simpa using hRl1)]; exact Z1
  have z0 : W.cell? ⟨w.heap.size, 0, none⟩ = some (.string N) := by simp [World.cell?, Z]
  have z1 : W.cell? ⟨w.heap.size, 1, none⟩ = some (.slice A1 n1 c1) := by simp [World.cell?, Z]
  have HE : Hid (EqPost w N l (.returned (.agg #[.string N, .slice A1 n1 c1])) W) := Lib.hid ⟨A1, n1, c1, rfl, (by
    have k : PtW ((w1.setCell ⟨w.heap.size, 0, none⟩ (.string N)).setCell ⟨w.heap.size, 1, none⟩ (.slice A1 n1 c1)) (.slice A1 n1 c1, ⟨l, 0, 0⟩) := HP1.out.keep (by simp) (fun g ⟨cs, f, hc⟩ => by
      have hg : g ≠ w.heap.size := fun e => by rw [e, HR1.out] at hc; simp at hc
      rw [Below.heap_setCell _ _ _ _ hg, Below.heap_setCell _ _ _ _ hg])
    rw [hW]; exact k.below (below_new _ _)), by
    rw [hW]; exact ((HB1.out.setCell (p := ⟨w.heap.size, 0, none⟩) (Nat.le_refl _) _).setCell (p := ⟨w.heap.size, 1, none⟩) (Nat.le_refl _) _).alloc (by simpa using Nat.le_of_lt hRl1) _⟩
  clear r0 r1 f0 f1 Z1 Z hW
  exact bodyPost_ret (v := .agg #[.string N, .slice A1 n1 c1]) (by simp [results, Try.results15, go_sem, z0, z1]) rfl HE.out
theorem eqs_two {w : World} {N1 N2 : Bytes} {A1 A2 : Option Addr} {n1 c1 n2 c2 : Nat} {e1 e2 : List Nd} (h1 : PtW w (.slice A1 n1 c1, ⟨e1, 0, 0⟩)) (h2 : PtW w (.slice A2 n2 c2, ⟨e2, 0, 0⟩)) (s1 : N1.length ≤ 1000) (s2 : N2.length ≤ 1000) (k1 : Tr.Short e1) (k2 : Tr.Short e2) :
    EqsAt (w.alloc (.cells #[.string (str N1), .slice A1 n1 c1, .string (str N2), .slice A2 n2 c2] 34)) (.slice (some ⟨w.heap.size, 0, none⟩) 2 2) [⟨N1, e1⟩, ⟨N2, e2⟩] := by
  have hb := below_new w (.cells #[.string (str N1), .slice A1 n1 c1, .string (str N2), .slice A2 n2 c2] 34)
  have hc := heap_alloc_new w (.cells #[.string (str N1), .slice A1 n1 c1, .string (str N2), .slice A2 n2 c2] 34)
  have cc : ∀ k, (w.alloc (.cells #[.string (str N1), .slice A1 n1 c1, .string (str N2), .slice A2 n2 c2] 34)).cell? ⟨w.heap.size, k, none⟩ = (#[Value.string (str N1), .slice A1 n1 c1, .string (str N2), .slice A2 n2 c2])[k]? := fun k => by unfold World.cell?; rw [hc]; rfl
  refine ⟨some ⟨w.heap.size, 0, none⟩, 2, rfl, by simp, by unfold maxLen; omega, fun i q hi => ?_⟩
  match i, hi with
  | 0, hi =>
    simp at hi; subst hi
    exact ⟨w.heap.size, 0, _, rfl, lt_of_block hc, (cc _).trans rfl, (cc _).trans rfl, (h1.below hb).1, by unfold maxLen; simp only; omega, k1⟩
  | 1, hi =>
    simp at hi; subst hi
    exact ⟨w.heap.size, 0, _, rfl, lt_of_block hc, (cc _).trans rfl, (cc _).trans rfl, (h2.below hb).1, by unfold maxLen; simp only; omega, k2⟩
end Go.Proofs.Ytlhcajhgbkgjbaa.Ca

/- The function live of the statements of layer cause answers true and leaves what was there as it was. Conditions: none. -/
namespace Go.Proofs.Ytlhcajhgbkgjbaa.Ca
open Go.ChangeShapes Go.WideShapes Go.ChangeAt Go.RowKit
open Go.Proofs.Ytlhcajhgbkgjbaa.Ex Go.Proofs.Ytlhcajhgbkgjbaa.Pg Go.Proofs.Ytlhcajhgbkgjbaa.Rp
open Go.Proofs.Ytlhcajhgbkgjbaa.Tr (str ret_bool ret_int Bytes Nd Nodes T Lab)
attribute [local go_sem ↓] Lx.eql_fault Lx.guard_fault
theorem shV (c : UInt8) : Tr.Short ((tV c).flat 0) := short1 _ (fun x hx => by simp only [tV, T.flat, List.mem_singleton] at hx; subst hx; rw [mkL_name]; simp)
theorem sh_1 : Tr.Short (t1.flat 0) := short1 _ (by decide)
theorem sh_3 : Tr.Short (t3.flat 0) := short1 _ (by decide)
theorem ord_lit {v : Value} {l : List Eqn} {o : Option (List Nat)} {w : World} (hv : EqsAt w v l) (hn : l.length ≤ 4000) (h : orderM (qsOf l) = o) : Calls Try.prog 9 #[v] w (OrdPost w o) := by subst h; exact order_any v l w hv hn
theorem chk_lit {us : List (List Eqn)} {uv : Value} {S T : ByteArray} {w : World} {x : Int × Int} (hu : UnsAt w uv us) (h : checkM 0 us = x) : Calls Try.prog 18 #[.agg #[uv, .string S, .string T]] w (ChkPost w x) := by subst h; exact check_any us uv S T w hu
theorem need_lit {v : Value} {e : List Nd} {l : List Bytes} {w : World} (hv : Nodes w v e) (hs : Tr.Short e) (h : needsM e = l) : Calls Try.prog 10 #[v] w (StrsPost w l) := by subst h; exact needs_any v e w hv hs
theorem texts_lit {u v : Value} {l : List Bytes} {w : World} (hu : Tr.Strs w u l) (hv : Tr.Strs w v l) : Calls Try.prog 13 #[u, v] w (fun e w' => e = .returned (.bool true) ∧ Below w.heap.size w w') := by
  refine (Tr.texts_any u v l l w hu hv).mono ?_
  rintro e w' ⟨rfl, n, rfl⟩
  exact ⟨by rw [decide_eq_true rfl], Tr.below_drewN (Below.refl _ _) n⟩
theorem ints_lit {u v : Value} {l : List Int} {w : World} (hu : Tr.Ints w u l) (hv : Tr.Ints w v l) : Calls Try.prog 17 #[u, v] w (fun e w' => e = .returned (.bool true) ∧ Below w.heap.size w w') := by
  refine (Tr.ints_any u v l l w hu hv).mono ?_
  rintro e w' ⟨rfl, n, rfl⟩
  exact ⟨by rw [decide_eq_true rfl], Tr.below_drewN (Below.refl _ _) n⟩
theorem strs_two (w : World) (a b : Bytes) : Tr.Strs (w.alloc (.cells #[.string (str a), .string (str b)] 9)) (.slice (some ⟨w.heap.size, 0, none⟩) 2 2) [a, b] := by
  have hc := heap_alloc_new w (.cells #[.string (str a), .string (str b)] 9)
  have cc : ∀ k, (w.alloc (.cells #[.string (str a), .string (str b)] 9)).cell? ⟨w.heap.size, k, none⟩ = (#[Value.string (str a), .string (str b)])[k]? := fun k => by unfold World.cell?; rw [hc]; rfl
  refine ⟨some ⟨w.heap.size, 0, none⟩, 2, rfl, by simp, by unfold maxLen; omega, fun i q hi => ?_⟩
  match i, hi with
  | 0, hi => simp at hi; subst hi; exact ⟨w.heap.size, 0, rfl, lt_of_block hc, (cc _).trans rfl⟩
  | 1, hi => simp at hi; subst hi; exact ⟨w.heap.size, 0, rfl, lt_of_block hc, (cc _).trans rfl⟩
theorem ints_two (w : World) (a b : Int) : Tr.Ints (w.alloc (.cells #[.int .i64 a, .int .i64 b] 3)) (.slice (some ⟨w.heap.size, 0, none⟩) 2 2) [a, b] := by
  have hc := heap_alloc_new w (.cells #[.int .i64 a, .int .i64 b] 3)
  have cc : ∀ k, (w.alloc (.cells #[.int .i64 a, .int .i64 b] 3)).cell? ⟨w.heap.size, k, none⟩ = (#[Value.int .i64 a, .int .i64 b])[k]? := fun k => by unfold World.cell?; rw [hc]; rfl
  refine ⟨some ⟨w.heap.size, 0, none⟩, 2, rfl, by simp, by unfold maxLen; omega, fun i q hi => ?_⟩
  match i, hi with
  | 0, hi => simp at hi; subst hi; exact ⟨w.heap.size, 0, rfl, lt_of_block hc, (cc _).trans rfl⟩
  | 1, hi => simp at hi; subst hi; exact ⟨w.heap.size, 0, rfl, lt_of_block hc, (cc _).trans rfl⟩
theorem uns5 {w : World} {v : Value} (h : RowR 94 8 UntV w [u5] v) : UnsAt w v [l5] := UnsAt.of_rowR h (fun u hu => by
  simp only [List.mem_singleton] at hu
  subst hu
  refine ⟨by decide, fun q hq => ?_⟩
  simp only [u5, l5, List.mem_singleton] at hq
  subst hq
  exact ⟨by unfold maxLen; simp, shV 99⟩)
theorem uns0 (w : World) : UnsAt w (.slice none 0 0) [] := ⟨none, 0, rfl, by simp, by unfold maxLen; omega, fun i u h => by simp at h⟩
theorem two_new2 (w : World) (o o' : Obj) : Below w.heap.size w ((w.alloc o).alloc o') ∧ ((w.alloc o).alloc o').heap[w.heap.size]? = some o := ⟨((Below.refl _ _).alloc (Nat.le_refl _) _).alloc (by simp) _, by rw [Below.heap_alloc _ _ _ (by simp)]; exact heap_alloc_new w o⟩
theorem fault_same (a : Int) : Lx.faultB a a 0 0 = true := by unfold Lx.faultB; simp
set_option maxRecDepth 100000 in
set_option maxHeartbeats 8000000 in
theorem live_any (w : World) : Calls Try.prog 8 #[] w (fun e w' => e = .returned (.bool true) ∧ Below w.heap.size w w') := by
  have hf12 := fault_same 12
  have hf0 := fault_same 0
  go_enter Try.func8, Try.ntmps8
  go_wp2_with fail
  refine (read_at (s := s1) rfl read1 (by decide) (short_lex sh1)).mono ?_
  rintro e w1 ⟨v1, rfl, hp1, hb1⟩
  obtain ⟨wa, hwa⟩ : ∃ W, w1.alloc (.cells #[.int .i64 0, .int .i64 0] 42) = W := ⟨_, rfl⟩
  have hba : Below w1.heap.size w1 wa := hwa ▸ below_new w1 _
  have HP1 := Lib.hid (hp1.below hba)
  have HB1 := Lib.hid (hb1.trans (hba.mono hb1.size))
  obtain ⟨A1, n1, c1, rfl, y1, y2⟩ := pt_form hp1
  have HWA := Lib.hid hwa
  clear hp1 hb1 hba hwa
  go_wp2_with fail
  rw [HWA.out]
  refine (eq_any _ _ s2 _ wa rfl read2 (by decide) (short_lex sh2)).mono ?_
  rintro e w2 ⟨A2, n2, c2, rfl, hp2, hb2⟩
  have HP2 := Lib.hid hp2
  have HP12 := Lib.hid (HP1.out.below hb2)
  have HB2 := Lib.hid (HB1.out.trans (hb2.mono HB1.out.size))
  clear hp2 hb2
  go_wp2_with fail
  refine (eq_any _ _ s3 _ w2 rfl read3 (by decide) (short_lex sh3)).mono ?_
  rintro e w3 ⟨A3, n3, c3, rfl, hp3, hb3⟩
  have HES := Lib.hid (eqs_two (N1 := [120]) (N2 := [121]) (HP2.out.below hb3) hp3 (by decide) (by decide) (shV 121) sh_3)
  have HP13 := Lib.hid (HP12.out.below (hb3.trans ((below_new w3 (.cells #[.string (str [120]), .slice A2 n2 c2, .string (str [121]), .slice A3 n3 c3] 34)).mono hb3.size)))
  have HB3 := Lib.hid (HB2.out.trans ((hb3.trans ((below_new w3 (.cells #[.string (str [120]), .slice A2 n2 c2, .string (str [121]), .slice A3 n3 c3] 34)).mono hb3.size)).mono HB2.out.size))
  clear hp3 hb3
  go_wp2_with fail
  refine (ord_lit HES.out (by decide) ord1).mono ?_
  rintro e w4 ⟨hb4, v4, rfl, ho4⟩
  have HI4 := Lib.hid (Tr.Ints.of_own (l := natI [1, 0]) ho4)
  have HP14 := Lib.hid (HP13.out.below hb4)
  have HB4 := Lib.hid (HB3.out.trans (hb4.mono HB3.out.size))
  obtain ⟨A4, n4, c4, rfl⟩ : IsS v4 := by obtain ⟨A, c, e, _⟩ := HI4.out; exact ⟨_, _, _, e⟩
  clear hb4 ho4
  go_wp2_with fail
  refine (eq_any _ _ s2 _ w4 rfl read2 (by decide) (short_lex sh2)).mono ?_
  rintro e w5 ⟨A5, n5, c5, rfl, hp5, hb5⟩
  have HP5 := Lib.hid hp5
  have HB5 := Lib.hid (HB4.out.trans (hb5.mono HB4.out.size))
  have HI5 := Lib.hid (HI4.out.below hb5 (Nat.le_refl _))
  have HP15 := Lib.hid (HP14.out.below hb5)
  clear hp5 hb5
  go_wp2_with fail
  refine (eq_any _ _ s4 _ w5 rfl read4 (by decide) (short_lex sh4)).mono ?_
  rintro e w6 ⟨A6, n6, c6, rfl, hp6, hb6⟩
  have HES2 := Lib.hid (eqs_two (N1 := [120]) (N2 := [121]) (HP5.out.below hb6) hp6 (by decide) (by decide) (shV 121) (shV 120))
  have hb6' := hb6.trans ((below_new w6 (.cells #[.string (str [120]), .slice A5 n5 c5, .string (str [121]), .slice A6 n6 c6] 34)).mono hb6.size)
  have HP16 := Lib.hid (HP15.out.below hb6')
  have HI6 := Lib.hid (HI5.out.below hb6' (Nat.le_refl _))
  have HB6 := Lib.hid (HB5.out.trans (hb6'.mono HB5.out.size))
  clear hp6 hb6 hb6'
  go_wp2_with fail
  refine (ord_lit HES2.out (by decide) ord2).mono ?_
  rintro e w7 ⟨hb7, he7⟩
  have he7 : e = .returned (.tuple #[.slice none 0 0, .int .i64 12]) := he7
  subst he7
  have HP17 := Lib.hid (HP16.out.below hb7)
  have HI7 := Lib.hid (HI6.out.below hb7 (Nat.le_refl _))
  have HB7 := Lib.hid (HB6.out.trans (hb7.mono HB6.out.size))
  clear hb7
  go_wp2_with fail
  refine (parse5 _ _ rfl).mono ?_
  rintro e w8 ⟨uv, rfl, hu, hb8⟩
  have HU8 := Lib.hid hu
  have HP18 := Lib.hid (HP17.out.below hb8)
  have HI8 := Lib.hid (HI7.out.below hb8 (Nat.le_refl _))
  have HB8 := Lib.hid (HB7.out.trans (hb8.mono HB7.out.size))
  obtain ⟨Au, nu, cu, rfl⟩ : IsS uv := rowR_form hu
  have N9 := two_new2 w8 (.cells #[.slice Au nu cu, .string (str [102]), .string (str [])] 48) (.cells #[.int .i64 0, .int .i64 0] 42)
  obtain ⟨w9, hw9⟩ : ∃ W, (w8.alloc (.cells #[.slice Au nu cu, .string (str [102]), .string (str [])] 48)).alloc (.cells #[.int .i64 0, .int .i64 0] 42) = W := ⟨_, rfl⟩
  rw [hw9] at N9
  have HU9 := Lib.hid ((uns5 HU8.out).below N9.1)
  have HP19 := Lib.hid (HP18.out.below N9.1)
  have HI9 := Lib.hid (HI8.out.below N9.1 (Nat.le_refl _))
  have HB9 := Lib.hid (HB8.out.trans (N9.1.mono HB8.out.size))
  have HX9 := Lib.hid N9.2
  have HW9 := Lib.hid hw9
  have lp := lt_of_block N9.2
  clear hu hb8 N9 hw9
  go_wp2_with fail
  rw [HW9.out]
  refine (need_lit HP19.out.1 sh_1 need1).mono ?_
  rintro e w10 ⟨nv, rfl, hno, hb10⟩
  have HS10 := Lib.hid ((Tr.Strs.of_own hno).below (below_new w10 (.cells #[.string (str [97]), .string (str [99])] 9)) (Nat.le_refl _))
  have hb10' := hb10.trans ((below_new w10 (.cells #[.string (str [97]), .string (str [99])] 9)).mono hb10.size)
  have HU10 := Lib.hid (HU9.out.below hb10')
  have HI10 := Lib.hid (HI9.out.below hb10' (Nat.le_refl _))
  have HB10 := Lib.hid (HB9.out.trans (hb10'.mono HB9.out.size))
  have HX10 : Hid ((w10.alloc (.cells #[.string (str [97]), .string (str [99])] 9)).heap[w8.heap.size]? = some (.cells #[.slice Au nu cu, .string (str [102]), .string (str [])] 48 (0, 0))) := Lib.hid ((hb10'.block _ lp).trans HX9.out)
  have lp10 := lt_of_block HX10.out
  obtain ⟨An, nn, cn, rfl⟩ : IsS nv := by obtain ⟨A, c, e, _⟩ := Tr.Strs.of_own hno; exact ⟨_, _, _, e⟩
  clear hno hb10 hb10'
  go_wp2_with fail
  refine (texts_lit HS10.out (strs_two w10 [97] [99])).mono ?_
  rintro e w11 ⟨rfl, hb11⟩
  have hb11' := hb11.trans ((below_new w11 (.cells #[.int .i64 1, .int .i64 0] 3)).mono hb11.size)
  have HU11 := Lib.hid (HU10.out.below hb11')
  have HI11 := Lib.hid (HI10.out.below hb11' (Nat.le_refl _))
  have HB11 := Lib.hid (HB10.out.trans (hb11'.mono HB10.out.size))
  have HX11 : Hid ((w11.alloc (.cells #[.int .i64 1, .int .i64 0] 3)).heap[w8.heap.size]? = some (.cells #[.slice Au nu cu, .string (str [102]), .string (str [])] 48 (0, 0))) := Lib.hid ((hb11'.block _ lp10).trans HX10.out)
  have lp11 := lt_of_block HX11.out
  clear hb11 hb11'
  go_wp2_with fail
  refine (ints_lit HI11.out (ints_two w11 1 0)).mono ?_
  rintro e w12 ⟨rfl, hb12⟩
  have HU12 := Lib.hid (HU11.out.below hb12)
  have HB12 := Lib.hid (HB11.out.trans (hb12.mono HB11.out.size))
  have hX := (hb12.block _ lp11).trans HX11.out
  have p0 : w12.cell? ⟨w8.heap.size, 0, none⟩ = some (.slice Au nu cu) := by simp [World.cell?, hX]
  have p1 : w12.cell? ⟨w8.heap.size, 1, none⟩ = some (.string (str [102])) := by simp [World.cell?, hX]
  have p2 : w12.cell? ⟨w8.heap.size, 2, none⟩ = some (.string (str [])) := by simp [World.cell?, hX]
  clear hb12 hX
  go_wp2_with fail
  refine (chk_lit HU12.out chk5).mono ?_
  rintro e w13 ⟨rfl, hb13⟩
  have HB13 := Lib.hid (HB12.out.trans (hb13.mono HB12.out.size))
  clear hb13
  go_wp2_with fail
  refine (chk_lit (us := []) (x := (0, 0)) (uns0 w13) rfl).mono ?_
  rintro e w14 ⟨rfl, hb14⟩
  have HB14 := Lib.hid (HB13.out.trans (hb14.mono HB13.out.size))
  clear hb14
  go_wp2
  go_ret
  exact ⟨rfl, HB14.out⟩
end Go.Proofs.Ytlhcajhgbkgjbaa.Ca

/- What two expressions that may be are joined to: whether it may be, and its operands. Conditions: none. -/
namespace Go.Proofs.Ytlhcajhgbkgjbaa.Tr
open Go.RowKit
def pairM (x : Lab) (a b : List Nd) : List Nd := a ++ b.map (onNd (a.length : Int)) ++ [mkL x [(a.length : Int) - 1, (a.length : Int) + (b.length : Int) - 1]]
theorem pair_len (x : Lab) (a b : List Nd) : (pairM x a b).length = a.length + b.length + 1 := by unfold pairM; simp; omega
theorem kids_on {e : List Nd} {i : Nat} {x : Nd} (h : Good e i x) (f : Nat) (hs : i + f ≤ 1000000000) : kidsM (onNd (f : Int) x) = (kidsM x).map (fun k => k + (f : Int)) ∧ onNd (f : Int) x = mkL x.lab ((kidsM x).map (fun k => k + (f : Int))) := by
  have e1 : onNd (f : Int) x = mkL x.lab ((kidsM x).map (fun k => k + (f : Int))) := by
    have h2 : onNd (f : Int) x = mkL x.lab ((kidsM x).map (onM (f : Int))) := by
      conv => lhs; rw [h.bare]
      rw [onNd_mk]
    rw [h2]
    congr 1
    apply List.map_congr_left
    intro k hk
    have := h.ahead k hk
    obtain ⟨j, rfl⟩ := Int.eq_ofNat_of_zero_le this.1
    rw [onM_nat _ _ (by omega)]; omega
  refine ⟨?_, e1⟩
  rw [e1]
  exact kids_mkL x.lab _ (by rw [List.length_map]; exact fits_kids x) (fun k hk => by
    rw [List.mem_map] at hk
    obtain ⟨j, hj, rfl⟩ := hk
    have := h.ahead j hj
    omega)
theorem pair_left (x : Lab) (a b : List Nd) {i : Nat} (hi : i < a.length) : (pairM x a b)[i]? = a[i]? := by
  unfold pairM; rw [List.append_assoc, List.getElem?_append_left hi]
theorem pair_mid (x : Lab) (a b : List Nd) {i : Nat} (hi : i < b.length) : (pairM x a b)[a.length + i]? = (b[i]?).map (onNd (a.length : Int)) := by
  unfold pairM
  rw [List.append_assoc, List.getElem?_append_right (by omega), Nat.add_sub_cancel_left, List.getElem?_append_left (by simpa using hi), List.getElem?_map]
theorem pair_last (x : Lab) (a b : List Nd) : (pairM x a b)[a.length + b.length]? = some (mkL x [(a.length : Int) - 1, (a.length : Int) + (b.length : Int) - 1]) := by
  unfold pairM; rw [List.getElem?_append_right (by simp)]; simp
theorem pair_cases (x : Lab) (a b : List Nd) {i : Nat} {n : Nd} (h : (pairM x a b)[i]? = some n) :
    (i < a.length ∧ a[i]? = some n) ∨ (∃ j m, i = a.length + j ∧ j < b.length ∧ b[j]? = some m ∧ n = onNd (a.length : Int) m) ∨ (i = a.length + b.length ∧ n = mkL x [(a.length : Int) - 1, (a.length : Int) + (b.length : Int) - 1]) := by
  have hl := (List.getElem?_eq_some_iff.1 h).1
  rw [pair_len] at hl
  by_cases h1 : i < a.length
  · exact .inl ⟨h1, by rw [pair_left x a b h1] at h; exact h⟩
  by_cases h2 : i < a.length + b.length
  · refine .inr (.inl ⟨i - a.length, b[i - a.length]'(by omega), by omega, by omega, List.getElem?_eq_getElem (by omega), ?_⟩)
    have := pair_mid x a b (i := i - a.length) (by omega)
    rw [show a.length + (i - a.length) = i by omega, h, List.getElem?_eq_getElem (by omega)] at this
    simpa using this
  · have : i = a.length + b.length := by omega
    subst this
    rw [pair_last] at h
    exact .inr (.inr ⟨rfl, by simpa using h.symm⟩)
theorem pair_opL (x : Lab) (a b : List Nd) {k : Int} (h0 : 0 ≤ k) (h1 : k < (a.length : Int)) : opAt (pairM x a b) k = opAt a k := by
  unfold opAt; rw [List.getD, List.getD, pair_left x a b (by omega)]
theorem pair_opR (x : Lab) (a b : List Nd) {k : Int} (h0 : 0 ≤ k) (h1 : k < (b.length : Int)) : opAt (pairM x a b) (k + (a.length : Int)) = opAt b k := by
  unfold opAt
  rw [List.getD, List.getD, show (k + (a.length : Int)).toNat = a.length + k.toNat by omega, pair_mid x a b (by omega)]
  cases h : b[k.toNat]? with
  | none => rw [List.getElem?_eq_none_iff] at h; omega
  | some m => rfl
theorem fits2 {x : Lab} (hbin : binaryB x.op = true) : fitsB x.op 2 = true ∧ x.op ≠ 27 ∧ x.op ≠ 28 := by
  have h : 6 ≤ x.op ∧ x.op ≤ 20 := by simpa [binaryB] using hbin
  have h27 : x.op ≠ 27 := by omega
  have h28 : x.op ≠ 28 := by omega
  have h26 : x.op ≠ 26 := by omega
  have hu : unaryB x.op = false := by
    unfold unaryB
    simp only [Bool.or_eq_false_iff, beq_eq_false_iff_ne]; omega
  exact ⟨by unfold fitsB; simp [h26, h27, h28, hu, hbin], h27, h28⟩
theorem pair_good {x : Lab} {a b : List Nd} (ha : May a) (hb : May b) (hx : plainB x = true) (hbin : binaryB x.op = true) {i : Nat} {n : Nd} (h : (pairM x a b)[i]? = some n) : Good (pairM x a b) i n := by
  have hla := ha.le
  have hlb := hb.le
  have hpa := ha.pos
  have hpb := hb.pos
  rcases pair_cases x a b h with ⟨h1, h2⟩ | ⟨j, m, rfl, hj, h2, rfl⟩ | ⟨rfl, rfl⟩
  · have g := ha.node i n h2
    refine ⟨g.plain, g.bare, g.ahead, ?_⟩
    rw [List.map_congr_left (g := opAt a) (fun k hk => pair_opL x a b (g.ahead k hk).1 (by have := (g.ahead k hk).2; omega))]
    exact g.args
  · have g := hb.node j m h2
    obtain ⟨k1, k2⟩ := kids_on g a.length (by omega)
    refine ⟨g.plain, by rw [k1]; exact k2, ?_, ?_⟩
    · rw [k1]
      intro k hk
      rw [List.mem_map] at hk
      obtain ⟨q, hq, rfl⟩ := hk
      have := g.ahead q hq
      omega
    · rw [k1, List.map_map]
      rw [List.map_congr_left (f := opAt (pairM x a b) ∘ fun k => k + (a.length : Int)) (g := opAt b) (fun k hk => pair_opR x a b (g.ahead k hk).1 (by have := (g.ahead k hk).2; omega))]
      exact g.args
  · obtain ⟨f2, f27, f28⟩ := fits2 hbin
    refine good_mk hx f2 (by intro k hk; simp at hk; omega) ?_
    simp only [List.map_cons, List.map_nil]
    have o1 : opAt (pairM x a b) ((a.length : Int) - 1) ≠ 28 := by
      rw [pair_opL x a b (by omega) (by omega)]
      have := ha.last
      unfold opAt
      rwa [show ((a.length : Int) - 1).toNat = a.length - 1 by omega]
    have o2 : opAt (pairM x a b) ((a.length : Int) + (b.length : Int) - 1) ≠ 28 := by
      rw [show (a.length : Int) + (b.length : Int) - 1 = ((b.length : Int) - 1) + (a.length : Int) by omega, pair_opR x a b (by omega) (by omega)]
      have := hb.last
      unfold opAt
      rwa [show ((b.length : Int) - 1).toNat = b.length - 1 by omega]
    have q1 : (opAt (pairM x a b) ((a.length : Int) - 1) == 28) = false := by rw [beq_eq_false_iff_ne]; exact o1
    have q2 : (opAt (pairM x a b) ((a.length : Int) + (b.length : Int) - 1) == 28) = false := by rw [beq_eq_false_iff_ne]; exact o2
    have q3 : (x.op == 27) = false := by rw [beq_eq_false_iff_ne]; exact f27
    have q4 : (x.op == 28) = false := by rw [beq_eq_false_iff_ne]; exact f28
    simp [argsL, q1, q2, q3, q4]
theorem pair_ahead {x : Lab} {a b : List Nd} (ha : May a) (hb : May b) (hx : plainB x = true) (hbin : binaryB x.op = true) : Ahead (pairM x a b) := fun i n hn => (pair_good ha hb hx hbin hn).ahead
theorem pair_treeR {x : Lab} {a b : List Nd} (ha : May a) (hb : May b) (hx : plainB x = true) (hbin : binaryB x.op = true) : ∀ i, i < b.length → tree (pairM x a b) (a.length + i) = tree b i := by
  have hla := ha.le
  have hlb := hb.le
  intro i
  induction i using Nat.strongRecOn with
  | ind i ih =>
    intro hi
    have hn := of_getD hi
    have hm : (pairM x a b)[a.length + i]? = some (onNd (a.length : Int) (b.getD i default)) := by rw [pair_mid x a b hi, hn]; rfl
    have g := hb.node i _ hn
    rw [tree_eq (pair_ahead ha hb hx hbin) hm, tree_eq hb.ahead hn, (kids_on g a.length (by omega)).1, List.map_map]
    congr 1
    apply List.map_congr_left
    intro k hk
    have hk2 := g.ahead k hk
    have := ih k.toNat (by omega) (by omega)
    rw [← this]
    show tree _ (k + (a.length : Int)).toNat = _
    congr 1; omega
theorem pair_treeL {x : Lab} {a b : List Nd} (ha : May a) (hb : May b) (hx : plainB x = true) (hbin : binaryB x.op = true) {i : Nat} (hi : i < a.length) : tree (pairM x a b) i = tree a i := by
  have h := ha.ahead
  unfold pairM; rw [List.append_assoc]; exact tree_append h hi
theorem pair_root {x : Lab} {a b : List Nd} (ha : May a) (hb : May b) (hx : plainB x = true) (hbin : binaryB x.op = true) : root (pairM x a b) = .l2 x (root a) (root b) := by
  have hpa := ha.pos
  have hpb := hb.pos
  obtain ⟨f2, f27, f28⟩ := fits2 hbin
  unfold root
  rw [pair_len, Nat.add_sub_cancel, tree_eq (pair_ahead ha hb hx hbin) (pair_last x a b), mkL_lab, kids_mkL x [_, _] f2 (by intro k hk; simp at hk; omega)]
  simp only [List.map_cons, List.map_nil, mkT]
  rw [show ((a.length : Int) - 1).toNat = a.length - 1 by omega, show ((a.length : Int) + (b.length : Int) - 1).toNat = a.length + (b.length - 1) by omega, pair_treeL ha hb hx hbin (by omega), pair_treeR ha hb hx hbin _ (by omega)]
end Go.Proofs.Ytlhcajhgbkgjbaa.Tr

/- What two expressions are joined to, and one under a Pre. Conditions: the expressions may be. -/
namespace Go.Proofs.Ytlhcajhgbkgjbaa.Ca
open Go.RowKit Go.Proofs.Ytlhcajhgbkgjbaa.Tr
theorem on_zero {e : List Nd} {i : Nat} {x : Nd} (h : Tr.Good e i x) (hi : i ≤ 1000000) : onNd 0 x = x := by
  have := (kids_on h 0 (by omega)).2
  rw [Int.natCast_zero] at this
  rw [this]
  conv => rhs; rw [h.bare]
  congr 1
  conv => rhs; rw [← List.map_id (kidsM x)]
  apply List.map_congr_left
  intro k _
  simp
theorem may_zero {e : List Nd} (h : May e) : e.map (onNd 0) = e := by
  conv => rhs; rw [← List.map_id e]
  apply List.map_congr_left
  intro x hx
  obtain ⟨i, hi⟩ := List.mem_iff_getElem?.1 hx
  have hl := h.le
  have := (List.getElem?_eq_some_iff.1 hi).1
  exact on_zero (h.node i x hi) (by omega)
theorem join_pair {a b : List Nd} (ha : May a) (hb : May b) (o : Int) (hbin : binaryB o = true) : joinM o 0 [] [a, b] = pairM ⟨o, 0, []⟩ a b := by
  obtain ⟨f2, f27, f28⟩ := fits2 (x := ⟨o, 0, []⟩) hbin
  simp only at f27 f28
  have pa := ha.pos
  have pb := hb.pos
  have ea : a.isEmpty = false := by cases a with
    | nil => simp at pa
    | cons _ _ => rfl
  have eb : b.isEmpty = false := by cases b with
    | nil => simp at pb
    | cons _ _ => rfl
  have hk : (kidsM (overM o 0 [] [])).length = 2 := by
    have hb' : 6 ≤ o ∧ o ≤ 20 := by simpa [binaryB] using hbin
    rw [kidsM_bin _ hbin]; rfl
  unfold joinM
  rw [show [a, b].any List.isEmpty = false by simp [ea, eb], if_neg (by simp), if_neg f28, if_neg f27, if_pos (by rw [hk]; rfl)]
  show (layStep (layStep ([], []) a) b).1 ++ [overM o 0 [] (layStep (layStep ([], []) a) b).2] = _
  unfold layStep behindM pairM
  simp only [List.length_nil, Int.natCast_zero, List.nil_append, may_zero ha, List.length_append, List.length_map]
  congr 1
  simp only [overM, mkL, f28, if_false]
  simp
theorem plain_bin {o : Int} (hbin : binaryB o = true) : plainB ⟨o, 0, []⟩ = true := by
  have h : 6 ≤ o ∧ o ≤ 20 := by simpa [binaryB] using hbin
  unfold plainB
  have h1 : o ≠ 1 := by omega
  have h2 : o ≠ 2 := by omega
  have h3 : o ≠ 3 := by omega
  have h25 : o ≠ 25 := by omega
  have h27 : o ≠ 27 := by omega
  simp [h1, h2, h3, h25, h27]; omega
def preL : Lab := ⟨21, 0, []⟩
def preM (e : List Nd) : List Nd := e ++ [mkL preL [(e.length : Int) - 1]]
theorem pre_len (e : List Nd) : (preM e).length = e.length + 1 := by simp [preM]
theorem pre_kids (e : List Nd) (h : 0 < e.length) : kidsM (mkL preL [(e.length : Int) - 1]) = [(e.length : Int) - 1] := kids_mkL _ _ (by simp [preL, fitsB, unaryB]) (by intro k hk; simp at hk; omega)
theorem join_pre {e : List Nd} (h : 0 < e.length) (h0 : e.map (onNd 0) = e) : joinM 21 0 [] [e] = preM e := by
  have ee : e.isEmpty = false := by cases e with
    | nil => simp at h
    | cons _ _ => rfl
  unfold joinM
  rw [show [e].any List.isEmpty = false by simp [ee], if_neg (by simp), if_neg (by decide), if_neg (by decide), if_pos (by rfl)]
  show (layStep ([], []) e).1 ++ [overM 21 0 [] (layStep ([], []) e).2] = _
  unfold layStep behindM preM
  simp only [List.length_nil, Int.natCast_zero, List.nil_append, h0]
  simp [overM, mkL, preL]
theorem pre_get {e : List Nd} {i : Nat} {n : Nd} (h : (preM e)[i]? = some n) : (i < e.length ∧ e[i]? = some n) ∨ (i = e.length ∧ n = mkL preL [(e.length : Int) - 1]) := by
  unfold preM at h
  by_cases hi : i < e.length
  · rw [List.getElem?_append_left hi] at h; exact .inl ⟨hi, h⟩
  · rw [List.getElem?_append_right (by omega)] at h
    have h1 : i - e.length = 0 := by
      have := (List.getElem?_eq_some_iff.1 h).1
      simp at this; omega
    rw [h1] at h
    simp at h
    exact .inr ⟨by omega, h.symm⟩
theorem pre_ahead {e : List Nd} (h : Ahead e) (hp : 0 < e.length) : Ahead (preM e) := fun i n hn k hk => by
  rcases pre_get hn with ⟨_, h1⟩ | ⟨rfl, rfl⟩
  · exact h i n h1 k hk
  · rw [pre_kids e hp] at hk; simp at hk; omega
theorem pre_root {e : List Nd} (h : Ahead e) (hp : 0 < e.length) : root (preM e) = .l1 preL (root e) := by
  have hl : (preM e)[e.length]? = some (mkL preL [(e.length : Int) - 1]) := by simp [preM]
  unfold root
  rw [pre_len, show e.length + 1 - 1 = e.length by omega, tree_eq (pre_ahead h hp) hl, pre_kids e hp]
  have e1 : ((e.length : Int) - 1).toNat = e.length - 1 := by omega
  simp only [List.map_cons, List.map_nil, e1, mkL_lab, mkT]
  unfold preM
  rw [tree_append h (by omega)]
end Go.Proofs.Ytlhcajhgbkgjbaa.Ca

