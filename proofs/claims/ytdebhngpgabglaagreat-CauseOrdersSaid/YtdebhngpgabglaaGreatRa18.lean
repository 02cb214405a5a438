/- The function live of the statements of layer cause: its sources, what they are. Conditions: none. -/
import Derived.Test.YtdebhngpgabglaaGreatRa08
import Derived.Test.YtdebhngpgabglaaGreatRa17
import Derived.Test.YtdebhngpgabglaaGreatKb24
import Derived.Test.YtdebhngpgabglaaGreatRa03
import Derived.Deep.Slices
set_option linter.unusedVariables false
set_option linter.unusedSimpArgs false
namespace Go.Proofs.YtdebhngpgabglaaGreat.Ca
open Go.ChangeShapes Go.WideShapes Go.ChangeAt Go.RowKit
open Go.Proofs.YtdebhngpgabglaaGreat.Ex Go.Proofs.YtdebhngpgabglaaGreat.Pg Go.Proofs.YtdebhngpgabglaaGreat.Rp
open Go.Proofs.YtdebhngpgabglaaGreat.Tr (str ret_bool ret_int Bytes Nd Nodes T Lab)
def s1 : Bytes := [97, 32, 43, 32, 112, 114, 101, 32, 98, 32, 43, 32, 102, 40, 99, 44, 32, 112, 114, 101, 118, 32, 100, 41, 32, 43, 32, 97]
def s2 : Bytes := [121]
def s3 : Bytes := [48, 32, 45, 62, 32, 112, 114, 101, 32, 120]
def s4 : Bytes := [120]
def s5 : Bytes := [110, 111, 100, 101, 32, 102, 40, 41, 32, 114, 101, 116, 117, 114, 110, 115, 40, 99, 58, 105, 110, 116, 41, 32, 108, 101, 116, 32, 99, 61, 99, 59, 32, 116, 101, 108, 32, 109, 97, 105, 110, 32, 102, 59]
def tV (c : UInt8) : T := .l0 ⟨3, 0, [c]⟩
def t1 : T := .l2 ⟨14, 0, []⟩ (.l2 ⟨14, 0, []⟩ (.l2 ⟨14, 0, []⟩ (tV 97) (.l1 ⟨21, 0, []⟩ (tV 98))) (.l1 ⟨27, 0, [102]⟩ (.l2 ⟨28, 0, []⟩ (.l1 ⟨28, 0, []⟩ (tV 99)) (.l1 ⟨24, 0, []⟩ (tV 100))))) (tV 97)
def t3 : T := .l2 ⟨19, 0, []⟩ (.l0 ⟨1, 0, []⟩) (.l1 ⟨21, 0, []⟩ (tV 120))
theorem read1 : readM s1 = (t1.flat 0, 0, 0) := by decide +kernel
theorem read2 : readM s2 = ((tV 121).flat 0, 0, 0) := by decide +kernel
theorem read3 : readM s3 = (t3.flat 0, 0, 0) := by decide +kernel
theorem read4 : readM s4 = ((tV 120).flat 0, 0, 0) := by decide +kernel
theorem needs_flat (t : T) (hok : t.okB = true) (hr : t.lab.op ≠ 28) (hs : t.size ≤ 5000) (hd : t.depth ≤ 40) : needsM (t.flat 0) = needT t := by
 unfold needsM; rw [if_pos (Tr.may_yes (Tr.may_flat t hok hr hs hd)), Tr.root_flat t hok]
theorem need1 : needsM (t1.flat 0) = [[97], [99]] := by rw [needs_flat t1 (by decide) (by decide) (by decide) (by decide)]; decide
theorem need2 : needsM ((tV 121).flat 0) = [[121]] := by rw [needs_flat _ (by decide) (by decide) (by decide) (by decide)]; decide
theorem need3 : needsM (t3.flat 0) = [] := by rw [needs_flat t3 (by decide) (by decide) (by decide) (by decide)]; decide
theorem need4 : needsM ((tV 120).flat 0) = [[120]] := by rw [needs_flat _ (by decide) (by decide) (by decide) (by decide)]; decide
theorem need5 : needsM ((tV 99).flat 0) = [[99]] := by rw [needs_flat _ (by decide) (by decide) (by decide) (by decide)]; decide
def l1 : List Eqn := [⟨[120], (tV 121).flat 0⟩, ⟨[121], t3.flat 0⟩]
def l2 : List Eqn := [⟨[120], (tV 121).flat 0⟩, ⟨[121], (tV 120).flat 0⟩]
def l5 : List Eqn := [⟨[99], (tV 99).flat 0⟩]
theorem ord1 : orderM (qsOf l1) = some [1, 0] := by
 unfold qsOf l1; simp only [List.map_cons, List.map_nil, need2, need3]; decide +kernel
theorem ord2 : orderM (qsOf l2) = none := by
 unfold qsOf l2; simp only [List.map_cons, List.map_nil, need2, need4]; decide +kernel
theorem ord5 : orderM (qsOf l5) = none := by
 unfold qsOf l5; simp only [List.map_cons, List.map_nil, need5]; decide +kernel
theorem chk5 : checkM 0 [l5] = (12, 0) := by unfold checkM; rw [if_pos ord5]; rfl
def rd5 : Rd := ⟨(Lx.lexM s5).toks, 0, 0, 0, 0⟩
def a1 := unF rowMax [] rd5
def a2 : Rd := (needQ wMain a1.2).2
def a3 := nameP a2
def a4 : Rd := (needQ sSemi a3.2).2
def a5 := takeQ wFallback a4
def u5 : Unt := ⟨false, [102], [], ⟨[99], 2⟩, [], l5, []⟩
theorem k5a : a1.1 = [u5] := by decide +kernel
theorem k5b : a3.1 = [102] ∧ a5.1 = false ∧ a5.2.code = 0 ∧ ¬ a5.2.next < a5.2.l.length := by decide +kernel
theorem k5n : (Lx.lexM s5).toks.length = 19 := by decide +kernel
theorem lex5 : Lx.lexM s5 = .ok (Lx.lexM s5).toks := by
 cases h : Lx.lexM s5 with
 | ok l => rfl
 | bad c a => have := k5n; rw [h] at this; cases this
theorem read_at {S : ByteArray} {s : Bytes} {x : List Nd × Int × Int} {w : World} (hS : S = str s) (t : readM s = x) (hn : s.length ≤ 1000000) (hl : ∀ l, Lx.lexM s = .ok l → l.length ≤ 20000) : Calls Tryz.prog 15 #[.string S] w (ReadTo w x) := by
 subst hS
 have h := Rf.rread_any (str s) w (by rw [Tr.str_size]; unfold maxLen; omega) (by rw [Tr.str_toList]; exact hl)
 rw [Tr.str_toList, t] at h; exact h
theorem short_lex {s : Bytes} (h : (Lx.lexM s).toks.length ≤ 20000) : ∀ l, Lx.lexM s = .ok l → l.length ≤ 20000 := fun l hl => by rw [hl] at h; exact h
theorem sh1 : (Lx.lexM s1).toks.length ≤ 20000 := by decide +kernel
theorem sh2 : (Lx.lexM s2).toks.length ≤ 20000 := by decide +kernel
theorem sh3 : (Lx.lexM s3).toks.length ≤ 20000 := by decide +kernel
theorem sh4 : (Lx.lexM s4).toks.length ≤ 20000 := by decide +kernel
theorem pair_eta {α β : Type} (x : α × β) : x = (x.1, x.2) := rfl
theorem g50 : unF rowMax [] ⟨(Lx.lexM s5).toks, 0, 0, 0, 0⟩ = (a1.1, a1.2) := pair_eta a1
theorem g51 : (needQ wMain a1.2).2 = a2 := by unfold a2; rfl
theorem g52 : nameP a2 = (a3.1, a3.2) := pair_eta a3
theorem g53 : (needQ sSemi a3.2).2 = a4 := by unfold a4; rfl
theorem g54 : takeQ wFallback a4 = (false, a5.2) := (pair_eta a5).trans (by rw [k5b.2.1])
theorem parse5 (w : World) (S : ByteArray) (hS : S = str s5) : Calls Tryz.prog 17 #[.string S] w (ParG w (⟨[u5], [102], []⟩, 0, 0)) := by
 subst hS
 have hl : Lx.lexM (str s5).toList = .ok (Lx.lexM s5).toks := by rw [Tr.str_toList]; exact lex5
 have h := parse_ok0 (str s5) w (by rw [Tr.str_size]; exact Nat.le_trans (show s5.length ≤ 1000 by decide) (by unfold maxLen; omega)) (Lx.lexM s5).toks hl (by rw [k5n]; omega) a1.1 a3.1 [] a1.2 a2 a3.2 a4 a5.2 a5.2 a5.2 g50 g51 g52 g53 g54 rfl k5b.2.2.1 k5b.2.2.2
 rw [k5a, k5b.1] at h
 exact h
theorem short1 (t : T) (h : ∀ x ∈ t.flat 0, x.name.length ≤ 1000) : Tr.Short (t.flat 0) := fun x hx => Nat.le_trans (h x hx) (by unfold maxLen; omega)
def EqPost (w : World) (N : ByteArray) (l : List Nd) (e : Ending) (w' : World) : Prop := ∃ A n c, e = .returned (.agg #[.string N, .slice A n c]) ∧ PtW w' (.slice A n c, ⟨l, 0, 0⟩) ∧ Below w.heap.size w w'
set_option maxRecDepth 100000 in
set_option maxHeartbeats 4000000 in
theorem eq_any (N S : ByteArray) (s : Bytes) (l : List Nd) (w : World) (hS : S = str s) (t : readM s = (l, 0, 0)) (hn : s.length ≤ 1000000) (hl : ∀ l, Lx.lexM s = .ok l → l.length ≤ 20000) : Calls Tryz.prog 16 #[.string N, .string S] w (EqPost w N l) := by
 have HL := Lib.hid hl
 have HT := Lib.hid t
 have HS := Lib.hid hS
 have HN := Lib.hid hn
 obtain ⟨wR, hwR⟩ : ∃ W, w.alloc (.cells #[.string ⟨#[]⟩, .slice none 0 0] 52) = W := ⟨_, rfl⟩
 have hbR : Below w.heap.size w wR := hwR ▸ below_new w _
 have hR : wR.heap[w.heap.size]? = some (.cells #[.string ⟨#[]⟩, .slice none 0 0] 52 (0, 0)) := hwR ▸ heap_alloc_new w _
 have hRl := lt_of_block hR
 have HWR := Lib.hid hwR
 have HBR := Lib.hid hbR
 have HR := Lib.hid hR
 clear hl t hS hn hwR hbR hR
 go_enter Tryz.func16, Tryz.ntmps16
 go_wp2_with fail
 rw [HWR.out]
 refine (read_at HS.out HT.out HN.out HL.out).mono ?_
 rintro e w1 ⟨v1, rfl, hp1, hb1⟩
 have HP1 := Lib.hid hp1
 have HB1 := Lib.hid (HBR.out.trans (hb1.mono HBR.out.size))
 obtain ⟨A1, n1, c1, rfl, y1, y2⟩ := pt_form hp1
 have hR1 : w1.heap[w.heap.size]? = some (.cells #[.string ⟨#[]⟩, .slice none 0 0] 52 (0, 0)) := (hb1.block _ hRl).trans HR.out
 have r0 : w1.cell? ⟨w.heap.size, 0, none⟩ = some (.string ⟨#[]⟩) := by simp [World.cell?, hR1]
 have r1 : w1.cell? ⟨w.heap.size, 1, none⟩ = some (.slice none 0 0) := by simp [World.cell?, hR1]
 have f0 : w1.frozen? ⟨w.heap.size, 0, none⟩ = false := by simp [World.frozen?, hR1]
 have f1 : w1.frozen? ⟨w.heap.size, 1, none⟩ = false := by simp [World.frozen?, hR1]
 have hRl1 : w.heap.size < w1.heap.size := lt_of_block hR1
 have hne : w1.heap.size ≠ w.heap.size := by omega
 have HR1 := Lib.hid hR1
 clear hp1 hb1 hR1
 go_wp2
 obtain ⟨W, hW⟩ : ∃ W, W = ((w1.setCell ⟨w.heap.size, 0, none⟩ (.string N)).setCell ⟨w.heap.size, 1, none⟩ (.slice A1 n1 c1)).alloc (.cells #[.int .i64 0, .int .i64 0] 46) := ⟨_, rfl⟩
 rw [← hW]
 have Z1 := set2 HR1.out (.string N) (.slice A1 n1 c1)
 have Z : W.heap[w.heap.size]? = some (.cells #[.string N, .slice A1 n1 c1] 52 (0, 0)) := by rw [hW, Below.heap_alloc _ _ _ (by simpa using hRl1)]; exact Z1
 have z0 : W.cell? ⟨w.heap.size, 0, none⟩ = some (.string N) := by simp [World.cell?, Z]
 have z1 : W.cell? ⟨w.heap.size, 1, none⟩ = some (.slice A1 n1 c1) := by simp [World.cell?, Z]
 have HE : Hid (EqPost w N l (.returned (.agg #[.string N, .slice A1 n1 c1])) W) := Lib.hid ⟨A1, n1, c1, rfl, (by
  have k : PtW ((w1.setCell ⟨w.heap.size, 0, none⟩ (.string N)).setCell ⟨w.heap.size, 1, none⟩ (.slice A1 n1 c1)) (.slice A1 n1 c1, ⟨l, 0, 0⟩) := HP1.out.keep (by simp) (fun g ⟨cs, f, hc⟩ => by
   have hg : g ≠ w.heap.size := fun e => by rw [e, HR1.out] at hc; simp at hc
   rw [Below.heap_setCell _ _ _ _ hg, Below.heap_setCell _ _ _ _ hg])
  rw [hW]; exact k.below (below_new _ _)), by
  rw [hW]; exact ((HB1.out.setCell (p := ⟨w.heap.size, 0, none⟩) (Nat.le_refl _) _).setCell (p := ⟨w.heap.size, 1, none⟩) (Nat.le_refl _) _).alloc (by simpa using Nat.le_of_lt hRl1) _⟩
 clear r0 r1 f0 f1 Z1 Z hW
 exact bodyPost_ret (v := .agg #[.string N, .slice A1 n1 c1]) (by simp [results, Tryz.results16, go_sem, z0, z1]) rfl HE.out
theorem eqs_two {w : World} {N1 N2 : Bytes} {A1 A2 : Option Addr} {n1 c1 n2 c2 : Nat} {e1 e2 : List Nd} (h1 : PtW w (.slice A1 n1 c1, ⟨e1, 0, 0⟩)) (h2 : PtW w (.slice A2 n2 c2, ⟨e2, 0, 0⟩)) (s1 : N1.length ≤ 1000) (s2 : N2.length ≤ 1000) (k1 : Tr.Short e1) (k2 : Tr.Short e2) :
 EqsAt (w.alloc (.cells #[.string (str N1), .slice A1 n1 c1, .string (str N2), .slice A2 n2 c2] 52)) (.slice (some ⟨w.heap.size, 0, none⟩) 2 2) [⟨N1, e1⟩, ⟨N2, e2⟩] := by
 have hb := below_new w (.cells #[.string (str N1), .slice A1 n1 c1, .string (str N2), .slice A2 n2 c2] 52)
 have hc := heap_alloc_new w (.cells #[.string (str N1), .slice A1 n1 c1, .string (str N2), .slice A2 n2 c2] 52)
 have cc : ∀ k, (w.alloc (.cells #[.string (str N1), .slice A1 n1 c1, .string (str N2), .slice A2 n2 c2] 52)).cell? ⟨w.heap.size, k, none⟩ = (#[Value.string (str N1), .slice A1 n1 c1, .string (str N2), .slice A2 n2 c2])[k]? := fun k => by unfold World.cell?; rw [hc]; rfl
 refine ⟨some ⟨w.heap.size, 0, none⟩, 2, rfl, by simp, by unfold maxLen; omega, fun i q hi => ?_⟩
 match i, hi with
 | 0, hi =>
  simp at hi; subst hi
  exact ⟨w.heap.size, 0, _, rfl, lt_of_block hc, (cc _).trans rfl, (cc _).trans rfl, (h1.below hb).1, by unfold maxLen; simp only; omega, k1⟩
 | 1, hi =>
  simp at hi; subst hi
  exact ⟨w.heap.size, 0, _, rfl, lt_of_block hc, (cc _).trans rfl, (cc _).trans rfl, (h2.below hb).1, by unfold maxLen; simp only; omega, k2⟩
end Go.Proofs.YtdebhngpgabglaaGreat.Ca
/- The function live of the statements of layer cause answers true and leaves what was there as it was. Conditions: none. -/
namespace Go.Proofs.YtdebhngpgabglaaGreat.Ca
open Go.ChangeShapes Go.WideShapes Go.ChangeAt Go.RowKit
open Go.Proofs.YtdebhngpgabglaaGreat.Ex Go.Proofs.YtdebhngpgabglaaGreat.Pg Go.Proofs.YtdebhngpgabglaaGreat.Rp
open Go.Proofs.YtdebhngpgabglaaGreat.Tr (str ret_bool ret_int Bytes Nd Nodes T Lab)
attribute [local go_sem ↓] Lx.eql_fault Lx.guard_fault
theorem shV (c : UInt8) : Tr.Short ((tV c).flat 0) := short1 _ (fun x hx => by simp only [tV, T.flat, List.mem_singleton] at hx; subst hx; rw [mkL_name]; simp)
theorem sh_1 : Tr.Short (t1.flat 0) := short1 _ (by decide)
theorem sh_3 : Tr.Short (t3.flat 0) := short1 _ (by decide)
theorem ord_lit {v : Value} {l : List Eqn} {o : Option (List Nat)} {w : World} (hv : EqsAt w v l) (hn : l.length ≤ 4000) (h : orderM (qsOf l) = o) : Calls Tryz.prog 10 #[v] w (OrdPost w o) := by subst h; exact order_any v l w hv hn
theorem chk_lit {us : List (List Eqn)} {uv : Value} {S T : ByteArray} {w : World} {x : Int × Int} (hu : UnsAt w uv us) (h : checkM 0 us = x) : Calls Tryz.prog 13 #[.agg #[uv, .string S, .string T]] w (ChkPost w x) := by subst h; exact check_any us uv S T w hu
theorem need_lit {v : Value} {e : List Nd} {l : List Bytes} {w : World} (hv : Nodes w v e) (hs : Tr.Short e) (h : needsM e = l) : Calls Tryz.prog 7 #[v] w (StrsPost w l) := by subst h; exact needs_any v e w hv hs
theorem texts_lit {u v : Value} {l : List Bytes} {w : World} (hu : Tr.Strs w u l) (hv : Tr.Strs w v l) : Calls Tryz.prog 6 #[u, v] w (fun e w' => e = .returned (.bool true) ∧ Below w.heap.size w w') := by
 refine (Tr.texts_any u v l l w hu hv).mono ?_
 rintro e w' ⟨rfl, n, rfl⟩
 exact ⟨by rw [decide_eq_true rfl], Tr.below_drewN (Below.refl _ _) n⟩
theorem ints_lit {u v : Value} {l : List Int} {w : World} (hu : Tr.Ints w u l) (hv : Tr.Ints w v l) : Calls Tryz.prog 12 #[u, v] w (fun e w' => e = .returned (.bool true) ∧ Below w.heap.size w w') := by
 refine (Tr.ints_any u v l l w hu hv).mono ?_
 rintro e w' ⟨rfl, n, rfl⟩
 exact ⟨by rw [decide_eq_true rfl], Tr.below_drewN (Below.refl _ _) n⟩
theorem strs_two (w : World) (a b : Bytes) : Tr.Strs (w.alloc (.cells #[.string (str a), .string (str b)] 9)) (.slice (some ⟨w.heap.size, 0, none⟩) 2 2) [a, b] := by
 have hc := heap_alloc_new w (.cells #[.string (str a), .string (str b)] 9)
 have cc : ∀ k, (w.alloc (.cells #[.string (str a), .string (str b)] 9)).cell? ⟨w.heap.size, k, none⟩ = (#[Value.string (str a), .string (str b)])[k]? := fun k => by unfold World.cell?; rw [hc]; rfl
 refine ⟨some ⟨w.heap.size, 0, none⟩, 2, rfl, by simp, by unfold maxLen; omega, fun i q hi => ?_⟩
 match i, hi with
 | 0, hi => simp at hi; subst hi; exact ⟨w.heap.size, 0, rfl, lt_of_block hc, (cc _).trans rfl⟩
 | 1, hi => simp at hi; subst hi; exact ⟨w.heap.size, 0, rfl, lt_of_block hc, (cc _).trans rfl⟩
theorem ints_two (w : World) (a b : Int) : Tr.Ints (w.alloc (.cells #[.int .i64 a, .int .i64 b] 3)) (.slice (some ⟨w.heap.size, 0, none⟩) 2 2) [a, b] := by
 have hc := heap_alloc_new w (.cells #[.int .i64 a, .int .i64 b] 3)
 have cc : ∀ k, (w.alloc (.cells #[.int .i64 a, .int .i64 b] 3)).cell? ⟨w.heap.size, k, none⟩ = (#[Value.int .i64 a, .int .i64 b])[k]? := fun k => by unfold World.cell?; rw [hc]; rfl
 refine ⟨some ⟨w.heap.size, 0, none⟩, 2, rfl, by simp, by unfold maxLen; omega, fun i q hi => ?_⟩
 match i, hi with
 | 0, hi => simp at hi; subst hi; exact ⟨w.heap.size, 0, rfl, lt_of_block hc, (cc _).trans rfl⟩
 | 1, hi => simp at hi; subst hi; exact ⟨w.heap.size, 0, rfl, lt_of_block hc, (cc _).trans rfl⟩
theorem uns5 {w : World} {v : Value} (h : RowR 40 8 UntV w [u5] v) : UnsAt w v [l5] := UnsAt.of_rowR h (fun u hu => by
 simp only [List.mem_singleton] at hu
 subst hu
 refine ⟨by decide, fun q hq => ?_⟩
 simp only [u5, l5, List.mem_singleton] at hq
 subst hq
 exact ⟨by unfold maxLen; simp, shV 99⟩)
theorem uns0 (w : World) : UnsAt w (.slice none 0 0) [] := ⟨none, 0, rfl, by simp, by unfold maxLen; omega, fun i u h => by simp at h⟩
theorem two_new2 (w : World) (o o' : Obj) : Below w.heap.size w ((w.alloc o).alloc o') ∧ ((w.alloc o).alloc o').heap[w.heap.size]? = some o := ⟨((Below.refl _ _).alloc (Nat.le_refl _) _).alloc (by simp) _, by rw [Below.heap_alloc _ _ _ (by simp)]; exact heap_alloc_new w o⟩
theorem fault_same (a : Int) : Lx.faultB a a 0 0 = true := by unfold Lx.faultB; simp
set_option maxRecDepth 100000 in
set_option maxHeartbeats 8000000 in
theorem live_any (w : World) : Calls Tryz.prog 5 #[] w (fun e w' => e = .returned (.bool true) ∧ Below w.heap.size w w') := by
 have hf12 := fault_same 12
 have hf0 := fault_same 0
 go_enter Tryz.func5, Tryz.ntmps5
 go_wp2_with fail
 refine (read_at (s := s1) rfl read1 (by decide) (short_lex sh1)).mono ?_
 rintro e w1 ⟨v1, rfl, hp1, hb1⟩
 obtain ⟨wa, hwa⟩ : ∃ W, w1.alloc (.cells #[.int .i64 0, .int .i64 0] 46) = W := ⟨_, rfl⟩
 have hba : Below w1.heap.size w1 wa := hwa ▸ below_new w1 _
 have HP1 := Lib.hid (hp1.below hba)
 have HB1 := Lib.hid (hb1.trans (hba.mono hb1.size))
 obtain ⟨A1, n1, c1, rfl, y1, y2⟩ := pt_form hp1
 have HWA := Lib.hid hwa
 clear hp1 hb1 hba hwa
 go_wp2_with fail
 rw [HWA.out]
 refine (eq_any _ _ s2 _ wa rfl read2 (by decide) (short_lex sh2)).mono ?_
 rintro e w2 ⟨A2, n2, c2, rfl, hp2, hb2⟩
 have HP2 := Lib.hid hp2
 have HP12 := Lib.hid (HP1.out.below hb2)
 have HB2 := Lib.hid (HB1.out.trans (hb2.mono HB1.out.size))
 clear hp2 hb2
 go_wp2_with fail
 refine (eq_any _ _ s3 _ w2 rfl read3 (by decide) (short_lex sh3)).mono ?_
 rintro e w3 ⟨A3, n3, c3, rfl, hp3, hb3⟩
 have HES := Lib.hid (eqs_two (N1 := [120]) (N2 := [121]) (HP2.out.below hb3) hp3 (by decide) (by decide) (shV 121) sh_3)
 have HP13 := Lib.hid (HP12.out.below (hb3.trans ((below_new w3 (.cells #[.string (str [120]), .slice A2 n2 c2, .string (str [121]), .slice A3 n3 c3] 52)).mono hb3.size)))
 have HB3 := Lib.hid (HB2.out.trans ((hb3.trans ((below_new w3 (.cells #[.string (str [120]), .slice A2 n2 c2, .string (str [121]), .slice A3 n3 c3] 52)).mono hb3.size)).mono HB2.out.size))
 clear hp3 hb3
 go_wp2_with fail
 refine (ord_lit HES.out (by decide) ord1).mono ?_
 rintro e w4 ⟨hb4, v4, rfl, ho4⟩
 have HI4 := Lib.hid (Tr.Ints.of_own (l := natI [1, 0]) ho4)
 have HP14 := Lib.hid (HP13.out.below hb4)
 have HB4 := Lib.hid (HB3.out.trans (hb4.mono HB3.out.size))
 obtain ⟨A4, n4, c4, rfl⟩ : IsS v4 := by obtain ⟨A, c, e, _⟩ := HI4.out; exact ⟨_, _, _, e⟩
 clear hb4 ho4
 go_wp2_with fail
 refine (eq_any _ _ s2 _ w4 rfl read2 (by decide) (short_lex sh2)).mono ?_
 rintro e w5 ⟨A5, n5, c5, rfl, hp5, hb5⟩
 have HP5 := Lib.hid hp5
 have HB5 := Lib.hid (HB4.out.trans (hb5.mono HB4.out.size))
 have HI5 := Lib.hid (HI4.out.below hb5 (Nat.le_refl _))
 have HP15 := Lib.hid (HP14.out.below hb5)
 clear hp5 hb5
 go_wp2_with fail
 refine (eq_any _ _ s4 _ w5 rfl read4 (by decide) (short_lex sh4)).mono ?_
 rintro e w6 ⟨A6, n6, c6, rfl, hp6, hb6⟩
 have HES2 := Lib.hid (eqs_two (N1 := [120]) (N2 := [121]) (HP5.out.below hb6) hp6 (by decide) (by decide) (shV 121) (shV 120))
 have hb6' := hb6.trans ((below_new w6 (.cells #[.string (str [120]), .slice A5 n5 c5, .string (str [121]), .slice A6 n6 c6] 52)).mono hb6.size)
 have HP16 := Lib.hid (HP15.out.below hb6')
 have HI6 := Lib.hid (HI5.out.below hb6' (Nat.le_refl _))
 have HB6 := Lib.hid (HB5.out.trans (hb6'.mono HB5.out.size))
 clear hp6 hb6 hb6'
 go_wp2_with fail
 refine (ord_lit HES2.out (by decide) ord2).mono ?_
 rintro e w7 ⟨hb7, he7⟩
 have he7 : e = .returned (.tuple #[.slice none 0 0, .int .i64 12]) := he7
 subst he7
 have HP17 := Lib.hid (HP16.out.below hb7)
 have HI7 := Lib.hid (HI6.out.below hb7 (Nat.le_refl _))
 have HB7 := Lib.hid (HB6.out.trans (hb7.mono HB6.out.size))
 clear hb7
 go_wp2_with fail
 refine (parse5 _ _ rfl).mono ?_
 rintro e w8 ⟨uv, rfl, hu, hb8⟩
 have HU8 := Lib.hid hu
 have HP18 := Lib.hid (HP17.out.below hb8)
 have HI8 := Lib.hid (HI7.out.below hb8 (Nat.le_refl _))
 have HB8 := Lib.hid (HB7.out.trans (hb8.mono HB7.out.size))
 obtain ⟨Au, nu, cu, rfl⟩ : IsS uv := rowR_form hu
 have N9 := two_new2 w8 (.cells #[.slice Au nu cu, .string (str [102]), .string (str [])] 43) (.cells #[.int .i64 0, .int .i64 0] 46)
 obtain ⟨w9, hw9⟩ : ∃ W, (w8.alloc (.cells #[.slice Au nu cu, .string (str [102]), .string (str [])] 43)).alloc (.cells #[.int .i64 0, .int .i64 0] 46) = W := ⟨_, rfl⟩
 rw [hw9] at N9
 have HU9 := Lib.hid ((uns5 HU8.out).below N9.1)
 have HP19 := Lib.hid (HP18.out.below N9.1)
 have HI9 := Lib.hid (HI8.out.below N9.1 (Nat.le_refl _))
 have HB9 := Lib.hid (HB8.out.trans (N9.1.mono HB8.out.size))
 have HX9 := Lib.hid N9.2
 have HW9 := Lib.hid hw9
 have lp := lt_of_block N9.2
 clear hu hb8 N9 hw9
 go_wp2_with fail
 rw [HW9.out]
 refine (need_lit HP19.out.1 sh_1 need1).mono ?_
 rintro e w10 ⟨nv, rfl, hno, hb10⟩
 have HS10 := Lib.hid ((Tr.Strs.of_own hno).below (below_new w10 (.cells #[.string (str [97]), .string (str [99])] 9)) (Nat.le_refl _))
 have hb10' := hb10.trans ((below_new w10 (.cells #[.string (str [97]), .string (str [99])] 9)).mono hb10.size)
 have HU10 := Lib.hid (HU9.out.below hb10')
 have HI10 := Lib.hid (HI9.out.below hb10' (Nat.le_refl _))
 have HB10 := Lib.hid (HB9.out.trans (hb10'.mono HB9.out.size))
 have HX10 : Hid ((w10.alloc (.cells #[.string (str [97]), .string (str [99])] 9)).heap[w8.heap.size]? = some (.cells #[.slice Au nu cu, .string (str [102]), .string (str [])] 43 (0, 0))) := Lib.hid ((hb10'.block _ lp).trans HX9.out)
 have lp10 := lt_of_block HX10.out
 obtain ⟨An, nn, cn, rfl⟩ : IsS nv := by obtain ⟨A, c, e, _⟩ := Tr.Strs.of_own hno; exact ⟨_, _, _, e⟩
 clear hno hb10 hb10'
 go_wp2_with fail
 refine (texts_lit HS10.out (strs_two w10 [97] [99])).mono ?_
 rintro e w11 ⟨rfl, hb11⟩
 have hb11' := hb11.trans ((below_new w11 (.cells #[.int .i64 1, .int .i64 0] 3)).mono hb11.size)
 have HU11 := Lib.hid (HU10.out.below hb11')
 have HI11 := Lib.hid (HI10.out.below hb11' (Nat.le_refl _))
 have HB11 := Lib.hid (HB10.out.trans (hb11'.mono HB10.out.size))
 have HX11 : Hid ((w11.alloc (.cells #[.int .i64 1, .int .i64 0] 3)).heap[w8.heap.size]? = some (.cells #[.slice Au nu cu, .string (str [102]), .string (str [])] 43 (0, 0))) := Lib.hid ((hb11'.block _ lp10).trans HX10.out)
 have lp11 := lt_of_block HX11.out
 clear hb11 hb11'
 go_wp2_with fail
 refine (ints_lit HI11.out (ints_two w11 1 0)).mono ?_
 rintro e w12 ⟨rfl, hb12⟩
 have HU12 := Lib.hid (HU11.out.below hb12)
 have HB12 := Lib.hid (HB11.out.trans (hb12.mono HB11.out.size))
 have hX := (hb12.block _ lp11).trans HX11.out
 have p0 : w12.cell? ⟨w8.heap.size, 0, none⟩ = some (.slice Au nu cu) := by simp [World.cell?, hX]
 have p1 : w12.cell? ⟨w8.heap.size, 1, none⟩ = some (.string (str [102])) := by simp [World.cell?, hX]
 have p2 : w12.cell? ⟨w8.heap.size, 2, none⟩ = some (.string (str [])) := by simp [World.cell?, hX]
 clear hb12 hX
 go_wp2_with fail
 refine (chk_lit HU12.out chk5).mono ?_
 rintro e w13 ⟨rfl, hb13⟩
 have HB13 := Lib.hid (HB12.out.trans (hb13.mono HB12.out.size))
 clear hb13
 go_wp2_with fail
 refine (chk_lit (us := []) (x := (0, 0)) (uns0 w13) rfl).mono ?_
 rintro e w14 ⟨rfl, hb14⟩
 have HB14 := Lib.hid (HB13.out.trans (hb14.mono HB13.out.size))
 clear hb14
 go_wp2
 go_ret
 exact ⟨rfl, HB14.out⟩
end Go.Proofs.YtdebhngpgabglaaGreat.Ca
/- The function few of the statements of layer cause. Conditions: the slice is read as equations. -/
namespace Go.Proofs.YtdebhngpgabglaaGreat.Ca
open Go.ChangeShapes Go.WideShapes Go.ChangeAt Go.RowKit Go.Proofs.YtdebhngpgabglaaGreat.Tr
open Go.Proofs.YtdebhngpgabglaaGreat.Pg (Eqn)
def FewPost (w : World) (l : List Eqn) (e : Ending) (w' : World) : Prop := ∃ b : Bool, e = .returned (.bool b) ∧ (b = true → l.length ≤ 40) ∧ w = w'
set_option maxRecDepth 100000 in
set_option maxHeartbeats 4000000 in
theorem few_any (v : Value) (l : List Eqn) (w : World) (hv : EqsAt w v l) : Calls Tryz.prog 9 #[v] w (FewPost w l) := by
 have HV := Lib.hid hv
 obtain ⟨A, c, rfl, h1, h2, -⟩ := hv
 unfold maxLen at h2
 by_cases h40 : 40 < l.length
 · have hd : decide ((40 : Int) < (l.length : Int)) = true := decide_eq_true (by omega)
   go_enter Tryz.func9, Tryz.ntmps9
   go_wp2
   go_ret
   exact ⟨false, rfl, (fun h => by cases h), rfl⟩
 have hd : decide ((40 : Int) < (l.length : Int)) = false := decide_eq_false (by omega)
 go_enter Tryz.func9, Tryz.ntmps9
 go_wp2
 go_loopw [3] (fun vi wr => ∃ k : Nat, k ≤ l.length ∧ vi = .int .i64 (k : Int) ∧ wr = w) (fun vi _ => l.length - (intOf vi).toNat)
 case atStart => exact ⟨0, Nat.zero_le _, rfl, rfl⟩
 case round =>
  obtain ⟨k, hk, rfl, rfl⟩ := hrel
  by_cases hlt : k < l.length
  · obtain ⟨q, hq⟩ : ∃ q, l[k]? = some q := ⟨_, List.getElem?_eq_getElem hlt⟩
    obtain ⟨gq, oq, ev, rfl, g1, g2, g3, g4, g5, g6⟩ := eqs_at HV.out hq
    obtain ⟨Ae, ce, rfl, z1, z2, -⟩ := g4
    unfold maxLen at z2 g5
    clear hq g6
    by_cases he : 100 < q.e.length
    · have hd2 : decide ((100 : Int) < (q.e.length : Int)) = true := decide_eq_true (by omega)
      go_wp2
      go_ret
      exact ⟨false, rfl, (fun h => by cases h), rfl⟩
    have hd2 : decide ((100 : Int) < (q.e.length : Int)) = false := decide_eq_false (by omega)
    have hsz : (str q.name).size = q.name.length := str_size _
    by_cases hn : 100 < q.name.length
    · have hd3 : decide ((100 : Int) < (q.name.length : Int)) = true := decide_eq_true (by omega)
      go_wp2
      go_ret
      exact ⟨false, rfl, (fun h => by cases h), rfl⟩
    have hd3 : decide ((100 : Int) < (q.name.length : Int)) = false := decide_eq_false (by omega)
    go_wp2
    exact ⟨⟨k + 1, by omega, by go_num, by first | rfl | trivial⟩, by simp [intOf]; omega⟩
  · go_wp2
    go_ret
    exact ⟨true, rfl, fun _ => by omega, rfl⟩
section
set_option maxRecDepth 100000
variable {H : Type} {enc : TypeId × Value → H} {w : World} {base : Nat} {spare : Nat → Bool} {held : Bool}
theorem open_eqs {r : Reach} {b0 : Nat} {v : Value} {d : DataW H} {p : List MemPlace} (hv : Value.okWide Tryz.prog w r b0 29 v) (h : DataW.Trod enc Tryz.prog w base spare held 29 v d p) : ∃ l, Op.RowN 2 Op.EqnN w l v := by
 obtain ⟨a0, len, cap, rfl⟩ := okWide_slice Tryz.underlying29 hv
 obtain ⟨fuel, hf⟩ := h
 obtain ⟨u, l, hcs, h1⟩ := Op.trod_row (R := Op.EqnN) Tryz.underlying29 Op.cells52 (by omega) Op.eqn_cells hf
 simp [Value.cells] at hcs
 subst hcs
 exact ⟨l, h1⟩
end
end Go.Proofs.YtdebhngpgabglaaGreat.Ca
