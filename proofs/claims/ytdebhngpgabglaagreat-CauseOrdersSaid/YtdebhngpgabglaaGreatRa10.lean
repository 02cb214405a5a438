/- Contracts of the document's reader of programs: what Parse tells. Conditions: a reader lies in memory. -/
import Derived.Test.YtdebhngpgabglaaGreatRa09
import Derived.Test.YtdebhngpgabglaaGreatKb17
import Derived.Test.YtdebhngpgabglaaGreatKb23
import Derived.Test.YtdebhngpgabglaaGreatKb22
set_option linter.unusedVariables false
set_option linter.unusedSimpArgs false
namespace Go.Proofs.YtdebhngpgabglaaGreat.Rp
open Go.ChangeShapes Go.WideShapes Go.ChangeAt Go.RowKit
open Go.Proofs.YtdebhngpgabglaaGreat.Ex
open Go.Proofs.YtdebhngpgabglaaGreat.Tr (str ret_bool ret_int Bytes Nd)
open Go.Proofs.YtdebhngpgabglaaGreat.Pg
def ParG (w : World) (x : Prg × Int × Int) (e : Ending) (w' : World) : Prop := ∃ uv, e = .returned (.tuple #[.agg #[uv, .string (str x.1.main), .string (str x.1.back)], .agg #[.int .i64 x.2.1, .int .i64 x.2.2]]) ∧ RowR 40 8 UntV w' x.1.units uv ∧ Below w.heap.size w w'
theorem two_new (w : World) (o o' : Obj) : Below w.heap.size w ((w.alloc o).alloc o') ∧ ((w.alloc o).alloc o').heap[w.heap.size]? = some o ∧ ((w.alloc o).alloc o').heap[w.heap.size + 1]? = some o' :=
 ⟨((Below.refl _ _).alloc (Nat.le_refl _) _).alloc (by simp) _, by rw [Below.heap_alloc _ _ _ (by simp)]; exact heap_alloc_new w o, new_blk (by simp)⟩
theorem laid5 {W : World} {X Y : Nat} {T U : TypeId} {u0 u1 u2 t0 t1 : Value} (hX : W.heap[X]? = some (.cells #[u0, u1, u2] T (0, 0))) (hY : W.heap[Y]? = some (.cells #[t0, t1] U (0, 0))) (hne : X ≠ Y) (v0 v1 v2 y0 y1 : Value) :
 (((((W.setCell ⟨X, 0, none⟩ v0).setCell ⟨X, 1, none⟩ v1).setCell ⟨X, 2, none⟩ v2).setCell ⟨Y, 0, none⟩ y0).setCell ⟨Y, 1, none⟩ y1).heap[X]? = some (.cells #[v0, v1, v2] T (0, 0)) ∧
 (((((W.setCell ⟨X, 0, none⟩ v0).setCell ⟨X, 1, none⟩ v1).setCell ⟨X, 2, none⟩ v2).setCell ⟨Y, 0, none⟩ y0).setCell ⟨Y, 1, none⟩ y1).heap[Y]? = some (.cells #[y0, y1] U (0, 0)) :=
 ⟨set_other (set_other (blk3 hX v0 v1 v2) hne) hne, blk2 (set_other (set_other (set_other hY hne.symm) hne.symm) hne.symm) y0 y1⟩
theorem toks_rp {w w' : World} {v : Value} {l : List Tok} {b : Nat} (h : Lx.Toks w v l) (hb : Below w.heap.size w w') (hwb : w.heap.size ≤ b) : TokOff w' b v l := by
 exact tok_wide ((toks_off h).keep hb.size (fun g _ hg => hb.block g hg)) hwb
theorem below_by {w wq w' : World} {b : Nat} {r : Rd} (h : Below w.heap.size w wq) (hb : w.heap.size ≤ b) (k : RdBy wq w' b r) : Below w.heap.size w w' :=
 ⟨k.grown.os.trans h.os, k.grown.tape.trans h.tape, k.grown.output.trans h.output, Nat.le_trans h.size k.grown.size, fun i hi => (k.grown.block i (Nat.lt_of_lt_of_le hi h.size) (fun e => by injection e; omega)).trans (h.block i hi)⟩
theorem stay5n {W : World} {X Y : Nat} {u0 u1 u2 t0 t1 : Value} (hX : W.heap[X]? = some (.cells #[u0, u1, u2] 43 (0, 0))) (hY : W.heap[Y]? = some (.cells #[t0, t1] 46 (0, 0))) (v0 v1 v2 y0 y1 : Value) :
 Stay (fun t => t = 43 ∨ t = 46) W (((((W.setCell ⟨X, 0, none⟩ v0).setCell ⟨X, 1, none⟩ v1).setCell ⟨X, 2, none⟩ v2).setCell ⟨Y, 0, none⟩ y0).setCell ⟨Y, 1, none⟩ y1) := by
 refine ⟨by simp [World.setCell], fun g cs T f hg hp => ?_⟩
 have h1 : g ≠ X := by
  rintro rfl
  rw [hX] at hg
  simp only [Option.some.injEq, Obj.cells.injEq] at hg
  exact hp (.inl hg.2.1.symm)
 have h2 : g ≠ Y := by
  rintro rfl
  rw [hY] at hg
  simp only [Option.some.injEq, Obj.cells.injEq] at hg
  exact hp (.inr hg.2.1.symm)
 simp only [set_ne h1, set_ne h2]
theorem below5n {w W : World} {X Y : Nat} (h : Below w.heap.size w W) (hX : w.heap.size ≤ X) (hY : w.heap.size ≤ Y) (v0 v1 v2 y0 y1 : Value) :
 Below w.heap.size w (((((W.setCell ⟨X, 0, none⟩ v0).setCell ⟨X, 1, none⟩ v1).setCell ⟨X, 2, none⟩ v2).setCell ⟨Y, 0, none⟩ y0).setCell ⟨Y, 1, none⟩ y1) :=
 ((((h.setCell hX _).setCell hX _).setCell hX _).setCell hY _).setCell hY _
theorem stick_items (k : Nat) : ∀ acc, Stick (itF k acc) := by
 induction k with
 | zero => intro acc; exact stick_pure _
 | succ k ih => intro acc r h; show (((if kindQ r ≠ 0 then _ else _) : List Itm × Rd)).2.code ≠ 0; split; exact (stick_room _).bind (fun _ => stick_item.bind fun x => ih _) r h; exact h
theorem stick_eqs (k : Nat) : ∀ acc, Stick (eqF k acc) := by
 induction k with
 | zero => intro acc; exact stick_pure _
 | succ k ih => intro acc r h; show (((if atNameB r then _ else _) : List Eqn × Rd)).2.code ≠ 0; split; exact (stick_room _).bind (fun _ => stick_eqn.bind fun x => ih _) r h; exact h
theorem stick_vars : ∀ (k : Nat) (acc : List Prm), Stick (varF k acc)
 | 0, acc => stick_pure []
 | k + 1, acc => fun r hr => by rw [varF_dead hr]; exact hr
theorem stick_contract : Stick contractQ := stick_name.bind fun _ => (stick_inQ stick_param).bind fun _ => ((stick_items _ _).bind fun _ => (stick_need _).bind fun _ => stick_pure _).bind fun _ => stick_pure _
theorem stick_node : Stick nodeQ := (stick_need _).bind fun _ => stick_name.bind fun _ => (stick_inQ stick_param).bind fun _ => (stick_need _).bind fun _ => (stick_need _).bind fun _ => stick_param.bind fun _ => (stick_need _).bind fun _ => (stick_take _).bind fun c => (stick_if ((stick_items _ _).bind fun _ => (stick_need _).bind fun _ => stick_pure _) (stick_pure _)).bind fun _ => (stick_take _).bind fun v => (stick_if (stick_vars _ _) (stick_pure _)).bind fun _ => (stick_need _).bind fun _ => ((stick_eqs _ _).bind fun _ => (stick_need _).bind fun _ => stick_pure _).bind fun _ => stick_pure _
theorem stick_unit : Stick unitQ := (stick_take _).bind fun c => stick_if stick_contract stick_node
theorem grown_undrew {w w' : World} {row : Option Nat} (h : w.drew.grownBy w' row) : w.grownBy w' row := ⟨h.os, h.tape, h.output, h.size, h.block⟩
theorem RdBy.undrew {w w' : World} {b : Nat} {r : Rd} (h : RdBy w.drew w' b r) : RdBy w w' b r := ⟨h.rd, grown_undrew h.grown⟩
theorem row_ne {w : World} {B : Nat} {T : TypeId} {K : Nat} {v : Value} {n : Nat} {xs : List Value} (h : w.ownsRow (B + 1) T K v n xs) : v.ownBlock ≠ some B := fun e => by have := (h.lt _ e).1; omega
end Go.Proofs.YtdebhngpgabglaaGreat.Rp
/- Contracts of the document's reader of programs: a stream's name and type. Conditions: a reader lies in memory. -/
namespace Go.Proofs.YtdebhngpgabglaaGreat.Rp
open Go.ChangeShapes Go.WideShapes Go.ChangeAt Go.RowKit
open Go.Proofs.YtdebhngpgabglaaGreat.Ex
open Go.Proofs.YtdebhngpgabglaaGreat.Tr (str ret_bool ret_int Bytes Nd)
open Go.Proofs.YtdebhngpgabglaaGreat.Pg
set_option maxRecDepth 100000 in
set_option maxHeartbeats 4000000 in
theorem param_any (b : Nat) (r : Rd) (w : World) (hr : RdIn w b r) : Calls Tryz.prog 53 #[.pointer (some ⟨b, 0, none⟩)] w (PrmG w b (paramQ r)) := by
 have HR := Lib.hid hr
 have hlt := hr.lt
 obtain ⟨⟨n, r1⟩, h1⟩ : ∃ x, nameP r = x := ⟨_, rfl⟩
 obtain ⟨r2, h2⟩ : ∃ x, (needQ sColon r1).2 = x := ⟨_, rfl⟩
 obtain ⟨⟨B, r3⟩, h3⟩ : ∃ x, takeQ wBool r2 = x := ⟨_, rfl⟩
 obtain ⟨⟨C, r4⟩, h4⟩ : ∃ x, takeQ wInt r3 = x := ⟨_, rfl⟩
 obtain ⟨X, hX⟩ : ∃ X, paramQ r = X := ⟨_, rfl⟩
 have HE : Hid ((if B then ((⟨n, 1⟩ : Prm), r3) else if C then (⟨n, 2⟩, r4) else (⟨n, 0⟩, r4.fail 5)) = X) := Lib.hid (by
  rw [← hX]; unfold paramQ; unfold pBind; rw [h1]; simp only; rw [h2, h3]; cases B
  · simp only [Bool.false_eq_true, if_false]; rw [h4]; cases C <;> rfl
  · rfl)
 have H1 := Lib.hid h1
 have H2 := Lib.hid h2
 have H3 := Lib.hid h3
 have H4 := Lib.hid h4
 rw [hX]
 clear h1 h2 h3 h4 hX hr
 have hX0 := Lib.hid (heap_alloc_new w (.cells #[.string ⟨#[]⟩, .int .i64 0] 37))
 go_enter Tryz.func53, Tryz.ntmps53
 go_wp2_with fail
 refine (name_lit (HR.out.below (below_new w _)) H1.out).mono ?_
 rintro e w1 ⟨rfl, hg1⟩
 have HG1 := Lib.hid (RdBy.below (below_new w _) hlt hg1)
 have x1 := hg1.block hX0.out (by omega)
 have hs1 := hg1.grown.size
 simp at hs1
 have X1 := Lib.hid x1
 clear hg1 x1
 go_wp2_with fail
 refine (need_lit (s := sColon) rfl (HG1.out.rd.below (below_new w1 _)) H2.out).mono ?_
 rintro e w2 ⟨rfl, hg2⟩
 have HG2 := Lib.hid ((HG1.out.then_below (below_new w1 _)).trans hg2)
 have x2 := hg2.block (((below_new w1 _).block _ (lt_of_block X1.out)).trans X1.out) (by omega)
 have y2 := hg2.block (heap_alloc_new w1 _) (by omega)
 have X2 := Lib.hid x2
 have Y2 := Lib.hid y2
 clear hg2 x2 y2
 go_wp2_with fail
 refine (take_lit (s := wBool) rfl HG2.out.rd H3.out).mono ?_
 rintro e w3 ⟨rfl, hg3⟩
 have HG3 := Lib.hid (HG2.out.trans hg3)
 have x3 := hg3.block X2.out (by omega)
 have y3 := hg3.block Y2.out (by omega)
 have X3 := Lib.hid x3
 have Y3 := Lib.hid y3
 have lx3 := lt_of_block x3
 have ly3 := lt_of_block y3
 have p0 : w3.cell? ⟨w.heap.size, 0, none⟩ = some (.string ⟨#[]⟩) := (cell_at x3 0).trans rfl
 have p1 : w3.cell? ⟨w.heap.size, 1, none⟩ = some (.int .i64 0) := (cell_at x3 1).trans rfl
 have q0 : w3.cell? ⟨w1.heap.size, 0, none⟩ = some (.string (str n)) := (cell_at y3 0).trans rfl
 have q1 : w3.cell? ⟨w1.heap.size, 1, none⟩ = some (.int .i64 0) := (cell_at y3 1).trans rfl
 have g0 : w3.frozen? ⟨w.heap.size, 0, none⟩ = false := free_at x3 0
 have g1 : w3.frozen? ⟨w.heap.size, 1, none⟩ = false := free_at x3 1
 have k1 : w3.frozen? ⟨w1.heap.size, 1, none⟩ = false := free_at y3 1
 have hne : w.heap.size ≠ w1.heap.size := by omega
 clear hg3 x3 y3
 cases B with
 | true =>
  have HE1 : Hid (((⟨n, 1⟩ : Prm), r3) = X) := Lib.hid HE.out
  go_wp2
  have Z := blk2 (set_other (k := 1) (v := .int .i64 1) X3.out hne) (.string (str n)) (.int .i64 1)
  have z0 := (cell_at Z 0).trans (show _ = some (.string (str n)) from rfl)
  have z1 := (cell_at Z 1).trans (show _ = some (.int .i64 1) from rfl)
  clear p0 p1 q0 q1 g0 g1 k1
  exact bodyPost_ret (v := .agg #[.string (str n), .int .i64 1]) (by simp [results, Tryz.results53, go_sem, z0, z1]) rfl (PrmG.of HE1.out (((HG3.out.setLocal (by omega) hlt _).setLocal (by omega) hlt _).setLocal (by omega) hlt _))
 | false =>
  go_wp2_with fail
  refine (take_lit (s := wInt) rfl HG3.out.rd H4.out).mono ?_
  rintro e w4 ⟨rfl, hg4⟩
  have HG4 := Lib.hid (HG3.out.trans hg4)
  have x4 := hg4.block X3.out (by omega)
  have y4 := hg4.block Y3.out (by omega)
  have X4 := Lib.hid x4
  have Y4 := Lib.hid y4
  have lx4 := lt_of_block x4
  have ly4 := lt_of_block y4
  clear p0 p1 q0 q1 g0 g1 k1
  cases C with
  | true =>
   have HE1 : Hid (((⟨n, 2⟩ : Prm), r4) = X) := Lib.hid HE.out
   have p0 : w4.cell? ⟨w.heap.size, 0, none⟩ = some (.string ⟨#[]⟩) := (cell_at x4 0).trans rfl
   have p1 : w4.cell? ⟨w.heap.size, 1, none⟩ = some (.int .i64 0) := (cell_at x4 1).trans rfl
   have q0 : w4.cell? ⟨w1.heap.size, 0, none⟩ = some (.string (str n)) := (cell_at y4 0).trans rfl
   have q1 : w4.cell? ⟨w1.heap.size, 1, none⟩ = some (.int .i64 0) := (cell_at y4 1).trans rfl
   have g0 : w4.frozen? ⟨w.heap.size, 0, none⟩ = false := free_at x4 0
   have g1 : w4.frozen? ⟨w.heap.size, 1, none⟩ = false := free_at x4 1
   have k1 : w4.frozen? ⟨w1.heap.size, 1, none⟩ = false := free_at y4 1
   clear hg4 x4 y4
   go_wp2
   have Z := blk2 (set_other (k := 1) (v := .int .i64 2) X4.out hne) (.string (str n)) (.int .i64 2)
   have z0 := (cell_at Z 0).trans (show _ = some (.string (str n)) from rfl)
   have z1 := (cell_at Z 1).trans (show _ = some (.int .i64 2) from rfl)
   clear p0 p1 q0 q1 g0 g1 k1
   exact bodyPost_ret (v := .agg #[.string (str n), .int .i64 2]) (by simp [results, Tryz.results53, go_sem, z0, z1]) rfl (PrmG.of HE1.out (((HG4.out.setLocal (by omega) hlt _).setLocal (by omega) hlt _).setLocal (by omega) hlt _))
  | false =>
   have HE1 : Hid (((⟨n, 0⟩ : Prm), r4.fail 5) = X) := Lib.hid HE.out
   clear hg4 x4 y4
   go_wp2_with fail
   refine (fail_any b r4 5 (by decide) _ HG4.out.rd).mono ?_
   rintro e w5 ⟨rfl, hg5⟩
   have HG5 := Lib.hid (HG4.out.trans hg5)
   have x5 := hg5.block X4.out (by omega)
   have y5 := hg5.block Y4.out (by omega)
   have X5 := Lib.hid x5
   have p0 : w5.cell? ⟨w.heap.size, 0, none⟩ = some (.string ⟨#[]⟩) := (cell_at x5 0).trans rfl
   have p1 : w5.cell? ⟨w.heap.size, 1, none⟩ = some (.int .i64 0) := (cell_at x5 1).trans rfl
   have q0 : w5.cell? ⟨w1.heap.size, 0, none⟩ = some (.string (str n)) := (cell_at y5 0).trans rfl
   have q1 : w5.cell? ⟨w1.heap.size, 1, none⟩ = some (.int .i64 0) := (cell_at y5 1).trans rfl
   have g0 : w5.frozen? ⟨w.heap.size, 0, none⟩ = false := free_at x5 0
   have g1 : w5.frozen? ⟨w.heap.size, 1, none⟩ = false := free_at x5 1
   clear hg5 x5 y5
   go_wp2
   have Z := blk2 X5.out (.string (str n)) (.int .i64 0)
   have z0 := (cell_at Z 0).trans (show _ = some (.string (str n)) from rfl)
   have z1 := (cell_at Z 1).trans (show _ = some (.int .i64 0) from rfl)
   clear p0 p1 q0 q1 g0 g1
   exact bodyPost_ret (v := .agg #[.string (str n), .int .i64 0]) (by simp [results, Tryz.results53, go_sem, z0, z1]) rfl (PrmG.of HE1.out ((HG5.out.setLocal (by omega) hlt _).setLocal (by omega) hlt _))
end Go.Proofs.YtdebhngpgabglaaGreat.Rp
/- Contracts of the document's reader of programs: inputs. Conditions: a reader lies in memory. -/
namespace Go.Proofs.YtdebhngpgabglaaGreat.Rp
open Go.ChangeShapes Go.WideShapes Go.ChangeAt Go.RowKit
open Go.Proofs.YtdebhngpgabglaaGreat.Ex
open Go.Proofs.YtdebhngpgabglaaGreat.Tr (str ret_bool ret_int Bytes Nd)
open Go.Proofs.YtdebhngpgabglaaGreat.Pg
theorem info37_inputs : (Tryz.prog.info? 37).map (fun i => (i.zero, i.size, i.bytes)) = some (some (.agg #[.string ⟨#[]⟩, .int .i64 0]), 2, 24) := by kernel_rfl
set_option maxRecDepth 100000 in
set_option maxHeartbeats 8000000 in
theorem inputs_any (b : Nat) (r : Rd) (w : World) (hr : RdIn w b r) : Calls Tryz.prog 51 #[.pointer (some ⟨b, 0, none⟩)] w (RowG 37 2 PrmV w b (inQ sSemi paramQ r)) := by
 have HR := Lib.hid hr
 have hlt := hr.lt
 obtain ⟨i0, hi, hz0, hz1, hz2⟩ := info_parts info37_inputs
 obtain ⟨r1, h1⟩ : ∃ x, (needQ [40] r).2 = x := ⟨_, rfl⟩
 obtain ⟨⟨B, r2⟩, h2⟩ : ∃ x, takeQ [41] r1 = x := ⟨_, rfl⟩
 obtain ⟨X, hX⟩ : ∃ X, inQ sSemi paramQ r = X := ⟨_, rfl⟩
 have HX : Hid ((if B then ([], r2) else inF sSemi paramQ rowMax [] r2) = X) := Lib.hid ((inQ_eq h1 h2).symm.trans hX)
 have H1 := Lib.hid h1
 have H2 := Lib.hid h2
 rw [hX]
 clear h1 h2 hX hr
 go_enter Tryz.func51, Tryz.ntmps51
 go_wp2_with fail
 refine (need_lit (s := [40]) rfl HR.out H1.out).mono ?_
 rintro e wa ⟨rfl, hga⟩
 have HGA := Lib.hid hga
 clear hga
 go_wp2_with fail
 refine (take_lit (s := [41]) rfl HGA.out.rd H2.out).mono ?_
 rintro e wb ⟨rfl, hgb⟩
 have HGB := Lib.hid (HGA.out.trans hgb)
 clear hgb
 cases B with
 | true =>
  have HE : Hid (([], r2) = X) := Lib.hid HX.out
  go_wp2
  go_ret
  exact RowG.of HE.out (RowR.nil _ _ _ _) HGB.out
 | false =>
 have HE0 : Hid (inF sSemi paramQ rowMax [] r2 = X) := Lib.hid HX.out
 go_wp2
 go_loopg [3] rowMax (fun g s3 wr => ∃ (rr : Rd) (ov : Value) (acc : List (Prm)) (xs : List (List Value)), ov = s3 ∧ acc.length ≤ 201 ∧ 1 ≤ g ∧ (rr.code = 0 → acc.length ≤ 200 ∧ 202 ≤ acc.length + g) ∧ OList 37 2 PrmV wr w.heap.size ov acc xs ∧ RdBy w wr b rr ∧ inF sSemi paramQ g acc rr = X)
 case atStart => exact ⟨r2, _, [], [], rfl, by simp, by simp [rowMax], fun _ => by simp [rowMax], OList.nil _ _, HGB.out, HE0.out⟩
 case round =>
  obtain ⟨rr, ov, acc, xs, hov, ha, hg1, hag, hol, hgr, hrow⟩ := hrel
  subst hov
  have HOL := Lib.hid hol
  have HGR := Lib.hid hgr
  have HROW := Lib.hid hrow
  obtain ⟨A0, c0, hv0, hn1, hn2⟩ := own_form hol.own
  subst hv0
  have hs0 := hgr.grown.size
  clear hol hgr hrow
  cases gk with
  | zero => omega
  | succ gk =>
  by_cases hc : rr.code = 0
  rotate_left
  · have HE : Hid (([], rr) = X) := Lib.hid ((inF_dead hc).symm.trans HROW.out)
    have HOK := Lib.hid (ok_lit (B := false) HGR.out.rd (by simpa using hc))
    clear hc
    go_wp2_with fail
    refine HOK.out.mono ?_
    rintro e w1 ⟨rfl, rfl⟩
    go_wp2
    go_ret
    exact RowG.of HE.out (RowR.nil _ _ _ _) HGR.out
  have hag' := hag hc
  have HOK := Lib.hid (ok_lit (B := true) HGR.out.rd (by rw [hc]; rfl))
  clear hag
  obtain ⟨r1, k1⟩ : ∃ x, (roomQ acc.length rr).2 = x := ⟨_, rfl⟩
  have HK1 := Lib.hid (room_lit (n := acc.length) (by omega) HGR.out.rd k1)
  obtain ⟨⟨a, r2⟩, k2⟩ : ∃ x, paramQ r1 = x := ⟨_, rfl⟩
  have HO : Hid (∀ w', RdIn w' b r1 → Calls Tryz.prog 53 #[.pointer (some ⟨b, 0, none⟩)] w' (PrmG w' b (a, r2))) := Lib.hid (fun w' h => by rw [← k2]; exact param_any b r1 w' h)
  obtain ⟨⟨B, r3⟩, k3⟩ : ∃ x, takeQ [41] r2 = x := ⟨_, rfl⟩
  obtain ⟨r4, k4⟩ : ∃ x, (needQ sSemi r3).2 = x := ⟨_, rfl⟩
  have HST : Hid (r4.code = 0 → acc.length < 200) := Lib.hid (fun h => room_code k1 (Classical.byContradiction fun hn => by
   have s1 := stick_param r1 hn
   rw [k2] at s1
   have s2 := stick_take [41] r2 s1
   rw [k3] at s2
   have s3 := stick_need sSemi r3 s2
   rw [k4] at s3
   exact s3 h))
  have HE : Hid ((if B then (acc ++ [a], r3) else inF sSemi paramQ gk (acc ++ [a]) r4) = X) := Lib.hid (by
   rw [← HROW.out]
   cases B with
   | true => exact (inF_end hc k1 k2 k3).symm
   | false => exact (inF_step hc k1 k2 k3 k4).symm)
  have K3 := Lib.hid k3
  have K4 := Lib.hid k4
  clear k1 k2 k3 k4 hc
  go_wp2_with fail
  refine HOK.out.mono ?_
  rintro e w0 ⟨rfl, rfl⟩
  go_wp2_with fail
  refine HK1.out.mono ?_
  rintro e w1 ⟨rfl, hg1⟩
  have HG1 := Lib.hid hg1
  have hs1 := hg1.grown.size
  have HOL1 := Lib.hid (HOL.out.stay (RdBy.stay HGR.out.rd hg1) (by decide) (fun a x hx => PrmV.stay (RdBy.stay HGR.out.rd hg1) a x hx))
  clear hg1
  go_wp2_with fail
  refine (HO.out w1 HG1.out.rd).mono ?_
  rintro e w2 ⟨rfl, hg2⟩
  have HG2 := Lib.hid hg2
  have hs2 := hg2.grown.size
  have HOL2 := Lib.hid (HOL1.out.stay (RdBy.stay HG1.out.rd hg2) (by decide) (fun a x hx => PrmV.stay (RdBy.stay HG1.out.rd hg2) a x hx))
  clear hg2
  have HXV : Hid (PrmV w2 a [.string (str a.name), .int .i64 a.ty]) := Lib.hid rfl
  go_wp2_with (at_builtin; refine wpList_append_own _ rfl (.tmp 14) (.tmp 17) 35 rfl w.heap.size 37 i0 _ 2 24 Tryz.underlying35 hi hz0 hz1 hz2 rfl (by decide) _ acc.length xs.flatten rfl (HOL2.out.own.alloc _) ⟨w2.heap.size, 0, none⟩ 1 1 [.string (str a.name), .int .i64 a.ty] rfl rfl ?a1 ?b1 ?c1 ?d1 ?e1 ?_)
  case a1 => first | exact (fun j u h => h) | exact news_new _ #[.string (str a.name), .int .i64 a.ty] _ [.string (str a.name), .int .i64 a.ty] rfl rfl
  case b1 => simp [Value.oneCell']
  case c1 => unfold maxLen; omega
  case d1 => omega
  case e1 => simp; omega
  intro v3 w3 hown3 hg3 _
  have HOL3 := Lib.hid (HOL2.out.snoc HXV.out rfl (below_new w2 _) hown3 hg3 (fun st => PrmV.stay st))
  have HGR3 := Lib.hid (RdBy.row ((HGR.out.trans HG1.out).trans HG2.out) hlt (below_new w2 _) hg3 (fun g hg => (HOL2.out.own.lt g hg).1))
  obtain ⟨A3, c3, hv3, y3, y4⟩ := own_form hown3
  subst hv3
  clear hown3 hg3
  go_wp2_with fail
  refine (take_lit (s := [41]) rfl HGR3.out.rd K3.out).mono ?_
  rintro e w4 ⟨rfl, hg4⟩
  have HGR4 := Lib.hid (HGR3.out.trans hg4)
  have HOL4 := Lib.hid (HOL3.out.stay (RdBy.stay HGR3.out.rd hg4) (by decide) (fun a x hx => PrmV.stay (RdBy.stay HGR3.out.rd hg4) a x hx))
  clear hg4
  cases B with
  | true =>
   have HE1 : Hid ((acc ++ [a], r3) = X) := Lib.hid HE.out
   go_wp2
   go_ret
   have hol := HOL4.out.row
   exact RowG.of HE1.out hol HGR4.out
  | false =>
   have HE1 : Hid (inF sSemi paramQ gk (acc ++ [a]) r4 = X) := Lib.hid HE.out
   go_wp2_with fail
   refine (need_lit (s := sSemi) rfl HGR4.out.rd K4.out).mono ?_
   rintro e w5 ⟨rfl, hg5⟩
   have HGR5 := Lib.hid (HGR4.out.trans hg5)
   have HOL5 := Lib.hid (HOL4.out.stay (RdBy.stay HGR4.out.rd hg5) (by decide) (fun a x hx => PrmV.stay (RdBy.stay HGR4.out.rd hg5) a x hx))
   clear hg5
   go_wp2
   go_roundg gk
   case measure => omega
   case rel => exact ⟨r4, _, acc ++ [a], xs ++ [[.string (str a.name), .int .i64 a.ty]], rfl, by simp; omega, by omega, fun h => by have := HST.out h; simp; omega, HOL5.out, HGR5.out, HE1.out⟩
end Go.Proofs.YtdebhngpgabglaaGreat.Rp
/- Contracts of the document's reader of programs: what an item is told as. Conditions: a reader lies in memory. -/
namespace Go.Proofs.YtdebhngpgabglaaGreat.Rp
open Go.ChangeShapes Go.WideShapes Go.ChangeAt Go.RowKit
open Go.Proofs.YtdebhngpgabglaaGreat.Ex
open Go.Proofs.YtdebhngpgabglaaGreat.Tr (str ret_bool ret_int Bytes Nd)
open Go.Proofs.YtdebhngpgabglaaGreat.Pg
def ItmO (w : World) (b : Nat) (x : Option Itm × Rd) (e : Ending) (w' : World) : Prop := ∃ (i : Itm) (ev fv av : Value), (∀ j, x.1 = some j → j = i) ∧ e = .returned (.tuple #[.agg #[.int .i64 i.kind, .string (str i.name), .int .i64 i.ty, ev, fv, av], .bool x.1.isSome]) ∧ PtW w' (ev, ⟨i.e, 0, 0⟩) ∧ PtW w' (fv, ⟨i.f, 0, 0⟩) ∧ RowR 23 1 ExpV w' i.args av ∧ RdBy w w' b x.2
theorem ItmO.none {w w' : World} {b : Nat} {r : Rd} {X : Option Itm × Rd} (hX : ((none : Option Itm), r) = X) (g : RdBy w w' b r) : ItmO w b X (.returned (.tuple #[.agg #[.int .i64 0, .string ⟨#[]⟩, .int .i64 0, .slice none 0 0, .slice none 0 0, .slice none 0 0], .bool false])) w' := by
 subst hX; exact ⟨⟨0, [], 0, [], [], []⟩, _, _, _, fun j h => by simp at h, rfl, PtW.nil _ _ rfl, PtW.nil _ _ rfl, RowR.nil _ _ _ _, g⟩
theorem ItmO.of {w w' : World} {b : Nat} {k t : Int} {n : Bytes} {e f : List Nd} {a : List (List Nd)} {ev fv av : Value} {r : Rd} {X : Option Itm × Rd} (hX : (some (⟨k, n, t, e, f, a⟩ : Itm), r) = X) (h1 : PtW w' (ev, ⟨e, 0, 0⟩)) (h2 : PtW w' (fv, ⟨f, 0, 0⟩)) (h3 : RowR 23 1 ExpV w' a av) (g : RdBy w w' b r) :
 ItmO w b X (.returned (.tuple #[.agg #[.int .i64 k, .string (str n), .int .i64 t, ev, fv, av], .bool true])) w' := by
 subst hX; exact ⟨⟨k, n, t, e, f, a⟩, ev, fv, av, fun j h => by simpa using h.symm, rfl, h1, h2, h3, g⟩
end Go.Proofs.YtdebhngpgabglaaGreat.Rp
/- Contracts of the document's reader of programs: an expression. Conditions: a reader lies in memory. -/
namespace Go.Proofs.YtdebhngpgabglaaGreat.Rp
open Go.ChangeShapes Go.WideShapes Go.ChangeAt Go.RowKit
open Go.Proofs.YtdebhngpgabglaaGreat.Ex
open Go.Proofs.YtdebhngpgabglaaGreat.Tr (str ret_bool ret_int Bytes Nd)
open Go.Proofs.YtdebhngpgabglaaGreat.Pg
theorem run_from (l : List Tok) (k : Nat) : ∃ p r, run (fuelOf l k) (.lev 1) ⟨l, k, 0, 0, 0⟩ = some (p, r) := by
 obtain ⟨⟨p, r⟩, h⟩ := run_total (fuelOf l k) (.lev 1) ⟨l, k, 0, 0, 0⟩ (fun hc => absurd rfl hc) (by simp [Task.pre]) (by unfold fuelOf Rd.rem Task.wt; simp; omega)
 exact ⟨p, r, h⟩
theorem parse_doc {L : List Tok} {lv : Value} {n : Nat} {w : World} {b : Nat} (hv : TokOff w b lv L) (hb : b ≤ w.heap.size) (hok : Rf.OkL L) (ht : ∀ t ∈ L, t.text.length ≤ 1000000) (hn : n ≤ L.length) : Calls Tryz.prog 29 #[lv, .int .i64 (n : Int)] w (ParseTo w (parseM L n)) := by
 obtain ⟨p, r, e⟩ := run_from L n
 have h := Rf.rparse_any L hok ht lv n hn w (tok_wide hv hb) p r e
 unfold parseM; rw [e]; exact h
theorem parse_in {L : List Tok} {n : Nat} (hlen : L.length ≤ 1000000) (hn : n ≤ L.length) (hc : (parseM L n).2.2.1 = 0) : (parseM L n).2.1 ≤ L.length := by
 obtain ⟨p, r, e⟩ := run_from L n
 have h1 := (run_step _ _ _ _ _ e (fun hc => absurd rfl hc) (by simp [Task.pre])).1.top
 simp only at h1
 unfold parseM at hc ⊢; rw [e] at hc ⊢
 simp only [parseOf] at hc ⊢
 split
 · simp
 · split
   · simp
   · split
     · simp
     · simp only; omega
set_option maxHeartbeats 1600000 in
theorem expr_any (b : Nat) (r : Rd) (w : World) (hr : RdIn w b r) : Calls Tryz.prog 74 #[.pointer (some ⟨b, 0, none⟩)] w (ExpG w b (exprQ r)) := by
 have HR := Lib.hid hr
 have hlt := hr.lt
 by_cases h0 : r.code = 0
 rotate_left
 · have HOK := Lib.hid (ok_lit (B := false) HR.out (by simpa using h0))
   have HT : Hid (exprQ r = ([], r)) := Lib.hid (by unfold exprQ; rw [if_pos h0])
   rw [HT.out]
   clear h0 hr
   go_enter Tryz.func74, Tryz.ntmps74
   go_wp2_with fail
   refine HOK.out.mono ?_
   rintro x w1 ⟨rfl, rfl⟩
   go_wp2
   go_ret
   exact ⟨_, rfl, PtW.nil _ _ rfl, RdBy.refl HR.out⟩
 have HOK := Lib.hid (ok_lit (B := true) HR.out (by rw [h0]; rfl))
 obtain ⟨L, lv, i, c, a, hat⟩ := hr
 have HAT := Lib.hid hat
 obtain ⟨q1, q2, q3, q4⟩ := hat.st.resolve_right (fun h => h.1 h0)
 have hlv := hat.tok
 obtain ⟨A0, cc, rfl, z1, z2, _⟩ := hlv
 have c0 : w.cell? ⟨b, 0, none⟩ = some (.slice A0 L.length cc) := rp_cell hat.blk 0
 have c1 : w.cell? ⟨b, 1, none⟩ = some (.int .i64 (i : Int)) := rp_cell hat.blk 1
 have hil := hat.ile
 have hL := hat.okl.len
 have HC : Hid (∀ w', Below w.heap.size w w' → Calls Tryz.prog 29 #[.slice A0 L.length cc, .int .i64 (i : Int)] w' (ParseTo w' (parseM L i))) := Lib.hid (fun w' hb => parse_doc (HAT.out.tok.keep hb.size (fun g _ hg => hb.block g hg)) (by have := hb.size; omega) HAT.out.okl HAT.out.txt HAT.out.ile)
 have HP0 := Lib.hid (parse_in (n := i) (by omega) hil)
 have hx0 : exprQ r = if (parseM L i).2.2.1 ≠ 0 then ([], Pg.Rd.stop (parseM L i).2.2.1 (parseM L i).2.2.2 r) else ((parseM L i).1, Pg.Rd.to (parseM L i).2.1 r) := by unfold exprQ; rw [if_neg (by simpa using h0), q3, ← q4]
 have H0 := Lib.hid h0
 obtain ⟨⟨E, N, C, A⟩, hx⟩ : ∃ x, parseM L i = x := ⟨_, rfl⟩
 rw [hx] at HC HP0 hx0
 simp only at HP0 hx0
 rw [hx0]
 clear hat hx hx0 h0 q1 q2 q3 q4
 have HW0 : Hid (Below w.heap.size w w.drew) := Lib.hid (Tr.below_drewN (n := 1) (Below.refl w.heap.size w))
 have HW1 : Hid (Below w.heap.size w (w.alloc (.cells #[.int .i64 0, .int .i64 0] 46)).drew) := Lib.hid (below_drew1 w _)
 by_cases hC : C = 0
 · rw [if_neg (by simpa using hC)]
   have hd : (C != 0) = false := by simpa using hC
   have HN := Lib.hid (HP0.out hC)
   clear hC
   go_enter Tryz.func74, Tryz.ntmps74
   go_wp2_with fail
   refine HOK.out.mono ?_
   rintro x wz ⟨rfl, rfl⟩
   go_wp2
   go_region_with ((first | (go_at_call 29; (with_reducible refine (HC.out (w.alloc (.cells #[.int .i64 0, .int .i64 0] 46)).drew HW1.out).mono ?_); rintro e w1 ⟨ev, rfl, hpt, hb1⟩; have HP := Lib.hid hpt; have X3 : Hid (w1.heap[w.heap.size]? = some (.cells #[.int .i64 0, .int .i64 0] 46 (0, 0))) := Lib.hid ((hb1.block w.heap.size (by show _ < (w.alloc _).heap.size; simp)).trans (heap_alloc_new w _)); have HB1 := Lib.hid (HW1.out.trans (hb1.mono (by show w.heap.size ≤ (w.alloc _).heap.size; simp))); have p0 : w1.cell? ⟨w.heap.size, 0, none⟩ = some (.int .i64 0) := (cell_at X3.out 0).trans rfl; have p1 : w1.cell? ⟨w.heap.size, 1, none⟩ = some (.int .i64 0) := (cell_at X3.out 1).trans rfl; have g0 : w1.frozen? ⟨w.heap.size, 0, none⟩ = false := free_at X3.out 0; have g1 : w1.frozen? ⟨w.heap.size, 1, none⟩ = false := free_at X3.out 1; clear hpt hb1) | (go_at_call 29; (with_reducible refine (HC.out w.drew HW0.out).mono ?_); rintro e w1 ⟨ev, rfl, hpt, hb1⟩; have HP := Lib.hid hpt; have HB1 := Lib.hid (HW0.out.trans hb1); have HBB : True := trivial; clear hpt hb1)))
   all_goals first
   | (have HAA := X3
      have hbn : b ≠ w.heap.size := by omega
      have hbn2 : w.heap.size ≠ b := by omega
      have hsz := HB1.out.size
      have HK := Lib.hid (HAT.out.below (Below.setCell (Below.setCell HB1.out (p := ⟨w.heap.size, 0, none⟩) (Nat.le_refl _) (.int .i64 C)) (p := ⟨w.heap.size, 1, none⟩) (Nat.le_refl _) (.int .i64 A)))
      have HK1 := HAT.out.below HB1.out
      have c1' : w1.cell? ⟨b, 1, none⟩ = some (.int .i64 (i : Int)) := rp_cell HK1.blk 1
      have f1' : w1.frozen? ⟨b, 1, none⟩ = false := rp_free HK1.blk 1
      clear HK1
      go_wp2
      go_ret
      have HGb := HK.out.setTo H0.out HN.out
      have Y1 := (HP.out.set X3.out (by decide) (k := 0) (.int .i64 C)).set (setObj_heap (v := .int .i64 C) X3.out (k := 0) (by simp)) (by decide) (k := 1) (.int .i64 A)
      exact ⟨_, rfl, (RdBy.stay ⟨_, _, _, _, _, HK.out⟩ HGb).pt (by decide) Y1, (RdBy.of_below HR.out (Below.setCell (Below.setCell HB1.out (p := ⟨w.heap.size, 0, none⟩) (Nat.le_refl _) (.int .i64 C)) (p := ⟨w.heap.size, 1, none⟩) (Nat.le_refl _) (.int .i64 A))).trans HGb⟩)
   | (have HAB := HBB
      have hs1 := HB1.out.size
      have hbn : b ≠ w1.heap.size := by omega
      have hbz : b < w1.heap.size := by omega
      have HK1 := HAT.out.below HB1.out
      have HK := Lib.hid HK1
      have c1' : w1.cell? ⟨b, 1, none⟩ = some (.int .i64 (i : Int)) := rp_cell HK1.blk 1
      have f1' : w1.frozen? ⟨b, 1, none⟩ = false := rp_free HK1.blk 1
      clear HK1
      go_wp2
      go_ret
      have HT2 := (HK.out.setTo H0.out HN.out).then_below (below_new _ (.cells #[.int .i64 C, .int .i64 A] 46))
      exact ⟨_, rfl, (RdBy.stay ⟨_, _, _, _, _, HK.out⟩ HT2).pt (by decide) HP.out, RdBy.below HB1.out hlt HT2⟩)
 · rw [if_pos (by simpa using hC)]
   have hd : (C != 0) = true := by simpa using hC
   have HCN := Lib.hid hC
   clear hC
   go_enter Tryz.func74, Tryz.ntmps74
   go_wp2_with fail
   refine HOK.out.mono ?_
   rintro x wz ⟨rfl, rfl⟩
   go_wp2
   go_region_with ((first | (go_at_call 29; (with_reducible refine (HC.out (w.alloc (.cells #[.int .i64 0, .int .i64 0] 46)).drew HW1.out).mono ?_); rintro e w1 ⟨ev, rfl, hpt, hb1⟩; have HP := Lib.hid hpt; have X3 : Hid (w1.heap[w.heap.size]? = some (.cells #[.int .i64 0, .int .i64 0] 46 (0, 0))) := Lib.hid ((hb1.block w.heap.size (by show _ < (w.alloc _).heap.size; simp)).trans (heap_alloc_new w _)); have HB1 := Lib.hid (HW1.out.trans (hb1.mono (by show w.heap.size ≤ (w.alloc _).heap.size; simp))); have p0 : w1.cell? ⟨w.heap.size, 0, none⟩ = some (.int .i64 0) := (cell_at X3.out 0).trans rfl; have p1 : w1.cell? ⟨w.heap.size, 1, none⟩ = some (.int .i64 0) := (cell_at X3.out 1).trans rfl; have g0 : w1.frozen? ⟨w.heap.size, 0, none⟩ = false := free_at X3.out 0; have g1 : w1.frozen? ⟨w.heap.size, 1, none⟩ = false := free_at X3.out 1; clear hpt hb1) | (go_at_call 29; (with_reducible refine (HC.out w.drew HW0.out).mono ?_); rintro e w1 ⟨ev, rfl, hpt, hb1⟩; have HP := Lib.hid hpt; have HB1 := Lib.hid (HW0.out.trans hb1); have HBB : True := trivial; clear hpt hb1)))
   all_goals first
   | (have HAA := X3
      have hbn : b ≠ w.heap.size := by omega
      have hbn2 : w.heap.size ≠ b := by omega
      have hsz := HB1.out.size
      have HK := Lib.hid (HAT.out.below (Below.setCell (Below.setCell HB1.out (p := ⟨w.heap.size, 0, none⟩) (Nat.le_refl _) (.int .i64 C)) (p := ⟨w.heap.size, 1, none⟩) (Nat.le_refl _) (.int .i64 A)))
      have HK1 := HAT.out.below HB1.out
      have c2' : w1.cell? ⟨b, 2, none⟩ = some (.int .i64 c) := rp_cell HK1.blk 2
      have f2' : w1.frozen? ⟨b, 2, none⟩ = false := rp_free HK1.blk 2
      have c3' : w1.cell? ⟨b, 3, none⟩ = some (.int .i64 a) := rp_cell HK1.blk 3
      have f3' : w1.frozen? ⟨b, 3, none⟩ = false := rp_free HK1.blk 3
      clear HK1
      go_wp2
      go_ret
      exact ⟨_, rfl, PtW.nil _ _ rfl, (RdBy.of_below HR.out (Below.setCell (Below.setCell HB1.out (p := ⟨w.heap.size, 0, none⟩) (Nat.le_refl _) (.int .i64 C)) (p := ⟨w.heap.size, 1, none⟩) (Nat.le_refl _) (.int .i64 A))).trans (HK.out.setF H0.out C A HCN.out)⟩)
   | (have HAB := HBB
      have hs1 := HB1.out.size
      have hbn : b ≠ w1.heap.size := by omega
      have hbz : b < w1.heap.size := by omega
      have HK1 := HAT.out.below HB1.out
      have HK := Lib.hid HK1
      have c2' : w1.cell? ⟨b, 2, none⟩ = some (.int .i64 c) := rp_cell HK1.blk 2
      have f2' : w1.frozen? ⟨b, 2, none⟩ = false := rp_free HK1.blk 2
      have c3' : w1.cell? ⟨b, 3, none⟩ = some (.int .i64 a) := rp_cell HK1.blk 3
      have f3' : w1.frozen? ⟨b, 3, none⟩ = false := rp_free HK1.blk 3
      clear HK1
      go_wp2
      go_ret
      exact ⟨_, rfl, PtW.nil _ _ rfl, RdBy.below HB1.out hlt ((HK.out.setF H0.out C A HCN.out).then_below (below_new _ (.cells #[.int .i64 C, .int .i64 A] 46)))⟩)
end Go.Proofs.YtdebhngpgabglaaGreat.Rp
/- Contracts of the document's reader of programs: an item. Conditions: a reader lies in memory. -/
namespace Go.Proofs.YtdebhngpgabglaaGreat.Rp
open Go.ChangeShapes Go.WideShapes Go.ChangeAt Go.RowKit
open Go.Proofs.YtdebhngpgabglaaGreat.Ex
open Go.Proofs.YtdebhngpgabglaaGreat.Tr (str ret_bool ret_int Bytes Nd)
open Go.Proofs.YtdebhngpgabglaaGreat.Pg
set_option maxRecDepth 100000 in
set_option maxHeartbeats 8000000 in
theorem item_none (b : Nat) (r : Rd) (w : World) (hr : RdIn w b r)   (X : Option Itm × Rd) (t1 : takeQ wAssume r = (false, r)) (t2 : takeQ wGuarantee r = (false, r)) (t3 : takeQ wGhost r = (false, r)) (t4 : takeQ wMode r = (false, r)) (t5 : takeQ wImport r = (false, r))  (he : ((none : Option Itm), r) = X) : Calls Tryz.prog 73 #[.pointer (some ⟨b, 0, none⟩)] w (ItmO w b X) := by
 have HR := Lib.hid hr
 have hlt := hr.lt
 have HE := Lib.hid he
 have T1 := Lib.hid t1
 have T2 := Lib.hid t2
 have T3 := Lib.hid t3
 have T4 := Lib.hid t4
 have T5 := Lib.hid t5
 clear t1 t2 t3 t4 t5 he hr
 have hBW : Below w.heap.size w ((w.alloc (.cells #[.int .i64 0, .string ⟨#[]⟩, .int .i64 0, .slice none 0 0, .slice none 0 0, .slice none 0 0] 129)).alloc (.cells #[.int .i64 0, .string ⟨#[]⟩, .int .i64 0, .slice none 0 0, .slice none 0 0, .slice none 0 0] 129)) := (below_new w _).alloc (below_new w _).size _
 have X0 : Hid (((w.alloc (.cells #[.int .i64 0, .string ⟨#[]⟩, .int .i64 0, .slice none 0 0, .slice none 0 0, .slice none 0 0] 129)).alloc (.cells #[.int .i64 0, .string ⟨#[]⟩, .int .i64 0, .slice none 0 0, .slice none 0 0, .slice none 0 0] 129)).heap[w.heap.size]? = some (.cells #[.int .i64 0, .string ⟨#[]⟩, .int .i64 0, .slice none 0 0, .slice none 0 0, .slice none 0 0] 129 (0, 0))) := Lib.hid (stayA (heap_alloc_new w _))
 have Y0 : Hid (((w.alloc (.cells #[.int .i64 0, .string ⟨#[]⟩, .int .i64 0, .slice none 0 0, .slice none 0 0, .slice none 0 0] 129)).alloc (.cells #[.int .i64 0, .string ⟨#[]⟩, .int .i64 0, .slice none 0 0, .slice none 0 0, .slice none 0 0] 129)).heap[w.heap.size + 1]? = some (.cells #[.int .i64 0, .string ⟨#[]⟩, .int .i64 0, .slice none 0 0, .slice none 0 0, .slice none 0 0] 129 (0, 0))) := Lib.hid (new_blk (by simp))
 have HG0 := Lib.hid (RdBy.of_below HR.out hBW)
 have hne : w.heap.size ≠ w.heap.size + 1 := by omega
 clear hBW
 go_enter Tryz.func73, Tryz.ntmps73
 go_wp2_with fail
 refine (take_lit (s := wAssume) rfl HG0.out.rd T1.out).mono ?_
 rintro e w1 ⟨rfl, hg1⟩
 have HG1 := Lib.hid (HG0.out.trans hg1)
 have x1 := hg1.block X0.out (by omega)
 have y1 := hg1.block Y0.out (by omega)
 have X1 := Lib.hid x1
 have Y1 := Lib.hid y1
 have lx1 := lt_of_block x1
 have ly1 := lt_of_block y1
 clear hg1 x1 y1 
 go_wp2_with fail
 refine (take_lit (s := wGuarantee) rfl HG1.out.rd T2.out).mono ?_
 rintro e w2 ⟨rfl, hg2⟩
 have HG2 := Lib.hid (HG1.out.trans hg2)
 have x2 := hg2.block X1.out (by omega)
 have y2 := hg2.block Y1.out (by omega)
 have X2 := Lib.hid x2
 have Y2 := Lib.hid y2
 have lx2 := lt_of_block x2
 have ly2 := lt_of_block y2
 clear hg2 x2 y2 
 go_wp2_with fail
 refine (take_lit (s := wGhost) rfl HG2.out.rd T3.out).mono ?_
 rintro e w3 ⟨rfl, hg3⟩
 have HG3 := Lib.hid (HG2.out.trans hg3)
 have x3 := hg3.block X2.out (by omega)
 have y3 := hg3.block Y2.out (by omega)
 have X3 := Lib.hid x3
 have Y3 := Lib.hid y3
 have lx3 := lt_of_block x3
 have ly3 := lt_of_block y3
 clear hg3 x3 y3 
 go_wp2_with fail
 refine (take_lit (s := wMode) rfl HG3.out.rd T4.out).mono ?_
 rintro e w4 ⟨rfl, hg4⟩
 have HG4 := Lib.hid (HG3.out.trans hg4)
 have x4 := hg4.block X3.out (by omega)
 have y4 := hg4.block Y3.out (by omega)
 have X4 := Lib.hid x4
 have Y4 := Lib.hid y4
 have lx4 := lt_of_block x4
 have ly4 := lt_of_block y4
 clear hg4 x4 y4 
 go_wp2_with fail
 refine (take_lit (s := wImport) rfl HG4.out.rd T5.out).mono ?_
 rintro e w5 ⟨rfl, hg5⟩
 have HG5 := Lib.hid (HG4.out.trans hg5)
 have x5 := hg5.block X4.out (by omega)
 have y5 := hg5.block Y4.out (by omega)
 have X5 := Lib.hid x5
 have Y5 := Lib.hid y5
 have lx5 := lt_of_block x5
 have ly5 := lt_of_block y5
 clear hg5 x5 y5 
 have q5_0 : w5.cell? ⟨w.heap.size + 1, 0, none⟩ = some (.int .i64 0) := (cell_at Y5.out 0).trans rfl
 have p0 : w5.cell? ⟨w.heap.size, 0, none⟩ = some (.int .i64 0) := (cell_at X5.out 0).trans rfl
 have g0 : w5.frozen? ⟨w.heap.size, 0, none⟩ = false := free_at X5.out 0
 have q5_1 : w5.cell? ⟨w.heap.size + 1, 1, none⟩ = some (.string ⟨#[]⟩) := (cell_at Y5.out 1).trans rfl
 have p1 : w5.cell? ⟨w.heap.size, 1, none⟩ = some (.string ⟨#[]⟩) := (cell_at X5.out 1).trans rfl
 have g1 : w5.frozen? ⟨w.heap.size, 1, none⟩ = false := free_at X5.out 1
 have q5_2 : w5.cell? ⟨w.heap.size + 1, 2, none⟩ = some (.int .i64 0) := (cell_at Y5.out 2).trans rfl
 have p2 : w5.cell? ⟨w.heap.size, 2, none⟩ = some (.int .i64 0) := (cell_at X5.out 2).trans rfl
 have g2 : w5.frozen? ⟨w.heap.size, 2, none⟩ = false := free_at X5.out 2
 have q5_3 : w5.cell? ⟨w.heap.size + 1, 3, none⟩ = some (.slice none 0 0) := (cell_at Y5.out 3).trans rfl
 have p3 : w5.cell? ⟨w.heap.size, 3, none⟩ = some (.slice none 0 0) := (cell_at X5.out 3).trans rfl
 have g3 : w5.frozen? ⟨w.heap.size, 3, none⟩ = false := free_at X5.out 3
 have q5_4 : w5.cell? ⟨w.heap.size + 1, 4, none⟩ = some (.slice none 0 0) := (cell_at Y5.out 4).trans rfl
 have p4 : w5.cell? ⟨w.heap.size, 4, none⟩ = some (.slice none 0 0) := (cell_at X5.out 4).trans rfl
 have g4 : w5.frozen? ⟨w.heap.size, 4, none⟩ = false := free_at X5.out 4
 have q5_5 : w5.cell? ⟨w.heap.size + 1, 5, none⟩ = some (.slice none 0 0) := (cell_at Y5.out 5).trans rfl
 have p5 : w5.cell? ⟨w.heap.size, 5, none⟩ = some (.slice none 0 0) := (cell_at X5.out 5).trans rfl
 have g5 : w5.frozen? ⟨w.heap.size, 5, none⟩ = false := free_at X5.out 5
 go_wp2
 have Z := blk6 X5.out (.int .i64 0) (.string ⟨#[]⟩) (.int .i64 0) (.slice none 0 0) (.slice none 0 0) (.slice none 0 0)
 have hsz : w5.heap.size ≤ ((((((w5.setCell ⟨w.heap.size, 0, none⟩ (.int .i64 0)).setCell ⟨w.heap.size, 1, none⟩ (.string ⟨#[]⟩)).setCell ⟨w.heap.size, 2, none⟩ (.int .i64 0)).setCell ⟨w.heap.size, 3, none⟩ (.slice none 0 0)).setCell ⟨w.heap.size, 4, none⟩ (.slice none 0 0)).setCell ⟨w.heap.size, 5, none⟩ (.slice none 0 0)).heap.size := by simp [World.setCell]
 have hst : Stay (fun t => t = 129) w5 ((((((w5.setCell ⟨w.heap.size, 0, none⟩ (.int .i64 0)).setCell ⟨w.heap.size, 1, none⟩ (.string ⟨#[]⟩)).setCell ⟨w.heap.size, 2, none⟩ (.int .i64 0)).setCell ⟨w.heap.size, 3, none⟩ (.slice none 0 0)).setCell ⟨w.heap.size, 4, none⟩ (.slice none 0 0)).setCell ⟨w.heap.size, 5, none⟩ (.slice none 0 0)) := stay_sets X5.out rfl hsz (fun g hg => by simp only [set_ne hg])
 have z0 := (cell_at Z 0).trans (show _ = some (.int .i64 0) from rfl)
 have z1 := (cell_at Z 1).trans (show _ = some (.string ⟨#[]⟩) from rfl)
 have z2 := (cell_at Z 2).trans (show _ = some (.int .i64 0) from rfl)
 have z3 := (cell_at Z 3).trans (show _ = some (.slice none 0 0) from rfl)
 have z4 := (cell_at Z 4).trans (show _ = some (.slice none 0 0) from rfl)
 have z5 := (cell_at Z 5).trans (show _ = some (.slice none 0 0) from rfl)
 clear p0 g0 p1 g1 p2 g2 p3 g3 p4 g4 p5 g5 q5_0 q5_1 q5_2 q5_3 q5_4 q5_5
 exact bodyPost_ret (v := .tuple #[.agg #[.int .i64 0, .string ⟨#[]⟩, .int .i64 0, .slice none 0 0, .slice none 0 0, .slice none 0 0], .bool false]) (by simp [results, Tryz.results73, go_sem, z0, z1, z2, z3, z4, z5]) rfl (ItmO.none HE.out  ((((((HG5.out.setLocal (by omega) hlt _).setLocal (by omega) hlt _).setLocal (by omega) hlt _).setLocal (by omega) hlt _).setLocal (by omega) hlt _).setLocal (by omega) hlt _))
end Go.Proofs.YtdebhngpgabglaaGreat.Rp
