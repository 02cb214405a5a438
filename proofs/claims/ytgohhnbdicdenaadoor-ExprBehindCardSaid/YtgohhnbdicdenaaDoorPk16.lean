/- The method fromLeft of a reader. Conditions: level's contract at less fuel; a reader lies in memory. -/
import Derived.Test.YtgohhnbdicdenaaDoorPk15
import Derived.Deep.LoopGhost
import Derived.IntWalk
namespace Go.Proofs.YtgohhnbdicdenaaDoor.Ex
open Go.ChangeShapes Go.WideShapes Go.ChangeAt Go.RowKit
open Go.Proofs.YtgohhnbdicdenaaDoor.Tr (str ret_bool ret_int Bytes Nd joinM roomM)
set_option linter.unusedVariables false
set_option linter.unusedSimpArgs false

/-- A reader within the bounds. -/
structure OkR (r : Rd) : Prop where
  len : r.l.length ≤ 100000
  nxt : r.next ≤ 100000
  good : GoodL r.l
  text : ∀ t ∈ r.l, t.text.length ≤ 1000000
  beg : r.begun ≤ 200
  fine : r.fine
theorem OkR.step {r r' : Rd} (h : OkR r) (s : Step r r') : OkR r' := by
  have := s.top; have h1 := h.len; have h2 := h.nxt
  rcases s.st with ⟨e, _⟩ | ⟨e, _⟩
  · exact ⟨by rw [e]; exact h1, by omega, by rw [e]; exact h.good, by rw [e]; exact h.text, by rw [s.beg]; exact h.beg, s.fine h.fine⟩
  · exact ⟨by rw [e]; simp, by omega, by rw [e]; intro t ht; simp at ht, by rw [e]; intro t ht; simp at ht, by rw [s.beg]; exact h.beg, s.fine h.fine⟩
theorem OkR.nx {r : Rd} (h : OkR r) : r.next ≤ 1000000 := by have := h.nxt; omega
theorem OkR.cur {r : Rd} (h : OkR r) : r.cur.text.length ≤ 1000000 := by
  unfold Rd.cur
  cases ht : r.l[r.next]? with
  | none => simp [noTok]
  | some t => exact h.text t (List.mem_of_getElem? ht)
theorem OkR.mu {r : Rd} (h : OkR r) : r.mu ≤ 100001 := by
  unfold Rd.mu; have := h.nxt; split <;> omega
def LevOk (f : Nat) : Prop := ∀ (n : Nat) (r : Rd) (p : Pt) (r' : Rd), run f (.lev n) r = some (p, r') → 1 ≤ n → n ≤ 9 → OkR r → ∀ (w : World) (b : Nat) (mv : Nat → Value), RdAt w b mv r →
  Calls Tryd.prog 35 #[.pointer (some ⟨b, 0, none⟩), .int .i64 (n : Int)] w (PartTo w b mv p r')

theorem PtW.inn {w : World} {x : Value × Pt} (h : PtW w x) : PtIn w w.heap.size x :=
  ⟨h.1, fun h0 g o n c e => by obtain ⟨cs, f, hc⟩ := h.2 h0 g o n c e; exact lt_of_block hc⟩
theorem RdTo.setLocal {w wr : World} {b B k : Nat} {mv : Nat → Value} {r : Rd} (h : RdTo w wr b mv r) (hB : w.heap.size ≤ B) (hlt : b < w.heap.size) (v : Value) : RdTo w (wr.setCell ⟨B, k, none⟩ v) b mv r := by
  have ho : ∀ g, g < w.heap.size → (wr.setCell ⟨B, k, none⟩ v).heap[g]? = wr.heap[g]? := fun g hg => Below.heap_setCell _ _ _ _ (by simp; omega)
  refine ⟨h.rd.keep (by simp [World.setCell]) (fun g h1 h2 => ho g (by omega)) (ho b hlt), ⟨h.grown.os, h.grown.tape, h.grown.output, by simpa [World.setCell] using h.grown.size, fun i hi hne => (ho i hi).trans (h.grown.block i hi hne)⟩⟩
theorem takeSign_s (b : Nat) (mv : Nat → Value) (r : Rd) (n : Nat) (s : Option (Int × Bool)) (w : World) (hs : r.sign n = s) (hr : RdAt w b mv r) (hn : r.next ≤ 1000000) (h1 : 1 ≤ n) (h9 : n ≤ 9) :
    Calls Tryd.prog 84 #[.pointer (some ⟨b, 0, none⟩), .int .i64 (n : Int)] w (SignTo w b mv s r) := by
  subst hs; exact takeSign_any b mv r n w hr hn h1 h9
theorem PartTo.laid {w wr : World} {b : Nat} {mv : Nat → Value} {p pp : Pt} {r' rr : Rd} {gv : Value} {B : Nat} {u0 u1 u2 : Value} (hp : p = pp) (hr : r' = rr) (hrd : RdTo w wr b mv rr) (hlt : b < w.heap.size) (hB : w.heap.size ≤ B)
    (hBW : wr.heap[B]? = some (.cells #[u0, u1, u2] 64 (0, 0))) (hnd : PtW wr (gv, pp)) :
    PartTo w b mv p r' (.returned (.agg #[gv, .int .i64 (pp.nodes : Int), .int .i64 (pp.deep : Int)])) (((wr.setCell ⟨B, 0, none⟩ gv).setCell ⟨B, 1, none⟩ (.int .i64 (pp.nodes : Int))).setCell ⟨B, 2, none⟩ (.int .i64 (pp.deep : Int))) := by
  subst hp; subst hr
  have h1 := setObj_heap (v := gv) hBW (k := 0) (by simp)
  have h2 := setObj_heap (v := .int .i64 (p.nodes : Int)) h1 (k := 1) (by simp)
  exact ⟨gv, rfl, ((hnd.set hBW (by decide) _).set h1 (by decide) _).set h2 (by decide) _, ((hrd.setLocal hB hlt _).setLocal hB hlt _).setLocal hB hlt _⟩
theorem RdAt.drew {w : World} {b : Nat} {mv : Nat → Value} {r : Rd} (h : RdAt w b mv r) : RdAt w.drew b mv r := h.keep (Nat.le_refl _) (fun _ _ _ => rfl) rfl
theorem lev_at {f n : Nat} {r : Rd} {p : Pt} {r' : Rd} {i : Int} {w : World} {b : Nat} {mv : Nat → Value} (H : LevOk f) (h : run f (.lev n) r = some (p, r')) (hi : i = (n : Int)) (h1 : 1 ≤ n) (h9 : n ≤ 9) (hok : OkR r) (hr : RdAt w b mv r) :
    Calls Tryd.prog 35 #[.pointer (some ⟨b, 0, none⟩), .int .i64 i] w (PartTo w b mv p r') := by
  subst hi; exact H n r p r' h h1 h9 hok w b mv hr
theorem grown_undrew {w w' : World} {row : Option Nat} (h : w.drew.grownBy w' row) : w.grownBy w' row := ⟨h.os, h.tape, h.output, h.size, h.block⟩
theorem cell_at {w : World} {B : Nat} {cs : Array Value} {T : TypeId} {f : Nat × Nat} (h : w.heap[B]? = some (.cells cs T f)) (k : Nat) : w.cell? ⟨B, k, none⟩ = cs[k]? := by simp [World.cell?, h]
theorem free_at {w : World} {B : Nat} {cs : Array Value} {T : TypeId} (h : w.heap[B]? = some (.cells cs T (0, 0))) (k : Nat) : w.frozen? ⟨B, k, none⟩ = false := by simp [World.frozen?, h]
/-- Behind the joining in a round of fromLeft. -/
structure LCut (w : World) (b : Nat) (mv : Nat → Value) (B5 B6 : Nat) (O : Int) (U : Bool) (J : Pt) (r3 : Rd) (gv : Value) (wx : World) : Prop where
  h6 : wx.heap[B6]? = some (.cells #[.int .i64 O, .bool U] 84 (0, 0))
  h5 : wx.heap[B5]? = some (.cells #[gv, .int .i64 (J.nodes : Int), .int .i64 (J.deep : Int)] 64 (0, 0))
  h4 : wx.heap[w.heap.size]? = some (.cells #[.slice none 0 0, .int .i64 0, .int .i64 0] 64 (0, 0))
  pt : PtW wx (gv, J)
  rd : RdTo w wx b mv r3
theorem LCut.of {w w4 : World} {b : Nat} {mv : Nat → Value} {B5 B6 : Nat} {O : Int} {U : Bool} {J : Pt} {r3 : Rd} {gv u0 u1 u2 : Value} (hrd : RdTo w w4 b mv r3) (hlt : b < w.heap.size) (hb5 : w.heap.size < B5) (hb6 : B5 < B6)
    (h5 : w4.heap[B5]? = some (.cells #[u0, u1, u2] 64 (0, 0))) (h6 : w4.heap[B6]? = some (.cells #[.int .i64 O, .bool U] 84 (0, 0))) (h4 : w4.heap[w.heap.size]? = some (.cells #[.slice none 0 0, .int .i64 0, .int .i64 0] 64 (0, 0))) (hpt : PtW w4 (gv, J)) :
    LCut w b mv B5 B6 O U J r3 gv (((w4.setCell ⟨B5, 0, none⟩ gv).setCell ⟨B5, 1, none⟩ (.int .i64 (J.nodes : Int))).setCell ⟨B5, 2, none⟩ (.int .i64 (J.deep : Int))) := by
  have k1 := setObj_heap (v := gv) h5 (k := 0) (by simp)
  have k2 := setObj_heap (v := .int .i64 (J.nodes : Int)) k1 (k := 1) (by simp)
  have k3 := setObj_heap (v := .int .i64 (J.deep : Int)) k2 (k := 2) (by simp)
  have ho : ∀ g, g ≠ B5 → (((w4.setCell ⟨B5, 0, none⟩ gv).setCell ⟨B5, 1, none⟩ (.int .i64 (J.nodes : Int))).setCell ⟨B5, 2, none⟩ (.int .i64 (J.deep : Int))).heap[g]? = w4.heap[g]? := fun g hg => by
    rw [Below.heap_setCell _ _ _ _ (by simpa using hg), Below.heap_setCell _ _ _ _ (by simpa using hg), Below.heap_setCell _ _ _ _ (by simpa using hg)]
  exact ⟨(ho B6 (by omega)).trans h6, by rw [k3]; simp, (ho w.heap.size (by omega)).trans h4, ((hpt.set h5 (by decide) _).set k1 (by decide) _).set k2 (by decide) _, ((hrd.setLocal (by omega) hlt _).setLocal (by omega) hlt _).setLocal (by omega) hlt _⟩
/-- The head of fromLeft's loop. -/
structure LAt (w : World) (b : Nat) (mv : Nat → Value) (B5 n : Nat) (p : Pt) (r' : Rd) (g : Nat) (wr : World) (r1 : Rd) (p1 : Pt) (ev : Value) (B6 : Nat) (s : Option (Int × Bool)) : Prop where
  run_ : run (g + 1) (.ll n p1) r1 = some (p, r')
  sign : r1.sign n = s
  h6 : wr.heap[B6]? = some (.cells #[.int .i64 (s.getD (0, false)).1, .bool (s.getD (0, false)).2] 84 (0, 0))
  h5 : wr.heap[B5]? = some (.cells #[ev, .int .i64 (p1.nodes : Int), .int .i64 (p1.deep : Int)] 64 (0, 0))
  h4 : wr.heap[w.heap.size]? = some (.cells #[.slice none 0 0, .int .i64 0, .int .i64 0] 64 (0, 0))
  b5 : w.heap.size < B5
  b6 : B5 < B6
  pt : PtW wr (ev, p1)
  rd : RdTo w wr b mv (if s.isSome then r1.adv else r1)
  ok1 : p1.ok
  nd : p1.nodes ≤ r1.mu
  okr : OkR r1
theorem LAt.next {w wc w5 : World} {b : Nat} {mv : Nat → Value} {B5 B6 n gk : Nat} {O : Int} {U : Bool} {J p : Pt} {r3 r' : Rd} {gv : Value} {o : Obj} {s3 : Option (Int × Bool)} {u0 u1 : Value} (hc : LCut w b mv B5 B6 O U J r3 gv wc) (h1 : run (gk + 1) (.ll n J) r3 = some (p, r')) (h2 : r3.sign n = s3)
    (hb5 : w.heap.size < B5) (hlt : b < w.heap.size) (hg : (wc.alloc o).grownBy w5 (some b)) (hr : RdTo (wc.alloc o) w5 b mv (if s3.isSome then r3.adv else r3)) (h6 : w5.heap[wc.heap.size]? = some (.cells #[u0, u1] 84 (0, 0))) (hJ : J.ok) (hn : J.nodes ≤ r3.mu) (hok : OkR r3) :
    LAt w b mv B5 n p r' gk ((w5.setCell ⟨wc.heap.size, 0, none⟩ (.int .i64 (s3.getD (0, false)).1)).setCell ⟨wc.heap.size, 1, none⟩ (.bool (s3.getD (0, false)).2)) r3 J gv wc.heap.size s3 := by
  have z4 := lt_of_block hc.h4
  have z5 := lt_of_block hc.h5
  have k1 := setObj_heap (v := .int .i64 (s3.getD (0, false)).1) h6 (k := 0) (by simp)
  have k2 := setObj_heap (v := .bool (s3.getD (0, false)).2) k1 (k := 1) (by simp)
  have ho : ∀ g, g < wc.heap.size → g ≠ b → ((w5.setCell ⟨wc.heap.size, 0, none⟩ (.int .i64 (s3.getD (0, false)).1)).setCell ⟨wc.heap.size, 1, none⟩ (.bool (s3.getD (0, false)).2)).heap[g]? = wc.heap[g]? := fun g hg1 hg2 => by
    rw [Below.heap_setCell _ _ _ _ (by simp; omega), Below.heap_setCell _ _ _ _ (by simp; omega), hg.block g (by simp; omega) (fun e => hg2 (by injection e)), Below.heap_alloc _ _ _ hg1]
  exact ⟨h1, h2, by rw [k2]; simp, (ho B5 z5 (by omega)).trans hc.h5, (ho w.heap.size z4 (by omega)).trans hc.h4, hb5, z5, (((hc.pt.below (below_new wc o)).grown (hc.rd.rd.below (below_new wc o)) hg).set h6 (by decide) _).set k1 (by decide) _,
    (((hc.rd.then_below (below_new wc o)).trans hr).setLocal (by omega) hlt _).setLocal (by omega) hlt _, hJ, hn, hok⟩
theorem ll_none {g n : Nat} {p1 p : Pt} {r1 r' : Rd} (h : run (g + 1) (.ll n p1) r1 = some (p, r')) (hs : r1.sign n = none) : p = p1 ∧ r' = r1 := by
  simp only [run, hs, Option.some.injEq, Prod.mk.injEq] at h
  exact ⟨h.1.symm, h.2.symm⟩
set_option maxRecDepth 100000 in
set_option maxHeartbeats 4000000 in
theorem left_any (f : Nat) (H : ∀ g, g ≤ f → LevOk g) (n : Nat) (hn3 : 3 ≤ n) (hn8 : n ≤ 8) (r r1 r' : Rd) (q p : Pt) (h1 : run f (.lev (n + 1)) r = some (q, r1)) (h2 : run f (.ll n q) r1 = some (p, r')) (hok : OkR r) (w : World) (b : Nat) (mv : Nat → Value) (hr : RdAt w b mv r) :
    Calls Tryd.prog 63 #[.pointer (some ⟨b, 0, none⟩), .int .i64 (n : Int)] w (PartTo w b mv p r') := by
  have HH := Lib.hid H
  have H1 := Lib.hid h1
  have H2 := Lib.hid h2
  have HOK := Lib.hid hok
  have HR := Lib.hid hr
  have hlt := hr.lt
  obtain ⟨s1, o1, m1⟩ := run_step _ _ _ _ _ h1 hok.fine (by simp only [Task.pre]; omega)
  have hok1 := hok.step s1
  have HOK1 := Lib.hid hok1
  have HO1 := Lib.hid o1
  have hq1 : q.nodes ≤ r1.mu := by simp only [Task.base] at m1; omega
  clear H h1 h2 hok hr s1 o1 m1 hok1
  go_enter Tryd.func63, Tryd.ntmps63
  go_wp2_with fail
  refine (HH.out f (Nat.le_refl _) (n + 1) r q r1 H1.out (by omega) (by omega) HOK.out _ b mv (HR.out.below (below_new w _))).mono ?_
  rintro e w1 ⟨ev, rfl, hpt, hrd⟩
  have HPT := Lib.hid hpt
  have hrd' := RdTo.below (below_new w _) hlt hrd
  have HRD := Lib.hid hrd'
  have HH4 := Lib.hid ((hrd.grown.block w.heap.size (by simp) (by simp; omega)).trans (heap_alloc_new w _))
  have hs1 := hrd.grown.size
  simp at hs1
  obtain ⟨⟨Ae, ce, hev, y1, y2, -⟩, -⟩ := hpt
  simp only at hev y1
  subst hev
  unfold maxLen at y2
  clear hrd hrd'
  go_wp2_with fail
  obtain ⟨s, hs⟩ : ∃ s, r1.sign n = s := ⟨_, rfl⟩
  have HS := Lib.hid hs
  refine (takeSign_s b mv r1 n s _ hs (HRD.out.rd.below (below_new w1 _)) HOK1.out.nx (by omega) (by omega)).mono ?_
  clear hs
  rintro e w2 ⟨rfl, hrd2⟩
  have hg2 := hrd2.grown
  have hsz2 := hg2.size
  simp at hsz2
  have hblk : ∀ g, g < w1.heap.size → g ≠ b → w2.heap[g]? = w1.heap[g]? := fun g h3 h4 => (hg2.block g (by simp; omega) (fun e => h4 (by injection e))).trans (Below.heap_alloc _ _ _ h3)
  have HH4' := Lib.hid ((hblk w.heap.size (lt_of_block HH4.out) (by omega)).trans HH4.out)
  have HH5 := Lib.hid ((hg2.block w1.heap.size (by simp) (fun e => by injection e; omega)).trans (heap_alloc_new w1 _))
  have HPT2 : Hid (PtW w2 (.slice Ae q.e.length ce, q)) := Lib.hid ((HPT.out.below (below_new w1 _)).grown (HRD.out.rd.below (below_new w1 _)) hg2)
  have HRD2 := Lib.hid ((HRD.out.then_below (below_new w1 _)).trans hrd2)
  clear hg2 hblk hrd2
  cases f with
  | zero => have := H2.out; simp [run] at this
  | succ f =>
  · go_wp2
    go_loopg [6, 7] f (fun g s6 s7 wr => ∃ (rr : Rd) (pp : Pt) (ev : Value) (B6 : Nat) (s : Option (Int × Bool)), g ≤ f ∧ s6 = .pointer (some ⟨B6, 0, none⟩) ∧ s7 = .bool s.isSome ∧ LAt w b mv w1.heap.size n p r' g wr rr pp ev B6 s)
    case atStart =>
      refine ⟨r1, q, .slice Ae q.e.length ce, w2.heap.size, s, Nat.le_refl _, rfl, rfl, ⟨H2.out, HS.out, heap_alloc_new _ _, ?_, ?_, hs1, hsz2, ?_, HRD2.out.then_below (below_new w2 _), HO1.out, hq1, HOK1.out⟩⟩
      · rw [Below.heap_alloc _ _ _ (lt_of_block HH5.out)]; exact HH5.out
      · rw [Below.heap_alloc _ _ _ (lt_of_block HH4'.out)]; exact HH4'.out
      · exact HPT2.out.below (below_new w2 _)
    case round =>
      obtain ⟨rr, pp, ev, B6, s', hgf, rfl, rfl, hat⟩ := hrel
      have HAT := Lib.hid hat
      have b5 := hat.b5
      have b6 := hat.b6
      have z6 := lt_of_block hat.h6
      have hnx := hat.okr.nx
      obtain ⟨⟨Ae', ce', hev, y3, y4, -⟩, -⟩ := hat.pt
      simp only at hev y3
      subst hev
      unfold maxLen at y4
      have x5 := hat.h5
      have x6 := hat.h6
      have x4 := hat.h4
      have c50 : wr.cell? ⟨w1.heap.size, 0, none⟩ = some (.slice Ae' pp.e.length ce') := by simp [World.cell?, x5]
      have c51 : wr.cell? ⟨w1.heap.size, 1, none⟩ = some (.int .i64 (pp.nodes : Int)) := by simp [World.cell?, x5]
      have c52 : wr.cell? ⟨w1.heap.size, 2, none⟩ = some (.int .i64 (pp.deep : Int)) := by simp [World.cell?, x5]
      have c40 : wr.cell? ⟨w.heap.size, 0, none⟩ = some (.slice none 0 0) := by simp [World.cell?, x4]
      have c41 : wr.cell? ⟨w.heap.size, 1, none⟩ = some (.int .i64 0) := by simp [World.cell?, x4]
      have c42 : wr.cell? ⟨w.heap.size, 2, none⟩ = some (.int .i64 0) := by simp [World.cell?, x4]
      have f40 : wr.frozen? ⟨w.heap.size, 0, none⟩ = false := by simp [World.frozen?, x4]
      have f41 : wr.frozen? ⟨w.heap.size, 1, none⟩ = false := by simp [World.frozen?, x4]
      have f42 : wr.frozen? ⟨w.heap.size, 2, none⟩ = false := by simp [World.frozen?, x4]
      clear hat x4 x5 x6
      cases s' with
      | none =>
        have HE := Lib.hid (ll_none HAT.out.run_ HAT.out.sign)
        go_wp2
        refine bodyPost_ret (v := .agg #[.slice Ae' pp.e.length ce', .int .i64 (pp.nodes : Int), .int .i64 (pp.deep : Int)]) ?_ rfl (PartTo.laid HE.out.1 HE.out.2 HAT.out.rd hlt (Nat.le_refl _) HAT.out.h4 HAT.out.pt)
        obtain ⟨k0, k1, k2⟩ := trip_cells (.slice Ae' pp.e.length ce') (.int .i64 (pp.nodes : Int)) (.int .i64 (pp.deep : Int)) HAT.out.h4
        clear c50 c51 c52 c40 c41 c42 f40 f41 f42
        simp [results, Tryd.results63, go_sem, k0, k1, k2]
      | some s' =>
        obtain ⟨O, U⟩ := s'
        have x5 := HAT.out.h5
        have x6 := HAT.out.h6
        have c60 : wr.cell? ⟨B6, 0, none⟩ = some (.int .i64 O) := by simp [World.cell?, x6]
        have c61 : wr.cell? ⟨B6, 1, none⟩ = some (.bool U) := by simp [World.cell?, x6]
        have f50 : wr.frozen? ⟨w1.heap.size, 0, none⟩ = false := by simp [World.frozen?, x5]
        have f51 : wr.frozen? ⟨w1.heap.size, 1, none⟩ = false := by simp [World.frozen?, x5]
        have f52 : wr.frozen? ⟨w1.heap.size, 2, none⟩ = false := by simp [World.frozen?, x5]
        clear x5 x6 c40 c41 c42 f40 f41 f42
        have hso := sign_ops HAT.out.sign
        have hadv := adv_step rr (sign_lt HAT.out.sign)
        obtain ⟨⟨q3, r3⟩, k1, k2⟩ : ∃ x : Pt × Rd, run gk (.lev (n + 1)) rr.adv = some x ∧ (if n = 6 then some (sjoin (O, U) pp x.1, x.2) else run gk (.ll n (sjoin (O, U) pp x.1)) x.2) = some (p, r') := by
          have h := HAT.out.run_
          simp only [run, HAT.out.sign] at h
          obtain ⟨x, ha, hb⟩ := bind_some h
          exact ⟨x, ha, hb⟩
        have HKA := Lib.hid k1
        have HKB := Lib.hid k2
        obtain ⟨st3, ok3, mu3⟩ := run_step _ _ _ _ _ k1 (hadv.fine HAT.out.okr.fine) (by simp only [Task.pre]; omega)
        have HOKA := Lib.hid (HAT.out.okr.step hadv)
        have HOK3 := Lib.hid ((HAT.out.okr.step hadv).step st3)
        have HO3 := Lib.hid ok3
        have HPO := Lib.hid HAT.out.ok1
        have hq3 : q3.nodes + rr.adv.mu ≤ r3.mu := by simpa [Task.base] using mu3
        have hm3 := HOK3.out.mu
        have hpn := HAT.out.nd
        have hmrr := HAT.out.okr.mu
        have hadm := adv_mu rr
        have HPTa := Lib.hid HAT.out.pt
        have HRDA : Hid (RdTo w wr b mv rr.adv) := Lib.hid HAT.out.rd
        have X5 := Lib.hid HAT.out.h5
        have X6 : Hid (wr.heap[B6]? = some (.cells #[.int .i64 O, .bool U] 84 (0, 0))) := Lib.hid HAT.out.h6
        have X4 := Lib.hid HAT.out.h4
        have z5 : w1.heap.size < wr.heap.size := by omega
        have hws := HRDA.out.grown.size
        have hwn : IntKind.i64.wrap ((n : Int) + 1) = (n : Int) + 1 := IntWalk.i64_in _ (by omega)
        have hw7 : IntKind.i64.wrap 7 = 7 := by decide
        clear hadv k1 k2 st3 ok3 mu3
        have z6' := z6
        go_upto_region 5 with fail
        go_cut [31] (fun _ wx => ∃ gv : Value, LCut w b mv w1.heap.size B6 O U (sjoin (O, U) pp q3) r3 gv wx)
        case first =>
          go_region_with ((first | (go_at_call 35; (with_reducible refine (lev_at (HH.out gk (by omega)) HKA.out (by omega) (by omega) (by omega) HOKA.out (by first | exact HRDA.out.rd | exact HRDA.out.rd.drew)).mono ?_); rintro e w3 ⟨fv, rfl, hpt3, hrd3⟩; have hgr3 := grown_undrew hrd3.grown; have y5 := (hgr3.block w1.heap.size z5 (fun e => by injection e; omega)).trans X5.out; have y6 := (hgr3.block B6 z6 (fun e => by injection e; omega)).trans X6.out; have d60 : w3.cell? ⟨B6, 0, none⟩ = some (.int .i64 O) := (cell_at y6 0).trans rfl; have d61 : w3.cell? ⟨B6, 1, none⟩ = some (.bool U) := (cell_at y6 1).trans rfl; have d50 : w3.cell? ⟨w1.heap.size, 0, none⟩ = some (.slice Ae' pp.e.length ce') := (cell_at y5 0).trans rfl; have d51 : w3.cell? ⟨w1.heap.size, 1, none⟩ = some (.int .i64 (pp.nodes : Int)) := (cell_at y5 1).trans rfl; have d52 : w3.cell? ⟨w1.heap.size, 2, none⟩ = some (.int .i64 (pp.deep : Int)) := (cell_at y5 2).trans rfl; have HY5 := Lib.hid y5; have HY6 := Lib.hid y6; have HG3 := Lib.hid hgr3; have HR3 := Lib.hid hrd3; clear hgr3 hrd3 y5 y6) | (go_at_call 88; (with_reducible refine (sjoin_any (O, U) _ fv pp q3 _ (HPTa.out.grown HRDA.out.rd HG3.out).inn hpt3.inn HPO.out HO3.out (by omega) (by exact hso.2)).mono ?_); rintro e w4 ⟨gv, rfl, hpt4, hb4⟩; have HPT4 := Lib.hid hpt4; obtain ⟨⟨Ag, cg, hgv, u1, u2, -⟩, -⟩ := hpt4; simp only at hgv u1; subst hgv; unfold maxLen at u2; have y5 := (hb4.block w1.heap.size (lt_of_block HY5.out)).trans HY5.out; have e50 : w4.cell? ⟨w1.heap.size, 0, none⟩ = some (.slice Ae' pp.e.length ce') := (cell_at y5 0).trans rfl; have e51 : w4.cell? ⟨w1.heap.size, 1, none⟩ = some (.int .i64 (pp.nodes : Int)) := (cell_at y5 1).trans rfl; have e52 : w4.cell? ⟨w1.heap.size, 2, none⟩ = some (.int .i64 (pp.deep : Int)) := (cell_at y5 2).trans rfl; have g50 : w4.frozen? ⟨w1.heap.size, 0, none⟩ = false := free_at y5 0; have g51 : w4.frozen? ⟨w1.heap.size, 1, none⟩ = false := free_at y5 1; have g52 : w4.frozen? ⟨w1.heap.size, 2, none⟩ = false := free_at y5 2; have Z5 := Lib.hid y5; have HB4 := Lib.hid hb4; clear y5 hb4)))
          all_goals (go_wp2_with fail; go_meet; exact ⟨_, LCut.of ((HRDA.out.trans ⟨HR3.out.rd, HG3.out⟩).then_below HB4.out) hlt b5 b6 Z5.out ((HB4.out.block B6 (lt_of_block HY6.out)).trans HY6.out) ((HB4.out.block w.heap.size (by have := HG3.out.size; omega)).trans ((HG3.out.block w.heap.size (by omega) (fun e => by injection e; omega)).trans X4.out)) HPT4.out⟩)
        case rest =>
          obtain ⟨gv, hcut⟩ := hcut
          have HC := Lib.hid hcut
          have hokJ := sjoin_ok (O, U) pp q3 HPO.out HO3.out
          have hnJ := sjoin_nodes (O, U) pp q3 (by exact hso.2)
          have HJ := Lib.hid hokJ
          have hmr := (run_step _ _ _ _ _ HKA.out HOKA.out.fine (by simp only [Task.pre]; omega)).1.mu
          obtain ⟨⟨Ag, cg, hgv, u1, u2, -⟩, -⟩ := hcut.pt
          simp only at hgv u1
          subst hgv
          unfold maxLen at u2
          have y4 := hcut.h4
          have y5 := hcut.h5
          have y6 := hcut.h6
          have z4 := lt_of_block y4
          have z6b := lt_of_block y6
          have v50 : wc.cell? ⟨w1.heap.size, 0, none⟩ = some (.slice Ag (sjoin (O, U) pp q3).e.length cg) := (cell_at y5 0).trans rfl
          have v51 : wc.cell? ⟨w1.heap.size, 1, none⟩ = some (.int .i64 ((sjoin (O, U) pp q3).nodes : Int)) := (cell_at y5 1).trans rfl
          have v52 : wc.cell? ⟨w1.heap.size, 2, none⟩ = some (.int .i64 ((sjoin (O, U) pp q3).deep : Int)) := (cell_at y5 2).trans rfl
          clear hcut hokJ c50 c51 c52 c60 c61 f50 f51 f52
          by_cases h6 : n = 6
          · have HE : Hid (p = sjoin (O, U) pp q3 ∧ r' = r3) := Lib.hid (by
              have := HKB.out
              rw [if_pos h6] at this
              simp only [Option.some.injEq, Prod.mk.injEq] at this
              exact ⟨this.1.symm, this.2.symm⟩)
            have hd6 : ((n : Int) == 6) = true := by rw [beq_iff_eq]; omega
            have c40 : wc.cell? ⟨w.heap.size, 0, none⟩ = some (.slice none 0 0) := (cell_at y4 0).trans rfl
            have c41 : wc.cell? ⟨w.heap.size, 1, none⟩ = some (.int .i64 0) := (cell_at y4 1).trans rfl
            have c42 : wc.cell? ⟨w.heap.size, 2, none⟩ = some (.int .i64 0) := (cell_at y4 2).trans rfl
            have f40 : wc.frozen? ⟨w.heap.size, 0, none⟩ = false := free_at y4 0
            have f41 : wc.frozen? ⟨w.heap.size, 1, none⟩ = false := free_at y4 1
            have f42 : wc.frozen? ⟨w.heap.size, 2, none⟩ = false := free_at y4 2
            clear y4 y5 y6 h6 hnJ
            go_wp2
            refine bodyPost_ret (v := .agg #[.slice Ag (sjoin (O, U) pp q3).e.length cg, .int .i64 ((sjoin (O, U) pp q3).nodes : Int), .int .i64 ((sjoin (O, U) pp q3).deep : Int)]) ?_ rfl (PartTo.laid HE.out.1 HE.out.2 HC.out.rd hlt (Nat.le_refl _) HC.out.h4 HC.out.pt)
            obtain ⟨k0, k1, k2⟩ := trip_cells (.slice Ag (sjoin (O, U) pp q3).e.length cg) (.int .i64 ((sjoin (O, U) pp q3).nodes : Int)) (.int .i64 ((sjoin (O, U) pp q3).deep : Int)) HC.out.h4
            clear v50 v51 v52 c40 c41 c42 f40 f41 f42
            simp [results, Tryd.results63, go_sem, k0, k1, k2]
          · have HE : Hid (run gk (.ll n (sjoin (O, U) pp q3)) r3 = some (p, r')) := Lib.hid (by
              have := HKB.out
              rw [if_neg h6] at this
              exact this)
            have hd6 : ((n : Int) == 6) = false := by rw [beq_eq_false_iff_ne]; omega
            have v60 : wc.cell? ⟨B6, 0, none⟩ = some (.int .i64 O) := (cell_at y6 0).trans rfl
            have v61 : wc.cell? ⟨B6, 1, none⟩ = some (.bool U) := (cell_at y6 1).trans rfl
            clear y4 y5 y6 h6
            cases gk with
            | zero => have := HE.out; simp [run] at this
            | succ gk =>
            obtain ⟨s3, hs3⟩ : ∃ s3, r3.sign n = s3 := ⟨_, rfl⟩
            have HS3 := Lib.hid hs3
            clear hs3
            go_wp2_with fail
            refine (takeSign_s b mv r3 n s3 _ HS3.out (HC.out.rd.rd.below (below_new wc _)) HOK3.out.nx (by omega) (by omega)).mono ?_
            rintro e w5 ⟨rfl, hrd5⟩
            have hg5 := hrd5.grown
            have hsz5 := hg5.size
            simp at hsz5
            have HG5 := Lib.hid hg5
            have HR5 := Lib.hid hrd5
            have t6 := (hg5.block wc.heap.size (by simp) (fun e => by injection e; omega)).trans (heap_alloc_new wc _)
            have T6 := Lib.hid t6
            have d60 : w5.cell? ⟨wc.heap.size, 0, none⟩ = some (.int .i64 O) := (cell_at t6 0).trans rfl
            have d61 : w5.cell? ⟨wc.heap.size, 1, none⟩ = some (.bool U) := (cell_at t6 1).trans rfl
            have e60 : w5.frozen? ⟨wc.heap.size, 0, none⟩ = false := free_at t6 0
            have e61 : w5.frozen? ⟨wc.heap.size, 1, none⟩ = false := free_at t6 1
            clear t6 hg5 hrd5 v50 v51 v52 v60 v61
            go_wp2
            go_roundg gk
            case measure => omega
            case rel => exact ⟨r3, sjoin (O, U) pp q3, _, wc.heap.size, s3, by omega, rfl, rfl, LAt.next HC.out HE.out HS3.out (by omega) hlt HG5.out HR5.out T6.out HJ.out (by omega) HOK3.out⟩
end Go.Proofs.YtgohhnbdicdenaaDoor.Ex

