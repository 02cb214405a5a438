/- The method fromLeft of a reader. Conditions: level's contract at less fuel; a reader lies in memory. -/
import Derived.Test.YtgohhnbdicdenaaGreatDoorPz06
import Derived.Test.YtgohhnbdicdenaaGreatDoorPz07
import Derived.Deep.LoopGhost
import Derived.IntWalk
import Derived.Test.YtgohhnbdicdenaaGreatDoorPz04
import Derived.Test.YtgohhnbdicdenaaGreatDoorPz03
namespace Go.Proofs.YtgohhnbdicdenaaGreatDoor.Ex
open Go.ChangeShapes Go.WideShapes Go.ChangeAt Go.RowKit
open Go.Proofs.YtgohhnbdicdenaaGreatDoor.Tr (str ret_bool ret_int Bytes Nd joinM roomM)
set_option linter.unusedVariables false
set_option linter.unusedSimpArgs false

/-- A reader within the bounds. -/
structure OkR (r : Rd) : Prop where
  len : r.l.length ≤ 100000
  nxt : r.next ≤ 100000
  good : GoodL r.l
  text : ∀ t ∈ r.l, t.text.length ≤ 1000000
  beg : r.begun ≤ 200
  fine : r.fine
theorem OkR.step {r r' : Rd} (h : OkR r) (s : Step r r') : OkR r' := by
  have := s.top; have h1 := h.len; have h2 := h.nxt
  rcases s.st with ⟨e, _⟩ | ⟨e, _⟩
  · exact ⟨by rw [e]; exact h1, by omega, by rw [e]; exact h.good, by rw [e]; exact h.text, by rw [s.beg]; exact h.beg, s.fine h.fine⟩
  · exact ⟨by rw [e]; simp, by omega, by rw [e]; intro t ht; simp at ht, by rw [e]; intro t ht; simp at ht, by rw [s.beg]; exact h.beg, s.fine h.fine⟩
theorem OkR.nx {r : Rd} (h : OkR r) : r.next ≤ 1000000 := by have := h.nxt; omega
theorem OkR.cur {r : Rd} (h : OkR r) : r.cur.text.length ≤ 1000000 := by
  unfold Rd.cur
  cases ht : r.l[r.next]? with
  | none => simp [noTok]
  | some t => exact h.text t (List.mem_of_getElem? ht)
theorem OkR.mu {r : Rd} (h : OkR r) : r.mu ≤ 100001 := by
  unfold Rd.mu; have := h.nxt; split <;> omega
def LevOk (f : Nat) : Prop := ∀ (n : Nat) (r : Rd) (p : Pt) (r' : Rd), run f (.lev n) r = some (p, r') → 1 ≤ n → n ≤ 9 → OkR r → ∀ (w : World) (b : Nat) (mv : Nat → Value), RdAt w b mv r →
  Calls Tryz.prog 146 #[.pointer (some ⟨b, 0, none⟩), .int .i64 (n : Int)] w (PartTo w b mv p r')

theorem PtW.inn {w : World} {x : Value × Pt} (h : PtW w x) : PtIn w w.heap.size x :=
  ⟨h.1, fun h0 g o n c e => by obtain ⟨cs, f, hc⟩ := h.2 h0 g o n c e; exact lt_of_block hc⟩
theorem RdTo.setLocal {w wr : World} {b B k : Nat} {mv : Nat → Value} {r : Rd} (h : RdTo w wr b mv r) (hB : w.heap.size ≤ B) (hlt : b < w.heap.size) (v : Value) : RdTo w (wr.setCell ⟨B, k, none⟩ v) b mv r := by
  have ho : ∀ g, g < w.heap.size → (wr.setCell ⟨B, k, none⟩ v).heap[g]? = wr.heap[g]? := fun g hg => Below.heap_setCell _ _ _ _ (by simp; omega)
  refine ⟨h.rd.keep (by simp [World.setCell]) (fun g h1 h2 => ho g (by omega)) (ho b hlt), ⟨h.grown.os, h.grown.tape, h.grown.output, by simpa [World.setCell] using h.grown.size, fun i hi hne => (ho i hi).trans (h.grown.block i hi hne)⟩⟩
theorem takeSign_s (b : Nat) (mv : Nat → Value) (r : Rd) (n : Nat) (s : Option (Int × Bool)) (w : World) (hs : r.sign n = s) (hr : RdAt w b mv r) (hn : r.next ≤ 1000000) (h1 : 1 ≤ n) (h9 : n ≤ 9) :
    Calls Tryz.prog 156 #[.pointer (some ⟨b, 0, none⟩), .int .i64 (n : Int)] w (SignTo w b mv s r) := by
  subst hs; exact takeSign_any b mv r n w hr hn h1 h9
theorem PartTo.laid {w wr : World} {b : Nat} {mv : Nat → Value} {p pp : Pt} {r' rr : Rd} {gv : Value} {B : Nat} {u0 u1 u2 : Value} (hp : p = pp) (hr : r' = rr) (hrd : RdTo w wr b mv rr) (hlt : b < w.heap.size) (hB : w.heap.size ≤ B)
    (hBW : wr.heap[B]? = some (.cells #[u0, u1, u2] 167 (0, 0))) (hnd : PtW wr (gv, pp)) :
    PartTo w b mv p r' (.returned (.agg #[gv, .int .i64 (pp.nodes : Int), .int .i64 (pp.deep : Int)])) (((wr.setCell ⟨B, 0, none⟩ gv).setCell ⟨B, 1, none⟩ (.int .i64 (pp.nodes : Int))).setCell ⟨B, 2, none⟩ (.int .i64 (pp.deep : Int))) := by
  subst hp; subst hr
  have h1 := setObj_heap (v := gv) hBW (k := 0) (by simp)
  have h2 := setObj_heap (v := .int .i64 (p.nodes : Int)) h1 (k := 1) (by simp)
  exact ⟨gv, rfl, ((hnd.set hBW (by decide) _).set h1 (by decide) _).set h2 (by decide) _, ((hrd.setLocal hB hlt _).setLocal hB hlt _).setLocal hB hlt _⟩
theorem RdAt.drew {w : World} {b : Nat} {mv : Nat → Value} {r : Rd} (h : RdAt w b mv r) : RdAt w.drew b mv r := h.keep (Nat.le_refl _) (fun _ _ _ => rfl) rfl
theorem lev_at {f n : Nat} {r : Rd} {p : Pt} {r' : Rd} {i : Int} {w : World} {b : Nat} {mv : Nat → Value} (H : LevOk f) (h : run f (.lev n) r = some (p, r')) (hi : i = (n : Int)) (h1 : 1 ≤ n) (h9 : n ≤ 9) (hok : OkR r) (hr : RdAt w b mv r) :
    Calls Tryz.prog 146 #[.pointer (some ⟨b, 0, none⟩), .int .i64 i] w (PartTo w b mv p r') := by
  subst hi; exact H n r p r' h h1 h9 hok w b mv hr
theorem grown_undrew {w w' : World} {row : Option Nat} (h : w.drew.grownBy w' row) : w.grownBy w' row := ⟨h.os, h.tape, h.output, h.size, h.block⟩
theorem cell_at {w : World} {B : Nat} {cs : Array Value} {T : TypeId} {f : Nat × Nat} (h : w.heap[B]? = some (.cells cs T f)) (k : Nat) : w.cell? ⟨B, k, none⟩ = cs[k]? := by simp [World.cell?, h]
theorem free_at {w : World} {B : Nat} {cs : Array Value} {T : TypeId} (h : w.heap[B]? = some (.cells cs T (0, 0))) (k : Nat) : w.frozen? ⟨B, k, none⟩ = false := by simp [World.frozen?, h]
/-- Behind the joining in a round of fromLeft. -/
structure LCut (w : World) (b : Nat) (mv : Nat → Value) (B5 B6 : Nat) (O : Int) (U : Bool) (J : Pt) (r3 : Rd) (gv : Value) (wx : World) : Prop where
  h6 : wx.heap[B6]? = some (.cells #[.int .i64 O, .bool U] 171 (0, 0))
  h5 : wx.heap[B5]? = some (.cells #[gv, .int .i64 (J.nodes : Int), .int .i64 (J.deep : Int)] 167 (0, 0))
  h4 : wx.heap[w.heap.size]? = some (.cells #[.slice none 0 0, .int .i64 0, .int .i64 0] 167 (0, 0))
  pt : PtW wx (gv, J)
  rd : RdTo w wx b mv r3
theorem LCut.of {w w4 : World} {b : Nat} {mv : Nat → Value} {B5 B6 : Nat} {O : Int} {U : Bool} {J : Pt} {r3 : Rd} {gv u0 u1 u2 : Value} (hrd : RdTo w w4 b mv r3) (hlt : b < w.heap.size) (hb5 : w.heap.size < B5) (hb6 : B5 < B6)
    (h5 : w4.heap[B5]? = some (.cells #[u0, u1, u2] 167 (0, 0))) (h6 : w4.heap[B6]? = some (.cells #[.int .i64 O, .bool U] 171 (0, 0))) (h4 : w4.heap[w.heap.size]? = some (.cells #[.slice none 0 0, .int .i64 0, .int .i64 0] 167 (0, 0))) (hpt : PtW w4 (gv, J)) :
    LCut w b mv B5 B6 O U J r3 gv (((w4.setCell ⟨B5, 0, none⟩ gv).setCell ⟨B5, 1, none⟩ (.int .i64 (J.nodes : Int))).setCell ⟨B5, 2, none⟩ (.int .i64 (J.deep : Int))) := by
  have k1 := setObj_heap (v := gv) h5 (k := 0) (by simp)
  have k2 := setObj_heap (v := .int .i64 (J.nodes : Int)) k1 (k := 1) (by simp)
  have k3 := setObj_heap (v := .int .i64 (J.deep : Int)) k2 (k := 2) (by simp)
  have ho : ∀ g, g ≠ B5 → (((w4.setCell ⟨B5, 0, none⟩ gv).setCell ⟨B5, 1, none⟩ (.int .i64 (J.nodes : Int))).setCell ⟨B5, 2, none⟩ (.int .i64 (J.deep : Int))).heap[g]? = w4.heap[g]? := fun g hg => by
    rw [Below.heap_setCell _ _ _ _ (by simpa using hg), Below.heap_setCell _ _ _ _ (by simpa using hg), Below.heap_setCell _ _ _ _ (by simpa using hg)]
  exact ⟨(ho B6 (by omega)).trans h6, by rw [k3]; simp, (ho w.heap.size (by omega)).trans h4, ((hpt.set h5 (by decide) _).set k1 (by decide) _).set k2 (by decide) _, ((hrd.setLocal (by omega) hlt _).setLocal (by omega) hlt _).setLocal (by omega) hlt _⟩
/-- The head of fromLeft's loop. -/
structure LAt (w : World) (b : Nat) (mv : Nat → Value) (B5 n : Nat) (p : Pt) (r' : Rd) (g : Nat) (wr : World) (r1 : Rd) (p1 : Pt) (ev : Value) (B6 : Nat) (s : Option (Int × Bool)) : Prop where
  run_ : run (g + 1) (.ll n p1) r1 = some (p, r')
  sign : r1.sign n = s
  h6 : wr.heap[B6]? = some (.cells #[.int .i64 (s.getD (0, false)).1, .bool (s.getD (0, false)).2] 171 (0, 0))
  h5 : wr.heap[B5]? = some (.cells #[ev, .int .i64 (p1.nodes : Int), .int .i64 (p1.deep : Int)] 167 (0, 0))
  h4 : wr.heap[w.heap.size]? = some (.cells #[.slice none 0 0, .int .i64 0, .int .i64 0] 167 (0, 0))
  b5 : w.heap.size < B5
  b6 : B5 < B6
  pt : PtW wr (ev, p1)
  rd : RdTo w wr b mv (if s.isSome then r1.adv else r1)
  ok1 : p1.ok
  nd : p1.nodes ≤ r1.mu
  okr : OkR r1
theorem LAt.next {w wc w5 : World} {b : Nat} {mv : Nat → Value} {B5 B6 n gk : Nat} {O : Int} {U : Bool} {J p : Pt} {r3 r' : Rd} {gv : Value} {o : Obj} {s3 : Option (Int × Bool)} {u0 u1 : Value} (hc : LCut w b mv B5 B6 O U J r3 gv wc) (h1 : run (gk + 1) (.ll n J) r3 = some (p, r')) (h2 : r3.sign n = s3)
    (hb5 : w.heap.size < B5) (hlt : b < w.heap.size) (hg : (wc.alloc o).grownBy w5 (some b)) (hr : RdTo (wc.alloc o) w5 b mv (if s3.isSome then r3.adv else r3)) (h6 : w5.heap[wc.heap.size]? = some (.cells #[u0, u1] 171 (0, 0))) (hJ : J.ok) (hn : J.nodes ≤ r3.mu) (hok : OkR r3) :
    LAt w b mv B5 n p r' gk ((w5.setCell ⟨wc.heap.size, 0, none⟩ (.int .i64 (s3.getD (0, false)).1)).setCell ⟨wc.heap.size, 1, none⟩ (.bool (s3.getD (0, false)).2)) r3 J gv wc.heap.size s3 := by
  have z4 := lt_of_block hc.h4
  have z5 := lt_of_block hc.h5
  have k1 := setObj_heap (v := .int .i64 (s3.getD (0, false)).1) h6 (k := 0) (by simp)
  have k2 := setObj_heap (v := .bool (s3.getD (0, false)).2) k1 (k := 1) (by simp)
  have ho : ∀ g, g < wc.heap.size → g ≠ b → ((w5.setCell ⟨wc.heap.size, 0, none⟩ (.int .i64 (s3.getD (0, false)).1)).setCell ⟨wc.heap.size, 1, none⟩ (.bool (s3.getD (0, false)).2)).heap[g]? = wc.heap[g]? := fun g hg1 hg2 => by
    rw [Below.heap_setCell _ _ _ _ (by simp; omega), Below.heap_setCell _ _ _ _ (by simp; omega), hg.block g (by simp; omega) (fun e => hg2 (by injection e)), Below.heap_alloc _ _ _ hg1]
  exact ⟨h1, h2, by rw [k2]; simp, (ho B5 z5 (by omega)).trans hc.h5, (ho w.heap.size z4 (by omega)).trans hc.h4, hb5, z5, (((hc.pt.below (below_new wc o)).grown (hc.rd.rd.below (below_new wc o)) hg).set h6 (by decide) _).set k1 (by decide) _,
    (((hc.rd.then_below (below_new wc o)).trans hr).setLocal (by omega) hlt _).setLocal (by omega) hlt _, hJ, hn, hok⟩
theorem ll_none {g n : Nat} {p1 p : Pt} {r1 r' : Rd} (h : run (g + 1) (.ll n p1) r1 = some (p, r')) (hs : r1.sign n = none) : p = p1 ∧ r' = r1 := by
  simp only [run, hs, Option.some.injEq, Prod.mk.injEq] at h
  exact ⟨h.1.symm, h.2.symm⟩
set_option maxRecDepth 100000 in
set_option maxHeartbeats 4000000 in
theorem left_any (f : Nat) (H : ∀ g, g ≤ f → LevOk g) (n : Nat) (hn3 : 3 ≤ n) (hn8 : n ≤ 8) (r r1 r' : Rd) (q p : Pt) (h1 : run f (.lev (n + 1)) r = some (q, r1)) (h2 : run f (.ll n q) r1 = some (p, r')) (hok : OkR r) (w : World) (b : Nat) (mv : Nat → Value) (hr : RdAt w b mv r) :
    Calls Tryz.prog 152 #[.pointer (some ⟨b, 0, none⟩), .int .i64 (n : Int)] w (PartTo w b mv p r') := by
  have HH := Lib.hid H
  have H1 := Lib.hid h1
  have H2 := Lib.hid h2
  have HOK := Lib.hid hok
  have HR := Lib.hid hr
  have hlt := hr.lt
  obtain ⟨s1, o1, m1⟩ := run_step _ _ _ _ _ h1 hok.fine (by simp only [Task.pre]; omega)
  have hok1 := hok.step s1
  have HOK1 := Lib.hid hok1
  have HO1 := Lib.hid o1
  have hq1 : q.nodes ≤ r1.mu := by simp only [Task.base] at m1; omega
  clear H h1 h2 hok hr s1 o1 m1 hok1
  go_enter Tryz.func152, Tryz.ntmps152
  go_wp2_with fail
  refine (HH.out f (Nat.le_refl _) (n + 1) r q r1 H1.out (by omega) (by omega) HOK.out _ b mv (HR.out.below (below_new w _))).mono ?_
  rintro e w1 ⟨ev, rfl, hpt, hrd⟩
  have HPT := Lib.hid hpt
  have hrd' := RdTo.below (below_new w _) hlt hrd
  have HRD := Lib.hid hrd'
  have HH4 := Lib.hid ((hrd.grown.block w.heap.size (by simp) (by simp; omega)).trans (heap_alloc_new w _))
  have hs1 := hrd.grown.size
  simp at hs1
  obtain ⟨⟨Ae, ce, hev, y1, y2, -⟩, -⟩ := hpt
  simp only at hev y1
  subst hev
  unfold maxLen at y2
  clear hrd hrd'
  go_wp2_with fail
  obtain ⟨s, hs⟩ : ∃ s, r1.sign n = s := ⟨_, rfl⟩
  have HS := Lib.hid hs
  refine (takeSign_s b mv r1 n s _ hs (HRD.out.rd.below (below_new w1 _)) HOK1.out.nx (by omega) (by omega)).mono ?_
  clear hs
  rintro e w2 ⟨rfl, hrd2⟩
  have hg2 := hrd2.grown
  have hsz2 := hg2.size
  simp at hsz2
  have hblk : ∀ g, g < w1.heap.size → g ≠ b → w2.heap[g]? = w1.heap[g]? := fun g h3 h4 => (hg2.block g (by simp; omega) (fun e => h4 (by injection e))).trans (Below.heap_alloc _ _ _ h3)
  have HH4' := Lib.hid ((hblk w.heap.size (lt_of_block HH4.out) (by omega)).trans HH4.out)
  have HH5 := Lib.hid ((hg2.block w1.heap.size (by simp) (fun e => by injection e; omega)).trans (heap_alloc_new w1 _))
  have HPT2 : Hid (PtW w2 (.slice Ae q.e.length ce, q)) := Lib.hid ((HPT.out.below (below_new w1 _)).grown (HRD.out.rd.below (below_new w1 _)) hg2)
  have HRD2 := Lib.hid ((HRD.out.then_below (below_new w1 _)).trans hrd2)
  clear hg2 hblk hrd2
  cases f with
  | zero => have := H2.out; simp [run] at this
  | succ f =>
  · go_wp2
    go_loopg [6, 7] f (fun g s6 s7 wr => ∃ (rr : Rd) (pp : Pt) (ev : Value) (B6 : Nat) (s : Option (Int × Bool)), g ≤ f ∧ s6 = .pointer (some ⟨B6, 0, none⟩) ∧ s7 = .bool s.isSome ∧ LAt w b mv w1.heap.size n p r' g wr rr pp ev B6 s)
    case atStart =>
      refine ⟨r1, q, .slice Ae q.e.length ce, w2.heap.size, s, Nat.le_refl _, rfl, rfl, ⟨H2.out, HS.out, heap_alloc_new _ _, ?_, ?_, hs1, hsz2, ?_, HRD2.out.then_below (below_new w2 _), HO1.out, hq1, HOK1.out⟩⟩
      · rw [Below.heap_alloc _ _ _ (lt_of_block HH5.out)]; exact HH5.out
      · rw [Below.heap_alloc _ _ _ (lt_of_block HH4'.out)]; exact HH4'.out
      · exact HPT2.out.below (below_new w2 _)
    case round =>
      obtain ⟨rr, pp, ev, B6, s', hgf, rfl, rfl, hat⟩ := hrel
      have HAT := Lib.hid hat
      have b5 := hat.b5
      have b6 := hat.b6
      have z6 := lt_of_block hat.h6
      have hnx := hat.okr.nx
      obtain ⟨⟨Ae', ce', hev, y3, y4, -⟩, -⟩ := hat.pt
      simp only at hev y3
      subst hev
      unfold maxLen at y4
      have x5 := hat.h5
      have x6 := hat.h6
      have x4 := hat.h4
      have c50 : wr.cell? ⟨w1.heap.size, 0, none⟩ = some (.slice Ae' pp.e.length ce') := by simp [World.cell?, x5]
      have c51 : wr.cell? ⟨w1.heap.size, 1, none⟩ = some (.int .i64 (pp.nodes : Int)) := by simp [World.cell?, x5]
      have c52 : wr.cell? ⟨w1.heap.size, 2, none⟩ = some (.int .i64 (pp.deep : Int)) := by simp [World.cell?, x5]
      have c40 : wr.cell? ⟨w.heap.size, 0, none⟩ = some (.slice none 0 0) := by simp [World.cell?, x4]
      have c41 : wr.cell? ⟨w.heap.size, 1, none⟩ = some (.int .i64 0) := by simp [World.cell?, x4]
      have c42 : wr.cell? ⟨w.heap.size, 2, none⟩ = some (.int .i64 0) := by simp [World.cell?, x4]
      have f40 : wr.frozen? ⟨w.heap.size, 0, none⟩ = false := by simp [World.frozen?, x4]
      have f41 : wr.frozen? ⟨w.heap.size, 1, none⟩ = false := by simp [World.frozen?, x4]
      have f42 : wr.frozen? ⟨w.heap.size, 2, none⟩ = false := by simp [World.frozen?, x4]
      clear hat x4 x5 x6
      cases s' with
      | none =>
        have HE := Lib.hid (ll_none HAT.out.run_ HAT.out.sign)
        go_wp2
        refine bodyPost_ret (v := .agg #[.slice Ae' pp.e.length ce', .int .i64 (pp.nodes : Int), .int .i64 (pp.deep : Int)]) ?_ rfl (PartTo.laid HE.out.1 HE.out.2 HAT.out.rd hlt (Nat.le_refl _) HAT.out.h4 HAT.out.pt)
        obtain ⟨k0, k1, k2⟩ := trip_cells (.slice Ae' pp.e.length ce') (.int .i64 (pp.nodes : Int)) (.int .i64 (pp.deep : Int)) HAT.out.h4
        clear c50 c51 c52 c40 c41 c42 f40 f41 f42
        simp [results, Tryz.results152, go_sem, k0, k1, k2]
      | some s' =>
        obtain ⟨O, U⟩ := s'
        have x5 := HAT.out.h5
        have x6 := HAT.out.h6
        have c60 : wr.cell? ⟨B6, 0, none⟩ = some (.int .i64 O) := by simp [World.cell?, x6]
        have c61 : wr.cell? ⟨B6, 1, none⟩ = some (.bool U) := by simp [World.cell?, x6]
        have f50 : wr.frozen? ⟨w1.heap.size, 0, none⟩ = false := by simp [World.frozen?, x5]
        have f51 : wr.frozen? ⟨w1.heap.size, 1, none⟩ = false := by simp [World.frozen?, x5]
        have f52 : wr.frozen? ⟨w1.heap.size, 2, none⟩ = false := by simp [World.frozen?, x5]
        clear x5 x6 c40 c41 c42 f40 f41 f42
        have hso := sign_ops HAT.out.sign
        have hadv := adv_step rr (sign_lt HAT.out.sign)
        obtain ⟨⟨q3, r3⟩, k1, k2⟩ : ∃ x : Pt × Rd, run gk (.lev (n + 1)) rr.adv = some x ∧ (if n = 6 then some (sjoin (O, U) pp x.1, x.2) else run gk (.ll n (sjoin (O, U) pp x.1)) x.2) = some (p, r') := by
          have h := HAT.out.run_
          simp only [run, HAT.out.sign] at h
          obtain ⟨x, ha, hb⟩ := bind_some h
          exact ⟨x, ha, hb⟩
        have HKA := Lib.hid k1
        have HKB := Lib.hid k2
        obtain ⟨st3, ok3, mu3⟩ := run_step _ _ _ _ _ k1 (hadv.fine HAT.out.okr.fine) (by simp only [Task.pre]; omega)
        have HOKA := Lib.hid (HAT.out.okr.step hadv)
        have HOK3 := Lib.hid ((HAT.out.okr.step hadv).step st3)
        have HO3 := Lib.hid ok3
        have HPO := Lib.hid HAT.out.ok1
        have hq3 : q3.nodes + rr.adv.mu ≤ r3.mu := by simpa [Task.base] using mu3
        have hm3 := HOK3.out.mu
        have hpn := HAT.out.nd
        have hmrr := HAT.out.okr.mu
        have hadm := adv_mu rr
        have HPTa := Lib.hid HAT.out.pt
        have HRDA : Hid (RdTo w wr b mv rr.adv) := Lib.hid HAT.out.rd
        have X5 := Lib.hid HAT.out.h5
        have X6 : Hid (wr.heap[B6]? = some (.cells #[.int .i64 O, .bool U] 171 (0, 0))) := Lib.hid HAT.out.h6
        have X4 := Lib.hid HAT.out.h4
        have z5 : w1.heap.size < wr.heap.size := by omega
        have hws := HRDA.out.grown.size
        have hwn : IntKind.i64.wrap ((n : Int) + 1) = (n : Int) + 1 := IntWalk.i64_in _ (by omega)
        have hw7 : IntKind.i64.wrap 7 = 7 := by decide
        clear hadv k1 k2 st3 ok3 mu3
        have z6' := z6
        go_upto_region 5 with fail
        go_cut [31] (fun _ wx => ∃ gv : Value, LCut w b mv w1.heap.size B6 O U (sjoin (O, U) pp q3) r3 gv wx)
        case first =>
          go_region_with ((first | (go_at_call 146; (with_reducible refine (lev_at (HH.out gk (by omega)) HKA.out (by omega) (by omega) (by omega) HOKA.out (by first | exact HRDA.out.rd | exact HRDA.out.rd.drew)).mono ?_); rintro e w3 ⟨fv, rfl, hpt3, hrd3⟩; have hgr3 := grown_undrew hrd3.grown; have y5 := (hgr3.block w1.heap.size z5 (fun e => by injection e; omega)).trans X5.out; have y6 := (hgr3.block B6 z6 (fun e => by injection e; omega)).trans X6.out; have d60 : w3.cell? ⟨B6, 0, none⟩ = some (.int .i64 O) := (cell_at y6 0).trans rfl; have d61 : w3.cell? ⟨B6, 1, none⟩ = some (.bool U) := (cell_at y6 1).trans rfl; have d50 : w3.cell? ⟨w1.heap.size, 0, none⟩ = some (.slice Ae' pp.e.length ce') := (cell_at y5 0).trans rfl; have d51 : w3.cell? ⟨w1.heap.size, 1, none⟩ = some (.int .i64 (pp.nodes : Int)) := (cell_at y5 1).trans rfl; have d52 : w3.cell? ⟨w1.heap.size, 2, none⟩ = some (.int .i64 (pp.deep : Int)) := (cell_at y5 2).trans rfl; have HY5 := Lib.hid y5; have HY6 := Lib.hid y6; have HG3 := Lib.hid hgr3; have HR3 := Lib.hid hrd3; clear hgr3 hrd3 y5 y6) | (go_at_call 160; (with_reducible refine (sjoin_any (O, U) _ fv pp q3 _ (HPTa.out.grown HRDA.out.rd HG3.out).inn hpt3.inn HPO.out HO3.out (by omega) (by exact hso.2)).mono ?_); rintro e w4 ⟨gv, rfl, hpt4, hb4⟩; have HPT4 := Lib.hid hpt4; obtain ⟨⟨Ag, cg, hgv, u1, u2, -⟩, -⟩ := hpt4; simp only at hgv u1; subst hgv; unfold maxLen at u2; have y5 := (hb4.block w1.heap.size (lt_of_block HY5.out)).trans HY5.out; have e50 : w4.cell? ⟨w1.heap.size, 0, none⟩ = some (.slice Ae' pp.e.length ce') := (cell_at y5 0).trans rfl; have e51 : w4.cell? ⟨w1.heap.size, 1, none⟩ = some (.int .i64 (pp.nodes : Int)) := (cell_at y5 1).trans rfl; have e52 : w4.cell? ⟨w1.heap.size, 2, none⟩ = some (.int .i64 (pp.deep : Int)) := (cell_at y5 2).trans rfl; have g50 : w4.frozen? ⟨w1.heap.size, 0, none⟩ = false := free_at y5 0; have g51 : w4.frozen? ⟨w1.heap.size, 1, none⟩ = false := free_at y5 1; have g52 : w4.frozen? ⟨w1.heap.size, 2, none⟩ = false := free_at y5 2; have Z5 := Lib.hid y5; have HB4 := Lib.hid hb4; clear y5 hb4)))
          all_goals (go_wp2_with fail; go_meet; exact ⟨_, LCut.of ((HRDA.out.trans ⟨HR3.out.rd, HG3.out⟩).then_below HB4.out) hlt b5 b6 Z5.out ((HB4.out.block B6 (lt_of_block HY6.out)).trans HY6.out) ((HB4.out.block w.heap.size (by have := HG3.out.size; omega)).trans ((HG3.out.block w.heap.size (by omega) (fun e => by injection e; omega)).trans X4.out)) HPT4.out⟩)
        case rest =>
          obtain ⟨gv, hcut⟩ := hcut
          have HC := Lib.hid hcut
          have hokJ := sjoin_ok (O, U) pp q3 HPO.out HO3.out
          have hnJ := sjoin_nodes (O, U) pp q3 (by exact hso.2)
          have HJ := Lib.hid hokJ
          have hmr := (run_step _ _ _ _ _ HKA.out HOKA.out.fine (by simp only [Task.pre]; omega)).1.mu
          obtain ⟨⟨Ag, cg, hgv, u1, u2, -⟩, -⟩ := hcut.pt
          simp only at hgv u1
          subst hgv
          unfold maxLen at u2
          have y4 := hcut.h4
          have y5 := hcut.h5
          have y6 := hcut.h6
          have z4 := lt_of_block y4
          have z6b := lt_of_block y6
          have v50 : wc.cell? ⟨w1.heap.size, 0, none⟩ = some (.slice Ag (sjoin (O, U) pp q3).e.length cg) := (cell_at y5 0).trans rfl
          have v51 : wc.cell? ⟨w1.heap.size, 1, none⟩ = some (.int .i64 ((sjoin (O, U) pp q3).nodes : Int)) := (cell_at y5 1).trans rfl
          have v52 : wc.cell? ⟨w1.heap.size, 2, none⟩ = some (.int .i64 ((sjoin (O, U) pp q3).deep : Int)) := (cell_at y5 2).trans rfl
          clear hcut hokJ c50 c51 c52 c60 c61 f50 f51 f52
          by_cases h6 : n = 6
          · have HE : Hid (p = sjoin (O, U) pp q3 ∧ r' = r3) := Lib.hid (by
              have := HKB.out
              rw [if_pos h6] at this
              simp only [Option.some.injEq, Prod.mk.injEq] at this
              exact ⟨this.1.symm, this.2.symm⟩)
            have hd6 : ((n : Int) == 6) = true := by rw [beq_iff_eq]; omega
            have c40 : wc.cell? ⟨w.heap.size, 0, none⟩ = some (.slice none 0 0) := (cell_at y4 0).trans rfl
            have c41 : wc.cell? ⟨w.heap.size, 1, none⟩ = some (.int .i64 0) := (cell_at y4 1).trans rfl
            have c42 : wc.cell? ⟨w.heap.size, 2, none⟩ = some (.int .i64 0) := (cell_at y4 2).trans rfl
            have f40 : wc.frozen? ⟨w.heap.size, 0, none⟩ = false := free_at y4 0
            have f41 : wc.frozen? ⟨w.heap.size, 1, none⟩ = false := free_at y4 1
            have f42 : wc.frozen? ⟨w.heap.size, 2, none⟩ = false := free_at y4 2
            clear y4 y5 y6 h6 hnJ
            go_wp2
            refine bodyPost_ret (v := .agg #[.slice Ag (sjoin (O, U) pp q3).e.length cg, .int .i64 ((sjoin (O, U) pp q3).nodes : Int), .int .i64 ((sjoin (O, U) pp q3).deep : Int)]) ?_ rfl (PartTo.laid HE.out.1 HE.out.2 HC.out.rd hlt (Nat.le_refl _) HC.out.h4 HC.out.pt)
            obtain ⟨k0, k1, k2⟩ := trip_cells (.slice Ag (sjoin (O, U) pp q3).e.length cg) (.int .i64 ((sjoin (O, U) pp q3).nodes : Int)) (.int .i64 ((sjoin (O, U) pp q3).deep : Int)) HC.out.h4
            clear v50 v51 v52 c40 c41 c42 f40 f41 f42
            simp [results, Tryz.results152, go_sem, k0, k1, k2]
          · have HE : Hid (run gk (.ll n (sjoin (O, U) pp q3)) r3 = some (p, r')) := Lib.hid (by
              have := HKB.out
              rw [if_neg h6] at this
              exact this)
            have hd6 : ((n : Int) == 6) = false := by rw [beq_eq_false_iff_ne]; omega
            have v60 : wc.cell? ⟨B6, 0, none⟩ = some (.int .i64 O) := (cell_at y6 0).trans rfl
            have v61 : wc.cell? ⟨B6, 1, none⟩ = some (.bool U) := (cell_at y6 1).trans rfl
            clear y4 y5 y6 h6
            cases gk with
            | zero => have := HE.out; simp [run] at this
            | succ gk =>
            obtain ⟨s3, hs3⟩ : ∃ s3, r3.sign n = s3 := ⟨_, rfl⟩
            have HS3 := Lib.hid hs3
            clear hs3
            go_wp2_with fail
            refine (takeSign_s b mv r3 n s3 _ HS3.out (HC.out.rd.rd.below (below_new wc _)) HOK3.out.nx (by omega) (by omega)).mono ?_
            rintro e w5 ⟨rfl, hrd5⟩
            have hg5 := hrd5.grown
            have hsz5 := hg5.size
            simp at hsz5
            have HG5 := Lib.hid hg5
            have HR5 := Lib.hid hrd5
            have t6 := (hg5.block wc.heap.size (by simp) (fun e => by injection e; omega)).trans (heap_alloc_new wc _)
            have T6 := Lib.hid t6
            have d60 : w5.cell? ⟨wc.heap.size, 0, none⟩ = some (.int .i64 O) := (cell_at t6 0).trans rfl
            have d61 : w5.cell? ⟨wc.heap.size, 1, none⟩ = some (.bool U) := (cell_at t6 1).trans rfl
            have e60 : w5.frozen? ⟨wc.heap.size, 0, none⟩ = false := free_at t6 0
            have e61 : w5.frozen? ⟨wc.heap.size, 1, none⟩ = false := free_at t6 1
            clear t6 hg5 hrd5 v50 v51 v52 v60 v61
            go_wp2
            go_roundg gk
            case measure => omega
            case rel => exact ⟨r3, sjoin (O, U) pp q3, _, wc.heap.size, s3, by omega, rfl, rfl, LAt.next HC.out HE.out HS3.out (by omega) hlt HG5.out HR5.out T6.out HJ.out (by omega) HOK3.out⟩
end Go.Proofs.YtgohhnbdicdenaaGreatDoor.Ex

/- Programs in memory: rows of streams, equations, items, units; worlds in which all blocks but those of some types stay. Conditions: none. -/
namespace Go.Proofs.YtgohhnbdicdenaaGreatDoor.Pg
open Go.ChangeShapes Go.WideShapes Go.ChangeAt Go.RowKit
open Go.Proofs.YtgohhnbdicdenaaGreatDoor.Ex Go.Proofs.YtgohhnbdicdenaaGreatDoor.Tr
set_option linter.unusedVariables false
set_option linter.unusedSimpArgs false

/-- All blocks but those of some types stay. -/
structure Stay (P : TypeId → Prop) (w w' : World) : Prop where
  size : w.heap.size ≤ w'.heap.size
  block : ∀ (g : Nat) (cs : Array Value) (T : TypeId) (f : Nat × Nat), w.heap[g]? = some (Obj.cells cs T f) → ¬ P T → w'.heap[g]? = w.heap[g]?
theorem Stay.refl (P : TypeId → Prop) (w : World) : Stay P w w := ⟨Nat.le_refl _, fun _ _ _ _ _ _ => rfl⟩
theorem Stay.trans {P : TypeId → Prop} {w w1 w2 : World} (h : Stay P w w1) (k : Stay P w1 w2) : Stay P w w2 :=
  ⟨Nat.le_trans h.size k.size, fun g cs T f hg hp => (k.block g cs T f ((h.block g cs T f hg hp).trans hg) hp).trans (h.block g cs T f hg hp)⟩
theorem Stay.below {P : TypeId → Prop} {w w' : World} (h : Below w.heap.size w w') : Stay P w w' := ⟨h.size, fun g cs T f hg _ => h.block g (lt_of_block hg)⟩
theorem Stay.wide {P Q : TypeId → Prop} {w w' : World} (h : Stay P w w') (hq : ∀ T, P T → Q T) : Stay Q w w' := ⟨h.size, fun g cs T f hg hp => h.block g cs T f hg (fun hpt => hp (hq T hpt))⟩
theorem Stay.grown {P : TypeId → Prop} {w w' : World} {row : Option Nat} (h : w.grownBy w' row) (hb : ∀ B, row = some B → ∃ cs T f, w.heap[B]? = some (Obj.cells cs T f) ∧ P T) : Stay P w w' :=
  ⟨h.size, fun g cs T f hg hp => h.block g (lt_of_block hg) (fun e => by
    obtain ⟨cs', T', f', h1, h2⟩ := hb g e.symm
    rw [hg] at h1
    simp only [Option.some.injEq, Obj.cells.injEq] at h1
    exact hp (h1.2.1 ▸ h2))⟩
theorem Stay.pt {P : TypeId → Prop} {w w' : World} {x : Value × Pt} (h : Stay P w w') (hp : ¬ P 58) (k : PtW w x) : PtW w' x :=
  k.keep h.size (fun g ⟨cs, f, hc⟩ => h.block g cs 58 f hc hp)

/-- A slice that holds a list: K cells for each of its elements, of a type. -/
def RowR {α : Type} (T : TypeId) (K : Nat) (R : World → α → List Value → Prop) (w : World) (l : List α) (v : Value) : Prop :=
  ∃ A c, v = .slice A l.length c ∧ l.length ≤ c ∧ c ≤ maxLen ∧ ∀ (i : Nat) (a : α), l[i]? = some a → ∃ (g : Nat) (x : List Value) (cs : Array Value) (f : Nat × Nat), A = some ⟨g, 0, none⟩ ∧ w.heap[g]? = some (Obj.cells cs T f) ∧ R w a x ∧ x.length = K ∧ ∀ k, k < K → cs[i * K + k]? = x[k]?
theorem RowR.stay {α : Type} {T : TypeId} {K : Nat} {R : World → α → List Value → Prop} {P : TypeId → Prop} {w w' : World} {l : List α} {v : Value} (h : RowR T K R w l v) (st : Stay P w w') (hT : ¬ P T) (hR : ∀ a x, R w a x → R w' a x) : RowR T K R w' l v := by
  obtain ⟨A, c, rfl, h1, h2, h3⟩ := h
  refine ⟨A, c, rfl, h1, h2, fun i a hi => ?_⟩
  obtain ⟨g, x, cs, f, e1, e2, e3, e4, e5⟩ := h3 i a hi
  exact ⟨g, x, cs, f, e1, (st.block g cs T f e2 hT).trans e2, hR a x e3, e4, e5⟩
theorem RowR.nil {α : Type} (T : TypeId) (K : Nat) (R : World → α → List Value → Prop) (w : World) : RowR T K R w [] (.slice none 0 0) :=
  ⟨none, 0, rfl, by simp, by unfold maxLen; omega, fun i a h => by simp at h⟩
def PrmV (w : World) (p : Prm) (x : List Value) : Prop := x = [.string (str p.name), .int .i64 p.ty]
def EqnV (w : World) (q : Eqn) (x : List Value) : Prop := ∃ ev, x = [.string (str q.name), ev] ∧ PtW w (ev, ⟨q.e, 0, 0⟩)
def ExpV (w : World) (e : List Nd) (x : List Value) : Prop := ∃ ev, x = [ev] ∧ PtW w (ev, ⟨e, 0, 0⟩)
def ItmV (w : World) (i : Itm) (x : List Value) : Prop := ∃ ev fv av, x = [.int .i64 i.kind, .string (str i.name), .int .i64 i.ty, ev, fv, av] ∧ PtW w (ev, ⟨i.e, 0, 0⟩) ∧ PtW w (fv, ⟨i.f, 0, 0⟩) ∧ RowR 23 1 ExpV w i.args av
def UntV (w : World) (u : Unt) (x : List Value) : Prop := ∃ iv vv qv lv, x = [.bool u.contract, .string (str u.name), iv, .string (str u.out.name), .int .i64 u.out.ty, vv, qv, lv] ∧ RowR 46 2 PrmV w u.ins iv ∧ RowR 46 2 PrmV w u.vars vv ∧ RowR 78 2 EqnV w u.eqs qv ∧ RowR 72 6 ItmV w u.items lv
/-- The types of what is read of a program. -/
def Kept (P : TypeId → Prop) : Prop := ¬ P 58 ∧ ¬ P 23 ∧ ¬ P 46 ∧ ¬ P 78 ∧ ¬ P 72
theorem PrmV.stay {P : TypeId → Prop} {w w' : World} (st : Stay P w w') (p : Prm) (x : List Value) (h : PrmV w p x) : PrmV w' p x := h
theorem EqnV.stay {P : TypeId → Prop} {w w' : World} (st : Stay P w w') (h58 : ¬ P 58) (p : Eqn) (x : List Value) (h : EqnV w p x) : EqnV w' p x := by
  obtain ⟨ev, h1, h2⟩ := h; exact ⟨ev, h1, st.pt h58 h2⟩
theorem ExpV.stay {P : TypeId → Prop} {w w' : World} (st : Stay P w w') (h58 : ¬ P 58) (p : List Nd) (x : List Value) (h : ExpV w p x) : ExpV w' p x := by
  obtain ⟨ev, h1, h2⟩ := h; exact ⟨ev, h1, st.pt h58 h2⟩
theorem ItmV.stay {P : TypeId → Prop} {w w' : World} (st : Stay P w w') (h58 : ¬ P 58) (h23 : ¬ P 23) (p : Itm) (x : List Value) (h : ItmV w p x) : ItmV w' p x := by
  obtain ⟨ev, fv, av, h1, h2, h3, h4⟩ := h
  exact ⟨ev, fv, av, h1, st.pt h58 h2, st.pt h58 h3, h4.stay st h23 (ExpV.stay st h58)⟩
theorem UntV.stay {P : TypeId → Prop} {w w' : World} (st : Stay P w w') (hk : Kept P) (p : Unt) (x : List Value) (h : UntV w p x) : UntV w' p x := by
  obtain ⟨iv, vv, qv, lv, h1, h2, h3, h4, h5⟩ := h
  obtain ⟨k1, k2, k3, k4, k5⟩ := hk
  exact ⟨iv, vv, qv, lv, h1, h2.stay st k3 (PrmV.stay st), h3.stay st k3 (PrmV.stay st), h4.stay st k4 (EqnV.stay st k1), h5.stay st k5 (ItmV.stay st k1 k2)⟩

theorem flat_at {K : Nat} : ∀ (xs : List (List Value)) (i : Nat) (x : List Value), (∀ y ∈ xs, y.length = K) → xs[i]? = some x → ∀ k, k < K → xs.flatten[i * K + k]? = x[k]?
  | [], i, x, _, h, k, _ => by simp at h
  | y :: r, 0, x, hw, h, k, hk => by
    simp at h; subst h
    rw [List.flatten_cons, Nat.zero_mul, Nat.zero_add, List.getElem?_append_left (by rw [hw y (by simp)]; exact hk)]
  | y :: r, i + 1, x, hw, h, k, hk => by
    simp at h
    have hy := hw y (by simp)
    have e : (i + 1) * K = i * K + K := Nat.succ_mul i K
    rw [List.flatten_cons, List.getElem?_append_right (by omega), ← flat_at r i x (fun z hz => hw z (by simp [hz])) h k hk]
    congr 1; omega
theorem flat_len {K : Nat} : ∀ (xs : List (List Value)), (∀ y ∈ xs, y.length = K) → xs.flatten.length = xs.length * K
  | [], _ => by simp
  | y :: r, h => by rw [List.flatten_cons, List.length_append, h y (by simp), flat_len r (fun z hz => h z (by simp [hz])), List.length_cons, Nat.succ_mul]; omega
/-- A row under way: what is read so far lies in a row that was made on the way. -/
structure OList {α : Type} (T : TypeId) (K : Nat) (R : World → α → List Value → Prop) (w : World) (base : Nat) (ov : Value) (l : List α) (xs : List (List Value)) : Prop where
  own : w.ownsRow base T K ov l.length xs.flatten
  len : xs.length = l.length
  wid : ∀ y ∈ xs, y.length = K
  el : ∀ (i : Nat) (x : List Value) (a : α), xs[i]? = some x → l[i]? = some a → R w a x
section
variable {α : Type} {T : TypeId} {K : Nat} {R : World → α → List Value → Prop}
theorem OList.nil (w : World) (base : Nat) : OList (α := α) T K R w base (.slice none 0 0) [] [] :=
  ⟨World.ownsRow_nil _ _ _ _, rfl, fun y h => by simp at h, fun i x a h => by simp at h⟩
theorem OList.typed {w : World} {base : Nat} {ov : Value} {l : List α} {xs : List (List Value)} (h : OList T K R w base ov l xs) : ∀ B, ov.ownBlock = some B → ∃ cs f, w.heap[B]? = some (Obj.cells cs T f) := by
  intro B hB
  obtain ⟨hl, h0 | ⟨g, cap, cur, hv, hb, hh, _⟩⟩ := h.own
  · rw [h0.1] at hB; cases hB
  · rw [hv] at hB
    have e : some g = some B := hB
    injection e with e
    subst e
    exact ⟨_, _, hh⟩
theorem OList.row {w : World} {base : Nat} {ov : Value} {l : List α} {xs : List (List Value)} (h : OList T K R w base ov l xs) : RowR T K R w l ov := by
  obtain ⟨hl, h0 | ⟨g, cap, cur, rfl, hb, hh, hnc, hcm, hcs, hct⟩⟩ := h.own
  · obtain ⟨rfl, h0⟩ := h0
    have : l = [] := List.length_eq_zero_iff.1 h0
    subst this
    exact RowR.nil _ _ _ _
  · have hown : w.ownsRow base T K (.slice (some ⟨g, 0, none⟩) l.length cap) l.length xs.flatten := ⟨hl, .inr ⟨g, cap, cur, rfl, hb, hh, hnc, hcm, hcs, hct⟩⟩
    refine ⟨some ⟨g, 0, none⟩, cap, rfl, hnc, hcm, fun i a hi => ?_⟩
    have hil : i < l.length := (List.getElem?_eq_some_iff.1 hi).1
    obtain ⟨x, hx⟩ : ∃ x, xs[i]? = some x := ⟨_, List.getElem?_eq_getElem (by rw [h.len]; exact hil)⟩
    refine ⟨g, x, cur, _, rfl, hh, h.el i x a hx hi, h.wid x (List.mem_of_getElem? hx), fun k hk => ?_⟩
    have hle : (i + 1) * K ≤ l.length * K := Nat.mul_le_mul_right K hil
    rw [Nat.succ_mul] at hle
    have c := hown.cellAt (i * K + k) (by omega)
    rw [flat_at xs i x h.wid hx k hk] at c
    rw [← c]
    simp [World.cell?, hh]
theorem OList.keep {w w' : World} {base : Nat} {ov : Value} {l : List α} {xs : List (List Value)} (h : OList T K R w base ov l xs) (hk : ∀ g, ov.ownBlock = some g → w'.heap[g]? = w.heap[g]?) (hR : ∀ a x, R w a x → R w' a x) : OList T K R w' base ov l xs :=
  ⟨own_block h.own hk, h.len, h.wid, fun i x a h1 h2 => hR a x (h.el i x a h1 h2)⟩
theorem OList.stay {P : TypeId → Prop} {w w' : World} {base : Nat} {ov : Value} {l : List α} {xs : List (List Value)} (h : OList T K R w base ov l xs) (st : Stay P w w') (hT : ¬ P T) (hR : ∀ a x, R w a x → R w' a x) : OList T K R w' base ov l xs :=
  h.keep (fun g hg => by obtain ⟨cs, f, hc⟩ := h.typed g hg; exact st.block g cs T f hc hT) hR
theorem OList.snoc {w W w' : World} {base : Nat} {ov ov' : Value} {l : List α} {xs : List (List Value)} {a : α} {x : List Value} (h : OList T K R w base ov l xs) (hx : R w a x) (hl : x.length = K) (hW : Below w.heap.size w W) (hown : w'.ownsRow base T K ov' (l.length + 1) (xs.flatten ++ x)) (hg : W.grownBy w' ov.ownBlock)
    (hR : Stay (fun t => t = T) w w' → ∀ a x, R w a x → R w' a x) : OList T K R w' base ov' (l ++ [a]) (xs ++ [x]) := by
  have st : Stay (fun t => t = T) w w' := (Stay.below hW).trans (Stay.grown hg (fun B hB => by
    obtain ⟨cs, f, hc⟩ := h.typed B hB
    exact ⟨cs, T, f, (hW.block B (lt_of_block hc)).trans hc, rfl⟩))
  refine ⟨by rw [List.length_append, List.flatten_append]; simpa using hown, by rw [List.length_append, List.length_append, h.len]; rfl, fun y hy => ?_, fun i y b h1 h2 => hR st _ _ ?_⟩
  · rcases List.mem_append.1 hy with h1 | h1
    · exact h.wid y h1
    · simp at h1; rw [h1]; exact hl
  · by_cases hi : i < xs.length
    · rw [List.getElem?_append_left hi] at h1
      rw [List.getElem?_append_left (by rw [← h.len]; exact hi)] at h2
      exact h.el i y b h1 h2
    · rw [List.getElem?_append_right (by omega)] at h1
      rw [List.getElem?_append_right (by rw [← h.len]; omega)] at h2
      have e0 : i - xs.length = 0 := by
        have := (List.getElem?_eq_some_iff.1 h1).1
        simp at this; omega
      rw [e0] at h1
      rw [← h.len, e0] at h2
      simp at h1 h2
      subst h1; subst h2
      exact hx
end

/-- A reader within the bounds. -/
structure OkG (r : Rd) : Prop where
  okr : OkR ⟨r.l, r.next, 0, 0, 0⟩
  off : r.code ≠ 0 → r.l = []
  lim : r.l = [] ∨ r.next ≤ r.l.length
theorem OkG.nx {r : Rd} (h : OkG r) : r.next ≤ 100000 := h.okr.nxt
theorem okr_nil {n : Nat} (h : n ≤ 100000) : OkR ⟨[], n, 0, 0, 0⟩ := ⟨by simp, h, fun t ht => by simp at ht, fun t ht => by simp at ht, by simp, fun hc => absurd rfl hc⟩
theorem OkG.fail {r : Rd} (h : OkG r) (e : Int) : OkG (r.fail e) := by
  unfold Rd.fail
  split
  · exact ⟨okr_nil h.nx, fun _ => rfl, .inl rfl⟩
  · exact ⟨okr_nil h.nx, fun _ => rfl, .inl rfl⟩
theorem OkG.stop {r : Rd} (h : OkG r) (C A : Int) : OkG (Rd.stop C A r) := by
  unfold Rd.stop
  split
  · exact ⟨okr_nil h.nx, fun _ => rfl, .inl rfl⟩
  · exact ⟨okr_nil h.nx, fun _ => rfl, .inl rfl⟩
theorem OkG.to {r : Rd} (h : OkG r) {n : Nat} (hn : r.l = [] ∨ n ≤ r.l.length) (hm : n ≤ 100000) : OkG (Rd.to n r) := by
  obtain ⟨a, b, c, d, e, f⟩ := h.okr
  exact ⟨⟨a, hm, c, d, e, f⟩, h.off, hn⟩
theorem OkG.adv {r : Rd} (h : OkG r) (hn : r.next < r.l.length) : OkG r.adv := by
  obtain ⟨a, b, c, d, e, f⟩ := h.okr
  simp only at a
  exact ⟨⟨a, by show r.next + 1 ≤ _; omega, c, d, e, f⟩, h.off, .inr (by show r.next + 1 ≤ _; exact hn)⟩
theorem txt_in {r : Rd} (h : txt r ≠ []) : r.next < r.l.length := by
  apply Classical.byContradiction; intro hn
  apply h
  unfold txt Rd.cur
  rw [List.getElem?_eq_none (by omega)]; rfl

def grCells (lv : Value) (r : Rd) : Array Value := #[lv, .int .i64 (r.next : Int), .int .i64 r.code, .int .i64 r.at_]
/-- A reader of layer prog in memory. -/
structure GrAt (w : World) (b : Nat) (r : Rd) : Prop where
  blk : ∃ lv, w.heap[b]? = some (.cells (grCells lv r) 74 (0, 0)) ∧ TokOff w b lv r.l
  var : VarAt w b
  ok : OkG r
theorem GrAt.keep {w w' : World} {b : Nat} {r : Rd} (h : GrAt w b r) (hs : w.heap.size ≤ w'.heap.size) (hk : ∀ g, g < b → g < w.heap.size → w'.heap[g]? = w.heap[g]?) (hb : w'.heap[b]? = w.heap[b]?) : GrAt w' b r := by
  obtain ⟨lv, h1, h2⟩ := h.blk
  exact ⟨⟨lv, hb.trans h1, h2.keep hs hk⟩, h.var.keep hs hk, h.ok⟩
theorem GrAt.lt {w : World} {b : Nat} {r : Rd} (h : GrAt w b r) : b < w.heap.size := by
  obtain ⟨lv, h1, _⟩ := h.blk; exact lt_of_block h1
theorem GrAt.below {w w' : World} {b : Nat} {r : Rd} (h : GrAt w b r) (hb : Below w.heap.size w w') : GrAt w' b r :=
  h.keep hb.size (fun g _ hg => hb.block g hg) (hb.block b h.lt)
/-- What turns a reader alone. -/
structure GrTo (w w' : World) (b : Nat) (r' : Rd) : Prop where
  rd : GrAt w' b r'
  grown : w.grownBy w' (some b)
theorem GrTo.refl {w : World} {b : Nat} {r : Rd} (h : GrAt w b r) : GrTo w w b r := ⟨h, World.grownBy.refl w _⟩
theorem GrTo.below {w w1 w' : World} {b : Nat} {r' : Rd} (hb : Below w.heap.size w w1) (hlt : b < w.heap.size) (h : GrTo w1 w' b r') : GrTo w w' b r' :=
  ⟨h.rd, ⟨h.grown.os.trans hb.os, h.grown.tape.trans hb.tape, h.grown.output.trans hb.output, Nat.le_trans hb.size h.grown.size, fun i hi hne => (h.grown.block i (Nat.lt_of_lt_of_le hi hb.size) hne).trans (hb.block i hi)⟩⟩
theorem GrTo.of_below {w w' : World} {b : Nat} {r : Rd} (h : GrAt w b r) (hb : Below w.heap.size w w') : GrTo w w' b r :=
  ⟨h.below hb, ⟨hb.os, hb.tape, hb.output, hb.size, fun i hi _ => hb.block i hi⟩⟩
theorem GrTo.trans {w w1 w2 : World} {b : Nat} {r1 r2 : Rd} (h : GrTo w w1 b r1) (k : GrTo w1 w2 b r2) : GrTo w w2 b r2 :=
  ⟨k.rd, ⟨k.grown.os.trans h.grown.os, k.grown.tape.trans h.grown.tape, k.grown.output.trans h.grown.output, Nat.le_trans h.grown.size k.grown.size, fun i hi hne => (k.grown.block i (Nat.lt_of_lt_of_le hi h.grown.size) hne).trans (h.grown.block i hi hne)⟩⟩
theorem GrTo.then_below {w w1 w2 : World} {b : Nat} {r1 : Rd} (h : GrTo w w1 b r1) (k : Below w1.heap.size w1 w2) : GrTo w w2 b r1 := h.trans (GrTo.of_below h.rd k)
theorem GrTo.setLocal {w wr : World} {b B k : Nat} {r : Rd} (h : GrTo w wr b r) (hB : w.heap.size ≤ B) (hlt : b < w.heap.size) (v : Value) : GrTo w (wr.setCell ⟨B, k, none⟩ v) b r := by
  have ho : ∀ g, g < w.heap.size → (wr.setCell ⟨B, k, none⟩ v).heap[g]? = wr.heap[g]? := fun g hg => Below.heap_setCell _ _ _ _ (by simp; omega)
  refine ⟨h.rd.keep (by simp [World.setCell]) (fun g h1 h2 => ho g (by omega)) (ho b hlt), ⟨h.grown.os, h.grown.tape, h.grown.output, by simpa [World.setCell] using h.grown.size, fun i hi hne => (ho i hi).trans (h.grown.block i hi hne)⟩⟩
theorem gr_cell {w : World} {b : Nat} {lv : Value} {r : Rd} (h : w.heap[b]? = some (.cells (grCells lv r) 74 (0, 0))) (k : Nat) : w.cell? ⟨b, k, none⟩ = (grCells lv r)[k]? := by simp [World.cell?, h]
theorem gr_free {w : World} {b : Nat} {lv : Value} {r : Rd} (h : w.heap[b]? = some (.cells (grCells lv r) 74 (0, 0))) (k : Nat) : w.frozen? ⟨b, k, none⟩ = false := by simp [World.frozen?, h]
/-- Behind a reader's turn all blocks but readers stay. -/
theorem GrTo.stay {w w' : World} {b : Nat} {r r' : Rd} (h : GrAt w b r) (k : GrTo w w' b r') : Stay (fun t => t = 74) w w' :=
  Stay.grown k.grown (fun B hB => by injection hB with hB; subst hB; obtain ⟨lv, h1, _⟩ := h.blk; exact ⟨_, _, _, h1, rfl⟩)
/-- A field of the reader is turned. -/
theorem GrAt.set {w : World} {b : Nat} {r r' : Rd} {k : Nat} {v : Value} (h : GrAt w b r) (hk : k < 4) (hl : r'.l = r.l) (hok : OkG r') (hc : ∀ lv, (grCells lv r).setIfInBounds k v = grCells lv r') : GrTo w (w.setCell ⟨b, k, none⟩ v) b r' := by
  obtain ⟨lv, h1, h2⟩ := h.blk
  have hlt := h.lt
  have hs : w.heap.size = (w.setCell ⟨b, k, none⟩ v).heap.size := by simp [World.setCell]
  have ho : ∀ g, g ≠ b → (w.setCell ⟨b, k, none⟩ v).heap[g]? = w.heap[g]? := fun g hg => Below.heap_setCell w ⟨b, k, none⟩ v g (by simpa using hg)
  refine ⟨⟨⟨lv, ?_, ?_⟩, h.var.keep (by omega) (fun g hg _ => ho g (Nat.ne_of_lt hg)), hok⟩, ⟨rfl, rfl, rfl, by omega, fun i _ hne => ho i (fun e => hne (by rw [e]))⟩⟩
  · rw [setObj_heap h1 (by simpa [grCells] using hk), hc]
  · rw [hl]; exact h2.keep (by omega) (fun g hg _ => ho g (Nat.ne_of_lt hg))
theorem GrAt.advTo {w : World} {b : Nat} {r : Rd} (h : GrAt w b r) (hn : r.next < r.l.length) : GrTo w (w.setCell ⟨b, 1, none⟩ (.int .i64 ((r.next : Int) + 1))) b r.adv :=
  h.set (by decide) rfl (h.ok.adv hn) (fun lv => by simp [grCells, Rd.adv])
theorem GrAt.toTo {w : World} {b : Nat} {r : Rd} (h : GrAt w b r) {n : Nat} (hn : r.l = [] ∨ n ≤ r.l.length) (hm : n ≤ 100000) : GrTo w (w.setCell ⟨b, 1, none⟩ (.int .i64 (n : Int))) b (Rd.to n r) :=
  h.set (by decide) rfl (h.ok.to hn hm) (fun lv => by simp [grCells, Rd.to])
end Go.Proofs.YtgohhnbdicdenaaGreatDoor.Pg

