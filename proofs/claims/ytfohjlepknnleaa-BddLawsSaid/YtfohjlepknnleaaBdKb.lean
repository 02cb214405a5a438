/- keep: the store takes a function's nodes. Conditions: none. -/
import Derived.Test.YtfohjlepknnleaaBdKa
import Derived.Test.YtfohjlepknnleaaBdQc
namespace Go.Proofs.Ytfohjlepknnleaa.Bd
open Go.ChangeShapes Go.WideShapes Go.ChangeAt Go.RowKit
set_option linter.unusedVariables false
set_option linter.unusedSimpArgs false

/-- What keep tells, and leaves. -/
def KeepPost (P : Dp) (w : World) (F : List Nd) (x : Int) (e : Ending) (w' : World) : Prop :=
  (e = .returned (.tuple #[.int .i64 0, .int .i64 18]) ∧ Below w.heap.size w w' ∧ (x = -1 ∨ P.budget < P.S.length + F.length)) ∨
  ∃ (f y : Nat) (nv' : Value) (N : List Nd), x = (f : Int) ∧ e = .returned (.tuple #[.int .i64 (y : Int), .int .i64 0]) ∧ KS P w w' nv' N ∧ Good P.vars N ∧ y < N.length ∧ N.length ≤ P.budget ∧ (∃ m, N = P.S ++ m) ∧ (∀ r, den N y r = den (P.S ++ F) f r) ∧ N.length ≤ P.S.length + F.length
theorem below_alloc_drew (w : World) (o : Obj) : Below w.heap.size w (w.drew.alloc o) := ((Below.refl w.heap.size w).drew).alloc (Nat.le_refl _) o
theorem KS.back {P : Dp} {w wl w' : World} {nv' : Value} {N : List Nd} (hb : Below w.heap.size w wl) (h : KS P wl w' nv' N) : KS P w w' nv' N := by
  have hs := hb.size
  exact ⟨h.box, h.row, h.map, fun g a b c d => (h.keep g (by omega) b c d).trans (hb.block g a), fun g hg => (h.own g hg).imp_right (fun e => by omega), Nat.le_trans hs h.size, h.os.trans hb.os, h.tape.trans hb.tape, h.output.trans hb.output⟩

set_option maxRecDepth 100000 in
set_option maxHeartbeats 4000000 in
theorem keep_any (P : Dp) (w : World) (fv : Value) (F : List Nd) (hD : Dr P w fv F) (x : Int) (hx : -1 ≤ x ∧ x < ((P.S ++ F).length : Int)) :
    Calls Try.prog 35 #[.pointer (some ⟨P.dd, 0, none⟩), .int .i64 x] w (KeepPost P w F x) := by
  obtain ⟨M, hM⟩ : ∃ M, marksOf P.S F x.toNat = M := ⟨_, rfl⟩
  obtain ⟨size, hsize⟩ : ∃ n, P.S.length = n := ⟨_, rfl⟩
  obtain ⟨m, hm⟩ : ∃ n, F.length = n := ⟨_, rfl⟩
  obtain ⟨c, hc⟩ : ∃ n, rk M m = n := ⟨_, rfl⟩
  have HD := Lib.hid hD
  have hcm : c ≤ m := by rw [← hc]; exact rk_le M m
  have hroom := hD.room
  have hbud := hD.st.hbud
  have hsz1 : size ≤ 10000 := by have := hD.st.hlen; omega
  obtain ⟨A, cS, hS⟩ := row_form hD.stv.row
  obtain ⟨AF, cF, hF⟩ := row_form hD.row
  rw [hsize] at hS hroom
  rw [hm] at hF hroom
  have HFV := Lib.hid hF
  have HM := Lib.hid hM
  have HSZ := Lib.hid hsize
  have HMM := Lib.hid hm
  have HC := Lib.hid hc
  have HX := Lib.hid hx
  obtain ⟨w1, hw1⟩ : ∃ W, w.alloc (.cells #[.int .i64 (size : Int)] 3) = W := ⟨_, rfl⟩
  obtain ⟨a1, -, -, b1, s1⟩ := one_new _ _ _ _ hw1
  have HA1 := Lib.hid a1
  have HB1 := Lib.hid b1
  have S1 := Lib.hid s1
  have HCALL := Lib.hid (needed_any P w1 fv F (hD.kept b1) x hx)
  rw [hM, hsize, hm, hc] at HCALL
  obtain ⟨⟨d0, d1, d2, d3⟩, e0, e1, e2, e3⟩ := hD.ats
  rw [hS] at e2
  clear hD hsize hm hc hM hx a1 b1 s1 hS hF
  go_enter Try.func35, Try.ntmps35
  go_wp2_with fail
  refine HCALL.out.mono ?_
  rintro e w2 ⟨g, rfl, hrow, hg, hb2⟩
  obtain ⟨w3, hw3⟩ : ∃ W, w2.alloc (.cells #[.slice (some ⟨g, 0, none⟩) m m] 78) = W := ⟨_, rfl⟩
  obtain ⟨a3, -, -, b3, s3⟩ := one_new _ _ _ _ hw3
  have hB3 : Below w.heap.size w w3 := HB1.out.trans ((hb2.trans (b3.mono hb2.size)).mono HB1.out.size)
  have HB3 := Lib.hid hB3
  have HD3 := Lib.hid (HD.out.kept hB3)
  obtain ⟨⟨f0, f1, f2, f3⟩, g0, g1, g2, g3⟩ := HD3.out.ats
  have hg1 : g < w2.heap.size := block_lt hrow
  have hsz := S1.out
  have h12 := hb2.size
  have HROW : Hid (w3.heap[g]? = some (.cells (numL size M m).toArray 3 (0, 0))) := Lib.hid ((b3.block _ hg1).trans hrow)
  have HA0 : Hid (w3.heap[w.heap.size]? = some (.cells #[.int .i64 (size : Int)] 3 (0, 0))) := Lib.hid (by rw [b3.block _ (by omega), hb2.block _ (by omega)]; exact HA1.out)
  have HNB := Lib.hid a3
  have HGG : Hid (w1.heap.size ≤ g ∧ g < w2.heap.size ∧ w1.heap.size ≤ w2.heap.size ∧ w3.heap.size = w2.heap.size + 1 ∧ w1.heap.size = w.heap.size + 1) := Lib.hid ⟨hg, hg1, h12, s3, hsz⟩
  have x0 : w3.cell? ⟨w.heap.size, 0, none⟩ = some (.int .i64 (size : Int)) := by unfold World.cell?; rw [HA0.out]; rfl
  clear hrow hg hb2 a3 b3 s3 hB3 hg1 hsz h12 d0 d1 d2 d3 e0 e1 e2 e3
  by_cases hx1 : x = -1
  · subst hx1
    have HR : Hid (KeepPost P w F (-1) (.returned (.tuple #[.int .i64 0, .int .i64 18])) w3) := Lib.hid (.inl ⟨rfl, HB3.out, .inl rfl⟩)
    have HR2 : Hid (∀ q, KeepPost P w F (-1) (.returned (.tuple #[.int .i64 0, .int .i64 18])) (w3.drewN q)) := Lib.hid (fun q => .inl ⟨rfl, below_drewN HB3.out q, .inl rfl⟩)
    clear HX HM
    go_wp2
    go_quiet (fail)
    go_wp2
    refine bodyPost_ret (v := .tuple #[.int .i64 0, .int .i64 18]) (by simp [results, Try.results35, go_sem]) rfl (HR2.out _)
  obtain ⟨f, rfl⟩ : ∃ f : Nat, x = (f : Int) := ⟨x.toNat, by have := HX.out; omega⟩
  have hd0 : ((f : Int) == -1) = false := by simp
  by_cases hbd : P.budget < size + c
  · have hd : decide ((P.budget : Int) < (size : Int) + (c : Int)) = true := decide_eq_true (by omega)
    have HR2 : Hid (∀ q, KeepPost P w F (f : Int) (.returned (.tuple #[.int .i64 0, .int .i64 18])) (w3.drewN q)) := Lib.hid (fun q => .inl ⟨rfl, below_drewN HB3.out q, .inr (by rw [HSZ.out, HMM.out]; omega)⟩)
    clear HX HM hx1
    go_wp2
    go_quiet (fail)
    go_wp2
    refine bodyPost_ret (v := .tuple #[.int .i64 0, .int .i64 18]) (by simp [results, Try.results35, go_sem]) rfl (HR2.out _)
  · have hd : decide ((P.budget : Int) < (size : Int) + (c : Int)) = false := decide_eq_false (by omega)
    have HBD := Lib.hid hbd
    -- the kept lists
    have HKR : Hid (∀ i, i ≤ m → Good P.vars (keptL P.S F M i) ∧ (keptL P.S F M i).length = size + rk M i) := Lib.hid (fun i hi => by
      have R := kept_run (M := marksOf P.S F f) HD.out.st.good HD.out.good (fun j hj hm2 t lo hi hF => marks_closed (behind_of HD.out.good HD.out.st.good.two) F.length j _ hj hm2 t lo hi hF) i (by rw [HMM.out]; exact hi)
      have hM := HM.out
      rw [Int.toNat_natCast] at hM
      rw [hM, HSZ.out] at R
      exact ⟨R.1.good, R.2⟩)
    have HCL : Hid (∀ i t lo hi, i < m → M i = true → F[i]? = some (t, lo, hi) → (t < P.vars ∧ lo < size + i ∧ hi < size + i) ∧ (lo < size ∨ M (lo - size) = true) ∧ (hi < size ∨ M (hi - size) = true)) := Lib.hid (fun i t lo hi hi2 hmi hF => by
      have B := behind_of HD.out.good HD.out.st.good.two
      have h1 := B i t lo hi hF
      have h2 := marks_closed B F.length i (mark P.S.length f (fun _ => false)) (by rw [HMM.out]; exact hi2) (by
        have hM := HM.out
        rw [Int.toNat_natCast] at hM
        show marksOf P.S F f i = true
        rw [hM]; exact hmi) t lo hi hF
      have hM : marks P.S.length F F.length (mark P.S.length f (fun _ => false)) = M := by
        have := HM.out
        rw [Int.toNat_natCast] at this; exact this
      rw [hM, HSZ.out] at h2
      rw [HSZ.out] at h1
      refine ⟨⟨?_, h1.1, h1.2⟩, h2⟩
      have h3 : (P.S ++ F)[P.S.length + i]? = some (t, lo, hi) := by rw [List.getElem?_append_right (by omega), Nat.add_sub_cancel_left]; exact hF
      exact (HD.out.good.node _ t lo hi (by have := HD.out.st.good.two; omega) h3).1)
    clear hx1
    rw [HFV.out] at f1
    go_wp2
    go_quiet (fail)
    obtain ⟨w4, hw4⟩ : ∃ W, w3.drewN nq = W := ⟨_, rfl⟩
    have HB34 : Hid (Below w3.heap.size w3 w4) := Lib.hid (by rw [← hw4]; exact below_drewN (Below.refl _ _) nq)
    have HB4 : Hid (Below w.heap.size w w4) := Lib.hid (by rw [← hw4]; exact below_drewN HB3.out nq)
    have HS4 : Hid (w4.heap.size = w3.heap.size) := Lib.hid (by rw [← hw4]; rfl)
    rw [hw4]
    clear hw4 f0 f1 f2 f3 g0 g1 g2 g3 x0
    have HD4 := Lib.hid (HD3.out.kept HB34.out)
    obtain ⟨⟨f0, f1, f2, f3⟩, g0, g1, g2, g3⟩ := HD4.out.ats
    rw [HFV.out] at f1
    -- what lies from the draft's beginning on is not the store's
    have HOLD : Hid (∀ wr nv' N, KS P w4 wr nv' N → ∀ b, P.W0.heap.size ≤ b → b < w4.heap.size → wr.heap[b]? = w4.heap[b]?) := Lib.hid (fun wr nv' N hK b h1 h2 => by
      have st := HD.out.st
      obtain ⟨kf, km, _⟩ := st.map
      refine hK.keep b h2 (fun e => ?_) (fun e => ?_) (fun e => ?_)
      · have := st.box.lt; omega
      · have := km.lt; omega
      · obtain ⟨cs, h3⟩ := own_type st.row e; have := block_lt h3; omega)
    have HKS := Lib.hid (KS.start HD4.out)
    have HLB : Hid (P.b < w4.heap.size ∧ P.pb < w4.heap.size ∧ P.W0.heap.size ≤ w.heap.size) := Lib.hid (by
      have st := HD4.out.stv
      obtain ⟨kf, km, _⟩ := st.map
      exact ⟨st.box.lt, km.lt, HD.out.below.size⟩)
    go_wp2
    go_loopw [47] (fun vi wr => ∃ (i : Nat) (nv' : Value), i ≤ m ∧ vi = .int .i64 (i : Int) ∧ KS P w4 wr nv' (keptL P.S F M i)) (fun vi _ => m - (intOf vi).toNat)
    case atStart => exact ⟨0, P.nv, Nat.zero_le _, rfl, HKS.out⟩
    case round =>
      obtain ⟨i, nv', hi, rfl, hK⟩ := hrel
      have HK := Lib.hid hK
      have hold := HOLD.out wr nv' _ hK
      have hgg := HGG.out
      have hs4 := HS4.out
      have hlb := HLB.out
      have r0 : wr.heap[w.heap.size]? = some (.cells #[.int .i64 (size : Int)] 3 (0, 0)) := by rw [hold _ hlb.2.2 (by omega), HB34.out.block _ (by omega)]; exact HA0.out
      have r1 : wr.heap[w2.heap.size]? = some (.cells #[.slice (some ⟨g, 0, none⟩) m m] 78 (0, 0)) := by rw [hold _ (by omega) (by omega), HB34.out.block _ (by omega)]; exact HNB.out
      have r2 : wr.heap[g]? = some (.cells (numL size M m).toArray 3 (0, 0)) := by rw [hold _ (by omega) (by omega), HB34.out.block _ (by omega)]; exact HROW.out
      have r3 : wr.heap[P.dd]? = some (.cells #[.pointer (some ⟨P.b, 0, none⟩), fv, .map (some P.kb), .int .i64 (P.limit : Int)] 86 (0, 0)) := by rw [hold _ HD.out.dd (block_lt HD4.out.box)]; exact HD4.out.box
      have c0 : wr.cell? ⟨w.heap.size, 0, none⟩ = some (.int .i64 (size : Int)) := by unfold World.cell?; rw [r0]; rfl
      have c1 : wr.cell? ⟨w2.heap.size, 0, none⟩ = some (.slice (some ⟨g, 0, none⟩) m m) := by unfold World.cell?; rw [r1]; rfl
      have c2 : ∀ j, j < m → wr.cell? ⟨g, j, none⟩ = some (.int .i64 (if M j then ((size + rk M j : Nat) : Int) else -1)) := fun j hj => by
        unfold World.cell?
        rw [r2]
        show (numL size M m).toArray[j]? = _
        rw [List.getElem?_toArray]
        unfold numL
        rw [List.getElem?_map, List.getElem?_range hj]
        rfl
      have c3 : wr.cell? ⟨P.dd, 0, none⟩ = some (.pointer (some ⟨P.b, 0, none⟩)) := by unfold World.cell?; rw [r3]; rfl
      obtain ⟨b0, b1, b2, b3⟩ := hK.box.ats
      have R0 := Lib.hid r0
      have R1 := Lib.hid r1
      have R2 := Lib.hid r2
      have R3 := Lib.hid r3
      clear hold hgg hs4 hlb r0 r1 r2 r3
      by_cases hlt : i < m
      · obtain ⟨t, lo, hi', hnd⟩ := at_of (show i < F.length by rw [HMM.out]; exact hlt)
        have hrow4 : ∃ gF, AF = some ⟨gF, 0, none⟩ ∧ wr.cell? ⟨gF, i * 3, none⟩ = some (.int .i64 (t : Int)) ∧ wr.cell? ⟨gF, i * 3 + 1, none⟩ = some (.int .i64 (lo : Int)) ∧ wr.cell? ⟨gF, i * 3 + 2, none⟩ = some (.int .i64 (hi' : Int)) := by
          obtain ⟨gF, cap, e, q0, q1, q2⟩ := row_at HD4.out.row hnd
          have e1 := e
          rw [HFV.out, HMM.out] at e1
          have e2 : AF = some ⟨gF, 0, none⟩ := by injection e1
          obtain ⟨cs, hcs⟩ := own_type HD4.out.row (g := gF) (by rw [e]; rfl)
          have hge := (HD4.out.row.lt gF (by rw [e]; rfl)).1
          have hsame := HOLD.out wr nv' _ HK.out gF hge (block_lt hcs)
          exact ⟨gF, e2, (World.cell?_of_block (w := w4) hsame).trans q0, (World.cell?_of_block (w := w4) hsame).trans q1, (World.cell?_of_block (w := w4) hsame).trans q2⟩
        obtain ⟨gF, rfl, q0, q1, q2⟩ := hrow4
        have c2i := c2 i hlt
        obtain ⟨w5, hw5⟩ : ∃ W, wr.alloc (.cells #[.int .i64 (t : Int), .int .i64 (lo : Int), .int .i64 (hi' : Int)] 59) = W := ⟨_, rfl⟩
        obtain ⟨a5, ⟨n0, n1, n2⟩, bb5, s5⟩ := three_new _ _ _ _ _ _ hw5
        have HA5 := Lib.hid a5
        have HB5 := Lib.hid bb5
        have HS5 := Lib.hid s5
        have HND := Lib.hid hnd
        have HW5 := Lib.hid hw5
        cases hmi : M i with
        | false =>
          have c2f : (wr.alloc (.cells #[.int .i64 (t : Int), .int .i64 (lo : Int), .int .i64 (hi' : Int)] 59)).cell? ⟨g, i, none⟩ = some (.int .i64 (-1)) := by
            rw [hw5]
            refine (bb5.cell (p := ⟨g, i, none⟩) (block_lt R2.out)).trans ?_
            rw [c2i, hmi]; rfl
          have c1f : (wr.alloc (.cells #[.int .i64 (t : Int), .int .i64 (lo : Int), .int .i64 (hi' : Int)] 59)).cell? ⟨w2.heap.size, 0, none⟩ = some (.slice (some ⟨g, 0, none⟩) m m) := by
            rw [hw5]; exact (bb5.cell (p := ⟨w2.heap.size, 0, none⟩) (block_lt R1.out)).trans c1
          have HE : Hid (KS P w4 w5 nv' (keptL P.S F M (i + 1))) := Lib.hid (by
            have : keptL P.S F M (i + 1) = keptL P.S F M i := by
              show (match F[i]? with | none => _ | some n => _) = _
              rw [hnd, hmi]; rfl
            rw [this]; exact HK.out.kept bb5)
          clear hK c2 c2i hnd a5 bb5 s5 n0 n1 n2 hw5 hmi
          go_wp2
          rw [HW5.out]
          exact ⟨⟨i + 1, nv', by omega, by go_num, HE.out⟩, by simp [intOf]; omega⟩
        | true =>
          obtain ⟨⟨htv, hlo, hhi⟩, hmlo, hmhi⟩ := HCL.out i t lo hi' hlt hmi hnd
          have hD5 := bb5.drew
          have cc0 : w5.drew.cell? ⟨w.heap.size, 0, none⟩ = some (.int .i64 (size : Int)) := (bb5.drew.cell (p := ⟨w.heap.size, 0, none⟩) (block_lt R0.out)).trans c0
          have cc1 : w5.drew.cell? ⟨w2.heap.size, 0, none⟩ = some (.slice (some ⟨g, 0, none⟩) m m) := (bb5.drew.cell (p := ⟨w2.heap.size, 0, none⟩) (block_lt R1.out)).trans c1
          have cc2 : w5.drew.heap[g]? = some (.cells (numL size M m).toArray 3 (0, 0)) := (bb5.drew.block _ (block_lt R2.out)).trans R2.out
          obtain ⟨lo2, hlo2⟩ : ∃ y, toM size M lo = y := ⟨_, rfl⟩
          obtain ⟨hi2, hhi2⟩ : ∃ y, toM size M hi' = y := ⟨_, rfl⟩
          have hTL := to_any w5.drew w.heap.size w2.heap.size g size m M cc0 cc1 cc2 lo (by omega) hmlo hsz1 (by omega)
          have hTH := to_any w5.drew w.heap.size w2.heap.size g size m M cc0 cc1 cc2 hi' (by omega) hmhi hsz1 (by omega)
          rw [hlo2] at hTL
          rw [hhi2] at hTH
          have HTL := Lib.hid hTL
          have HTH := Lib.hid hTH
          have c2f : (wr.alloc (.cells #[.int .i64 (t : Int), .int .i64 (lo : Int), .int .i64 (hi' : Int)] 59)).cell? ⟨g, i, none⟩ = some (.int .i64 ((size + rk M i : Nat) : Int)) := by
            rw [hw5]
            refine (bb5.cell (p := ⟨g, i, none⟩) (block_lt R2.out)).trans ?_
            rw [c2i, hmi]; rfl
          have hnum : (((size + rk M i : Nat) : Int) != -1) = true := by simp; omega
          have c1f : (wr.alloc (.cells #[.int .i64 (t : Int), .int .i64 (lo : Int), .int .i64 (hi' : Int)] 59)).cell? ⟨w2.heap.size, 0, none⟩ = some (.slice (some ⟨g, 0, none⟩) m m) := by
            rw [hw5]; exact (bb5.cell (p := ⟨w2.heap.size, 0, none⟩) (block_lt R1.out)).trans c1
          have k1 : (wr.alloc (.cells #[.int .i64 (t : Int), .int .i64 (lo : Int), .int .i64 (hi' : Int)] 59)).cell? ⟨wr.heap.size, 1, none⟩ = some (.int .i64 (lo : Int)) := by rw [hw5]; exact n1
          have k2 : (wr.alloc (.cells #[.int .i64 (t : Int), .int .i64 (lo : Int), .int .i64 (hi' : Int)] 59)).cell? ⟨wr.heap.size, 2, none⟩ = some (.int .i64 (hi' : Int)) := by rw [hw5]; exact n2
          have n1f : w5.frozen? ⟨wr.heap.size, 1, none⟩ = false := by unfold World.frozen?; rw [a5]; rfl
          have n2f : w5.frozen? ⟨wr.heap.size, 2, none⟩ = false := by unfold World.frozen?; rw [a5]; rfl
          have HMI := Lib.hid hmi
          have HL2 := Lib.hid hlo2
          have HH2 := Lib.hid hhi2
          clear hlo2 hhi2 hK c2 c2i hnd a5 bb5 s5 hmi cc0 cc1 cc2 hTL hTH hD5 hmlo hmhi k1 k2 hw5
          obtain ⟨hGN, hLN⟩ := HKR.out i hi
          obtain ⟨N, hN⟩ : ∃ N, keptL P.S F M i = N := ⟨_, rfl⟩
          have HN := Lib.hid hN
          obtain ⟨nl, hnl⟩ : ∃ n, N.length = n := ⟨_, rfl⟩
          have hnb : nl = size + rk M i := by rw [← hnl, ← hN]; exact hLN
          have hrki := rk_le M i
          have hKN : KS P w4 wr nv' N := by rw [← hN]; exact HK.out
          obtain ⟨A', c', hnv'⟩ := row_form hKN.row
          rw [hnl] at hnv'
          subst hnv'
          have hKeq : keptL P.S F M (i + 1) = N ++ [(t, lo2, hi2)] := by
            show (match F[i]? with | none => _ | some n => _) = _
            rw [HND.out]
            simp only [HMI.out, if_true]
            rw [hN, HSZ.out, ← HL2.out, ← HH2.out]
          have hnge : w4.heap.size ≤ wr.heap.size := hKN.size
          have hno : (Value.slice A' nl c').ownBlock ≠ some wr.heap.size := fun e => by have := (hKN.row.lt _ e).2; omega
          obtain ⟨w6, hw6⟩ : ∃ W, (w5.setCell ⟨wr.heap.size, 1, none⟩ (.int .i64 (lo2 : Int))).setCell ⟨wr.heap.size, 2, none⟩ (.int .i64 (hi2 : Int)) = W := ⟨_, rfl⟩
          have hK6 : KS P w4 w6 (.slice A' nl c') N := by rw [← hw6]; exact ((hKN.kept HB5.out).set hnge HLB.out.1 HLB.out.2.1 hno).set hnge HLB.out.1 HLB.out.2.1 hno
          have hn6 : w6.heap[wr.heap.size]? = some (.cells #[.int .i64 (t : Int), .int .i64 (lo2 : Int), .int .i64 (hi2 : Int)] 59 (0, 0)) := by
            rw [← hw6]; simp [World.setCell, Array.getElem?_modify, HA5.out]
          have hdd6 : w6.heap[P.dd]? = some (.cells #[.pointer (some ⟨P.b, 0, none⟩), fv, .map (some P.kb), .int .i64 (P.limit : Int)] 86 (0, 0)) := by
            have h1 := block_lt R3.out
            rw [← hw6, Below.heap_setCell _ _ _ _ (by show P.dd ≠ wr.heap.size; omega), Below.heap_setCell _ _ _ _ (by show P.dd ≠ wr.heap.size; omega), HB5.out.block _ h1]
            exact R3.out
          have hok : okN (t, lo2, hi2) := by
            have hv := HD.out.st.hv
            have h1 := rk_le M (lo - size)
            have h2 := rk_le M (hi' - size)
            have e1 := HL2.out
            have e2 := HH2.out
            unfold toM at e1 e2
            unfold okN
            dsimp only
            refine ⟨by omega, ?_, ?_⟩
            · split at e1 <;> omega
            · split at e2 <;> omega
          obtain ⟨kf, hkm, hkt⟩ := hK6.map
          obtain ⟨w7, hrun, hm7, hg7⟩ := (hkm.keep (w' := w6.drewN 2) rfl).put keysN Try.underlying61 (by unfold maxLen; omega) (t, lo2, hi2) hok (.int .i64 (nl : Int))
          have hrun : (Instr.mapUpdate 61 (.map (some P.pb)) (.agg #[.int .i64 (t : Int), .int .i64 (lo2 : Int), .int .i64 (hi2 : Int)]) (.int .i64 (nl : Int))).run Try.prog (w6.drewN 2) = .ok () w7 := hrun
          have HW6 := Lib.hid hw6
          have HE : Hid (∀ w8 w9 gg cap, Below w7.heap.size w7 w8 → w8.grownBy w9 (Value.slice A' nl c').ownBlock → w9.ownsRow P.B 59 3 (.slice (some ⟨gg, 0, none⟩) (nl + 1) cap) (nl + 1) (ndC N ++ [.int .i64 (t : Int), .int .i64 (lo2 : Int), .int .i64 (hi2 : Int)]) →
              ((Value.slice A' nl c').ownBlock = some gg ∨ w7.heap.size ≤ gg) → KS P w4 (w9.setCell ⟨P.b, 2, none⟩ (.slice (some ⟨gg, 0, none⟩) (nl + 1) cap)) (.slice (some ⟨gg, 0, none⟩) (nl + 1) cap) (keptL P.S F M (i + 1))) := Lib.hid (fun w8 w9 gg cap x1 x2 x3 x4 => by
            rw [hKeq]
            subst hnl
            exact hK6.step HLB.out.1 HLB.out.2.1 (by rw [← hN]; exact hGN.two) hkt hkm hm7 hg7 x1 x2 x3 x4)
          have hx0 : ∀ b, b < w6.heap.size → b ≠ P.pb → w7.heap[b]? = w6.heap[b]? := fun b hb hne => hg7.block b hb (fun e => hne (by injection e))
          have hb7 : w7.heap[P.b]? = some (.cells #[.int .i64 (P.vars : Int), .int .i64 (P.budget : Int), .slice A' nl c', .map (some P.pb)] 63 (0, 0)) := by
            rw [hx0 _ hK6.box.lt (map_ne hkm hK6.box.cell)]; exact hK6.box.cell
          have hn7 : w7.heap[wr.heap.size]? = some (.cells #[.int .i64 (t : Int), .int .i64 (lo2 : Int), .int .i64 (hi2 : Int)] 59 (0, 0)) := by
            rw [hx0 _ (block_lt hn6) (map_ne hkm hn6)]; exact hn6
          have hd7 : w7.heap[P.dd]? = some (.cells #[.pointer (some ⟨P.b, 0, none⟩), fv, .map (some P.kb), .int .i64 (P.limit : Int)] 86 (0, 0)) := by
            rw [hx0 _ (block_lt hdd6) (map_ne hkm hdd6)]; exact hdd6
          have hrow7 : w7.ownsRow P.B 59 3 (.slice A' nl c') nl (ndC N) := by
            rw [← hnl]
            rw [← hnl] at hK6
            exact own_keep hK6.row (fun b hb => by
              obtain ⟨cs, hcs⟩ := own_type hK6.row hb
              exact hx0 b (block_lt hcs) (map_ne hkm hcs))
          have HROW7 := Lib.hid hrow7
          have hz7 : P.B ≤ w7.heap.size := by have := HD.out.st.hb; have := block_lt hb7; omega
          have u0 : w6.cell? ⟨P.dd, 0, none⟩ = some (.pointer (some ⟨P.b, 0, none⟩)) := by unfold World.cell?; rw [hdd6]; rfl
          obtain ⟨u1, u2, u3, u4⟩ := hK6.box.ats
          have u5 : w6.cell? ⟨wr.heap.size, 0, none⟩ = some (.int .i64 (t : Int)) := by unfold World.cell?; rw [hn6]; rfl
          have u6 : w6.cell? ⟨wr.heap.size, 1, none⟩ = some (.int .i64 (lo2 : Int)) := by unfold World.cell?; rw [hn6]; rfl
          have u7 : w6.cell? ⟨wr.heap.size, 2, none⟩ = some (.int .i64 (hi2 : Int)) := by unfold World.cell?; rw [hn6]; rfl
          have v0 : w7.cell? ⟨P.dd, 0, none⟩ = some (.pointer (some ⟨P.b, 0, none⟩)) := by unfold World.cell?; rw [hd7]; rfl
          have v2 : w7.cell? ⟨P.b, 2, none⟩ = some (.slice A' nl c') := by unfold World.cell?; rw [hb7]; rfl
          have v5 : w7.cell? ⟨wr.heap.size, 0, none⟩ = some (.int .i64 (t : Int)) := by unfold World.cell?; rw [hn7]; rfl
          have v6 : w7.cell? ⟨wr.heap.size, 1, none⟩ = some (.int .i64 (lo2 : Int)) := by unfold World.cell?; rw [hn7]; rfl
          have v7 : w7.cell? ⟨wr.heap.size, 2, none⟩ = some (.int .i64 (hi2 : Int)) := by unfold World.cell?; rw [hn7]; rfl
          have v0a : ∀ o, (w7.alloc o).cell? ⟨P.dd, 0, none⟩ = some (.pointer (some ⟨P.b, 0, none⟩)) := fun o => (Below.cell (below_new w7 o) (p := ⟨P.dd, 0, none⟩) (block_lt hd7)).trans v0
          have v2a : ∀ o, (w7.alloc o).cell? ⟨P.b, 2, none⟩ = some (.slice A' nl c') := fun o => (Below.cell (below_new w7 o) (p := ⟨P.b, 2, none⟩) (block_lt hb7)).trans v2
          have v5a : ∀ o, (w7.alloc o).cell? ⟨wr.heap.size, 0, none⟩ = some (.int .i64 (t : Int)) := fun o => (Below.cell (below_new w7 o) (p := ⟨wr.heap.size, 0, none⟩) (block_lt hn7)).trans v5
          have v6a : ∀ o, (w7.alloc o).cell? ⟨wr.heap.size, 1, none⟩ = some (.int .i64 (lo2 : Int)) := fun o => (Below.cell (below_new w7 o) (p := ⟨wr.heap.size, 1, none⟩) (block_lt hn7)).trans v6
          have v7a : ∀ o, (w7.alloc o).cell? ⟨wr.heap.size, 2, none⟩ = some (.int .i64 (hi2 : Int)) := fun o => (Below.cell (below_new w7 o) (p := ⟨wr.heap.size, 2, none⟩) (block_lt hn7)).trans v7
          have HQ : Hid (∀ w8 w9, Below w7.heap.size w7 w8 → w8.grownBy w9 (Value.slice A' nl c').ownBlock → (w9.cell? ⟨P.b, 2, none⟩ = some (.slice A' nl c') ∧ w9.frozen? ⟨P.b, 2, none⟩ = false) ∧ w9.cell? ⟨P.dd, 0, none⟩ = some (.pointer (some ⟨P.b, 0, none⟩)) ∧ (w9.cell? ⟨P.dd, 0, none⟩ = some (.pointer (some ⟨P.b, 0, none⟩)) ∧ w9.cell? ⟨wr.heap.size, 0, none⟩ = some (.int .i64 (t : Int)) ∧ w9.cell? ⟨wr.heap.size, 1, none⟩ = some (.int .i64 (lo2 : Int)) ∧ w9.cell? ⟨wr.heap.size, 2, none⟩ = some (.int .i64 (hi2 : Int))) ∧ ∀ gg cap, ((w9.setCell ⟨P.b, 2, none⟩ (.slice (some ⟨gg, 0, none⟩) (nl + 1) cap)).cell? ⟨P.dd, 0, none⟩ = some (.pointer (some ⟨P.b, 0, none⟩)) ∧ (w9.setCell ⟨P.b, 2, none⟩ (.slice (some ⟨gg, 0, none⟩) (nl + 1) cap)).cell? ⟨wr.heap.size, 0, none⟩ = some (.int .i64 (t : Int)) ∧ (w9.setCell ⟨P.b, 2, none⟩ (.slice (some ⟨gg, 0, none⟩) (nl + 1) cap)).cell? ⟨wr.heap.size, 1, none⟩ = some (.int .i64 (lo2 : Int)) ∧ (w9.setCell ⟨P.b, 2, none⟩ (.slice (some ⟨gg, 0, none⟩) (nl + 1) cap)).cell? ⟨wr.heap.size, 2, none⟩ = some (.int .i64 (hi2 : Int)))) := Lib.hid (fun w8 w9 x1 x2 => by
            have h9 : ∀ (b : Nat) (cs : Array Value) (T : TypeId), w7.heap[b]? = some (Obj.cells cs T (0, 0)) → T ≠ 59 → w9.heap[b]? = some (Obj.cells cs T (0, 0)) := fun b cs T hb hT => by
              rw [x2.block _ (by have := x1.size; have := block_lt hb; omega) (fun e => own_ne HROW7.out hb hT e.symm), x1.block _ (block_lt hb)]
              exact hb
            have e1 := h9 _ _ _ hb7 (by decide)
            have e2 := h9 _ _ _ hd7 (by decide)
            have e3 : w9.heap[wr.heap.size]? = some (.cells #[.int .i64 (t : Int), .int .i64 (lo2 : Int), .int .i64 (hi2 : Int)] 59 (0, 0)) := by
              rw [x2.block _ (by have := x1.size; have := block_lt hn7; omega) (fun e => hno e.symm), x1.block _ (block_lt hn7)]
              exact hn7
            have f2 : w9.cell? ⟨P.dd, 0, none⟩ = some (.pointer (some ⟨P.b, 0, none⟩)) := by unfold World.cell?; rw [e2]; rfl
            have f3 : w9.cell? ⟨wr.heap.size, 0, none⟩ = some (.int .i64 (t : Int)) := by unfold World.cell?; rw [e3]; rfl
            have f4 : w9.cell? ⟨wr.heap.size, 1, none⟩ = some (.int .i64 (lo2 : Int)) := by unfold World.cell?; rw [e3]; rfl
            have f5 : w9.cell? ⟨wr.heap.size, 2, none⟩ = some (.int .i64 (hi2 : Int)) := by unfold World.cell?; rw [e3]; rfl
            have hbd : P.b ≠ P.dd := fun e => by rw [e, hd7] at hb7; injection hb7 with hb7; injection hb7 with _ h3 _; exact absurd h3 (by decide)
            have hbw : P.b ≠ wr.heap.size := fun e => by rw [e, hn7] at hb7; injection hb7 with hb7; injection hb7 with _ h3 _; exact absurd h3 (by decide)
            refine ⟨⟨by unfold World.cell?; rw [e1]; rfl, by unfold World.frozen?; rw [e1]; rfl⟩, f2, ⟨f2, f3, f4, f5⟩, fun gg cap => ⟨?_, ?_, ?_, ?_⟩⟩
            · rw [World.cell?_setCell_other _ _ _ _ (fun e => hbd (by injection e))]; exact f2
            · rw [World.cell?_setCell_other _ _ _ _ (fun e => hbw (by injection e))]; exact f3
            · rw [World.cell?_setCell_other _ _ _ _ (fun e => hbw (by injection e))]; exact f4
            · rw [World.cell?_setCell_other _ _ _ _ (fun e => hbw (by injection e))]; exact f5)
          have HS7 : Hid (w7.drew.cell? ⟨P.dd, 0, none⟩ = some (.pointer (some ⟨P.b, 0, none⟩)) ∧ w7.drew.cell? ⟨wr.heap.size, 0, none⟩ = some (.int .i64 (t : Int)) ∧ w7.drew.cell? ⟨wr.heap.size, 1, none⟩ = some (.int .i64 (lo2 : Int)) ∧ w7.drew.cell? ⟨wr.heap.size, 2, none⟩ = some (.int .i64 (hi2 : Int))) := Lib.hid ⟨v0, v5, v6, v7⟩
          have HS7a : Hid ((w7.drew.alloc (.cells #[.int .i64 (t : Int), .int .i64 (lo2 : Int), .int .i64 (hi2 : Int)] 59)).cell? ⟨P.dd, 0, none⟩ = some (.pointer (some ⟨P.b, 0, none⟩)) ∧ (w7.drew.alloc (.cells #[.int .i64 (t : Int), .int .i64 (lo2 : Int), .int .i64 (hi2 : Int)] 59)).cell? ⟨wr.heap.size, 0, none⟩ = some (.int .i64 (t : Int)) ∧ (w7.drew.alloc (.cells #[.int .i64 (t : Int), .int .i64 (lo2 : Int), .int .i64 (hi2 : Int)] 59)).cell? ⟨wr.heap.size, 1, none⟩ = some (.int .i64 (lo2 : Int)) ∧ (w7.drew.alloc (.cells #[.int .i64 (t : Int), .int .i64 (lo2 : Int), .int .i64 (hi2 : Int)] 59)).cell? ⟨wr.heap.size, 2, none⟩ = some (.int .i64 (hi2 : Int))) := Lib.hid ⟨v0a _, v5a _, v6a _, v7a _⟩
          have v2d : (w7.drew.alloc (.cells #[.int .i64 (t : Int), .int .i64 (lo2 : Int), .int .i64 (hi2 : Int)] 59)).cell? ⟨P.b, 2, none⟩ = some (.slice A' nl c') := v2a _
          obtain ⟨i0, hi0, hz0, hz1, hz3⟩ := info_parts infoN
          have HBN := Lib.hid (show nl + 1 ≤ 2097152 + 1 from by omega)
          clear hGN hLN hN hnl hnb hrki hKN hKeq hnge hno hw6 hK6 hn6 hdd6 hok hkm hkt hm7 hg7 hx0 hb7 hn7 hd7 hrow7 u1 u2
          go_upto_region 10 with fail
          rw [HW5.out]
          go_cut [] from 57 to 66 (fun wx => wx = w6.drew)
          case first =>
            clear u0 u3 u4 u5 u6 u7 v0 v2 v5 v6 v7 v0a v2a v5a v6a v7a hrun
            go_region_with (first | (go_at_call 46; with_reducible refine HTL.out.mono ?_; rintro e w6' ⟨rfl, rfl⟩) | (go_at_call 46; with_reducible refine HTH.out.mono ?_; rintro e w6' ⟨rfl, rfl⟩) | fail)
            all_goals
              go_wp2_with fail
              go_meet
              rw [← HW6.out]
          case rest =>
            subst hcut
            rw [World.drew_is_drewN]
            go_wp2
            have hmb : m ≤ 2097152 := by omega
            clear c0 c1 c3 b0 b1 b2 b3 q0 q1 q2 n0 n1 n2 hnum n1f n2f c1f c2f f0 f1 f2 f3 g0 g1 g2 g3 hd0 hd hw1 hw3 hcm hroom hbud
            go_region
            go_wp2
            clear hrun u0 u3 u4 u5 u6 u7
            refine wp_region_held (S := fun V => V.cell? ⟨P.dd, 0, none⟩ = some (.pointer (some ⟨P.b, 0, none⟩)) ∧ V.cell? ⟨wr.heap.size, 0, none⟩ = some (.int .i64 (t : Int)) ∧ V.cell? ⟨wr.heap.size, 1, none⟩ = some (.int .i64 (lo2 : Int)) ∧ V.cell? ⟨wr.heap.size, 2, none⟩ = some (.int .i64 (hi2 : Int))) (by kernel_rfl) ?_
            change wpAnyH _ _ _ _ _ 17 #[false, false, false, false, false, false, false, false, false, false, false, false, false, false, false, false, false] _ w7.drew
            refine read_take (i := 0) (s := 83) (v := .pointer (some ⟨P.dd, 0, none⟩)) rfl rfl rfl (by kernel_rfl) (by kernel_rfl) (by kernel_rfl) (fun _ _ _ h => h) (fun W hW => ?q) HS7.out ?_
            case q =>
              obtain ⟨s0, s1, s2, s3⟩ := hW
              simp [execOp, go_sem, Act.put, Act.eval, s0, s1, s2, s3]
            simp only [Act.put, List.setIfInBounds_toArray, List.set_cons_zero, List.set_cons_succ]
            refine read_take (i := 1) (s := 84) (v := .pointer (some ⟨P.dd, 0, none⟩)) rfl rfl rfl (by kernel_rfl) (by kernel_rfl) (by kernel_rfl) (fun _ _ _ h => h) (fun W hW => ?q) HS7.out ?_
            case q =>
              obtain ⟨s0, s1, s2, s3⟩ := hW
              simp [execOp, go_sem, Act.put, Act.eval, s0, s1, s2, s3]
            simp only [Act.put, List.setIfInBounds_toArray, List.set_cons_zero, List.set_cons_succ]
            refine read_take (i := 2) (s := 85) (v := .pointer (some ⟨P.dd, 0, none⟩)) rfl rfl rfl (by kernel_rfl) (by kernel_rfl) (by kernel_rfl) (fun _ _ _ h => h) (fun W hW => ?q) HS7.out ?_
            case q =>
              obtain ⟨s0, s1, s2, s3⟩ := hW
              simp [execOp, go_sem, Act.put, Act.eval, s0, s1, s2, s3]
            simp only [Act.put, List.setIfInBounds_toArray, List.set_cons_zero, List.set_cons_succ]
            refine read_take (i := 3) (s := 86) (v := .pointer (some ⟨P.b, 0, none⟩)) rfl rfl rfl (by kernel_rfl) (by kernel_rfl) (by kernel_rfl) (fun _ _ _ h => h) (fun W hW => ?q) HS7.out ?_
            case q =>
              obtain ⟨s0, s1, s2, s3⟩ := hW
              simp [execOp, go_sem, Act.put, Act.eval, s0, s1, s2, s3]
            simp only [Act.put, List.setIfInBounds_toArray, List.set_cons_zero, List.set_cons_succ]
            refine read_take (i := 4) (s := 87) (v := .pointer (some ⟨P.dd, 0, none⟩)) rfl rfl rfl (by kernel_rfl) (by kernel_rfl) (by kernel_rfl) (fun _ _ _ h => h) (fun W hW => ?q) HS7.out ?_
            case q =>
              obtain ⟨s0, s1, s2, s3⟩ := hW
              simp [execOp, go_sem, Act.put, Act.eval, s0, s1, s2, s3]
            simp only [Act.put, List.setIfInBounds_toArray, List.set_cons_zero, List.set_cons_succ]
            refine read_take (i := 5) (s := 88) (v := .pointer (some ⟨P.dd, 0, none⟩)) rfl rfl rfl (by kernel_rfl) (by kernel_rfl) (by kernel_rfl) (fun _ _ _ h => h) (fun W hW => ?q) HS7.out ?_
            case q =>
              obtain ⟨s0, s1, s2, s3⟩ := hW
              simp [execOp, go_sem, Act.put, Act.eval, s0, s1, s2, s3]
            simp only [Act.put, List.setIfInBounds_toArray, List.set_cons_zero, List.set_cons_succ]
            refine read_take (i := 6) (s := 89) (v := .pointer (some ⟨P.dd, 0, none⟩)) rfl rfl rfl (by kernel_rfl) (by kernel_rfl) (by kernel_rfl) (fun _ _ _ h => h) (fun W hW => ?q) HS7.out ?_
            case q =>
              obtain ⟨s0, s1, s2, s3⟩ := hW
              simp [execOp, go_sem, Act.put, Act.eval, s0, s1, s2, s3]
            simp only [Act.put, List.setIfInBounds_toArray, List.set_cons_zero, List.set_cons_succ]
            refine read_take (i := 7) (s := 90) (v := .pointer (some ⟨P.b, 0, none⟩)) rfl rfl rfl (by kernel_rfl) (by kernel_rfl) (by kernel_rfl) (fun _ _ _ h => h) (fun W hW => ?q) HS7.out ?_
            case q =>
              obtain ⟨s0, s1, s2, s3⟩ := hW
              simp [execOp, go_sem, Act.put, Act.eval, s0, s1, s2, s3]
            simp only [Act.put, List.setIfInBounds_toArray, List.set_cons_zero, List.set_cons_succ]
            refine read_take (i := 8) (s := 91) (v := .pointer (some ⟨P.b, 0, none⟩)) rfl rfl rfl (by kernel_rfl) (by kernel_rfl) (by kernel_rfl) (fun _ _ _ h => h) (fun W hW => ?q) HS7.out ?_
            case q =>
              obtain ⟨s0, s1, s2, s3⟩ := hW
              simp [execOp, go_sem, Act.put, Act.eval, s0, s1, s2, s3]
            simp only [Act.put, List.setIfInBounds_toArray, List.set_cons_zero, List.set_cons_succ]
            refine read_take (i := 9) (s := 92) (v := .pointer (some ⟨P.b, 2, none⟩)) rfl rfl rfl (by kernel_rfl) (by kernel_rfl) (by kernel_rfl) (fun _ _ _ h => h) (fun W hW => ?q) HS7.out ?_
            case q =>
              obtain ⟨s0, s1, s2, s3⟩ := hW
              simp [execOp, go_sem, Act.put, Act.eval, s0, s1, s2, s3]
            simp only [Act.put, List.setIfInBounds_toArray, List.set_cons_zero, List.set_cons_succ]
            refine read_take (i := 11) (s := 94) (v := .agg #[.int .i64 (t : Int), .int .i64 (lo2 : Int), .int .i64 (hi2 : Int)]) rfl rfl rfl (by kernel_rfl) (by kernel_rfl) (by kernel_rfl) (fun _ _ _ h => h) (fun W hW => ?q) HS7.out ?_
            case q =>
              obtain ⟨s0, s1, s2, s3⟩ := hW
              simp [execOp, go_sem, Act.put, Act.eval, s0, s1, s2, s3]
            simp only [Act.put, List.setIfInBounds_toArray, List.set_cons_zero, List.set_cons_succ]
            refine wpAnyH_all (rs := [10, 12]) (by kernel_rfl) (by simp) ?_
            intro ii hii
            simp only [List.mem_cons, List.not_mem_nil, or_false] at hii
            rcases hii with rfl | rfl
            · refine op_val (i := 10) (s := 93) (v := .slice A' nl c') (w' := w7.drew) rfl rfl rfl ?q ?_
              case q => simp [execOp, go_sem, Act.put, Act.eval, v2]
              refine ⟨HS7.out, ?_⟩
              simp only [Act.put, List.setIfInBounds_toArray, List.set_cons_zero, List.set_cons_succ]
              refine wpAnyH_all (rs := [12]) (by kernel_rfl) (by simp) ?_
              intro ii hii
              obtain rfl : ii = 12 := by simpa using hii
              refine op_val (i := 12) (s := 95) (v := .slice (some ⟨w7.heap.size, 0, none⟩) 1 1) (w' := w7.drew.alloc (.cells #[.int .i64 (t : Int), .int .i64 (lo2 : Int), .int .i64 (hi2 : Int)] 59)) rfl rfl rfl ?q ?_
              case q => simp [execOp, go_sem, Act.put, Act.eval]
              refine ⟨HS7a.out, ?_⟩
              simp only [Act.put, List.setIfInBounds_toArray, List.set_cons_zero, List.set_cons_succ]
              refine wpAnyH_all (rs := [13]) (by kernel_rfl) (by simp) ?_
              intro ii hii
              obtain rfl : ii = 13 := by simpa using hii
              refine op_go rfl rfl ?_
              refine wp_append_lies _ (.tmp 93) (.tmp 95) 60 (by rfl) P.B 59 i0 _ 3 24 Try.underlying60 hi0 hz0 hz1 hz3 rfl (by omega) (.slice A' nl c') nl (ndC N) (by rfl) (HROW7.out.drew.alloc _) ⟨w7.heap.size, 0, none⟩ 1 1 [.int .i64 (t : Int), .int .i64 (lo2 : Int), .int .i64 (hi2 : Int)] (by rfl) (by rfl) (World.news_of_block (cs := #[.int .i64 (t : Int), .int .i64 (lo2 : Int), .int .i64 (hi2 : Int)]) (t := 59) (fr := (0, 0)) (heap_alloc_new _ _)) (by simp [Value.oneCell']) (by omega) (by have := HBN.out; unfold maxLen; omega) (by have := HBN.out; omega) (by have := hz7; simp; omega) (w7.heap.size + 1) (by simp) ?_
              intro gg cap w9 hown2 hgrow hat hlt2
              obtain ⟨⟨z0, z1⟩, z2, hs9⟩ := HQ.out _ w9 ((show Below w7.heap.size w7 (w7.drew.alloc _) from below_alloc_drew w7 _)) hgrow
              have HK9 := Lib.hid (HE.out _ w9 gg cap ((show Below w7.heap.size w7 (w7.drew.alloc _) from below_alloc_drew w7 _)) hgrow hown2 (hat.imp_right (fun e => by omega)))
              have HS9 := Lib.hid hs9.1
              have HS10 := Lib.hid (hs9.2 gg cap)
              clear hown2 hgrow hat hlt2 hs9
              refine ⟨HS9.out, ?_⟩
              simp only [Act.put, List.setIfInBounds_toArray, List.set_cons_zero, List.set_cons_succ]
              refine read_take (i := 14) (s := 97) (v := .pointer (some ⟨P.b, 0, none⟩)) rfl rfl rfl (by kernel_rfl) (by kernel_rfl) (by kernel_rfl) (fun _ _ _ h => h) (fun W hW => ?q) HS9.out ?_
              case q =>
                obtain ⟨s0, s1, s2, s3⟩ := hW
                simp [execOp, go_sem, Act.put, Act.eval, s0, s1, s2, s3]
              simp only [Act.put, List.setIfInBounds_toArray, List.set_cons_zero, List.set_cons_succ]
              refine read_take (i := 15) (s := 98) (v := .pointer (some ⟨P.b, 2, none⟩)) rfl rfl rfl (by kernel_rfl) (by kernel_rfl) (by kernel_rfl) (fun _ _ _ h => h) (fun W hW => ?q) HS9.out ?_
              case q =>
                obtain ⟨s0, s1, s2, s3⟩ := hW
                simp [execOp, go_sem, Act.put, Act.eval, s0, s1, s2, s3]
              simp only [Act.put, List.setIfInBounds_toArray, List.set_cons_zero, List.set_cons_succ]
              refine wpAnyH_all (rs := [16]) (by kernel_rfl) (by simp) ?_
              intro ii hii
              obtain rfl : ii = 16 := by simpa using hii
              refine op_go rfl rfl ?_
              go_simp
              refine ⟨⟨HS9.out.2.1, HS9.out.2.2.1, HS10.out.2.2.2⟩, ?_⟩
              refine wpAnyH_done (by kernel_rfl) ?_ _
              simp only [Act.put, List.setIfInBounds_toArray, List.set_cons_zero, List.set_cons_succ, Exit.inBlock, Exit.then]
              clear z0 z1 z2
              go_at_K
              go_wp2_with fail
              exact ⟨⟨i + 1, _, by omega, by go_num, HK9.out⟩, by simp [intOf]; omega⟩
            · refine op_val (i := 12) (s := 95) (v := .slice (some ⟨w7.heap.size, 0, none⟩) 1 1) (w' := w7.drew.alloc (.cells #[.int .i64 (t : Int), .int .i64 (lo2 : Int), .int .i64 (hi2 : Int)] 59)) rfl rfl rfl ?q ?_
              case q => simp [execOp, go_sem, Act.put, Act.eval]
              refine ⟨HS7a.out, ?_⟩
              simp only [Act.put, List.setIfInBounds_toArray, List.set_cons_zero, List.set_cons_succ]
              refine wpAnyH_all (rs := [10]) (by kernel_rfl) (by simp) ?_
              intro ii hii
              obtain rfl : ii = 10 := by simpa using hii
              refine op_val (i := 10) (s := 93) (v := .slice A' nl c') (w' := w7.drew.alloc (.cells #[.int .i64 (t : Int), .int .i64 (lo2 : Int), .int .i64 (hi2 : Int)] 59)) rfl rfl rfl ?q ?_
              case q => simp [execOp, go_sem, Act.put, Act.eval, v2a]
              refine ⟨HS7a.out, ?_⟩
              simp only [Act.put, List.setIfInBounds_toArray, List.set_cons_zero, List.set_cons_succ]
              refine wpAnyH_all (rs := [13]) (by kernel_rfl) (by simp) ?_
              intro ii hii
              obtain rfl : ii = 13 := by simpa using hii
              refine op_go rfl rfl ?_
              refine wp_append_lies _ (.tmp 93) (.tmp 95) 60 (by rfl) P.B 59 i0 _ 3 24 Try.underlying60 hi0 hz0 hz1 hz3 rfl (by omega) (.slice A' nl c') nl (ndC N) (by rfl) (HROW7.out.drew.alloc _) ⟨w7.heap.size, 0, none⟩ 1 1 [.int .i64 (t : Int), .int .i64 (lo2 : Int), .int .i64 (hi2 : Int)] (by rfl) (by rfl) (World.news_of_block (cs := #[.int .i64 (t : Int), .int .i64 (lo2 : Int), .int .i64 (hi2 : Int)]) (t := 59) (fr := (0, 0)) (heap_alloc_new _ _)) (by simp [Value.oneCell']) (by omega) (by have := HBN.out; unfold maxLen; omega) (by have := HBN.out; omega) (by have := hz7; simp; omega) (w7.heap.size + 1) (by simp) ?_
              intro gg cap w9 hown2 hgrow hat hlt2
              obtain ⟨⟨z0, z1⟩, z2, hs9⟩ := HQ.out _ w9 ((show Below w7.heap.size w7 (w7.drew.alloc _) from below_alloc_drew w7 _)) hgrow
              have HK9 := Lib.hid (HE.out _ w9 gg cap ((show Below w7.heap.size w7 (w7.drew.alloc _) from below_alloc_drew w7 _)) hgrow hown2 (hat.imp_right (fun e => by omega)))
              have HS9 := Lib.hid hs9.1
              have HS10 := Lib.hid (hs9.2 gg cap)
              clear hown2 hgrow hat hlt2 hs9
              refine ⟨HS9.out, ?_⟩
              simp only [Act.put, List.setIfInBounds_toArray, List.set_cons_zero, List.set_cons_succ]
              refine read_take (i := 14) (s := 97) (v := .pointer (some ⟨P.b, 0, none⟩)) rfl rfl rfl (by kernel_rfl) (by kernel_rfl) (by kernel_rfl) (fun _ _ _ h => h) (fun W hW => ?q) HS9.out ?_
              case q =>
                obtain ⟨s0, s1, s2, s3⟩ := hW
                simp [execOp, go_sem, Act.put, Act.eval, s0, s1, s2, s3]
              simp only [Act.put, List.setIfInBounds_toArray, List.set_cons_zero, List.set_cons_succ]
              refine read_take (i := 15) (s := 98) (v := .pointer (some ⟨P.b, 2, none⟩)) rfl rfl rfl (by kernel_rfl) (by kernel_rfl) (by kernel_rfl) (fun _ _ _ h => h) (fun W hW => ?q) HS9.out ?_
              case q =>
                obtain ⟨s0, s1, s2, s3⟩ := hW
                simp [execOp, go_sem, Act.put, Act.eval, s0, s1, s2, s3]
              simp only [Act.put, List.setIfInBounds_toArray, List.set_cons_zero, List.set_cons_succ]
              refine wpAnyH_all (rs := [16]) (by kernel_rfl) (by simp) ?_
              intro ii hii
              obtain rfl : ii = 16 := by simpa using hii
              refine op_go rfl rfl ?_
              go_simp
              refine ⟨⟨HS9.out.2.1, HS9.out.2.2.1, HS10.out.2.2.2⟩, ?_⟩
              refine wpAnyH_done (by kernel_rfl) ?_ _
              simp only [Act.put, List.setIfInBounds_toArray, List.set_cons_zero, List.set_cons_succ, Exit.inBlock, Exit.then]
              clear z0 z1 z2
              go_at_K
              go_wp2_with fail
              exact ⟨⟨i + 1, _, by omega, by go_num, HK9.out⟩, by simp [intOf]; omega⟩
      · obtain rfl : i = m := by omega
        have hMf := HM.out
        rw [Int.toNat_natCast] at hMf
        have hfl : f < (P.S ++ F).length := by have := HX.out.2; omega
        obtain ⟨N, y, eN, ey, kG, ky, kl, kmore, kden, -⟩ := keep_ok HD.out.st.good HD.out.good hfl
        rw [hMf, HMM.out] at eN kl
        rw [hMf, HSZ.out] at ey
        rw [HSZ.out, HC.out] at kl
        have hfm : f < size ∨ M (f - size) = true := by
          by_cases c0 : f < size
          · exact .inl c0
          · right
            rw [← hMf]
            have := marks_mono (size := P.S.length) (F := F) F.length (f - P.S.length) (mark P.S.length f (fun _ => false)) (mark_here (by rw [HSZ.out]; omega))
            rw [HSZ.out] at this
            unfold marksOf
            rw [HSZ.out]
            exact this
        have hfl2 : f < size + i := by rw [List.length_append, HSZ.out, HMM.out] at hfl; exact hfl
        have hTO := to_any wr w.heap.size w2.heap.size g size i M c0 c1 R2.out f hfl2 hfm hsz1 (by omega)
        rw [← ey] at hTO
        have HTO := Lib.hid hTO
        have HR : Hid (KeepPost P w F (f : Int) (.returned (.tuple #[.int .i64 (y : Int), .int .i64 0])) wr) := Lib.hid (.inr ⟨f, y, nv', N, rfl, rfl, (by rw [eN]; exact HK.out.back HB4.out), kG, ky, by have := HBD.out; omega, kmore, kden, by rw [HSZ.out, HMM.out]; omega⟩)
        clear hK hMf hfl eN ey kG ky kl kmore kden hfm hfl2 hTO HX HM c2
        go_wp2_with fail
        refine HTO.out.mono ?_
        rintro e w8 ⟨rfl, h8⟩
        subst h8
        go_wp2
        refine bodyPost_ret (v := .tuple #[.int .i64 (y : Int), .int .i64 0]) (by simp [results, Try.results35, go_sem]) rfl HR.out
end Go.Proofs.Ytfohjlepknnleaa.Bd
