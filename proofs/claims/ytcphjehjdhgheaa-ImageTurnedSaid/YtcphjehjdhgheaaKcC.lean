/- Search by a method of a value; whether an instruction may stand behind those so far. Conditions: numbers have 64 bits. -/
import Derived.Test.YtcphjehjdhgheaaKcB
import Derived.Deep.RegionHeld3
namespace Go.Proofs.Ytcphjehjdhgheaa.Nt
open Go.ChangeShapes Go.WideShapes Go.ChangeAt Go.RowKit Go.Maps Go.WideMaps Go.Proofs.Ytcphjehjdhgheaa.Tr
set_option linter.unusedVariables false
set_option linter.unusedSimpArgs false

set_option maxHeartbeats 1600000 in
theorem indexM_any (g : Nat) (rcv : Value) (eg : ∀ args w, (callFunc g args).run Try.prog w = .ok (.enter g args) w) (A : Option Addr) (n c : Nat) (l : List Int) (w : World) (p : Int → Bool) (hn : n = l.length) (hm : n ≤ maxLen)
    (hI : Ints w (.slice A n c) l)
    (hc : ∀ x ∈ l, ∀ W, Below w.heap.size w W → Calls Try.prog g #[rcv, .int .i64 x] W fun e w' => e = .returned (.bool (p x)) ∧ Below W.heap.size W w') :
    Calls Try.prog 93 #[.slice A n c, .func (.func g) #[rcv] #[]] w (fun e w' => Below w.heap.size w w' ∧ ((∃ j : Nat, j < n ∧ e = .returned (.int .i64 (j : Int)) ∧ l.any p = true) ∨ (e = .returned (.int .i64 (-1)) ∧ l.any p = false))) := by
  have HN := Lib.hid hn
  unfold maxLen at hm
  have HI := Lib.hid hI
  have HC := Lib.hid hc
  clear hn hI hc
  go_enter Try.func93, Try.ntmps93
  go_wp2
  go_loopw [5, 8] (fun s5 vi wr => ∃ k : Nat, k ≤ n ∧ vi = .int .i64 (k : Int) ∧ Below w.heap.size w wr ∧ (l.take k).any p = false) (fun s5 vi _ => n - (intOf vi).toNat)
  case atStart => exact ⟨0, Nat.zero_le _, rfl, Below.refl _ _, by simp⟩
  case round =>
    obtain ⟨k, hk, rfl, hb, ha⟩ := hrel
    have HB := Lib.hid hb
    have HA := Lib.hid ha
    clear hb ha
    by_cases hlt : k < n
    · obtain ⟨x, hx⟩ : ∃ x, l[k]? = some x := ⟨_, List.getElem?_eq_getElem (by rw [← HN.out]; exact hlt)⟩
      obtain ⟨gb, o, rfl, hg, c0⟩ := ints_at (HI.out.below HB.out (Nat.le_refl _)) hx
      have HX := Lib.hid hx
      obtain ⟨bx, hbx⟩ : ∃ b, p x = b := ⟨_, rfl⟩
      have HBX := Lib.hid hbx
      have HCX := Lib.hid (HC.out x (List.mem_of_getElem? hx) wr HB.out)
      rw [hbx] at HCX
      clear hx hbx
      go_wp2_with fail
      refine HCX.out.mono ?_
      rintro e w1 ⟨rfl, hb1⟩
      have HB1 : Hid (Below w.heap.size w w1) := Lib.hid (HB.out.trans (hb1.mono HB.out.size))
      clear hb1
      cases bx with
      | true =>
        have HT : Hid (l.any p = true) := Lib.hid (List.any_eq_true.2 ⟨x, List.mem_of_getElem? HX.out, HBX.out⟩)
        go_wp2
        go_ret
        exact ⟨HB1.out, .inl ⟨k, hlt, rfl, HT.out⟩⟩
      | false =>
        have HT : Hid ((l.take (k + 1)).any p = false) := Lib.hid (by rw [List.take_add_one, HX.out, List.any_append, HA.out]; simp [HBX.out])
        go_wp2
        exact ⟨⟨k + 1, by omega, by go_num, HB1.out, HT.out⟩, by simp [intOf]; omega⟩
    · have hkn : k = n := by omega
      subst hkn
      have HT : Hid (l.any p = false) := Lib.hid (by have := HA.out; rw [HN.out, List.take_length] at this; exact this)
      go_wp2
      go_ret
      exact ⟨HB.out, .inr ⟨rfl, HT.out⟩⟩
theorem contM_any (g : Nat) (rcv : Value) (eg : ∀ args w, (callFunc g args).run Try.prog w = .ok (.enter g args) w) (A : Option Addr) (n c : Nat) (l : List Int) (w : World) (p : Int → Bool) (hn : n = l.length) (hm : n ≤ maxLen)
    (hI : Ints w (.slice A n c) l)
    (hc : ∀ x ∈ l, ∀ W, Below w.heap.size w W → Calls Try.prog g #[rcv, .int .i64 x] W fun e w' => e = .returned (.bool (p x)) ∧ Below W.heap.size W w') :
    Calls Try.prog 54 #[.slice A n c, .func (.func g) #[rcv] #[]] w (fun e w' => e = .returned (.bool (l.any p)) ∧ Below w.heap.size w w') := by
  have HF := Lib.hid (indexM_any g rcv eg A n c l w p hn hm hI hc)
  clear hn hI hc eg
  go_enter Try.func54, Try.ntmps54
  go_wp2_with fail
  refine HF.out.mono ?_
  rintro e w1 ⟨hb, ⟨j, hj, rfl, ht⟩ | ⟨rfl, ht⟩⟩
  · have HT := Lib.hid ht
    have HB := Lib.hid hb
    have hd : decide ((0 : Int) ≤ (j : Int)) = true := decide_eq_true (by omega)
    clear ht hb
    go_wp2
    go_ret
    exact ⟨ret_bool HT.out.symm, HB.out⟩
  · have HT := Lib.hid ht
    have HB := Lib.hid hb
    clear ht hb
    go_wp2
    go_ret
    exact ⟨ret_bool HT.out.symm, HB.out⟩
theorem eUnwr : ∀ args w, (callFunc 64 args).run Try.prog w = .ok (.enter 64 args) w := by intro a w; kernel_rfl
theorem eMayC : ∀ args w, (callFunc 103 args).run Try.prog w = .ok (.enter 103 args) w := by intro a w; kernel_rfl
theorem okP (nin : Nat) (regs slots : Int) (s : List Int × List Int) (x : Ins6) : okI nin regs slots s x = (decide (0 ≤ nrd x.op) && (!((readsI x).any fun k => !s.1.contains k) && (bearsB nin slots s.2 x && (!(([x.a, x.b, x.c].drop (nrd x.op).toNat).any fun f => f != 0) &&
    (if x.op = 30 then x.d == 0 else decide (0 ≤ x.d) && decide (x.d < regs)))))) := by
  have e1 : (!((readsI x).any fun k => !s.1.contains k)) = (readsI x).all fun k => s.1.contains k := by rw [List.not_any_eq_all_not]; simp
  have e2 : (!(([x.a, x.b, x.c].drop (nrd x.op).toNat).any fun f => f != 0)) = restB x := by unfold restB; rw [List.not_any_eq_all_not]; simp [bne]
  rw [e1, e2]
  unfold okI bearsB
  by_cases h30 : x.op = 30
  · rw [if_pos h30, if_pos h30, if_neg (by omega), if_pos h30]
    cases decide (0 ≤ nrd x.op) <;> cases restB x <;> cases numB nin slots x <;> cases (readsI x).all (fun k => s.1.contains k) <;> cases (x.d == 0) <;> cases s.2.contains x.n <;> rfl
  · simp only [if_neg h30]
    by_cases h21 : x.op = 21
    · rw [if_pos h21]
      have : (x.op == 21) = true := by simpa using h21
      rw [this]
      cases decide (0 ≤ nrd x.op) <;> cases restB x <;> cases numB nin slots x <;> cases (readsI x).all (fun k => s.1.contains k) <;> cases s.2.isEmpty <;> simp
    · rw [if_neg h21]
      have : (x.op == 21) = false := by simpa using h21
      rw [this]
      cases decide (0 ≤ nrd x.op) <;> cases restB x <;> cases numB nin slots x <;> cases (readsI x).all (fun k => s.1.contains k) <;> simp
theorem lit3d {w : World} {g m : Nat} {a b c : Int} {T : TypeId} {fr : Nat × Nat} (h : w.heap[g]? = some (.cells #[.int .i64 a, .int .i64 b, .int .i64 c] T fr)) (hm : m ≤ 3) : Ints w (.slice (some ⟨g, m, none⟩) (3 - m) (3 - m)) ([a, b, c].drop m) := by
  refine ⟨some ⟨g, m, none⟩, 3 - m, by rw [List.length_drop]; rfl, by rw [List.length_drop]; simp, by unfold maxLen; omega, fun i x hi => ⟨g, m, rfl, lt_of_block h, ?_⟩⟩
  rw [List.getElem?_drop] at hi
  have : [Value.int .i64 a, .int .i64 b, .int .i64 c][m + i]? = some (.int .i64 x) := by
    have := intsOf_get [a, b, c] (m + i) x hi
    exact this
  simp [World.cell?, h, this]
set_option maxRecDepth 100000 in
set_option maxHeartbeats 8000000 in
theorem cmay_any (w : World) (iv ov pv : Value) (R S : Int) (bw bs n1 n2 : Nat) (wl st il : List Int) (x : Ins6) (hw : SetIs w bw n1 wl) (hs : SetIs w bs n2 st) (hp : Ints w pv il) (hx : InsW x) :
    Calls Try.prog 62 #[chkV iv R S ov pv bw bs, insV x] w (fun e w' => e = .returned (.bool (okI il.length R S (wl, st) x)) ∧ Below w.heap.size w w') := by
  obtain ⟨P, pc, rfl, z1, z2⟩ := ints_form hp
  unfold maxLen at z2
  obtain ⟨y, hy⟩ : ∃ W, (w.alloc (.cells #[iv, .int .i64 R, .int .i64 S, ov, .slice P il.length pc, .map (some bw), .map (some bs)] 107)).alloc (.cells #[.int .i64 x.op, .int .i64 x.d, .int .i64 x.a, .int .i64 x.b, .int .i64 x.c, .int .i64 x.n] 109) = W := ⟨_, rfl⟩
  have HB : Hid (Below w.heap.size w y) := Lib.hid (by rw [← hy]; exact below2 _ _ _)
  have hys : y.heap.size = w.heap.size + 2 := by rw [← hy]; simp
  have HX : Hid (ChkBox y w.heap.size iv R S ov (.slice P il.length pc) bw bs) := Lib.hid (by
    rw [← hy]
    exact ⟨(Below.heap_alloc _ _ _ (by simp)).trans (heap_alloc_new _ _)⟩)
  have HY : Hid (InsBox y (w.heap.size + 1) 109 x) := Lib.hid (by
    rw [← hy]
    have := insbox_new (w.alloc (.cells #[iv, .int .i64 R, .int .i64 S, ov, .slice P il.length pc, .map (some bw), .map (some bs)] 107)) 109 x
    rw [show (w.alloc (.cells #[iv, .int .i64 R, .int .i64 S, ov, .slice P il.length pc, .map (some bw), .map (some bs)] 107)).heap.size = w.heap.size + 1 by simp] at this
    exact this)
  have HW := Lib.hid hw
  have HS := Lib.hid hs
  have HP := Lib.hid hp
  have HXW := Lib.hid hx
  have HRD := Lib.hid (fun (W : World) => preads_any x.op W)
  have HOK := Lib.hid (okP il.length R S (wl, st) x)
  have HBE := Lib.hid (fun (i e : Int) W => below_any i e W)
  have HMAY := Lib.hid (fun (k : Int) W => may1_any k W)
  have hem := eMayC
  have heu := eUnwr
  obtain ⟨o, d, a, b, c, m⟩ := x
  unfold insV
  dsimp only at HRD HOK ⊢
  obtain ⟨p0, p1, p2, p3, p4, p5, p6⟩ := HX.out.ats
  obtain ⟨q0, q1, q2, q3, q4, q5⟩ := HY.out.ats
  dsimp only at q0 q1 q2 q3 q4 q5
  clear hw hs hp hx
  have hcs := nrd_cases o
  obtain ⟨k, hk⟩ : ∃ k, nrd o = k := ⟨_, rfl⟩
  rw [hk] at hcs HRD HOK
  have HK := Lib.hid hk
  clear hk
  -- the fields in a row of their own
  obtain ⟨z, hz⟩ : ∃ W, y.alloc (.cells #[.int .i64 a, .int .i64 b, .int .i64 c] 163) = W := ⟨_, rfl⟩
  have hbz : Below y.heap.size y z := by rw [← hz]; exact below_new _ _
  have HBZ : Hid (Below w.heap.size w z) := Lib.hid (HB.out.trans (hbz.mono HB.out.size))
  have HZB : Hid (z.heap[y.heap.size]? = some (.cells #[.int .i64 a, .int .i64 b, .int .i64 c] 163 (0, 0))) := Lib.hid (by rw [← hz]; exact heap_alloc_new _ _)
  have HXz := Lib.hid (HX.out.below hbz HX.out.lt)
  have HYz := Lib.hid (HY.out.below hbz HY.out.lt)
  rw [hys] at HZB
  rcases hcs with e | e
  · subst e
    have hd : decide ((-1 : Int) < 0) = true := by decide
    have HE : Hid (okI il.length R S (wl, st) ⟨o, d, a, b, c, m⟩ = false) := Lib.hid (by rw [HOK.out]; rfl)
    go_enter Try.func62, Try.ntmps62
    go_wp2_with (go_at_call 101; with_reducible refine (HRD.out _).mono ?_; rintro e w' ⟨rfl, rfl⟩)
    try clear hz
    go_big_quiet (fail)
    go_wp2
    go_ret
    exact ⟨ret_bool HE.out.symm, below_drewN HBZ.out _⟩
  · obtain ⟨q, hq⟩ : ∃ q : Nat, k = (q : Int) := ⟨k.toNat, by omega⟩
    subst hq
    have hq3 : q ≤ 3 := by omega
    have HRI : Hid (readsI ⟨o, d, a, b, c, m⟩ = [a, b, c].take q) := Lib.hid (by unfold readsI; show List.take (nrd o).toNat _ = _; rw [HK.out]; rfl)
    have HKS : Hid (∀ W, Below z.heap.size z W → W.cell? ⟨w.heap.size, 0, none⟩ = some iv ∧ W.cell? ⟨w.heap.size, 1, none⟩ = some (.int .i64 R) ∧ W.cell? ⟨w.heap.size, 2, none⟩ = some (.int .i64 S) ∧ W.cell? ⟨w.heap.size, 3, none⟩ = some ov ∧ W.cell? ⟨w.heap.size, 4, none⟩ = some (.slice P il.length pc) ∧ W.cell? ⟨w.heap.size, 5, none⟩ = some (.map (some bw)) ∧ W.cell? ⟨w.heap.size, 6, none⟩ = some (.map (some bs)) ∧ W.cell? ⟨w.heap.size + 1, 0, none⟩ = some (.int .i64 o) ∧ W.cell? ⟨w.heap.size + 1, 1, none⟩ = some (.int .i64 d) ∧ W.cell? ⟨w.heap.size + 1, 2, none⟩ = some (.int .i64 a) ∧ W.cell? ⟨w.heap.size + 1, 3, none⟩ = some (.int .i64 b) ∧ W.cell? ⟨w.heap.size + 1, 4, none⟩ = some (.int .i64 c) ∧ W.cell? ⟨w.heap.size + 1, 5, none⟩ = some (.int .i64 m)) := Lib.hid (fun W hW => by
      obtain ⟨a0, a1, a2, a3, a4, a5, a6⟩ := (HXz.out.below hW HXz.out.lt).ats
      obtain ⟨b0, b1, b2, b3, b4, b5⟩ := (HYz.out.below hW HYz.out.lt).ats
      exact ⟨a0, a1, a2, a3, a4, a5, a6, b0, b1, b2, b3, b4, b5⟩)
    have HSW : Hid (∀ W, Below z.heap.size z W → SetIs W bw n1 wl) := Lib.hid (fun W hW => HW.out.below (HBZ.out.trans (hW.mono HBZ.out.size)) HW.out.lt)
    have HSS : Hid (∀ W, Below z.heap.size z W → SetIs W bs n2 st) := Lib.hid (fun W hW => HS.out.below (HBZ.out.trans (hW.mono HBZ.out.size)) HS.out.lt)
    have HSP : Hid (∀ W, Below z.heap.size z W → Ints W (.slice P il.length pc) il) := Lib.hid (fun W hW => HP.out.below (HBZ.out.trans (hW.mono HBZ.out.size)) (Nat.le_refl _))
    have HF64 : Hid (∀ v ∈ [a, b, c], W64 v) := Lib.hid (fun v hv => by
      simp only [List.mem_cons, List.not_mem_nil, or_false] at hv
      rcases hv with rfl | rfl | rfl
      · exact HXW.out.a
      · exact HXW.out.b
      · exact HXW.out.c)
    have HROW : Hid (∀ W, Below z.heap.size z W → W.heap[w.heap.size + 2]? = some (.cells #[.int .i64 a, .int .i64 b, .int .i64 c] 163 (0, 0))) := Lib.hid (fun W hW => (hW.block _ (lt_of_block HZB.out)).trans HZB.out)
    have HCON : Hid (∀ W, Below z.heap.size z W → Calls Try.prog 54 #[.slice (some ⟨w.heap.size + 2, 0, none⟩) q 3, .func (.func 64) #[chkV iv R S ov (.slice P il.length pc) bw bs] #[]] W (fun e w' => e = .returned (.bool (([a, b, c].take q).any fun k => !wl.contains k)) ∧ Below W.heap.size W w')) := Lib.hid (fun W hW =>
      contM_any 64 _ heu (some ⟨w.heap.size + 2, 0, none⟩) q 3 ([a, b, c].take q) W (fun k => !wl.contains k) (by rw [List.length_take]; simp; omega) (by unfold maxLen; omega) (lit3 (HROW.out W hW) hq3)
        (fun v hv W' hW' => unwr_any W' iv ov _ R S bw bs n1 wl v (HSW.out W' (hW.trans (hW'.mono hW.size))) (HF64.out v (List.mem_of_mem_take hv))))
    have HBEA : Hid (∀ W, Below z.heap.size z W → Calls Try.prog 102 #[chkV iv R S ov (.slice P il.length pc) bw bs, insV ⟨o, d, a, b, c, m⟩] W (fun e w' => e = .returned (.bool (bearsB il.length S st ⟨o, d, a, b, c, m⟩)) ∧ Below W.heap.size W w')) := Lib.hid (fun W hW =>
      cbears_any W iv ov _ R S bw bs n2 st il _ (HSS.out W hW) (HSP.out W hW) HXW.out.n)
    have HCON2 : Hid (∀ (o' : Nat) W, (o' = q ∨ q = 3) → Below z.heap.size z W → Calls Try.prog 54 #[.slice (some ⟨w.heap.size + 2, o', none⟩) (3 - q) (3 - q), .func (.func 103) #[] #[]] W (fun e w' => e = .returned (.bool (([a, b, c].drop q).any fun f => f != 0)) ∧ ∃ n, w' = W.drewN n)) := Lib.hid (fun o' W ho' hW =>
      cont_pure 103 #[] hem (some ⟨w.heap.size + 2, o', none⟩) (3 - q) (3 - q) ([a, b, c].drop q) W (fun f => f != 0) (by rw [List.length_drop]; rfl) (by unfold maxLen; omega)
        (by
          rcases ho' with rfl | rfl
          · exact lit3d (HROW.out W hW) hq3
          · exact ⟨some ⟨w.heap.size + 2, o', none⟩, 0, rfl, by simp, by unfold maxLen; omega, fun i x hi => by simp at hi⟩)
        (fun v hv n => (HMAY.out v (W.drewN n)).mono (fun e w' h => ⟨h.1, n, h.2⟩)))
    have HOK2 : Hid (okI il.length R S (wl, st) ⟨o, d, a, b, c, m⟩ = (!(([a, b, c].take q).any fun k => !wl.contains k) && (bearsB il.length S st ⟨o, d, a, b, c, m⟩ && (!(([a, b, c].drop q).any fun f => f != 0) && (if o = 30 then d == 0 else decide (0 ≤ d) && decide (d < R)))))) := Lib.hid (by
      rw [HOK.out, HRI.out]
      have : decide (0 ≤ (q : Int)) = true := decide_eq_true (by omega)
      rw [this]; rfl)
    unfold insV at HBEA
    dsimp only at HBEA
    obtain ⟨v1, hv1⟩ : ∃ v, (([a, b, c].take q).any fun k => !wl.contains k) = v := ⟨_, rfl⟩
    obtain ⟨v2, hv2⟩ : ∃ v, bearsB il.length S st ⟨o, d, a, b, c, m⟩ = v := ⟨_, rfl⟩
    obtain ⟨v3, hv3⟩ : ∃ v, (([a, b, c].drop q).any fun f => f != 0) = v := ⟨_, rfl⟩
    rw [hv1] at HCON
    rw [hv2] at HBEA
    rw [hv3] at HCON2
    rw [hv1, hv2, hv3] at HOK2
    have HBcur : Hid (Below z.heap.size z z.drew) := Lib.hid (Below.refl _ _).drew
    clear hv1 hv2 hv3 e
    have hqc : q = 0 ∨ q = 1 ∨ q = 2 ∨ q = 3 := by omega
    cases v1 with
    | true =>
      have HE : Hid (okI il.length R S (wl, st) ⟨o, d, a, b, c, m⟩ = false) := Lib.hid (by rw [HOK2.out]; rfl)
      obtain ⟨u0, u1, u2, u3, u4, u5, u6, y0, y1, y2, y3, y4, y5⟩ := HKS.out _ HBcur.out
      rcases hqc with rfl | rfl | rfl | rfl
      all_goals
        go_enter Try.func62, Try.ntmps62
        go_wp2_with (go_at_call 101; with_reducible refine (HRD.out _).mono ?_; rintro e w' ⟨rfl, rfl⟩)
        try clear hz
        first
        | go_region_with (first | (go_at_call 54; with_reducible refine (HCON.out _ HBcur.out).mono ?_; rintro e z1 ⟨rfl, hbz⟩; have HBcur := Lib.hid (HBcur.out.trans (hbz.mono HBcur.out.size)); clear hbz))
        | fail
        all_goals
          go_wp2_with fail
          go_ret
          exact ⟨ret_bool HE.out.symm, HBZ.out.trans (HBcur.out.mono HBZ.out.size)⟩
    | false =>
    cases v2 with
    | false =>
      have HE : Hid (okI il.length R S (wl, st) ⟨o, d, a, b, c, m⟩ = false) := Lib.hid (by rw [HOK2.out]; rfl)
      rcases hqc with rfl | rfl | rfl | rfl
      all_goals
        go_enter Try.func62, Try.ntmps62
        go_wp2_with (go_at_call 101; with_reducible refine (HRD.out _).mono ?_; rintro e w' ⟨rfl, rfl⟩)
        try clear hz
        first
        | go_region_held3 (fun W => W.cell? ⟨w.heap.size, 0, none⟩ = some iv ∧ W.cell? ⟨w.heap.size, 1, none⟩ = some (.int .i64 R) ∧ W.cell? ⟨w.heap.size, 2, none⟩ = some (.int .i64 S) ∧ W.cell? ⟨w.heap.size, 3, none⟩ = some ov ∧ W.cell? ⟨w.heap.size, 4, none⟩ = some (.slice P il.length pc) ∧ W.cell? ⟨w.heap.size, 5, none⟩ = some (.map (some bw)) ∧ W.cell? ⟨w.heap.size, 6, none⟩ = some (.map (some bs)) ∧ W.cell? ⟨w.heap.size + 1, 0, none⟩ = some (.int .i64 o) ∧ W.cell? ⟨w.heap.size + 1, 1, none⟩ = some (.int .i64 d) ∧ W.cell? ⟨w.heap.size + 1, 2, none⟩ = some (.int .i64 a) ∧ W.cell? ⟨w.heap.size + 1, 3, none⟩ = some (.int .i64 b) ∧ W.cell? ⟨w.heap.size + 1, 4, none⟩ = some (.int .i64 c) ∧ W.cell? ⟨w.heap.size + 1, 5, none⟩ = some (.int .i64 m))
              (exact HKS.out _ HBcur.out)
              (first
              | (go_at_call 54; with_reducible refine (HCON.out _ HBcur.out).mono ?_; rintro e z1 ⟨rfl, hbz⟩; have HBcur := Lib.hid (HBcur.out.trans (hbz.mono HBcur.out.size)); clear hbz)
              | (go_at_call 102; with_reducible refine (HBEA.out _ HBcur.out).mono ?_; rintro e z1 ⟨rfl, hbz⟩; have HBcur := Lib.hid (HBcur.out.trans (hbz.mono HBcur.out.size)); clear hbz))
        | fail
        all_goals
          go_wp2_with fail
          go_ret
          exact ⟨ret_bool HE.out.symm, HBZ.out.trans (HBcur.out.mono HBZ.out.size)⟩
    | true =>
      have HE : Hid (okI il.length R S (wl, st) ⟨o, d, a, b, c, m⟩ = (!v3 && (if o = 30 then d == 0 else decide (0 ≤ d) && decide (d < R)))) := Lib.hid (by rw [HOK2.out]; rfl)
      rcases hqc with rfl | rfl | rfl | rfl
      all_goals
        go_enter Try.func62, Try.ntmps62
        go_wp2_with (go_at_call 101; with_reducible refine (HRD.out _).mono ?_; rintro e w' ⟨rfl, rfl⟩)
        try clear hz
        first
        | go_region_held3 (fun W => W.cell? ⟨w.heap.size, 0, none⟩ = some iv ∧ W.cell? ⟨w.heap.size, 1, none⟩ = some (.int .i64 R) ∧ W.cell? ⟨w.heap.size, 2, none⟩ = some (.int .i64 S) ∧ W.cell? ⟨w.heap.size, 3, none⟩ = some ov ∧ W.cell? ⟨w.heap.size, 4, none⟩ = some (.slice P il.length pc) ∧ W.cell? ⟨w.heap.size, 5, none⟩ = some (.map (some bw)) ∧ W.cell? ⟨w.heap.size, 6, none⟩ = some (.map (some bs)) ∧ W.cell? ⟨w.heap.size + 1, 0, none⟩ = some (.int .i64 o) ∧ W.cell? ⟨w.heap.size + 1, 1, none⟩ = some (.int .i64 d) ∧ W.cell? ⟨w.heap.size + 1, 2, none⟩ = some (.int .i64 a) ∧ W.cell? ⟨w.heap.size + 1, 3, none⟩ = some (.int .i64 b) ∧ W.cell? ⟨w.heap.size + 1, 4, none⟩ = some (.int .i64 c) ∧ W.cell? ⟨w.heap.size + 1, 5, none⟩ = some (.int .i64 m))
              (exact HKS.out _ HBcur.out)
              (first
              | (go_at_call 54; with_reducible refine (HCON.out _ HBcur.out).mono ?_; rintro e z1 ⟨rfl, hbz⟩; have HBcur := Lib.hid (HBcur.out.trans (hbz.mono HBcur.out.size)); clear hbz)
              | (go_at_call 102; with_reducible refine (HBEA.out _ HBcur.out).mono ?_; rintro e z1 ⟨rfl, hbz⟩; have HBcur := Lib.hid (HBcur.out.trans (hbz.mono HBcur.out.size)); clear hbz))
        | fail
        all_goals
          go_wp2_with fail
          refine (HCON2.out _ _ (by first | exact .inl rfl | exact .inr rfl | exact .inr trivial) HBcur.out).mono ?_
          rintro e z9 ⟨rfl, n9, hz9⟩
          have HB9 : Hid (Below z.heap.size z z9) := Lib.hid (by rw [hz9]; exact below_drewN HBcur.out n9)
          clear hz9
          cases v3 with
          | true =>
            go_wp2_with fail
            go_ret
            exact ⟨ret_bool (by rw [HE.out]; rfl), HBZ.out.trans (HB9.out.mono HBZ.out.size)⟩
          | false =>
            obtain ⟨u0, u1, u2, u3, u4, u5, u6, y0, y1, y2, y3, y4, y5⟩ := HKS.out _ HB9.out
            by_cases h30 : o = 30
            · have k30 : (o == 30) = true := by simpa using h30
              have HE2 : Hid (okI il.length R S (wl, st) ⟨o, d, a, b, c, m⟩ = (d == 0)) := Lib.hid (by rw [HE.out, if_pos h30]; rfl)
              clear h30
              go_wp2_with fail
              go_ret
              exact ⟨ret_bool HE2.out.symm, HBZ.out.trans (HB9.out.mono HBZ.out.size)⟩
            · have k30 : (o == 30) = false := by simpa using h30
              have HE2 : Hid (okI il.length R S (wl, st) ⟨o, d, a, b, c, m⟩ = (decide (0 ≤ d) && decide (d < R))) := Lib.hid (by rw [HE.out, if_neg h30]; rfl)
              clear h30
              go_wp2_with fail
              refine (HBE.out d R _).mono ?_
              rintro e w' ⟨rfl, rfl⟩
              go_wp2_with fail
              go_ret
              exact ⟨ret_bool HE2.out.symm, HBZ.out.trans (HB9.out.mono HBZ.out.size)⟩
end Go.Proofs.Ytcphjehjdhgheaa.Nt
