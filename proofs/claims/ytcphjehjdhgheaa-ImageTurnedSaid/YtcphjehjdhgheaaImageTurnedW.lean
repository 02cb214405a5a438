/- ImageTurned: the walk. Conditions: none. -/
import Derived.Test.YtcphjehjdhgheaaImL
import Derived.Lib.ConvBytes
import Derived.Deep.RegionLaw
import Derived.Test.YtcphjehjdhgheaaImW
import Derived.Test.YtcphjehjdhgheaaKdB
namespace Go.Proofs.Ytcphjehjdhgheaa.Nt
open Go.ChangeShapes Go.WideShapes Go.ChangeAt Go.RowKit Go.Proofs.Ytcphjehjdhgheaa.Tr
set_option linter.unusedVariables false
set_option linter.unusedSimpArgs false

theorem turned_new (w : World) (S : ByteArray) : (Lib.bytesWorld w 5 S).heap[w.heap.size]? = some (.cells (Lib.bytesCells w 5 S) 5 ((Lib.bytesCells w 5 S).size, (Lib.bytesCells w 5 S).size + 1)) := Lib.bytesWorld_at_new w 5 S
theorem bytes_size (w : World) (S : ByteArray) : S.size ≤ (Lib.bytesCells w 5 S).size := by
  unfold Lib.bytesCells
  rw [Array.size_append, Array.size_map]
  exact Nat.le_add_right _ _
theorem turned_fz (w : World) (S : ByteArray) (p : Nat) (hp : p < S.size) : (Lib.bytesWorld w 5 S).frozen? ⟨w.heap.size, p, none⟩ = false := by
  have h := turned_new w S
  have h2 := bytes_size w S
  simp [World.frozen?, h]
  omega
theorem turned_below (w : World) (S : ByteArray) : Below w.heap.size w (Lib.bytesWorld w 5 S) := by
  unfold Lib.bytesWorld
  exact Lib.below_freeze ((Below.drew (Below.refl w.heap.size w)).alloc (Nat.le_refl _) _) (p := ⟨w.heap.size, _, none⟩) (Nat.le_refl _) _
theorem mtold_litb (w : World) (A : Option Addr) (c : Nat) (ov pv : Value) (C : Cod) (li : Nat) (rg sl : Int) (lo lq : Nat) (hz : Sz C li rg sl lo lq) (h : CodR w (.slice A li c) ov pv C) (hn3 : li ≤ 1000000) :
    Calls Try.prog 38 #[.agg #[.slice A li c, .int .i64 rg, .int .i64 sl, ov, pv]] w (fun e w' => ∃ A' c', e = .returned (.agg #[.slice A' li c', .int .i64 rg, .int .i64 sl, ov, pv]) ∧ CodR w' (.slice A' li c') ov pv C ∧ Below w.heap.size w w') := by
  obtain ⟨rfl, rfl, rfl, rfl, rfl⟩ := hz
  refine (mtold_big w _ _ _ C h hn3).mono ?_
  rintro e w' ⟨iv', rfl, hi, hb⟩
  obtain ⟨A', c', rfl, -, -⟩ := hi.form
  exact ⟨A', c', rfl, ⟨hi, h.2.1.below hb (Nat.le_refl _), h.2.2.below hb (Nat.le_refl _)⟩, hb⟩
theorem bs_get (T : List UInt8) (i : Nat) (h : i < (bs T).size) (h2 : i < T.length) : (bs T)[i]'h = T[i]'h2 := rfl
theorem wrap8 (n : Nat) (h : n < 256) : IntKind.u8.wrap (n : Int) = (n : Int) := by
  simp [IntKind.wrap, IntKind.bits, IntKind.signed]
  omega
theorem xor_is (x y : Int) : bits .xor .u8 x y = ((BitVec.ofInt 8 x ^^^ BitVec.ofInt 8 y).toNat : Int) := wrap8 _ (BitVec.ofInt 8 x ^^^ BitVec.ofInt 8 y).isLt
theorem xor_bnd (x y : Int) : ∃ z : UInt8, bits .xor .u8 x y = (z.toNat : Int) := by
  refine ⟨UInt8.ofNat (BitVec.ofInt 8 x ^^^ BitVec.ofInt 8 y).toNat, ?_⟩
  have h := (BitVec.ofInt 8 x ^^^ BitVec.ofInt 8 y).isLt
  rw [UInt8.toNat_ofNat', xor_is, Nat.mod_eq_of_lt h]
theorem xor_ne (c : UInt8) (y : Int) (h0 : 0 ≤ y) (h1 : y < 256) (hne : y ≠ 0) : bits .xor .u8 (c.toNat : Int) y ≠ (c.toNat : Int) := by
  intro h
  rw [xor_is] at h
  have hc := c.toNat_lt
  have e1 : (BitVec.ofInt 8 (c.toNat : Int)).toNat = c.toNat := by
    rw [BitVec.toNat_ofInt]; omega
  have e2 : (BitVec.ofInt 8 (c.toNat : Int) ^^^ BitVec.ofInt 8 y) = BitVec.ofInt 8 (c.toNat : Int) := BitVec.eq_of_toNat_eq (by rw [e1]; omega)
  have e3 : BitVec.ofInt 8 y = 0#8 := by
    have := congrArg (fun t => BitVec.ofInt 8 (c.toNat : Int) ^^^ t) e2
    simp only [← BitVec.xor_assoc, BitVec.xor_self, BitVec.zero_xor] at this
    exact this
  have e4 := congrArg BitVec.toNat e3
  rw [BitVec.toNat_ofInt] at e4
  simp at e4
  omega
theorem enc_len {C : Cod} (hF : encF C = 0) (h1 : C.ins.length ≤ 600) (h2 : C.outs.length ≤ 60) (h3 : C.inp.length ≤ 60) : (encM C).length ≤ 900000 := by
  obtain ⟨k1, k2⟩ := enc_ok hF
  have hF2 := check_fits k1
  obtain ⟨r1, r2⟩ := hF2.regs
  obtain ⟨r3, r4⟩ := hF2.slots
  have HIN : ∀ k ∈ C.inp, 0 ≤ k ∧ k < 34359738368 := fun k hk => by
    unfold inpB at k2
    rw [List.all_eq_true] at k2
    have := k2 k hk
    simp at this
    omega
  have HOU : ∀ k ∈ C.outs, 0 ≤ k ∧ k < 34359738368 := fun k hk => by have := hF2.outs k hk; omega
  have b1 := num_len C.regs.toNat (by omega)
  have b2 := num_len C.slots.toNat (by omega)
  have b3 := num_len C.inp.length (by omega)
  have b4 := put_len C.inp HIN
  have b5 := num_len C.ins.length (by omega)
  have b6 := inss_len C.ins (fun z hz => ins_len (ok_bnd k1 (by omega) z hz))
  have b7 := num_len C.outs.length (by omega)
  have b8 := put_len C.outs HOU
  unfold encM
  rw [if_pos hF]
  unfold bytesM listM bail
  simp only [List.length_append, List.length_cons, List.length_nil]
  omega
set_option maxRecDepth 100000 in
set_option maxHeartbeats 8000000 in
theorem turned_walk (w : World) (iv ov pv : Value) (C : Cod) (h : CodR w iv ov pv C) (hw : CodW C) (hrw : W64 C.regs) (hsw : W64 C.slots) (at_ : Int) (hat : (Lit.int .i64 at_).wf = true) (by_ : Int) (hby : (Lit.int .u8 by_).wf = true) : Calls Try.prog 13 #[.agg #[iv, .int .i64 C.regs, .int .i64 C.slots, ov, pv], .int .i64 at_, .int .u8 by_] w (fun e w' => e = .returned (.bool true) ∧ Below w.heap.size w w') := by
  have HH := Lib.hid h
  have HW := Lib.hid hw
  obtain ⟨cA, cc, rfl, -, -⟩ := h.1.form
  obtain ⟨oA, oc, rfl, -, -⟩ := ints_form h.2.1
  obtain ⟨qA, qc, rfl, -, -⟩ := ints_form h.2.2
  obtain ⟨li, hli⟩ : ∃ k, C.ins.length = k := ⟨_, rfl⟩
  obtain ⟨lo, hlo⟩ : ∃ k, C.outs.length = k := ⟨_, rfl⟩
  obtain ⟨lq, hlq⟩ : ∃ k, C.inp.length = k := ⟨_, rfl⟩
  obtain ⟨rg, hrg⟩ : ∃ k, C.regs = k := ⟨_, rfl⟩
  obtain ⟨sl, hsl⟩ : ∃ k, C.slots = k := ⟨_, rfl⟩
  have HZ : Hid (Sz C li rg sl lo lq) := Lib.hid ⟨hli, hrg, hsl, hlo, hlq⟩
  rw [hli, hlo, hlq] at HH
  rw [hli, hlo, hlq, hrg, hsl]
  obtain ⟨x, hx⟩ : ∃ W, w.alloc (.cells #[.slice cA li cc, .int .i64 rg, .int .i64 sl, .slice oA lo oc, .slice qA lq qc] 54) = W := ⟨_, rfl⟩
  have HX := Lib.hid hx
  have HBX : Hid (Below w.heap.size w x) := Lib.hid (by rw [← hx]; exact below_new _ _)
  have HXX : Hid (CodBox x w.heap.size 54 (.slice cA li cc) rg sl (.slice oA lo oc) (.slice qA lq qc)) := Lib.hid (by rw [← hx]; exact codbox_new _ _ _ _ _ _ _)
  have HCX : Hid (CodR x (.slice cA li cc) (.slice oA lo oc) (.slice qA lq qc) C) := Lib.hid (HH.out.below HBX.out (Nat.le_refl _))
  have HSM := Lib.hid (ksmall_any x _ _ _ C HCX.out)
  rw [hrg, hsl, hli, hlo, hlq] at HSM
  have HLV : Hid (∀ V, Below x.heap.size x V → Calls Try.prog 40 #[] V (fun e w' => e = .returned (.bool true) ∧ Below w.heap.size w w')) := Lib.hid (fun V hV => (live7_any V).mono (by
    rintro e w2 ⟨rfl, hb2⟩
    exact ⟨rfl, HBX.out.trans ((hV.trans (hb2.mono hV.size)).mono HBX.out.size)⟩))
  obtain ⟨p0, p1, p2, p3, p4⟩ := HXX.out.ats
  clear h hw hx hli hlo hlq hrg hsl
  go_enter Try.func13, Try.ntmps13
  go_wp2_with fail
  try rw [HX.out]
  try go_wp2_with fail
  refine HSM.out.mono ?_
  rintro e w1 ⟨sb, rfl, hsb, hb1⟩
  have HB1 := Lib.hid hb1
  obtain ⟨q0, q1, q2, q3, q4⟩ := (HXX.out.below hb1 HXX.out.lt).ats
  clear hb1 p0 p1 p2 p3 p4 HSM
  cases sb with
  | false =>
    clear hsb
    go_wp2_with fail
    refine (HLV.out w1 HB1.out).mono ?_
    rintro e w2 ⟨rfl, hb2⟩
    have HB2 := Lib.hid hb2
    clear hb2
    go_wp2
    go_ret
    exact ⟨rfl, HB2.out⟩
  | true =>
    obtain ⟨hli6, hr3, hs3, ho6, hq6⟩ := hsb rfl
    clear hsb
    by_cases hb0 : by_ = 0
    · subst hb0
      go_wp2_with fail
      refine (HLV.out w1 HB1.out).mono ?_
      rintro e w2 ⟨rfl, hb2⟩
      have HB2 := Lib.hid hb2
      clear hb2
      go_wp2
      go_ret
      exact ⟨rfl, HB2.out⟩
    have hb0b : (by_ == 0) = false := by simpa using hb0
    have HC1 := Lib.hid (HCX.out.below HB1.out (Nat.le_refl _))
    have HO := Lib.hid (mown_lit w1 cA cc _ _ C li rg sl lo lq HZ.out HC1.out (by omega))
    obtain ⟨m, hm⟩ : ∃ m, encM C = m := ⟨_, rfl⟩
    obtain ⟨F, hF⟩ : ∃ F, encF C = F := ⟨_, rfl⟩
    have HM := Lib.hid hm
    have HF := Lib.hid hF
    obtain ⟨n, hn⟩ : ∃ n, m.length = n := ⟨_, rfl⟩
    have HN := Lib.hid hn
    obtain ⟨S, hS⟩ : ∃ S, bs m = S := ⟨_, rfl⟩
    have HS := Lib.hid hS
    have hsz : S.size = n := by rw [← hS, bs_size, hn]
    have HBY := Lib.hid hb0
    clear hm hF hn hS hb0
    go_wp2_with fail
    refine HO.out.mono ?_
    rintro e w2 ⟨A2, c2, rfl, hr2, hb2⟩
    have HB2 : Hid (Below x.heap.size x w2) := Lib.hid (HB1.out.trans (hb2.mono HB1.out.size))
    have HR2 := Lib.hid hr2
    clear hr2 hb2 HO q0 q1 q2 q3 q4
    go_wp2_with fail
    refine (enc_lit w2 _ _ _ C li rg sl lo lq HZ.out HR2.out HW.out (by omega) (by omega) S (by rw [HM.out]; exact HS.out) F HF.out).mono ?_
    rintro e w3 ⟨rfl, hb3⟩
    have HB3 : Hid (Below x.heap.size x w3) := Lib.hid (HB2.out.trans (hb3.mono HB2.out.size))
    clear hb3
    by_cases hf : F ≠ 0
    · have hfb : (F != 0) = true := by simpa using hf
      clear hf
      go_wp2_with fail
      refine (HLV.out w3 HB3.out).mono ?_
      rintro e w6 ⟨rfl, hb6⟩
      have HB6 := Lib.hid hb6
      clear hb6
      go_wp2
      go_ret
      exact ⟨rfl, HB6.out⟩
    have hf0 : F = 0 := by omega
    subst hf0
    clear hf
    by_cases ha0 : at_ < 0
    · go_wp2_with fail
      refine (HLV.out w3 HB3.out).mono ?_
      rintro e w6 ⟨rfl, hb6⟩
      have HB6 := Lib.hid hb6
      clear hb6
      go_wp2
      go_ret
      exact ⟨rfl, HB6.out⟩
    obtain ⟨p, rfl⟩ : ∃ k : Nat, at_ = (k : Int) := ⟨at_.toNat, by omega⟩
    by_cases ha1 : n ≤ p
    · have ha2 : (n : Int) ≤ (p : Int) := by omega
      go_wp2_with fail
      refine (HLV.out w3 HB3.out).mono ?_
      rintro e w6 ⟨rfl, hb6⟩
      have HB6 := Lib.hid hb6
      clear hb6
      go_wp2
      go_ret
      exact ⟨rfl, HB6.out⟩
    have ha2 : ¬ (n : Int) ≤ (p : Int) := by omega
    have ha3 : (p : Int) < (n : Int) := by omega
    have hcv := Lib.run_convert_string_bytes (P := Try.prog) w3 9 76 5 S Try.underlying9 Try.underlying76 Try.underlying5
    obtain ⟨c, hc⟩ : ∃ c, m[p]? = some c := ⟨_, List.getElem?_eq_getElem (by rw [HN.out]; omega)⟩
    have HNW := Lib.hid (Lib.bytesWorld_at_new w3 5 S)
    have hcell := Lib.bytesWorld_cell w3 5 S p (by rw [hsz]; omega)
    rw [show (S.data.toList.getD p 0) = c by rw [← HS.out, bs_data]; simp [List.getD, hc]] at hcell
    have hfz : (Lib.bytesWorld w3 5 S).frozen? ⟨w3.heap.size, p, none⟩ = false := turned_fz w3 S p (by rw [hsz]; omega)
    obtain ⟨w4, hw4⟩ : ∃ W, Lib.bytesWorld w3 5 S = W := ⟨_, rfl⟩
    obtain ⟨cap, hcap⟩ : ∃ k, grownCap w3 S.size 0 5 = k := ⟨_, rfl⟩
    rw [hw4, hcap] at hcv
    rw [hw4] at hcell hfz
    rw [hsz] at hcv
    have hw8 : 0 ≤ by_ ∧ by_ < 256 := by
      have := hby
      simp [Lit.wf, IntKind.min, IntKind.max, IntKind.signed, IntKind.bits] at this
      omega
    obtain ⟨z, hz⟩ := xor_bnd (c.toNat : Int) by_
    have hzc : z ≠ c := fun e => xor_ne c by_ hw8.1 hw8.2 HBY.out (by rw [hz, e])
    obtain ⟨T, hT⟩ : ∃ T, m.set p z = T := ⟨_, rfl⟩
    have HTN : Hid (T.length = n) := Lib.hid (by rw [← hT, List.length_set, HN.out])
    have HTM : Hid (T ≠ m) := Lib.hid (fun e => by
      have h1 : (m.set p z)[p]? = m[p]? := by rw [hT, e]
      rw [hc, List.getElem?_set] at h1
      simp at h1
      exact hzc h1.2)
    have HB4 : Hid (Below x.heap.size x w4) := Lib.hid (HB3.out.trans (by rw [← hw4]; exact (turned_below w3 S).mono HB3.out.size))
    have HC4 : Hid (∀ i, i < n → ∃ u, m[i]? = some u ∧ w4.cell? ⟨w3.heap.size, i, none⟩ = some (.int .u8 (u.toNat : Int))) := Lib.hid (fun i hi => by
      obtain ⟨u, hu⟩ : ∃ u, m[i]? = some u := ⟨_, List.getElem?_eq_getElem (by rw [HN.out]; exact hi)⟩
      have h1 := Lib.bytesWorld_cell w3 5 S i (by rw [hsz]; exact hi)
      rw [show (S.data.toList.getD i 0) = u by rw [← HS.out, bs_data]; simp [List.getD, hu], hw4] at h1
      exact ⟨u, hu, h1⟩)
    obtain ⟨w5, hw5⟩ : ∃ W, w4.setCell ⟨w3.heap.size, p, none⟩ (.int .u8 (bits .xor .u8 (c.toNat : Int) by_)) = W := ⟨_, rfl⟩
    have hx3 := HB3.out.size
    have HB5 : Hid (Below x.heap.size x w5) := Lib.hid (by rw [← hw5]; exact HB4.out.setCell (p := ⟨w3.heap.size, p, none⟩) hx3 _)
    have hcv2 : (convert 76 9 (.slice (some ⟨w3.heap.size, 0, none⟩) n cap)).run Try.prog w5 = .ok (.string (bs T)) w5 := by
      have h1 := Lib.run_convert_whole (P := Try.prog) w5 76 5 9 Try.underlying76 Try.underlying5 Try.underlying9 w3.heap.size 0 (bs T) (fun i hi => by
        have hi2 : i < n := by rw [bs_size, HTN.out] at hi; exact hi
        obtain ⟨u, hu, hcu⟩ := HC4.out i hi2
        have hti : T[i]? = some (if p = i then z else u) := by
          rw [← hT, List.getElem?_set]
          by_cases e : p = i
          · subst e; simp [HN.out, hi2]
          · simp [e, hu]
        have hgi : (bs T)[i] = (if p = i then z else u) := by
          have : (bs T)[i] = T[i]'(by rw [HTN.out]; exact hi2) := bs_get T i hi _
          rw [this]
          have := List.getElem?_eq_getElem (l := T) (i := i) (by rw [HTN.out]; exact hi2)
          rw [hti] at this
          exact (Option.some.inj this).symm
        rw [hgi, Nat.zero_add, ← hw5, hz]
        obtain ⟨cs, T0, fr, hcs⟩ : ∃ cs T0 fr, w4.heap[w3.heap.size]? = some (.cells cs T0 fr) := ⟨_, _, _, by rw [← hw4]; exact turned_new w3 S⟩
        obtain ⟨u', hu', hcp⟩ := HC4.out p (by omega)
        have hps : p < cs.size := by
          rcases Nat.lt_or_ge p cs.size with h | h
          · exact h
          · simp [World.cell?, hcs, Array.getElem?_eq_none h] at hcp
        by_cases e : p = i
        · subst e
          rw [if_pos rfl]
          simp [World.cell?, World.setCell, Array.getElem?_modify, hcs, hps]
        · rw [if_neg e, ← hcu]
          simp [World.cell?, World.setCell, Array.getElem?_modify, hcs, e, Array.getElem?_set]) cap
      rw [bs_size, HTN.out] at h1
      exact h1
    have HLE : Hid (T.length ≤ 900000) := Lib.hid (by
      rw [HTN.out, ← HN.out, ← HM.out]
      exact enc_len HF.out (by rw [HZ.out.ins]; omega) (by rw [HZ.out.outs]; omega) (by rw [HZ.out.inp]; omega))
    clear hz
    go_wp2_with fail
    try rw [hw5]
    clear hw5 hw4 hcv hcv2 hcell hfz hcap
    refine (idec_any T w5 HLE.out).mono ?_
    rintro e w6 ⟨iv, ov, pv, rfl, hcr, hb6⟩
    obtain ⟨D, hD⟩ : ∃ D, (decM T).1 = D := ⟨_, rfl⟩
    obtain ⟨f, hf⟩ : ∃ f, (decM T).2 = f := ⟨_, rfl⟩
    have hfok := decF T
    rw [hf] at hfok
    have HDF : Hid (f = 0 → encF D = 0 ∧ bytesM D = T) := Lib.hid (fun e => by
      have := dec_ok (s := T) (by rw [hf]; exact e)
      rw [hD] at this; exact this)
    rw [hD] at hcr
    rw [hD, hf]
    obtain ⟨dA, dc, rfl, -, -⟩ := hcr.1.form
    obtain ⟨eA, ec, rfl, -, -⟩ := ints_form hcr.2.1
    obtain ⟨fA, fc, rfl, -, -⟩ := ints_form hcr.2.2
    obtain ⟨mi, hmi⟩ : ∃ k, D.ins.length = k := ⟨_, rfl⟩
    obtain ⟨mo, hmo⟩ : ∃ k, D.outs.length = k := ⟨_, rfl⟩
    obtain ⟨mq, hmq⟩ : ∃ k, D.inp.length = k := ⟨_, rfl⟩
    obtain ⟨sg, hsg⟩ : ∃ k, D.regs = k := ⟨_, rfl⟩
    obtain ⟨tl, htl⟩ : ∃ k, D.slots = k := ⟨_, rfl⟩
    have KZ : Hid (Sz D mi sg tl mo mq) := Lib.hid ⟨hmi, hsg, htl, hmo, hmq⟩
    have KC6 := Lib.hid hcr
    rw [hmi, hmo, hmq] at KC6
    rw [hmi, hmo, hmq, hsg, htl]
    have HB6 : Hid (Below x.heap.size x w6) := Lib.hid (HB5.out.trans (hb6.mono HB5.out.size))
    obtain ⟨q, hq⟩ : ∃ q, w6.heap.size = q := ⟨_, rfl⟩
    obtain ⟨w7, hw7⟩ : ∃ W, w6.alloc (.cells #[.slice dA mi dc, .int .i64 sg, .int .i64 tl, .slice eA mo ec, .slice fA mq fc] 59) = W := ⟨_, rfl⟩
    have hb67 : Below w6.heap.size w6 w7 := by rw [← hw7]; exact below_new _ _
    have HB7 : Hid (Below x.heap.size x w7) := Lib.hid (HB6.out.trans (hb67.mono HB6.out.size))
    have HX7 : Hid (CodBox w7 q 59 (.slice dA mi dc) sg tl (.slice eA mo ec) (.slice fA mq fc)) := Lib.hid (by rw [← hw7, ← hq]; exact codbox_new _ _ _ _ _ _ _)
    have KC7 := Lib.hid (KC6.out.below hb67 (Nat.le_refl _))
    have HC7 := Lib.hid (HCX.out.below HB7.out (Nat.le_refl _))
    have HXC7 := Lib.hid (HXX.out.below HB7.out HXX.out.lt)
    have HKS : Hid (∀ V, Below w7.heap.size w7 V → (V.cell? ⟨q, 0, none⟩ = some (.slice dA mi dc) ∧ V.cell? ⟨q, 1, none⟩ = some (.int .i64 sg) ∧ V.cell? ⟨q, 2, none⟩ = some (.int .i64 tl) ∧ V.cell? ⟨q, 3, none⟩ = some (.slice eA mo ec) ∧ V.cell? ⟨q, 4, none⟩ = some (.slice fA mq fc)) ∧ (V.cell? ⟨w.heap.size, 0, none⟩ = some (.slice cA li cc) ∧ V.cell? ⟨w.heap.size, 1, none⟩ = some (.int .i64 rg) ∧ V.cell? ⟨w.heap.size, 2, none⟩ = some (.int .i64 sl) ∧ V.cell? ⟨w.heap.size, 3, none⟩ = some (.slice oA lo oc) ∧ V.cell? ⟨w.heap.size, 4, none⟩ = some (.slice qA lq qc))) := Lib.hid (fun V hV => ⟨(HX7.out.below hV HX7.out.lt).ats, (HXC7.out.below hV HXC7.out.lt).ats⟩)
    have HLV7 : Hid (∀ V, Below w7.heap.size w7 V → Calls Try.prog 40 #[] V (fun e w' => e = .returned (.bool true) ∧ Below w.heap.size w w')) := Lib.hid (fun V hV => HLV.out V (HB7.out.trans (hV.mono HB7.out.size)))
    have HBcur : Hid (Below w7.heap.size w7 w7.drew) := Lib.hid (Below.refl w7.heap.size w7).drew
    have HB00 : Hid (Below w7.heap.size w7 w7) := Lib.hid (Below.refl _ _)
    clear hcr hb6 hb67 hD hmi hmo hmq hsg htl hT
    by_cases hf0 : f = 0
    · subst hf0
      obtain ⟨hd1, hd2⟩ := HDF.out rfl
      have HSB : Hid (sameB D C = false) := Lib.hid (by
        cases hs : sameB D C with
        | false => rfl
        | true =>
          have := same_eq.1 hs
          subst this
          exfalso
          apply HTM.out
          rw [← hd2, ← HM.out]
          unfold encM
          rw [if_pos hd1])
      have hmi6 : mi ≤ 1000000 := by have := (check_fits (enc_ok hd1).1).len; rw [KZ.out.ins] at this; omega
      have HTO : Hid (∀ V, CodR V (.slice dA mi dc) (.slice eA mo ec) (.slice fA mq fc) D → Calls Try.prog 38 #[.agg #[.slice dA mi dc, .int .i64 sg, .int .i64 tl, .slice eA mo ec, .slice fA mq fc]] V (fun e w' => ∃ A' c', e = .returned (.agg #[.slice A' mi c', .int .i64 sg, .int .i64 tl, .slice eA mo ec, .slice fA mq fc]) ∧ CodR w' (.slice A' mi c') (.slice eA mo ec) (.slice fA mq fc) D ∧ Below V.heap.size V w')) := Lib.hid (fun V hV => mtold_litb V dA dc _ _ D mi sg tl mo mq KZ.out hV hmi6)
      have HSA : Hid (∀ V A' c', CodR V (.slice A' mi c') (.slice eA mo ec) (.slice fA mq fc) D → Below w7.heap.size w7 V → Calls Try.prog 43 #[.agg #[.slice A' mi c', .int .i64 sg, .int .i64 tl, .slice eA mo ec, .slice fA mq fc], .agg #[.slice cA li cc, .int .i64 rg, .int .i64 sl, .slice oA lo oc, .slice qA lq qc]] V (fun e w' => e = .returned (.bool false) ∧ Below V.heap.size V w')) := Lib.hid (fun V A' c' hV hb => by
        have := ksame_any V _ _ _ _ _ _ D C hV (HC7.out.below hb (Nat.le_refl _))
        rw [HZ.out.regs, HZ.out.slots, KZ.out.regs, KZ.out.slots, HSB.out] at this
        exact this)
      clear hd1 hd2 hf HDF hfok
      go_wp2_with fail
      try rw [hw7]
      clear hw7 hq
      try go_wp2_with fail
      go_region_held3 (fun V => (V.cell? ⟨q, 0, none⟩ = some (.slice dA mi dc) ∧ V.cell? ⟨q, 1, none⟩ = some (.int .i64 sg) ∧ V.cell? ⟨q, 2, none⟩ = some (.int .i64 tl) ∧ V.cell? ⟨q, 3, none⟩ = some (.slice eA mo ec) ∧ V.cell? ⟨q, 4, none⟩ = some (.slice fA mq fc)) ∧ (V.cell? ⟨w.heap.size, 0, none⟩ = some (.slice cA li cc) ∧ V.cell? ⟨w.heap.size, 1, none⟩ = some (.int .i64 rg) ∧ V.cell? ⟨w.heap.size, 2, none⟩ = some (.int .i64 sl) ∧ V.cell? ⟨w.heap.size, 3, none⟩ = some (.slice oA lo oc) ∧ V.cell? ⟨w.heap.size, 4, none⟩ = some (.slice qA lq qc)))
        (first | exact HKS.out _ HBcur.out | exact HKS.out _ HB00.out)
        (first
          | (go_at_call 38; with_reducible refine (HTO.out _ (KC7.out.below HBcur.out (Nat.le_refl _))).mono ?_; rintro e z1 ⟨A1, c1, rfl, hr1, hbz⟩; have HTA := Lib.hid hr1; have HBcur := Lib.hid (HBcur.out.trans (hbz.mono HBcur.out.size)); clear hbz hr1)
          | (go_at_call 43; with_reducible refine (HSA.out _ _ _ HTA.out HBcur.out).mono ?_; rintro e z3 ⟨rfl, hbz⟩; have HBcur := Lib.hid (HBcur.out.trans (hbz.mono HBcur.out.size)); clear hbz)
          | (go_at_call 40; with_reducible refine (live7_any _).mono ?_; rintro e z4 ⟨rfl, hbz⟩; have HBcur := Lib.hid (HBcur.out.trans (hbz.mono HBcur.out.size)); clear hbz))
      all_goals
        go_wp2_with fail
        go_ret
        exact ⟨rfl, HBX.out.trans ((HB7.out.trans (HBcur.out.mono HB7.out.size)).mono HBX.out.size)⟩
    · have hf2 : f = 15 ∨ f = 16 := by unfold FOK at hfok; omega
      clear hf0 hf HDF hfok
      rcases hf2 with rfl | rfl
      all_goals
        go_wp2_with fail
        try rw [hw7]
        clear hw7 hq
        try go_wp2_with fail
        go_region_law (first
          | (refine step_callg (by rfl) 40 #[] (by simp [execOp, go_sem, Act.put, Act.eval]) ?_; refine (live7_any _).mono ?_; rintro e z4 ⟨rfl, hbz⟩; have HBcur := Lib.hid (HBcur.out.trans (hbz.mono HBcur.out.size)); clear hbz; refine ⟨_, rfl, ?_⟩)
          | fail)
        all_goals
          go_wp2_with fail
          go_ret
          exact ⟨rfl, HBX.out.trans ((HB7.out.trans (HBcur.out.mono HB7.out.size)).mono HBX.out.size)⟩
end Go.Proofs.Ytcphjehjdhgheaa.Nt
