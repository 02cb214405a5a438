/- What lays instructions: the slots' ones, at the end. Conditions: few of all. -/
import Derived.Test.YtcphjehjdhgheaaKmCd
import Derived.Deep.RegionLaw
namespace Go.Proofs.Ytcphjehjdhgheaa.Nt
open Go.ChangeShapes Go.WideShapes Go.ChangeAt Go.RowKit Go.Proofs.Ytcphjehjdhgheaa.Tr
set_option linter.unusedVariables false
set_option linter.unusedSimpArgs false

variable {w0 W W' : World} {B b : Nat} {S : Net} {pv qv iv ov ev lv fv : Value} {m : Mk} {outs : List Int}
theorem preA_snoc (l : List Op5) (o : Op5) : preA (l ++ [o]) = preA l ++ if o.op = 21 then [o.a] else [] := by
  unfold preA
  by_cases h : o.op = 21 <;> simp [List.filter_append, h]
theorem stores_snoc (loc : List Int) (o : Op5) : ∀ (l : List Op5) (s : Nat), stores loc (l ++ [o]) s = stores loc l s ++ if o.op = 21 then [⟨30, 0, at0 loc o.a, 0, 0, ((s + (preA l).length : Nat) : Int)⟩] else [] := by
  intro l
  induction l with
  | nil =>
    intro s
    by_cases h : o.op = 21 <;> simp [stores, preA, h]
  | cons x r ih =>
    intro s
    rw [List.cons_append]
    unfold stores
    by_cases hx : x.op = 21
    · rw [if_pos hx, if_pos hx, ih, List.cons_append, show (preA (x :: r)).length = (preA r).length + 1 by simp [preA, hx], show s + ((preA r).length + 1) = s + 1 + (preA r).length by omega]
    · rw [if_neg hx, if_neg hx, ih, show (preA (x :: r)).length = (preA r).length by simp [preA, hx]]
theorem preA_le (l : List Op5) : (preA l).length ≤ l.length := by unfold preA; rw [List.length_map]; exact List.length_filter_le _ _
def StorePost (w0 : World) (B b : Nat) (S : Net) (pv qv ov ev lv fv : Value) (m : Mk) (outs : List Int) (e : Ending) (w' : World) : Prop :=
  e = .returned (.tuple #[]) ∧ ∃ iv', MkS w0 B b S pv qv w' iv' ov ev lv fv { m with ins := m.ins ++ stores m.loc S.ops 0 } outs
set_option maxRecDepth 100000 in
set_option maxHeartbeats 16000000 in
theorem store_any (h : MkS w0 B b S pv qv W iv ov ev lv fv m outs) (n : Nat) (hn : S.ops.length = n) (hn3 : n ≤ 1000) (hll : m.loc.length = n) (hil : m.ins.length ≤ 1000) (hq : ∀ o ∈ S.ops, o.op = 21 → 0 ≤ o.a ∧ o.a < (n : Int)) : Calls Try.prog 71 #[.pointer (some ⟨b, 0, none⟩)] W (StorePost w0 B b S pv qv ov ev lv fv m outs) := by
  obtain ⟨j0, hj0, hy0, hy1, hy2⟩ := info_parts infoK
  obtain ⟨p0, p1, p2, p3, p4, p5, p6, p7, p8⟩ := h.ats
  obtain ⟨QA, qc, rfl, z1, z2⟩ := h.ops.form
  unfold maxLen at z2
  have HQ := Lib.hid hq
  have H := Lib.hid h
  have HN := Lib.hid hn
  rw [hn] at p5 z1
  have HB0 : Hid (∀ V, Below B w0 V → Below w0.heap.size w0 V) := Lib.hid (fun V hV => { os := hV.os, tape := hV.tape, output := hV.output, size := hV.size, block := fun g hg => hV.block g (by have := H.out.lo; omega) })
  have HLO := h.lo
  clear h hq hn
  go_enter Try.func71, Try.ntmps71
  go_wp2_with fail
  go_loopw [2, 10] (fun v2 v10 wr => ∃ (q c : Nat) (iv' : Value), q ≤ n ∧ v10 = .int .i64 (q : Int) ∧ v2 = .int .i64 (c : Int) ∧ c = (preA (S.ops.take q)).length ∧ c ≤ q ∧ MkS w0 B b S pv (.slice QA S.ops.length qc) wr iv' ov ev lv fv { m with ins := m.ins ++ stores m.loc (S.ops.take q) 0 } outs) (fun _ v10 _ => n - (intOf v10).toNat)
  case atStart => exact ⟨0, 0, iv, Nat.zero_le _, rfl, rfl, rfl, Nat.le_refl _, by simpa [stores] using H.out⟩
  case round =>
    obtain ⟨q, c, iv', hqn, rfl, rfl, hc, hcq, hm⟩ := hrel
    have HC := Lib.hid hc
    have HM := Lib.hid hm
    obtain ⟨wk, hwk⟩ : ∃ W, W = wr := ⟨_, rfl⟩
    subst hwk
    clear hc
    by_cases hq1 : q < n
    · obtain ⟨o, ho⟩ : ∃ o, S.ops[q]? = some o := ⟨_, List.getElem?_eq_getElem (by rw [HN.out]; exact hq1)⟩
      have HO := Lib.hid ho
      obtain ⟨g, oo, rfl, hg, d0, d1, d2, d3, d4⟩ := (hm.ops.below (HB0.out _ hm.old) (Nat.le_refl _)).at ho
      have HTK : Hid (S.ops.take (q + 1) = S.ops.take q ++ [o]) := Lib.hid (by rw [List.take_add_one, ho]; rfl)
      obtain ⟨oop, oa, ob, oc, on⟩ := o
      dsimp only at d0 d1 d2 d3 d4
      obtain ⟨w2, hw2⟩ : ∃ V, wk.alloc (.cells #[.int .i64 oop, .int .i64 oa, .int .i64 ob, .int .i64 oc, .int .i64 on] 79) = V := ⟨_, rfl⟩
      have HO2 : Hid (OpBox w2 wk.heap.size 79 ⟨oop, oa, ob, oc, on⟩) := Lib.hid ⟨by rw [← hw2]; exact heap_alloc_new _ _⟩
      have hb2 : Below wk.heap.size wk w2 := by rw [← hw2]; exact below_new _ _
      have hm2 := hm.below hb2
      have HM2 := Lib.hid hm2
      obtain ⟨ox0, ox1, ox2, ox3, ox4, -, -, -⟩ := HO2.out.ats
      dsimp only at ox0 ox1 ox2 ox3 ox4
      by_cases hp : oop = 21
      · subst hp
        have HSN : Hid (stores m.loc (S.ops.take (q + 1)) 0 = stores m.loc (S.ops.take q) 0 ++ [⟨30, 0, at0 m.loc oa, 0, 0, (c : Int)⟩] ∧ c + 1 = (preA (S.ops.take (q + 1))).length) := Lib.hid (by
          rw [HTK.out, stores_snoc, preA_snoc, HC.out]
          refine ⟨by rw [if_pos rfl, Nat.zero_add], by rw [if_pos rfl]; simp⟩)
        have hoa := HQ.out _ (List.mem_of_getElem? ho) rfl
        dsimp only at hoa
        obtain ⟨ka, rfl⟩ : ∃ k : Nat, oa = (k : Int) := ⟨oa.toNat, by omega⟩
        have hka : ka < n := by omega
        obtain ⟨r, hr⟩ : ∃ r, m.loc[ka]? = some r := ⟨_, List.getElem?_eq_getElem (by omega)⟩
        have HR : Hid (at0 m.loc (ka : Int) = r) := Lib.hid (at0_of hr)
        rw [HR.out] at HSN
        have hloc := hm2.loc
        dsimp only at hloc
        rw [hll] at hloc
        obtain ⟨LA, lc, rfl, lz1, lz2⟩ := own_slice hloc
        obtain ⟨lg, rfl, -, hlg, cl, -⟩ := row_at hloc hr hka
        have hins := hm2.ins
        dsimp only at hins
        obtain ⟨ki, hki⟩ : ∃ k, (m.ins ++ stores m.loc (S.ops.take q) 0).length = k := ⟨_, rfl⟩
        have hki3 : ki ≤ 2000 := by
          have := HC.out
          rw [← hki, List.length_append, stores_len]; omega
        rw [hki] at hins
        have HROWI := Lib.hid hins
        obtain ⟨IA, ic, rfl, iz1, iz2⟩ := own_slice hins
        unfold maxLen at iz2 lz2
        have hbl := hm2.lt
        have hBs := hm2.size
        obtain ⟨t0, t1, t2, t3, t4, t5, t6, t7, t8⟩ := hm2.ats
        obtain ⟨f0, f1, f2, f3, f7, f8⟩ := hm2.fzs
        dsimp only at t0 t1 t2 t3 t4 t5 t6 t7 t8
        have HG5 : Hid (∀ w7 gg cap, ((w2.drew).alloc (.cells #[.int .i64 30, .int .i64 0, .int .i64 r, .int .i64 0, .int .i64 0, .int .i64 (c : Int)] 109)).grownBy w7 (Value.slice IA ki ic).ownBlock → w7.ownsRow B 109 6 (.slice (some ⟨gg, 0, none⟩) (ki + 1) cap) (ki + 1) (insOfL (m.ins ++ stores m.loc (S.ops.take q) 0) ++ insCells ⟨30, 0, r, 0, 0, (c : Int)⟩) → ((Value.slice IA ki ic).ownBlock = some gg ∨ gg = w2.heap.size + 1) →
            (w7.cell? ⟨b, 0, none⟩ = some (.slice IA ki ic) ∧ w7.frozen? ⟨b, 0, none⟩ = false) ∧ MkS w0 B b S pv (.slice (some ⟨g, oo, none⟩) S.ops.length qc) (w7.setCell ⟨b, 0, none⟩ (.slice (some ⟨gg, 0, none⟩) (ki + 1) cap)) (.slice (some ⟨gg, 0, none⟩) (ki + 1) cap) ov ev (.slice (some ⟨lg, 0, none⟩) n lc) fv { m with ins := m.ins ++ stores m.loc (S.ops.take (q + 1)) 0 } outs) := Lib.hid (fun w7 gg cap hg hown hat => by
          have hbel : Below w2.heap.size w2 ((w2.drew).alloc (.cells #[.int .i64 30, .int .i64 0, .int .i64 r, .int .i64 0, .int .i64 0, .int .i64 (c : Int)] 109)) := (below_new w2 (.cells #[.int .i64 30, .int .i64 0, .int .i64 r, .int .i64 0, .int .i64 0, .int .i64 (c : Int)] 109)).drew |> fun x => by exact { os := x.os, tape := x.tape, output := x.output, size := x.size, block := x.block }
          have hat2 : (Value.slice IA ki ic).ownBlock = some gg ∨ w2.heap.size ≤ gg := hat.imp id (fun e => by omega)
          have hm2 := HM2.out
          obtain ⟨g1, g2, g3⟩ := hm2.grow hbel hg (fun g hg => (hm2.ins.lt g hg).1) (not_box hm2.ins hm2.box (by decide)) 0 (.slice (some ⟨gg, 0, none⟩) (ki + 1) cap)
          have hadd := hm2.addIns hbel hg (gg := gg) (cap := cap) (x := ⟨30, 0, r, 0, 0, (c : Int)⟩) (by dsimp only; rw [hki]; exact hown) hat2
          dsimp only at hadd
          rw [hki] at hadd
          refine ⟨⟨by simp [World.cell?, g3], by simp [World.frozen?, g3]⟩, ?_⟩
          rw [HSN.out.1, ← List.append_assoc]
          exact hadd)
        clear hm hm2 hb2 hloc hins ho hr hki
        go_wp2_with fail
        try rw [hw2]
        try clear hw2
        go_region_law (refine step_append_lies _ (by rfl) _ _ _ (by rfl) B 109 j0 _ 6 48 Try.underlying57 hj0 hy0 hy1 hy2 rfl (by omega) (.slice IA ki ic) ki (insOfL (m.ins ++ stores m.loc (S.ops.take q) 0)) (by rfl) (by exact HROWI.out.alloc _) ⟨w2.heap.size, 0, none⟩ 1 1 (insCells ⟨30, 0, r, 0, 0, (c : Int)⟩) (by rfl) (by rfl) (World.news_of_block (cs := #[.int .i64 30, .int .i64 0, .int .i64 r, .int .i64 0, .int .i64 0, .int .i64 (c : Int)]) (t := 109) (fr := (0, 0)) (heap_alloc_new _ _)) (by simp [Value.oneCell', insCells]) (by omega) (by unfold maxLen; omega) (by omega) (by simp; omega) (w2.heap.size + 1) (by simp) ?_; intro gg cap w7 hown2 hgrow hat hlt; obtain ⟨⟨r0, r1⟩, HG⟩ := HG5.out w7 gg cap hgrow hown2 hat)
        all_goals
          go_wp2_with fail
          go_roundw
          case rel => exact ⟨q + 1, c + 1, _, by omega, by go_num, by go_num, HSN.out.2, by omega, HG⟩
          case measure => simp [intOf]; omega
      · have dop : (oop == 21) = false := by simpa using hp
        have HSN : Hid (stores m.loc (S.ops.take (q + 1)) 0 = stores m.loc (S.ops.take q) 0 ∧ c = (preA (S.ops.take (q + 1))).length) := Lib.hid (by
          rw [HTK.out, stores_snoc, preA_snoc, HC.out]
          refine ⟨by rw [if_neg hp, List.append_nil], by rw [if_neg hp]; simp⟩)
        clear hm hm2 hb2 ho
        go_wp2_with fail
        go_roundw
        case rel => exact ⟨q + 1, c, iv', by omega, by go_num, rfl, HSN.out.2, by omega, by rw [HSN.out.1]; first | exact HM2.out | (rw [hw2]; exact HM2.out)⟩
        case measure => simp [intOf]; omega
    · have HE : Hid (S.ops.take q = S.ops) := Lib.hid (List.take_of_length_le (by rw [HN.out]; omega))
      clear hm
      go_wp2_with fail
      go_end0
      exact ⟨rfl, iv', by have := HM.out; rw [HE.out] at this; exact this⟩
end Go.Proofs.Ytcphjehjdhgheaa.Nt
