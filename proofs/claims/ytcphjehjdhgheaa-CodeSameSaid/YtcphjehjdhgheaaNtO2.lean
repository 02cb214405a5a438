/- Layer sched: Order. Conditions: the net has at most 1000 operators and inputs. -/
import Derived.Test.YtcphjehjdhgheaaNtZ
import Derived.Test.YtcphjehjdhgheaaNtN
namespace Go.Proofs.Ytcphjehjdhgheaa.Nt
open Go.ChangeShapes Go.WideShapes Go.ChangeAt Go.RowKit Go.Proofs.Ytcphjehjdhgheaa.Tr
set_option linter.unusedVariables false
set_option linter.unusedSimpArgs false

theorem mem_natI {l : List Nat} {x : Int} (h : x ∈ natI l) : ∃ n ∈ l, x = (n : Int) := by
  obtain ⟨n, hn, e⟩ := List.mem_map.1 h; exact ⟨n, hn, e.symm⟩
/-- The heap's first one is next. -/
theorem least_next {G : Gr} {t : List Nat} {H : List Int} (hp : H.Perm (natI ((List.range G.n).filter (freeB G t)))) (hh : Hp H H.length) (h0 : 0 < H.length) : ∃ i : Nat, gd H 0 = (i : Int) ∧ i < G.n ∧ freeB G t i = true ∧ nextG G t = some i := by
  have hm : gd H 0 ∈ H := by rw [gd_eq h0]; exact List.getElem_mem h0
  obtain ⟨i, hi, e⟩ := mem_natI (hp.mem_iff.1 hm)
  rw [List.mem_filter] at hi
  have hil := List.mem_range.1 hi.1
  refine ⟨i, e, hil, hi.2, next_of hil hi.2 (fun j hj hf => ?_)⟩
  have hjm : (j : Int) ∈ H := hp.mem_iff.2 (List.mem_map.2 ⟨j, List.mem_filter.2 ⟨List.mem_range.2 hj, hf⟩, rfl⟩)
  obtain ⟨k, hk, ek⟩ := List.mem_iff_getElem.1 hjm
  have := hp_min hh k hk
  rw [gd_eq hk, ek, e] at this
  omega
theorem none_next {G : Gr} {t : List Nat} {H : List Int} (hp : H.Perm (natI ((List.range G.n).filter (freeB G t)))) (h0 : H.length = 0) : nextG G t = none := by
  refine next_no (fun i hi => ?_)
  cases h : freeB G t i with
  | false => rfl
  | true =>
    have : (i : Int) ∈ H := hp.mem_iff.2 (List.mem_map.2 ⟨i, List.mem_filter.2 ⟨List.mem_range.2 hi, h⟩, rfl⟩)
    have hl := List.length_pos_of_mem this
    omega
theorem rest_perm {G : Gr} {t : List Nat} {i : Nat} {H l : List Int} (hp : H.Perm (natI ((List.range G.n).filter (freeB G t)))) (hl : ((i : Int) :: l).Perm H) (hi : i < G.n) (hf : freeB G t i = true) (wl : List Nat) : l.Perm (natI (rdP G t i wl 0)) := by
  have h1 : ((i : Int) :: l).Perm (natI (i :: rdP G t i wl 0)) := (hl.trans hp).trans (List.Perm.map Int.ofNat (rdP_zero wl hi hf))
  exact List.Perm.cons_inv h1
section
variable {w w' : World} {base B gw gc n : Nat} {vr : Value} {wv : Nat → Value} {WL : Nat → List Nat} {C H : List Int}
/-- A row of the call's own that is none of the queue's. -/
def Apart (gc n : Nat) (vr : Value) (wv : Nat → Value) (ov : Value) : Prop := ∀ k, ov.ownBlock = some k → k ≠ gc ∧ vr.ownBlock ≠ some k ∧ ∀ i, i < n → (wv i).ownBlock ≠ some k
theorem Apart.nil : Apart gc n vr wv nilS := fun k e => by cases e
theorem QAt.row_kept (h : QAt w base B gw gc n vr wv WL C H) {b m : Nat} {ov : Value} {xs : List Value} (ho : w.ownsRow b 3 1 ov m xs) (ha : Apart gc n vr wv ov) (hk : Kp (fun k => k = B ∨ k = gc ∨ vr.ownBlock = some k) w w') : w'.ownsRow b 3 1 ov m xs :=
  own_block ho (fun k hk' => by
    obtain ⟨cs, hc⟩ := own_cells ho hk'
    obtain ⟨n1, n2⟩ := h.row_ne hc
    obtain ⟨a1, a2, a3⟩ := ha k hk'
    exact hk.block k (ho.lt k hk').2 (fun e => by
      rcases e with e | e | e
      · exact n1 e
      · exact a1 e
      · exact a2 e))
theorem Apart.turned {vr' : Value} {ov : Value} (ha : Apart gc n vr wv ov) (hv : vr'.ownBlock = vr.ownBlock ∨ ∀ k, vr'.ownBlock = some k → w.heap.size ≤ k) (hl : ∀ k, ov.ownBlock = some k → k < w.heap.size) : Apart gc n vr' wv ov := fun k hk => by
  obtain ⟨a1, a2, a3⟩ := ha k hk
  refine ⟨a1, fun e => ?_, a3⟩
  rcases hv with hv | hv
  · exact a2 (hv ▸ e)
  · have := hv k e; have := hl k hk; omega
/-- The row has grown. -/
theorem QAt.append (h : QAt w base B gw gc n vr wv WL C H) {b m : Nat} {ov ov' : Value} {xs : List Value} (ho : w.ownsRow b 3 1 ov m xs) (ha : Apart gc n vr wv ov) {wa w1 : World} (hb : Below w.heap.size w wa) (hg : wa.grownBy w1 ov.ownBlock) (hat : ov'.ownBlock = ov.ownBlock ∨ ov'.ownBlock = some wa.heap.size) :
    QAt w1 base B gw gc n vr wv WL C H ∧ Apart gc n vr wv ov' := by
  have s1 := hb.size
  have s2 := hg.size
  obtain ⟨l1, l2, l3⟩ := h.lts
  have qlt : ∀ k, Qb B gw gc n vr wv k → k < w.heap.size := fun k hk => by
    rcases hk with rfl | rfl | rfl | e | ⟨s, hs, e⟩
    · exact l1
    · exact l2
    · exact l3
    · exact (h.hp.row.ne k e).2
    · exact ((h.wl s hs).lt k e).2
  have hne : ∀ k, Qb B gw gc n vr wv k → ov.ownBlock ≠ some k := fun k hk e => by
    obtain ⟨cs, hc⟩ := own_cells ho e
    obtain ⟨n1, n2⟩ := h.row_ne hc
    obtain ⟨a1, a2, a3⟩ := ha k e
    rcases hk with e | e | e | e | ⟨s, hs, e⟩
    · exact n1 e
    · exact n2 e
    · exact a1 e
    · exact a2 e
    · exact a3 s hs e
  refine ⟨h.keep (by omega) (fun k hk hq => (hg.block k (by omega) (fun e => hne k hq e.symm)).trans (hb.block k hk)), fun k hk => ?_⟩
  rcases hat with hat | hat
  · exact ha k (hat ▸ hk)
  · rw [hat] at hk
    injection hk with hk
    subst hk
    refine ⟨fun e => by omega, fun e => ?_, fun s hs e => ?_⟩
    · have := qlt _ (.inr (.inr (.inr (.inl e)))); omega
    · have := qlt _ (.inr (.inr (.inr (.inr ⟨s, hs, e⟩)))); omega
end
set_option maxRecDepth 100000 in
set_option maxHeartbeats 16000000 in
theorem sorder_any (w : World) (ov rv iv : Value) (N : Net) (h : NetR w ov rv iv N) (hn3 : N.ops.length ≤ 1000) (hi3 : N.ins.length ≤ 1000) : Calls Try.prog 17 #[.agg #[ov, rv, iv]] w (EOrdPost w N) := by
  obtain ⟨i0, hi0, hz0, hz1, hz2⟩ := info_parts info3
  have HH := Lib.hid h
  obtain ⟨n, hn⟩ : ∃ L, N.ops.length = L := ⟨_, rfl⟩
  have HN := Lib.hid hn
  have HGN : Hid ((grN N).n = n) := Lib.hid hn
  have HN3 := Lib.hid hn3
  rw [hn] at hn3
  obtain ⟨w1, hw1⟩ : ∃ W, w.alloc (.cells #[ov, rv, iv] 30) = W := ⟨_, rfl⟩
  have HW1 := Lib.hid hw1
  have HB1 : Hid (Below w.heap.size w w1) := Lib.hid (by rw [← hw1]; exact below_new _ _)
  have HX1 : Hid (NetBox w1 w.heap.size 30 ov rv iv) := Lib.hid (by rw [← hw1]; exact box_new _ _ _ _ _)
  have HMA := Lib.hid (check_any w1 ov rv iv N (HH.out.below HB1.out (Nat.le_refl _)) (by omega))
  obtain ⟨C, hC⟩ : ∃ b, checkN N = b := ⟨_, rfl⟩
  rw [hC] at HMA
  have HC := Lib.hid hC
  obtain ⟨p0, p1, p2⟩ := HX1.out.ats
  clear h hw1 hC hn
  go_enter Try.func17, Try.ntmps17
  go_wp2_with fail
  rw [HW1.out]
  go_wp2_with fail
  refine HMA.out.mono ?_
  rintro e w2 ⟨rfl, hb2⟩
  have HB2 := Lib.hid hb2
  have HB02 := Lib.hid (HB1.out.trans (hb2.mono HB1.out.size))
  obtain ⟨q0, q1, q2⟩ := (HX1.out.below hb2 HX1.out.lt).ats
  clear hb2
  by_cases h0 : C = 0
  case neg =>
    have hne : (C != 0) = true := by simpa using h0
    go_wp2
    go_ret2
    exact ⟨HB02.out, .inl ⟨by rw [HC.out]; exact h0, by rw [HC.out]; rfl⟩⟩
  subst h0
  have HM : Hid (mayN N = true) := Lib.hid (check_ok.1 HC.out).1
  have HQU := Lib.hid (queued_any w2 ov rv iv N ((HH.out.below HB1.out (Nat.le_refl _)).below HB2.out (Nat.le_refl _)) HM.out HN3.out)
  go_wp2_with fail
  refine HQU.out.mono ?_
  rintro e w3 ⟨B, gw, gc, vr, wv, H, rfl, hq, hp, hb3⟩
  rw [HN.out] at hq hp ⊢
  obtain ⟨Av, nv, cv, rfl⟩ : ∃ A n c, vr = .slice A n c := by
    obtain ⟨-, h1 | ⟨g, cap, cur, e, -⟩⟩ := hq.hp.row.own
    · exact ⟨_, _, _, h1.1⟩
    · exact ⟨_, _, _, e⟩
  obtain ⟨B2, hB2⟩ : ∃ B, w3.heap.size = B := ⟨_, rfl⟩
  obtain ⟨w4, hw4⟩ : ∃ W, w3.alloc (.cells #[rowV gw n, rowV gc n, .slice Av nv cv] 85) = W := ⟨_, rfl⟩
  have HQ4 : Hid (QAt w4 w2.heap.size B2 gw gc n (.slice Av nv cv) wv (wlA (grN N)) (cntA (grN N) []) H) := Lib.hid (by rw [← hB2, ← hw4]; exact hq.copy)
  have HB4 : Hid (Below w2.heap.size w2 w4) := Lib.hid (by rw [← hw4]; exact hb3.alloc hb3.size _)
  have HP4 := Lib.hid hp
  have HW4 := Lib.hid hw4
  have HBB := Lib.hid hB2
  clear hq hp hb3 hB2 hw4
  go_wp2_with fail
  rw [HW4.out, HBB.out]
  go_loopw [6] (fun ov wr => ∃ (t : List Nat) (A1 : Option Addr) (n1 c1 : Nat) (H : List Int) (A2 : Option Addr) (n2 c2 : Nat), ov = .slice A2 n2 c2 ∧ Valid (grN N) t ∧ orderN N = goG (grN N) (n - t.length) t ∧
    QAt wr w2.heap.size B2 gw gc n (.slice A1 n1 c1) wv (wlA (grN N)) (cntA (grN N) t) H ∧ H.Perm (natI ((List.range n).filter (freeB (grN N) t))) ∧
    wr.ownsRow w2.heap.size 3 1 (.slice A2 n2 c2) t.length (intsOf (natI t)) ∧ Apart gc n (.slice A1 n1 c1) wv (.slice A2 n2 c2) ∧ Below w2.heap.size w2 wr) (fun ov _ => n - slLen ov)
  case atStart => exact ⟨[], Av, nv, cv, H, none, 0, 0, rfl, Valid.nil _, by unfold orderN takenG; rw [HGN.out]; rfl, HQ4.out, HP4.out, World.ownsRow_nil _ _ _ _, Apart.nil, HB4.out⟩
  case round =>
    obtain ⟨t, A1, n1, c1, H, A2, n2, c2, rfl, hv, htk, hq, hp, ho, ha, hb⟩ := hrel
    have HVT := Lib.hid hv
    have HTK := Lib.hid htk
    have HQ := Lib.hid hq
    have HP := Lib.hid hp
    have HO := Lib.hid ho
    have HA := Lib.hid ha
    have HB := Lib.hid hb
    obtain rfl := own_form ho
    obtain rfl := own_form hq.hp.row.own
    have hcB := hq.hp.row.cell
    have b2 : wr.cell? ⟨B2, 2, none⟩ = some (.slice A1 H.length c1) := by simp [World.cell?, hcB]
    have htl : t.length ≤ n := by have := hv.len; rw [HGN.out] at this; exact this
    have hHl : H.length ≤ n := by rw [hp.length_eq, natI_len]; exact filter_len _ _
    clear hv htk hcB
    by_cases h0 : 0 < H.length
    · have hd : decide ((0 : Int) < (H.length : Int)) = true := decide_eq_true (by omega)
      have hp2 := hp
      rw [← HGN.out] at hp2
      obtain ⟨i, e1, e2, e3, e4⟩ := least_next hp2 hq.hp.heap h0
      have hv' := HVT.out.snoc e2 e3
      have htl2 : t.length < n := by have := hv'.len; rw [HGN.out] at this; simp at this; omega
      have HLE := Lib.hid (least_any wr w2.heap.size B2 _ _ _ H hq.hp h0 (by omega))
      rw [e1] at HLE
      have HI := Lib.hid e1
      have HI2 := Lib.hid e2
      have HI3 := Lib.hid e3
      have HI4 := Lib.hid e4
      have HV2 := Lib.hid hv'
      clear hq hp hp2 ho ha hb e1 e2 e3 e4 hv'
      go_wp2_with fail
      refine (len_any _ _ _ _).mono ?_
      rintro e w5 ⟨rfl, rfl⟩
      go_wp2_with fail
      refine HLE.out.mono ?_
      rintro e w6 ⟨rfl, v6, l6, hp6, hh6, ho6, hk6⟩
      rw [HI.out] at hp6
      have HQ6 := Lib.hid (HQ.out.heap hh6 (.inl ho6) hk6)
      have hk6' : Kp (fun k => k = B2 ∨ k = gc ∨ (Value.slice A1 H.length c1).ownBlock = some k) w5 w6 := hk6.wide (fun k _ e => e.elim .inl (fun e => .inr (.inr e)))
      have HO6 := Lib.hid (HQ.out.row_kept HO.out HA.out hk6')
      have HA6 : Hid (Apart gc n v6 wv (.slice A2 t.length c2)) := Lib.hid (HA.out.turned (w := w5) (.inl ho6) (fun k hk => (HO.out.lt k hk).2))
      have HB6 : Hid (Below w2.heap.size w2 w6) := Lib.hid (HB.out.trans (hk6.below HB.out.size (fun j _ e => by
        rcases e with e | e
        · rw [e]; exact HQ.out.lo.1
        · exact (HQ.out.hp.row.own.lt j e).1)))
      have HP6 := Lib.hid (rest_perm (by rw [HGN.out]; exact HP.out) hp6 HI2.out HI3.out (wlA (grN N) i))
      have hs6 := HQ6.out.lo.2
      clear hp6 hh6 ho6 hk6 hk6'
      go_wp2_with (at_builtin; refine wpList_append_own_at _ rfl (.tmp 22) (.tmp 24) 23 rfl w2.heap.size 3 i0 (.int .i64 0) 1 8 Try.underlying23 hi0 hz0 hz1 hz2 rfl (by decide) _ _ _ rfl (HO6.out.alloc _) ⟨w6.heap.size, 0, none⟩ 1 1 [.int .i64 (i : Int)] rfl rfl (cell_one_new _ _ _) ?b1 ?c1 ?d1 ?e1 ?_)
      case b1 => first | rfl | (intro u hu; simp at hu; subst hu; rfl)
      case c1 => unfold maxLen; omega
      case d1 => omega
      case e1 => first | omega | (simp; omega)
      intro v' w7 hown7 hgrow7 _ hat7
      have hqa := HQ6.out.append (ov' := v') HO6.out HA6.out (below_new w6 (.cells #[.int .i64 (i : Int)] 3)) hgrow7 (by simpa using hat7)
      have HQ7 := Lib.hid hqa.1
      have HA7 := Lib.hid hqa.2
      have HO7 : Hid (w7.ownsRow w2.heap.size 3 1 v' (t ++ [i]).length (intsOf (natI (t ++ [i])))) := Lib.hid (by
        have e1 : (t ++ [i]).length = t.length + 1 := by simp
        have e2 : intsOf (natI (t ++ [i])) = intsOf (natI t) ++ [.int .i64 (i : Int)] := by unfold natI intsOf; simp
        rw [e1, e2]; exact hown7)
      have HB7 : Hid (Below w2.heap.size w2 w7) := Lib.hid ((HB6.out.alloc hs6 _).grown hgrow7 (by simp; omega) (fun k hk => (HO6.out.lt k hk).1))
      obtain ⟨A3, c3, rfl⟩ : ∃ A c, v' = .slice A (t.length + 1) c := by
        obtain ⟨-, h1 | ⟨g, cap, cur, e, -⟩⟩ := hown7
        · omega
        · exact ⟨_, _, e⟩
      have HTK2 := Lib.hid (took_any w7 w2.heap.size B2 gw gc v6 wv (grN N) (nd_three N) t i l6 (by rw [HGN.out]; exact HQ7.out) HVT.out HI2.out HI3.out HP6.out (by rw [HGN.out]; exact hn3))
      have htl3 := htl2
      clear hown7 hgrow7 hat7 hqa
      go_wp2_with fail
      refine HTK2.out.mono ?_
      rintro e w8 ⟨rfl, v8, H8, hq8, hp8, hk8⟩
      rw [HGN.out] at hq8 hp8
      have HQ8 := Lib.hid hq8
      have HP8 := Lib.hid hp8
      have HO8 := Lib.hid (HQ7.out.row_kept HO7.out HA7.out hk8.1)
      have HA8 : Hid (Apart gc n v8 wv (.slice A3 (t.length + 1) c3)) := Lib.hid (HA7.out.turned (w := w7) hk8.2 (fun k hk => (HO7.out.lt k hk).2))
      have HB8 : Hid (Below w2.heap.size w2 w8) := Lib.hid (HB7.out.trans (hk8.1.below HB7.out.size (fun j _ e => by
        rcases e with e | e | e
        · rw [e]; exact HQ7.out.lo.1
        · rw [e]; exact (HQ7.out.cnt.lt gc rfl).1
        · exact (HQ7.out.hp.row.own.lt j e).1)))
      obtain ⟨A8, n8, c8, rfl⟩ : ∃ A n c, v8 = .slice A n c := by
        obtain ⟨-, h1 | ⟨g, cap, cur, e, -⟩⟩ := hq8.hp.row.own
        · exact ⟨_, _, _, h1.1⟩
        · exact ⟨_, _, _, e⟩
      have HT8 : Hid (orderN N = goG (grN N) (n - (t ++ [i]).length) (t ++ [i])) := Lib.hid (by
        rw [HTK.out]
        have := go_next HI4.out (by rw [HGN.out]; exact htl2)
        rw [HGN.out] at this; exact this)
      clear hq8 hp8 hk8
      go_wp2_with fail
      refine ⟨⟨t ++ [i], A8, n8, c8, H8, A3, t.length + 1, c3, rfl, HV2.out, HT8.out, HQ8.out, HP8.out, HO8.out, HA8.out, HB8.out⟩, by simp [slLen]; omega⟩
    · have hH0 : H.length = 0 := by omega
      have hno := none_next (G := grN N) (by rw [HGN.out]; exact hp) hH0
      have HT0 : Hid (orderN N = t) := Lib.hid (by rw [HTK.out]; exact go_stop hno _)
      have hd : decide ((0 : Int) < (H.length : Int)) = false := decide_eq_false (by omega)
      have hsz : w.heap.size ≤ w2.heap.size := HB02.out.size
      clear hq hp ho ha hb hno
      go_wp2_with fail
      refine (len_any _ _ _ _).mono ?_
      rintro e w5 ⟨rfl, rfl⟩
      go_wp2_with fail
      go_ret2
      refine ⟨HB02.out.trans (HB.out.mono hsz), .inr ⟨HC.out, _, rfl, ?_⟩⟩
      rw [HT0.out]; exact own_base HO.out hsz
end Go.Proofs.Ytcphjehjdhgheaa.Nt
