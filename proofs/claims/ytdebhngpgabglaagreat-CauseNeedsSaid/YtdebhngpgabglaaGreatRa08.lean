/- The function Order answers what the plain function answers. Conditions: the slice is read as equations, at most 4000. -/
import Derived.Test.YtdebhngpgabglaaGreatRa07
import Derived.Test.YtdebhngpgabglaaGreatRa05
import Derived.Test.YtdebhngpgabglaaGreatKb18
set_option linter.unusedVariables false
set_option linter.unusedSimpArgs false
namespace Go.Proofs.YtdebhngpgabglaaGreat.Ca
open Go.ChangeShapes Go.WideShapes Go.ChangeAt Go.RowKit Go.Maps Go.WideMaps Go.Proofs.YtdebhngpgabglaaGreat.Tr
open Go.Proofs.YtdebhngpgabglaaGreat.Pg (Eqn)
theorem go_stop {Q : Qs} {t : List Nat} (h : nextQ Q t = none) : ∀ f, goM Q f t = t := by
 intro f; cases f with
 | zero => rfl
 | succ f => unfold goM; rw [h]
theorem go_next {Q : Qs} {t : List Nat} {i : Nat} (h : nextQ Q t = some i) (ht : t.length < Q.length) : goM Q (Q.length - t.length) t = goM Q (Q.length - (t ++ [i]).length) (t ++ [i]) := by
 obtain ⟨f, hf⟩ : ∃ f, Q.length - t.length = f + 1 := ⟨Q.length - t.length - 1, by omega⟩
 rw [hf, List.length_append, List.length_singleton, show Q.length - (t.length + 1) = f by omega]
 show (match nextQ Q t with | none => t | some i => goM Q f (t ++ [i])) = _
 rw [h]
theorem mem_natI {l : List Nat} {x : Int} (h : x ∈ natI l) : ∃ n ∈ l, x = (n : Int) := by
 obtain ⟨n, hn, e⟩ := List.mem_map.1 h; exact ⟨n, hn, e.symm⟩
theorem least_next {Q : Qs} {t : List Nat} {H : List Int} (hp : H.Perm (natI ((List.range Q.length).filter (freeB Q t)))) (hh : Hp H H.length) (h0 : 0 < H.length) : ∃ i : Nat, gd H 0 = (i : Int) ∧ i < Q.length ∧ freeB Q t i = true ∧ nextQ Q t = some i := by
 have hm : gd H 0 ∈ H := by rw [gd_eq h0]; exact List.getElem_mem h0
 obtain ⟨i, hi, e⟩ := mem_natI (hp.mem_iff.1 hm)
 rw [List.mem_filter] at hi
 have hil := List.mem_range.1 hi.1
 refine ⟨i, e, hil, hi.2, next_of hil hi.2 (fun j hj hf => ?_)⟩
 have hjm : (j : Int) ∈ H := hp.mem_iff.2 (List.mem_map.2 ⟨j, List.mem_filter.2 ⟨List.mem_range.2 hj, hf⟩, rfl⟩)
 obtain ⟨k, hk, ek⟩ := List.mem_iff_getElem.1 hjm
 have := hp_min hh k hk
 rw [gd_eq hk, ek, e] at this
 omega
theorem none_next {Q : Qs} {t : List Nat} {H : List Int} (hp : H.Perm (natI ((List.range Q.length).filter (freeB Q t)))) (h0 : H.length = 0) : nextQ Q t = none := by
 refine next_no (fun i hi => ?_)
 cases h : freeB Q t i with
 | false => rfl
 | true =>
  have : (i : Int) ∈ H := hp.mem_iff.2 (List.mem_map.2 ⟨i, List.mem_filter.2 ⟨List.mem_range.2 hi, h⟩, rfl⟩)
  have hl := List.length_pos_of_mem this
  omega
theorem rest_perm {Q : Qs} {t : List Nat} {i : Nat} {H l : List Int} (hp : H.Perm (natI ((List.range Q.length).filter (freeB Q t)))) (hl : ((i : Int) :: l).Perm H) (hi : i < Q.length) (hf : freeB Q t i = true) (w : List Nat) : l.Perm (natI (rdyAt Q t i w 0)) := by
 have h1 : ((i : Int) :: l).Perm (natI (i :: rdyAt Q t i w 0)) := (hl.trans hp).trans (List.Perm.map Int.ofNat (free_took hi hf w))
 exact List.Perm.cons_inv h1
section
variable {w w' : World} {base B bl bw gw N : Nat} {vr : Value} {f g : Bytes → Option Value} {nl nw : Nat} {LF : Bytes → Nat} {CF : Bytes → List Nat} {W H : List Int}
theorem QuAt.copy (h : QuAt w base B bl bw gw N vr f g nl nw LF CF W H) : QuAt (w.alloc (.cells #[.map (some bl), .map (some bw), wtV gw N, vr] 73)) base w.heap.size bl bw gw N vr f g nl nw LF CF W H := by
 have h1 := h.alloc (.cells #[.map (some bl), .map (some bw), wtV gw N, vr] 73)
 exact ⟨⟨⟨heap_alloc_new _ _, h1.hp.row.own⟩, h1.hp.heap⟩, h1.left, h1.leftV, h1.wait, h1.waitV, h1.wts, h1.wlen, h1.ne, ⟨h.lo.2.2.2, h1.lo.2.1, h1.lo.2.2.1, h1.lo.2.2.2⟩, h1.s1, h1.s2, h1.s3, h1.s4⟩
def Apart (gw : Nat) (vr : Value) (g : Bytes → Option Value) (ov : Value) : Prop := ∀ k, ov.ownBlock = some k → k ≠ gw ∧ vr.ownBlock ≠ some k ∧ ∀ s, (wOf g s).ownBlock ≠ some k
theorem Apart.nil : Apart gw vr g nilS := fun k e => by cases e
theorem QuAt.row_kept (h : QuAt w base B bl bw gw N vr f g nl nw LF CF W H) {b n : Nat} {ov : Value} {xs : List Value} (ho : w.ownsRow b 3 1 ov n xs) (ha : Apart gw vr g ov) (hk : Kp (fun k => k = B ∨ k = bl ∨ k = gw ∨ vr.ownBlock = some k) w w') : w'.ownsRow b 3 1 ov n xs :=
 own_block ho (fun k hk' => by
  obtain ⟨cs, hc⟩ := own_cells ho hk'
  obtain ⟨n1, n2, n3⟩ := h.row_ne hc
  obtain ⟨a1, a2, a3⟩ := ha k hk'
  exact hk.block k (ho.lt k hk').2 (fun e => by
   rcases e with e | e | e | e
   · exact n1 e
   · exact n2 e
   · exact a1 e
   · exact a2 e))
theorem Apart.turned {vr' : Value} {ov : Value} (ha : Apart gw vr g ov) (hv : vr'.ownBlock = vr.ownBlock ∨ ∀ k, vr'.ownBlock = some k → w.heap.size ≤ k) (hl : ∀ k, ov.ownBlock = some k → k < w.heap.size) : Apart gw vr' g ov := fun k hk => by
 obtain ⟨a1, a2, a3⟩ := ha k hk
 refine ⟨a1, fun e => ?_, a3⟩
 rcases hv with hv | hv
 · exact a2 (hv ▸ e)
 · have := hv k e; have := hl k hk; omega
theorem QuAt.append (h : QuAt w base B bl bw gw N vr f g nl nw LF CF W H) {b n : Nat} {ov ov' : Value} {xs : List Value} (ho : w.ownsRow b 3 1 ov n xs) (ha : Apart gw vr g ov) {wa w1 : World} (hb : Below w.heap.size w wa) (hg : wa.grownBy w1 ov.ownBlock) (hat : ov'.ownBlock = ov.ownBlock ∨ ov'.ownBlock = some wa.heap.size) :
 QuAt w1 base B bl bw gw N vr f g nl nw LF CF W H ∧ Apart gw vr g ov' := by
 have s1 := hb.size
 have s2 := hg.size
 have qlt : ∀ k, Qb B bl bw gw vr g k → k < w.heap.size := fun k hk => by
  rcases hk with rfl | rfl | rfl | rfl | e | ⟨s, e⟩
  · exact h.hp.row.lt
  · exact h.left.lt
  · exact h.wait.lt
  · exact (h.wts.lt _ rfl).2
  · exact (h.hp.row.ne k e).2
  · exact ((h.waitV s).lt k e).2
 have hne : ∀ k, Qb B bl bw gw vr g k → ov.ownBlock ≠ some k := fun k hk e => by
  obtain ⟨cs, hc⟩ := own_cells ho e
  obtain ⟨n1, n2, n3⟩ := h.row_ne hc
  obtain ⟨a1, a2, a3⟩ := ha k e
  rcases hk with e | e | e | e | e | ⟨s, e⟩
  · exact n1 e
  · exact n2 e
  · exact n3 e
  · exact a1 e
  · exact a2 e
  · exact a3 s e
 refine ⟨h.keep (by omega) (fun k hk hq => (hg.block k (by omega) (fun e => hne k hq e.symm)).trans (hb.block k hk)), fun k hk => ?_⟩
 rcases hat with hat | hat
 · exact ha k (hat ▸ hk)
 · rw [hat] at hk
   injection hk with hk
   subst hk
   refine ⟨fun e => ?_, fun e => ?_, fun s e => ?_⟩
   · have := qlt gw (.inr (.inr (.inr (.inl rfl)))); omega
   · have := qlt _ (.inr (.inr (.inr (.inr (.inl e))))); omega
   · have := qlt _ (.inr (.inr (.inr (.inr (.inr ⟨s, e⟩))))); omega
end
def slLen : Value → Nat
 | .slice _ n _ => n
 | _ => 0
def OrdPost (w : World) (o : Option (List Nat)) (e : Ending) (w' : World) : Prop :=
 Below w.heap.size w w' ∧ match o with
  | none => e = .returned (.tuple #[.slice none 0 0, .int .i64 12])
  | some o => ∃ v, e = .returned (.tuple #[v, .int .i64 0]) ∧ w'.ownsRow w.heap.size 3 1 v o.length (intsOf (natI o))
set_option maxRecDepth 100000 in
set_option maxHeartbeats 16000000 in
theorem order_any (v : Value) (l : List Eqn) (w : World) (hv : EqsAt w v l) (hn : l.length ≤ 4000) : Calls Tryz.prog 10 #[v] w (OrdPost w (orderM (qsOf l))) := by
 obtain ⟨i0, hi, hz0, hz1, hz2⟩ := info_parts info3
 have HV := Lib.hid hv
 obtain ⟨A, c, rfl, h1, h2, h3⟩ := hv
 clear h3
 unfold maxLen at h2
 have hQL := qs_len l
 have HNQ := Lib.hid (qs_nodup l)
 have HNL := Lib.hid (qs_nlen l)
 obtain ⟨N, hN⟩ : ∃ N, l.length = N := ⟨_, rfl⟩
 have HLN := Lib.hid hN
 have HQN : Hid ((qsOf l).length = N) := Lib.hid (hQL.trans hN)
 rw [hN] at h1 hn HV ⊢
 clear hQL hN
 go_enter Tryz.func10, Tryz.ntmps10
 go_wp2_with fail
 refine (queued_any _ l w (by have := HV.out; exact this) (by rw [HLN.out]; exact hn)).mono ?_
 rintro e w1 ⟨B, bl, bw, gw, vr, f, g, nl, nw, H, rfl, hq, hp, hb, hnl⟩
 rw [HQN.out] at hq hp
 have hvf : ∃ A n c, vr = .slice A n c := by
  obtain ⟨-, h1 | ⟨g, cap, cur, e, -⟩⟩ := hq.hp.row.own
  · exact ⟨_, _, _, h1.1⟩
  · exact ⟨_, _, _, e⟩
 obtain ⟨Av, nv, cv, rfl⟩ := hvf
 obtain ⟨B2, hB2⟩ : ∃ B, w1.heap.size = B := ⟨_, rfl⟩
 obtain ⟨w2, hw2⟩ : ∃ W, w1.alloc (.cells #[.map (some bl), .map (some bw), wtV gw N, .slice Av nv cv] 73) = W := ⟨_, rfl⟩
 have HQ2 : Hid (QuAt w2 w.heap.size B2 bl bw gw N (.slice Av nv cv) f g nl nw (leftN (qsOf l) []) (waitQ (qsOf l)) ((List.range N).map fun k => (waitN (qsOf l) [] k : Int)) H) := Lib.hid (by rw [← hB2, ← hw2]; exact hq.copy)
 have HB2 : Hid (Below w.heap.size w w2) := Lib.hid (by rw [← hw2]; exact hb.alloc hb.size _)
 have HP2 := Lib.hid hp
 have HW2 := Lib.hid hw2
 have HBB := Lib.hid hB2
 rw [HQN.out]
 clear hq hp hb hB2 hw2
 go_wp2
 rw [HW2.out, HBB.out]
 go_loopw [5] (fun ov wr => ∃ (t : List Nat) (f : Bytes → Option Value) (nl : Nat) (A1 : Option Addr) (n1 c1 : Nat) (H : List Int) (A2 : Option Addr) (n2 c2 : Nat), ov = .slice A2 n2 c2 ∧ Valid (qsOf l) t ∧ takenM (qsOf l) = goM (qsOf l) (N - t.length) t ∧
  QuAt wr w.heap.size B2 bl bw gw N (.slice A1 n1 c1) f g nl nw (leftN (qsOf l) t) (waitQ (qsOf l)) ((List.range N).map fun k => (waitN (qsOf l) t k : Int)) H ∧ H.Perm (natI ((List.range N).filter (freeB (qsOf l) t))) ∧
  wr.ownsRow w.heap.size 3 1 (.slice A2 n2 c2) t.length (intsOf (natI t)) ∧ Apart gw (.slice A1 n1 c1) g (.slice A2 n2 c2) ∧ Below w.heap.size w wr ∧ nl ≤ 4000 + t.length) (fun ov _ => N - slLen ov)
 case atStart => exact ⟨[], f, nl, Av, nv, cv, H, none, 0, 0, rfl, Valid.nil _, by unfold takenM; rw [HQN.out]; rfl, HQ2.out, HP2.out, World.ownsRow_nil _ _ _ _, Apart.nil, HB2.out, hnl⟩
 case round =>
  obtain ⟨t, f, nl, A1, n1, c1, H, A2, n2, c2, rfl, hv, htk, hq, hp, ho, ha, hb, hnl⟩ := hrel
  have HVT := Lib.hid hv
  have HTK := Lib.hid htk
  have HQ := Lib.hid hq
  have HP := Lib.hid hp
  have HO := Lib.hid ho
  have HA := Lib.hid ha
  have HB := Lib.hid hb
  have hrow : n1 = H.length := by
   obtain ⟨-, h1 | ⟨g, cap, cur, e, -⟩⟩ := hq.hp.row.own
   · have e := h1.1; simp only [Value.slice.injEq] at e; omega
   · simp only [Value.slice.injEq] at e; exact e.2.1
  subst hrow
  have hl2 : n2 = t.length := by
   obtain ⟨-, h1 | ⟨g, cap, cur, e, -⟩⟩ := ho
   · have e := h1.1; simp only [Value.slice.injEq] at e; omega
   · simp only [Value.slice.injEq] at e; exact e.2.1
  subst hl2
  have hcB := hq.hp.row.cell
  have b3 : wr.cell? ⟨B2, 3, none⟩ = some (.slice A1 H.length c1) := by simp [World.cell?, hcB]
  have htl : t.length ≤ N := by have := hv.len; rw [HQN.out] at this; exact this
  have hHl : H.length ≤ N := by rw [hp.length_eq]; unfold natI; rw [List.length_map]; exact filter_le _ _
  clear hv htk hcB
  by_cases h0 : 0 < H.length
  · have hd : decide ((0 : Int) < (H.length : Int)) = true := decide_eq_true (by omega)
    obtain ⟨i, e1, e2, e3, e4⟩ := least_next (by rw [HQN.out]; exact hp) hq.hp.heap h0
    have hit := (free_iff.1 e3).1
    have hv' := HVT.out.snoc e2 e3
    have htl2 : t.length < N := by have := hv'.len; rw [HQN.out] at this; simp at this; omega
    have HLE := Lib.hid (least_any wr w.heap.size B2 _ _ _ _ H hq.hp h0 (by omega))
    rw [e1] at HLE
    have HI := Lib.hid e1
    have HI2 := Lib.hid e2
    have HI3 := Lib.hid e3
    have HI4 := Lib.hid e4
    have HV2 := Lib.hid hv'
    clear hq hp ho ha hb e1 e2 e3 e4 hv'
    go_wp2_with fail
    refine (len_any _ _ _ _).mono ?_
    rintro e w5 ⟨rfl, rfl⟩
    go_wp2_with fail
    refine HLE.out.mono ?_
    rintro e w6 ⟨rfl, v6, l6, hp6, hh6, ho6, hk6⟩
    rw [HI.out] at hp6
    have HQ6 := Lib.hid (HQ.out.heap hh6 (.inl ho6) hk6)
    have hk6' : Kp (fun k => k = B2 ∨ k = bl ∨ k = gw ∨ (Value.slice A1 H.length c1).ownBlock = some k) w5 w6 := hk6.wide (fun k _ e => e.elim .inl (fun e => .inr (.inr (.inr e))))
    have HO6 := Lib.hid (HQ.out.row_kept HO.out HA.out hk6')
    have HA6 : Hid (Apart gw v6 g (.slice A2 t.length c2)) := Lib.hid (HA.out.turned (w := w5) (.inl ho6) (fun k hk => (HO.out.lt k hk).2))
    have HB6 : Hid (Below w.heap.size w w6) := Lib.hid (HB.out.trans (hk6.below HB.out.size (fun j _ e => by
     rcases e with e | e
     · rw [e]; exact HQ.out.lo.1
     · exact (HQ.out.hp.row.own.lt j e).1)))
    have HP6 := Lib.hid (rest_perm (by rw [HQN.out]; exact HP.out) hp6 HI2.out HI3.out (waitL (qsOf l) (nmQ (qsOf l) i)))
    have hs6 := HQ6.out.lo.2.2.2
    clear hp6 hh6 ho6 hk6 hk6'
    obtain ⟨q, hqk⟩ : ∃ q, l[i]? = some q := ⟨_, List.getElem?_eq_getElem (by rw [HLN.out, ← HQN.out]; exact HI2.out)⟩
    have HNM := Lib.hid (qs_at hqk).1
    have HQK := Lib.hid hqk
    have hiN : i < N := by rw [← HQN.out]; exact HI2.out
    clear hqk
    go_wp2_with (at_builtin; refine wpList_append_own_at _ rfl (.tmp 19) (.tmp 21) 31 rfl w.heap.size 3 i0 (.int .i64 0) 1 8 Tryz.underlying31 hi hz0 hz1 hz2 rfl (by decide) _ _ _ rfl (HO6.out.alloc _) ⟨w6.heap.size, 0, none⟩ 1 1 [.int .i64 (i : Int)] rfl rfl (cell_one_new _ _ _) ?b1 ?c1 ?d1 ?e1 ?_)
    case b1 => first | rfl | (intro u hu; simp at hu; subst hu; rfl)
    case c1 => unfold maxLen; omega
    case d1 => omega
    case e1 => simp; omega
    intro v' w7 hown7 hgrow7 _ hat7
    have hqa := HQ6.out.append (ov' := v') HO6.out HA6.out (below_new w6 (.cells #[.int .i64 (i : Int)] 3)) hgrow7 (by simpa using hat7)
    have HQ7 := Lib.hid hqa.1
    have HA7 := Lib.hid hqa.2
    have HO7 : Hid (w7.ownsRow w.heap.size 3 1 v' (t ++ [i]).length (intsOf (natI (t ++ [i])))) := Lib.hid (by
     have e1 : (t ++ [i]).length = t.length + 1 := by simp
     have e2 : intsOf (natI (t ++ [i])) = intsOf (natI t) ++ [.int .i64 (i : Int)] := by unfold natI intsOf; simp
     rw [e1, e2]; exact hown7)
    have HB7 : Hid (Below w.heap.size w w7) := Lib.hid ((HB6.out.alloc hs6 _).grown hgrow7 (by simp; omega) (fun k hk => (HO6.out.lt k hk).1))
    obtain ⟨A3, c3, rfl⟩ : ∃ A c, v' = .slice A (t.length + 1) c := by
     obtain ⟨-, h1 | ⟨g, cap, cur, e, -⟩⟩ := hown7
     · omega
     · exact ⟨_, _, e⟩
    have hev := HV.out.below HB7.out
    rw [← HLN.out] at hev
    obtain ⟨gq, oq, ev, rfl, g1, g2, g3, g4, g5, g6⟩ := eqs_at hev HQK.out
    have HTK2 := Lib.hid (took_any w7 w.heap.size B2 bl bw gw v6 f g nl nw (qsOf l) t i l6 (by rw [HQN.out]; exact HQ7.out) HVT.out HNQ.out HI2.out HI3.out HP6.out (by rw [HQN.out]; exact hn) (by rw [HNM.out]; exact g5) (by omega) HNL.out)
    rw [HNM.out] at HTK2
    have htl3 := htl2
    clear hown7 hgrow7 hat7 hqa hev g3 g4 g6
    go_wp2_with fail
    refine HTK2.out.mono ?_
    rintro e w8 ⟨rfl, v8, f8, nl8, H8, hq8, hp8, hk8, hn8⟩
    rw [HQN.out] at hq8 hp8
    have HQ8 := Lib.hid hq8
    have HP8 := Lib.hid hp8
    have HO8 := Lib.hid (HQ7.out.row_kept HO7.out HA7.out hk8.1)
    have HA8 : Hid (Apart gw v8 g (.slice A3 (t.length + 1) c3)) := Lib.hid (HA7.out.turned (w := w7) hk8.2 (fun k hk => (HO7.out.lt k hk).2))
    have HB8 : Hid (Below w.heap.size w w8) := Lib.hid (HB7.out.trans (hk8.1.below HB7.out.size (fun j _ e => by
     rcases e with e | e | e | e
     · rw [e]; exact HQ7.out.lo.1
     · rw [e]; exact HQ7.out.lo.2.1
     · rw [e]; exact (HQ7.out.wts.lt gw rfl).1
     · exact (HQ7.out.hp.row.own.lt j e).1)))
    obtain ⟨A8, n8, c8, rfl⟩ : ∃ A n c, v8 = .slice A n c := by
     obtain ⟨-, h1 | ⟨g, cap, cur, e, -⟩⟩ := hq8.hp.row.own
     · exact ⟨_, _, _, h1.1⟩
     · exact ⟨_, _, _, e⟩
    have HT8 : Hid (takenM (qsOf l) = goM (qsOf l) (N - (t ++ [i]).length) (t ++ [i])) := Lib.hid (by
     rw [HTK.out, ← HQN.out]; exact go_next HI4.out (by rw [HQN.out]; exact htl2))
    have hn9 : nl8 ≤ 4000 + (t ++ [i]).length := by simp; omega
    clear hq8 hp8 hk8
    go_wp2
    refine ⟨⟨t ++ [i], f8, nl8, A8, n8, c8, H8, A3, t.length + 1, c3, rfl, HV2.out, HT8.out, HQ8.out, HP8.out, HO8.out, HA8.out, HB8.out, hn9⟩, by simp [slLen]; omega⟩
  · have hH0 : H.length = 0 := by omega
    have hno := none_next (by rw [HQN.out]; exact hp) hH0
    have HT0 : Hid (takenM (qsOf l) = t) := Lib.hid (by rw [HTK.out]; exact go_stop hno _)
    have hd : decide ((0 : Int) < (H.length : Int)) = false := decide_eq_false (by omega)
    clear hq hp ho ha hb hno
    by_cases hlt : t.length < N
    · have HRE : Hid (orderM (qsOf l) = none) := Lib.hid (by unfold orderM; rw [HT0.out, HQN.out, if_pos hlt])
      go_wp2_with fail
      refine (len_any _ _ _ _).mono ?_
      rintro e w5 ⟨rfl, rfl⟩
      go_wp2
      go_ret2
      refine ⟨HB.out, ?_⟩
      rw [HRE.out]; rfl
    · have HRE : Hid (orderM (qsOf l) = some t) := Lib.hid (by unfold orderM; rw [HT0.out, HQN.out, if_neg hlt])
      go_wp2_with fail
      refine (len_any _ _ _ _).mono ?_
      rintro e w5 ⟨rfl, rfl⟩
      go_wp2
      go_ret2
      refine ⟨HB.out, ?_⟩
      rw [HRE.out]
      exact ⟨_, rfl, HO.out⟩
end Go.Proofs.YtdebhngpgabglaaGreat.Ca
/- The function Check of layer cause. Conditions: the program's units are read as such, each with at most 4000 equations. -/
namespace Go.Proofs.YtdebhngpgabglaaGreat.Ca
open Go.ChangeShapes Go.WideShapes Go.ChangeAt Go.RowKit Go.Maps Go.WideMaps Go.Proofs.YtdebhngpgabglaaGreat.Tr
open Go.Proofs.YtdebhngpgabglaaGreat.Pg (Eqn Unt RowR UntV EqnV ItmV Stay)
def IsS (v : Value) : Prop := ∃ A n c, v = .slice A n c
def UnsAt (w : World) (v : Value) (us : List (List Eqn)) : Prop :=
 ∃ A c, v = .slice A us.length c ∧ us.length ≤ c ∧ c ≤ maxLen ∧ ∀ (i : Nat) (u : List Eqn), us[i]? = some u → ∃ g o b s iv s2 ty vv qv lv, A = some ⟨g, o, none⟩ ∧ g < w.heap.size ∧
  w.cell? ⟨g, o + i * 8, none⟩ = some (.bool b) ∧ w.cell? ⟨g, o + i * 8 + 1, none⟩ = some (.string s) ∧ w.cell? ⟨g, o + i * 8 + 2, none⟩ = some iv ∧ w.cell? ⟨g, o + i * 8 + 3, none⟩ = some (.string s2) ∧
  w.cell? ⟨g, o + i * 8 + 4, none⟩ = some (.int .i64 ty) ∧ w.cell? ⟨g, o + i * 8 + 5, none⟩ = some vv ∧ w.cell? ⟨g, o + i * 8 + 6, none⟩ = some qv ∧ w.cell? ⟨g, o + i * 8 + 7, none⟩ = some lv ∧
  IsS iv ∧ IsS vv ∧ IsS lv ∧ EqsAt w qv u ∧ u.length ≤ 4000
theorem UnsAt.below {w w' : World} {v : Value} {us : List (List Eqn)} (h : UnsAt w v us) (hb : Below w.heap.size w w') : UnsAt w' v us := by
 obtain ⟨A, c, rfl, h1, h2, h3⟩ := h
 refine ⟨A, c, rfl, h1, h2, fun i u hi => ?_⟩
 obtain ⟨g, o, b, s, iv, s2, ty, vv, qv, lv, e0, e1, c0, c1, c2, c3, c4, c5, c6, c7, k1, k2, k3, k4, k5⟩ := h3 i u hi
 have q : ∀ k, w'.cell? ⟨g, k, none⟩ = w.cell? ⟨g, k, none⟩ := fun k => hb.cell (p := ⟨g, k, none⟩) e1
 exact ⟨g, o, b, s, iv, s2, ty, vv, qv, lv, e0, by have := hb.size; omega, (q _).trans c0, (q _).trans c1, (q _).trans c2, (q _).trans c3, (q _).trans c4, (q _).trans c5, (q _).trans c6, (q _).trans c7, k1, k2, k3, k4.below hb, k5⟩
theorem rowR_form {α : Type} {T : TypeId} {K : Nat} {R : World → α → List Value → Prop} {w : World} {l : List α} {v : Value} (h : RowR T K R w l v) : IsS v := by
 obtain ⟨A, c, rfl, -⟩ := h; exact ⟨_, _, _, rfl⟩
theorem EqsAt.of_rowR {w : World} {v : Value} {l : List Eqn} (h : RowR 52 2 EqnV w l v) (hs : ∀ q ∈ l, q.name.length ≤ maxLen ∧ Short q.e) : EqsAt w v l := by
 obtain ⟨A, c, rfl, h1, h2, h3⟩ := h
 refine ⟨A, c, rfl, h1, h2, fun i q hi => ?_⟩
 obtain ⟨g, x, cs, f, e1, e2, ⟨ev, rfl, e3⟩, e6, e7⟩ := h3 i q hi
 obtain ⟨q1, q2⟩ := hs q (List.mem_of_getElem? hi)
 have c0 := e7 0 (by omega)
 have c1 := e7 1 (by omega)
 exact ⟨g, 0, ev, e1, lt_of_block e2, by simp [World.cell?, e2]; simpa using c0, by simp [World.cell?, e2]; simpa using c1, e3.1, q1, q2⟩
theorem UnsAt.of_rowR {w : World} {v : Value} {us : List Unt} (h : RowR 40 8 UntV w us v) (hs : ∀ u ∈ us, u.eqs.length ≤ 4000 ∧ ∀ q ∈ u.eqs, q.name.length ≤ maxLen ∧ Short q.e) : UnsAt w v (us.map (·.eqs)) := by
 obtain ⟨A, c, rfl, h1, h2, h3⟩ := h
 refine ⟨A, c, by rw [List.length_map], by rw [List.length_map]; exact h1, h2, fun i u hi => ?_⟩
 rw [List.getElem?_map] at hi
 obtain ⟨u0, hu, rfl⟩ := Option.map_eq_some_iff.1 hi
 obtain ⟨g, x, cs, f, e1, e2, ⟨iv, vv, qv, lv, rfl, r1, r2, r3, r4⟩, e6, e7⟩ := h3 i u0 hu
 obtain ⟨q1, q2⟩ := hs u0 (List.mem_of_getElem? hu)
 have q : ∀ k, k < 8 → w.cell? ⟨g, 0 + i * 8 + k, none⟩ = ([Value.bool u0.contract, .string (str u0.name), iv, .string (str u0.out.name), .int .i64 u0.out.ty, vv, qv, lv])[k]? := fun k hk => by
  rw [Nat.zero_add, ← e7 k hk]; simp [World.cell?, e2]
 exact ⟨g, 0, u0.contract, _, iv, _, u0.out.ty, vv, qv, lv, e1, lt_of_block e2, q 0 (by omega), q 1 (by omega), q 2 (by omega), q 3 (by omega), q 4 (by omega), q 5 (by omega), q 6 (by omega), q 7 (by omega), rowR_form r1, rowR_form r2, rowR_form r4, EqsAt.of_rowR r3 q2, q1⟩
open Classical in
noncomputable def checkM : Nat → List (List Eqn) → Int × Int
 | _, [] => (0, 0)
 | i, u :: r => if orderM (qsOf u) = none then (12, (i : Int)) else checkM (i + 1) r
theorem checkM_drop {us : List (List Eqn)} {i : Nat} {u : List Eqn} (h : us[i]? = some u) : us.drop i = u :: us.drop (i + 1) := by
 obtain ⟨hi, e⟩ := List.getElem?_eq_some_iff.1 h
 rw [List.drop_eq_getElem_cons hi, e]
theorem set2 {w : World} {R T : Nat} {c0 c1 : Value} (h : w.heap[R]? = some (.cells #[c0, c1] T (0, 0))) (a b : Value) : ((w.setCell ⟨R, 0, none⟩ a).setCell ⟨R, 1, none⟩ b).heap[R]? = some (.cells #[a, b] T (0, 0)) := by
 simp [World.setCell, Array.getElem?_modify, h]
def ChkPost (w : World) (R : Int × Int) (e : Ending) (w' : World) : Prop := e = .returned (.agg #[.int .i64 R.1, .int .i64 R.2]) ∧ Below w.heap.size w w'
set_option maxRecDepth 100000 in
set_option maxHeartbeats 8000000 in
theorem check_any (us : List (List Eqn)) (uv : Value) (S T : ByteArray) (w : World) (hu : UnsAt w uv us) : Calls Tryz.prog 13 #[.agg #[uv, .string S, .string T]] w (ChkPost w (checkM 0 us)) := by
 obtain ⟨R, hR⟩ : ∃ R, checkM 0 us = R := ⟨_, rfl⟩
 have HR : Hid (checkM 0 (us.drop 0) = R) := Lib.hid hR
 rw [hR]
 have HU := Lib.hid hu
 obtain ⟨A3, c3, rfl, q1, q2, -⟩ := hu
 unfold maxLen at q2
 clear hR
 obtain ⟨w1, hw1⟩ : ∃ W, (w.alloc (.cells #[.slice A3 us.length c3, .string S, .string T] 43)).alloc (.cells #[.int .i64 0, .int .i64 0] 46) = W := ⟨_, rfl⟩
 have hb1 : Below w.heap.size w w1 := hw1 ▸ (below_new w _).alloc (below_new w _).size _
 have hX : w1.heap[w.heap.size]? = some (.cells #[.slice A3 us.length c3, .string S, .string T] 43 (0, 0)) := by rw [← hw1, Below.heap_alloc _ _ _ (by simp)]; exact heap_alloc_new w _
 have hZ : w1.heap[w.heap.size + 1]? = some (.cells #[.int .i64 0, .int .i64 0] 46 (0, 0)) := by
  have := heap_alloc_new (w.alloc (.cells #[.slice A3 us.length c3, .string S, .string T] 43)) (.cells #[.int .i64 0, .int .i64 0] 46)
  rw [show (w.alloc (.cells #[.slice A3 us.length c3, .string S, .string T] 43)).heap.size = w.heap.size + 1 by simp, hw1] at this; exact this
 have x0 : w1.cell? ⟨w.heap.size, 0, none⟩ = some (.slice A3 us.length c3) := by simp [World.cell?, hX]
 have lx := lt_of_block hX
 have lz := lt_of_block hZ
 have HZ := Lib.hid hZ
 have HB1 := Lib.hid hb1
 have HROW : Hid (∀ wr, Below w1.heap.size w1 wr → UnsAt wr (.slice A3 us.length c3) us) := Lib.hid (fun wr hb => HU.out.below (hb1.trans (hb.mono hb1.size)))
 have hs1 := hb1.size
 clear hb1 hX hZ
 have HEND : Hid (∀ (wr : World) (p q : Int), Below w1.heap.size w1 wr → (p, q) = R → ∀ e, e = Ending.returned (.agg #[.int .i64 p, .int .i64 q]) → ChkPost w R e ((wr.setCell ⟨w.heap.size + 1, 0, none⟩ (.int .i64 p)).setCell ⟨w.heap.size + 1, 1, none⟩ (.int .i64 q))) := Lib.hid (fun wr p q hb h e he => by
  subst h; subst he
  exact ⟨rfl, ((HB1.out.trans (hb.mono HB1.out.size)).setCell (by simp) _).setCell (by simp) _⟩)
 go_enter Tryz.func13, Tryz.ntmps13
 go_wp2
 go_loopw [10] (fun c wr => ∃ j : Nat, j ≤ us.length ∧ c = .int .i64 j ∧ Below w1.heap.size w1 wr ∧ checkM j (us.drop j) = R) (fun c _ => us.length - (intOf c).toNat)
 case atStart => exact ⟨0, Nat.zero_le _, rfl, Below.refl _ _, HR.out⟩
 case round =>
  obtain ⟨j, hj, rfl, hb, hm⟩ := hrel
  have HB := Lib.hid hb
  have HMM := Lib.hid hm
  have hsr := hb.size
  clear hb hm
  by_cases hlt : j < us.length
  · obtain ⟨u, he⟩ : ∃ q, us[j]? = some q := ⟨_, List.getElem?_eq_getElem hlt⟩
    obtain ⟨A', c', ea, _, _, hrow⟩ := HROW.out wr HB.out
    simp only [Value.slice.injEq, true_and] at ea
    obtain ⟨rfl, rfl⟩ := ea
    obtain ⟨g, o, b, s, iv, s2, ty, vv, qv, lv, rfl, hg, e0, e1, e2, e3, e4, e5, e6, e7, ⟨A5, n5, c5, rfl⟩, ⟨A6, n6, c6, rfl⟩, ⟨A8, n8, c8, rfl⟩, k4, k5⟩ := hrow j u he
    obtain ⟨A7, n7, c7, rfl⟩ : IsS qv := by obtain ⟨A, c, rfl, -⟩ := k4; exact ⟨_, _, _, rfl⟩
    obtain ⟨w2, hw2⟩ : ∃ W, wr.alloc (.cells #[.bool b, .string s, .slice A5 n5 c5, .string s2, .int .i64 ty, .slice A6 n6 c6, .slice A7 n7 c7, .slice A8 n8 c8] 40) = W := ⟨_, rfl⟩
    have hb2 : Below wr.heap.size wr w2 := hw2 ▸ below_new wr _
    have HC := Lib.hid (order_any (.slice A7 n7 c7) u w2 (k4.below hb2) k5)
    have HB2 := Lib.hid (HB.out.trans (hb2.mono hsr))
    have HD := Lib.hid (checkM_drop he)
    have hs2 := hb2.size
    obtain ⟨z, hz⟩ : ∃ z, orderM (qsOf u) = z := ⟨_, rfl⟩
    have HDD : Hid (R = if z = none then (12, (j : Int)) else checkM (j + 1) (us.drop (j + 1))) := Lib.hid (by rw [← HMM.out, HD.out, checkM, hz])
    rw [hz] at HC
    have HW2 := Lib.hid hw2
    clear hrow k4 he hz hb2 hw2
    go_wp2_with fail
    rw [HW2.out]
    refine HC.out.mono ?_
    cases z with
    | some ol =>
     rintro r w3 ⟨hb3, v, rfl, ho3⟩
     have HB4 := Lib.hid (HB2.out.trans (hb3.mono (by omega)))
     have hs3 := hb3.size
     obtain ⟨Av, nv, cv, rfl⟩ : IsS v := by
      obtain ⟨-, h1 | ⟨g, cap, cur, e, -⟩⟩ := ho3
      · exact ⟨_, _, _, h1.1⟩
      · exact ⟨_, _, _, e⟩
     have HN : Hid (checkM (j + 1) (us.drop (j + 1)) = R) := Lib.hid (by rw [HDD.out, if_neg (by simp)])
     clear hb3 ho3
     go_wp2
     refine ⟨⟨j + 1, by omega, by go_num, HB4.out, HN.out⟩, by simp [intOf]; omega⟩
    | none =>
     rintro r w3 ⟨hb3, hr3⟩
     have hr3 : r = .returned (.tuple #[.slice none 0 0, .int .i64 12]) := hr3
     subst hr3
     have HB4 := Lib.hid (HB2.out.trans (hb3.mono (by omega)))
     have hs3 := hb3.size
     clear hb3
     have HN : Hid (((12 : Int), (j : Int)) = R) := Lib.hid (by rw [HDD.out, if_pos rfl])
     have hZ3 := (HB4.out.block _ lz).trans HZ.out
     have p0 : w3.cell? ⟨w.heap.size + 1, 0, none⟩ = some (.int .i64 0) := by simp [World.cell?, hZ3]
     have p1 : w3.cell? ⟨w.heap.size + 1, 1, none⟩ = some (.int .i64 0) := by simp [World.cell?, hZ3]
     have f0 : w3.frozen? ⟨w.heap.size + 1, 0, none⟩ = false := by simp [World.frozen?, hZ3]
     have f1 : w3.frozen? ⟨w.heap.size + 1, 1, none⟩ = false := by simp [World.frozen?, hZ3]
     have HZ3 := Lib.hid hZ3
     have lz3 := lt_of_block hZ3
     clear hZ3
     go_wp2
     have Z := set2 HZ3.out (.int .i64 12) (.int .i64 (j : Int))
     have z0 : ((w3.setCell ⟨w.heap.size + 1, 0, none⟩ (.int .i64 12)).setCell ⟨w.heap.size + 1, 1, none⟩ (.int .i64 (j : Int))).cell? ⟨w.heap.size + 1, 0, none⟩ = some (.int .i64 12) := by simp [World.cell?, Z]
     have z1 : ((w3.setCell ⟨w.heap.size + 1, 0, none⟩ (.int .i64 12)).setCell ⟨w.heap.size + 1, 1, none⟩ (.int .i64 (j : Int))).cell? ⟨w.heap.size + 1, 1, none⟩ = some (.int .i64 (j : Int)) := by simp [World.cell?, Z]
     clear p0 p1 f0 f1
     exact bodyPost_ret (v := .agg #[.int .i64 12, .int .i64 (j : Int)]) (by simp [results, Tryz.results13, go_sem, z0, z1]) rfl (HEND.out w3 12 j HB4.out HN.out _ rfl)
  · have hjl : j = us.length := by omega
    subst hjl
    have HN : Hid (((0 : Int), (0 : Int)) = R) := Lib.hid (by rw [← HMM.out, List.drop_length]; rfl)
    have hZ3 := (HB.out.block _ lz).trans HZ.out
    have p0 : wr.cell? ⟨w.heap.size + 1, 0, none⟩ = some (.int .i64 0) := by simp [World.cell?, hZ3]
    have p1 : wr.cell? ⟨w.heap.size + 1, 1, none⟩ = some (.int .i64 0) := by simp [World.cell?, hZ3]
    have f0 : wr.frozen? ⟨w.heap.size + 1, 0, none⟩ = false := by simp [World.frozen?, hZ3]
    have f1 : wr.frozen? ⟨w.heap.size + 1, 1, none⟩ = false := by simp [World.frozen?, hZ3]
    have HZ3 := Lib.hid hZ3
    have lz3 := lt_of_block hZ3
    clear hZ3
    go_wp2
    have Z := set2 HZ3.out (.int .i64 0) (.int .i64 0)
    have z0 : ((wr.setCell ⟨w.heap.size + 1, 0, none⟩ (.int .i64 0)).setCell ⟨w.heap.size + 1, 1, none⟩ (.int .i64 0)).cell? ⟨w.heap.size + 1, 0, none⟩ = some (.int .i64 0) := by simp [World.cell?, Z]
    have z1 : ((wr.setCell ⟨w.heap.size + 1, 0, none⟩ (.int .i64 0)).setCell ⟨w.heap.size + 1, 1, none⟩ (.int .i64 0)).cell? ⟨w.heap.size + 1, 1, none⟩ = some (.int .i64 0) := by simp [World.cell?, Z]
    clear p0 p1 f0 f1
    exact bodyPost_ret (v := .agg #[.int .i64 0, .int .i64 0]) (by simp [results, Tryz.results13, go_sem, z0, z1]) rfl (HEND.out wr 0 0 HB.out HN.out _ rfl)
end Go.Proofs.YtdebhngpgabglaaGreat.Ca
/- What the document's reader of programs reads of tokens, as plain functions. Conditions: none. -/
namespace Go.Proofs.YtdebhngpgabglaaGreat.Rp
open Go.Proofs.YtdebhngpgabglaaGreat.Tr Go.Proofs.YtdebhngpgabglaaGreat.Ex
open Go.Proofs.YtdebhngpgabglaaGreat.Pg (Prm Eqn Itm Unt Prg PM pBind pPure txt Rd.stop Rd.to atNameB nameP failP rowMax wBool wInt wNode wContract wMain wFallback wReturns wVar wLet wTel wEnd wAssume wGuarantee wGhost wMode wImport wRequire wEnsure sSemi sColon sEq sComma)
def needQ (s : Bytes) : PM Unit := fun r => ((), r.need s)
def takeQ (s : Bytes) : PM Bool := fun r => if r.isB s then (true, r.adv) else (false, r)
def roomQ (n : Nat) : PM Unit := fun r => ((), if 200 ≤ n then r.fail 7 else r)
def exprQ : PM (List Nd) := fun r => if r.code ≠ 0 then ([], r) else if (parseM r.l r.next).2.2.1 ≠ 0 then ([], Pg.Rd.stop (parseM r.l r.next).2.2.1 (parseM r.l r.next).2.2.2 r) else ((parseM r.l r.next).1, Pg.Rd.to (parseM r.l r.next).2.1 r)
def paramQ : PM Prm := pBind nameP fun n => pBind (needQ sColon) fun _ => pBind (takeQ wBool) fun b => if b then pPure ⟨n, 1⟩ else pBind (takeQ wInt) fun i => if i then pPure ⟨n, 2⟩ else pBind (failP 5) fun _ => pPure ⟨n, 0⟩
def inF {α : Type} (sep : Bytes) (one : PM α) : Nat → List α → PM (List α)
 | 0, _ => pPure []
 | k + 1, acc => fun r => if r.code = 0 then pBind (roomQ acc.length) (fun _ => pBind one fun a => pBind (takeQ [41]) fun b => if b then pPure (acc ++ [a]) else pBind (needQ sep) fun _ => inF sep one k (acc ++ [a])) r else ([], r)
def inQ {α : Type} (sep : Bytes) (one : PM α) : PM (List α) := pBind (needQ [40]) fun _ => pBind (takeQ [41]) fun b => if b then pPure [] else inF sep one rowMax []
def varF : Nat → List Prm → PM (List Prm)
 | 0, _ => pPure []
 | k + 1, acc => fun r => if r.code = 0 then pBind (roomQ acc.length) (fun _ => pBind paramQ fun a => pBind (needQ sSemi) fun _ => fun r' => if atNameB r' then varF k (acc ++ [a]) r' else (acc ++ [a], r')) r else ([], r)
def varQ : PM (List Prm) := varF rowMax []
def eqnQ : PM Eqn := pBind nameP fun n => pBind (needQ sEq) fun _ => pBind exprQ fun e => pBind (needQ sSemi) fun _ => pPure ⟨n, e⟩
def eqF : Nat → List Eqn → PM (List Eqn)
 | 0, acc => pPure acc
 | k + 1, acc => fun r => if atNameB r then pBind (roomQ acc.length) (fun _ => pBind eqnQ fun q => eqF k (acc ++ [q])) r else (acc, r)
def eqsQ : PM (List Eqn) := pBind (eqF rowMax []) fun l => pBind (needQ wTel) fun _ => pPure l
def itemOfQ (k : Int) : PM Itm :=
 if k = 3 then pBind paramQ fun p => pBind (needQ sEq) fun _ => pBind exprQ fun e => pBind (needQ sSemi) fun _ => pPure ⟨k, p.name, p.ty, e, [], []⟩
 else if k = 4 then pBind nameP fun n => pBind (needQ wRequire) fun _ => pBind exprQ fun e => pBind (needQ wEnsure) fun _ => pBind exprQ fun f => pBind (needQ sSemi) fun _ => pPure ⟨k, n, 0, e, f, []⟩
 else if k = 5 then pBind nameP fun n => pBind (inQ sComma exprQ) fun l => pBind (needQ sSemi) fun _ => pPure ⟨k, n, 0, [], [], l⟩
 else pBind exprQ fun e => pBind (needQ sSemi) fun _ => pPure ⟨k, [], 0, e, [], []⟩
def kindQ (r : Rd) : Int := if r.isB wAssume then 1 else if r.isB wGuarantee then 2 else if r.isB wGhost then 3 else if r.isB wMode then 4 else if r.isB wImport then 5 else 0
def itemQ : PM (Option Itm) := fun r => if kindQ r = 0 then (none, r) else pBind (itemOfQ (kindQ r)) (fun i => pPure (some i)) r.adv
def itF : Nat → List Itm → PM (List Itm)
 | 0, acc => pPure acc
 | k + 1, acc => fun r => if kindQ r ≠ 0 then pBind (roomQ acc.length) (fun _ => pBind itemQ fun x => itF k (acc ++ x.toList)) r else (acc, r)
def itemsQ : PM (List Itm) := pBind (itF rowMax []) fun l => pBind (needQ wEnd) fun _ => pPure l
def contractQ : PM Unt := pBind nameP fun n => pBind (inQ sSemi paramQ) fun i => pBind itemsQ fun l => pPure ⟨true, n, i, ⟨[], 0⟩, [], [], l⟩
def nodeQ : PM Unt := pBind (needQ wNode) fun _ => pBind nameP fun n => pBind (inQ sSemi paramQ) fun i => pBind (needQ wReturns) fun _ => pBind (needQ [40]) fun _ => pBind paramQ fun o => pBind (needQ [41]) fun _ =>
 pBind (takeQ wContract) fun c => pBind (if c then itemsQ else pPure []) fun l => pBind (takeQ wVar) fun v => pBind (if v then varQ else pPure []) fun vs => pBind (needQ wLet) fun _ => pBind eqsQ fun es => pPure ⟨false, n, i, o, vs, es, l⟩
def unitQ : PM Unt := pBind (takeQ wContract) fun c => if c then contractQ else nodeQ
def atUnitQ (r : Rd) : Bool := r.isB wNode || r.isB wContract
def unF : Nat → List Unt → PM (List Unt)
 | 0, acc => pPure acc
 | k + 1, acc => fun r => if atUnitQ r then pBind (roomQ acc.length) (fun _ => pBind unitQ fun u => unF k (acc ++ [u])) r else (acc, r)
def Stick {α : Type} (f : PM α) : Prop := ∀ r, r.code ≠ 0 → (f r).2.code ≠ 0
theorem Stick.bind {α β : Type} {f : PM α} {g : α → PM β} (hf : Stick f) (hg : ∀ a, Stick (g a)) : Stick (pBind f g) := fun r h => hg _ _ (hf r h)
theorem stick_pure {α : Type} (a : α) : Stick (pPure a) := fun r h => h
theorem stick_rfail (e : Int) (he : e ≠ 0) (r : Rd) : (r.fail e).code ≠ 0 := by unfold Rd.fail; split <;> simp_all
theorem stick_need (s : Bytes) : Stick (needQ s) := fun r h => by
 unfold needQ Rd.need; simp only; split
 · exact h
 · exact stick_rfail 5 (by decide) r
theorem stick_room (n : Nat) : Stick (roomQ n) := fun r h => by
 unfold roomQ; simp only; split
 · exact stick_rfail 7 (by decide) r
 · exact h
theorem stick_take (s : Bytes) : Stick (takeQ s) := fun r h => by unfold takeQ; split <;> exact h
theorem stick_name : Stick nameP := fun r h => by
 unfold nameP; split
 · exact h
 · exact stick_rfail 5 (by decide) r
theorem stick_fail (e : Int) (he : e ≠ 0) : Stick (failP e) := fun r h => stick_rfail e he r
theorem stick_expr : Stick exprQ := fun r h => by unfold exprQ; rw [if_pos h]; exact h
theorem stick_if {α : Type} {c : Prop} [Decidable c] {f g : PM α} (hf : Stick f) (hg : Stick g) : Stick (if c then f else g) := by split; exact hf; exact hg
theorem stick_param : Stick paramQ := stick_name.bind fun n => (stick_need _).bind fun _ => (stick_take _).bind fun b => stick_if (stick_pure _) ((stick_take _).bind fun i => stick_if (stick_pure _) ((stick_fail 5 (by decide)).bind fun _ => stick_pure _))
theorem stick_eqn : Stick eqnQ := stick_name.bind fun n => (stick_need _).bind fun _ => stick_expr.bind fun e => (stick_need _).bind fun _ => stick_pure _
end Go.Proofs.YtdebhngpgabglaaGreat.Rp
/- The document's reader of programs in memory. Conditions: none. -/
namespace Go.Proofs.YtdebhngpgabglaaGreat.Rp
open Go.ChangeShapes Go.WideShapes Go.ChangeAt Go.RowKit
open Go.Proofs.YtdebhngpgabglaaGreat.Ex
open Go.Proofs.YtdebhngpgabglaaGreat.Tr (str ret_bool ret_int Bytes Nd)
open Go.Proofs.YtdebhngpgabglaaGreat.Pg
def rpCells (lv : Value) (i : Nat) (c a : Int) : Array Value := #[lv, .int .i64 (i : Int), .int .i64 c, .int .i64 a]
structure RpAt (w : World) (b : Nat) (L : List Ex.Tok) (r : Rd) (lv : Value) (i : Nat) (c a : Int) : Prop where
 blk : w.heap[b]? = some (.cells (rpCells lv i c a) 88 (0, 0))
 tok : TokOff w b lv L
 okl : Rf.OkL L
 txt : ∀ t ∈ L, t.text.length ≤ 1000000
 ile : i ≤ L.length
 st : (r.code = 0 ∧ c = 0 ∧ r.l = L ∧ i = r.next) ∨ (r.code ≠ 0 ∧ c = r.code ∧ a = r.at_ ∧ r.l = [])
def RdIn (w : World) (b : Nat) (r : Rd) : Prop := ∃ L lv i c a, RpAt w b L r lv i c a
theorem RpAt.keep {w w' : World} {b : Nat} {L : List Ex.Tok} {r : Rd} {lv : Value} {i : Nat} {c a : Int} (h : RpAt w b L r lv i c a) (hs : w.heap.size ≤ w'.heap.size) (hk : ∀ g, g < b → g < w.heap.size → w'.heap[g]? = w.heap[g]?) (hb : w'.heap[b]? = w.heap[b]?) : RpAt w' b L r lv i c a :=
 ⟨hb.trans h.blk, h.tok.keep hs hk, h.okl, h.txt, h.ile, h.st⟩
theorem RdIn.keep {w w' : World} {b : Nat} {r : Rd} (h : RdIn w b r) (hs : w.heap.size ≤ w'.heap.size) (hk : ∀ g, g < b → g < w.heap.size → w'.heap[g]? = w.heap[g]?) (hb : w'.heap[b]? = w.heap[b]?) : RdIn w' b r := by
 obtain ⟨L, lv, i, c, a, h⟩ := h
 exact ⟨L, lv, i, c, a, h.keep hs hk hb⟩
theorem RdIn.lt {w : World} {b : Nat} {r : Rd} (h : RdIn w b r) : b < w.heap.size := by
 obtain ⟨_, _, _, _, _, h⟩ := h; exact lt_of_block h.blk
theorem RdIn.below {w w' : World} {b : Nat} {r : Rd} (h : RdIn w b r) (hb : Below w.heap.size w w') : RdIn w' b r :=
 h.keep hb.size (fun g _ hg => hb.block g hg) (hb.block b h.lt)
structure RdBy (w w' : World) (b : Nat) (r' : Rd) : Prop where
 rd : RdIn w' b r'
 grown : w.grownBy w' (some b)
theorem RdBy.refl {w : World} {b : Nat} {r : Rd} (h : RdIn w b r) : RdBy w w b r := ⟨h, World.grownBy.refl w _⟩
theorem RdBy.below {w w1 w' : World} {b : Nat} {r' : Rd} (hb : Below w.heap.size w w1) (hlt : b < w.heap.size) (h : RdBy w1 w' b r') : RdBy w w' b r' :=
 ⟨h.rd, ⟨h.grown.os.trans hb.os, h.grown.tape.trans hb.tape, h.grown.output.trans hb.output, Nat.le_trans hb.size h.grown.size, fun i hi hne => (h.grown.block i (Nat.lt_of_lt_of_le hi hb.size) hne).trans (hb.block i hi)⟩⟩
theorem RdBy.of_below {w w' : World} {b : Nat} {r : Rd} (h : RdIn w b r) (hb : Below w.heap.size w w') : RdBy w w' b r :=
 ⟨h.below hb, ⟨hb.os, hb.tape, hb.output, hb.size, fun i hi _ => hb.block i hi⟩⟩
theorem RdBy.trans {w w1 w2 : World} {b : Nat} {r1 r2 : Rd} (h : RdBy w w1 b r1) (k : RdBy w1 w2 b r2) : RdBy w w2 b r2 :=
 ⟨k.rd, ⟨k.grown.os.trans h.grown.os, k.grown.tape.trans h.grown.tape, k.grown.output.trans h.grown.output, Nat.le_trans h.grown.size k.grown.size, fun i hi hne => (k.grown.block i (Nat.lt_of_lt_of_le hi h.grown.size) hne).trans (h.grown.block i hi hne)⟩⟩
theorem RdBy.then_below {w w1 w2 : World} {b : Nat} {r1 : Rd} (h : RdBy w w1 b r1) (k : Below w1.heap.size w1 w2) : RdBy w w2 b r1 := h.trans (RdBy.of_below h.rd k)
theorem RdBy.setLocal {w wr : World} {b B k : Nat} {r : Rd} (h : RdBy w wr b r) (hB : w.heap.size ≤ B) (hlt : b < w.heap.size) (v : Value) : RdBy w (wr.setCell ⟨B, k, none⟩ v) b r := by
 have ho : ∀ g, g < w.heap.size → (wr.setCell ⟨B, k, none⟩ v).heap[g]? = wr.heap[g]? := fun g hg => Below.heap_setCell _ _ _ _ (by simp; omega)
 refine ⟨h.rd.keep (by simp [World.setCell]) (fun g h1 h2 => ho g (by omega)) (ho b hlt), ⟨h.grown.os, h.grown.tape, h.grown.output, by simpa [World.setCell] using h.grown.size, fun i hi hne => (ho i hi).trans (h.grown.block i hi hne)⟩⟩
theorem rp_cell {w : World} {b : Nat} {lv : Value} {i : Nat} {c a : Int} (h : w.heap[b]? = some (.cells (rpCells lv i c a) 88 (0, 0))) (k : Nat) : w.cell? ⟨b, k, none⟩ = (rpCells lv i c a)[k]? := by simp [World.cell?, h]
theorem rp_free {w : World} {b : Nat} {lv : Value} {i : Nat} {c a : Int} (h : w.heap[b]? = some (.cells (rpCells lv i c a) 88 (0, 0))) (k : Nat) : w.frozen? ⟨b, k, none⟩ = false := by simp [World.frozen?, h]
theorem RdBy.stay {w w' : World} {b : Nat} {r r' : Rd} (h : RdIn w b r) (k : RdBy w w' b r') : Stay (fun t => t = 88) w w' :=
 Stay.grown k.grown (fun B hB => by
  injection hB with hB; subst hB
  obtain ⟨L, lv, i, c, a, h⟩ := h
  exact ⟨_, _, _, h.blk, rfl⟩)
theorem rset_heap (w : World) (b k : Nat) (v : Value) (g : Nat) (h : g ≠ b) : (w.setCell ⟨b, k, none⟩ v).heap[g]? = w.heap[g]? := Below.heap_setCell w ⟨b, k, none⟩ v g (by simpa using h)
theorem RpAt.turn {w W : World} {b : Nat} {L : List Ex.Tok} {r r' : Rd} {lv : Value} {i i' : Nat} {c a c' a' : Int} (h : RpAt w b L r lv i c a)
 (hW : W.heap[b]? = some (.cells (rpCells lv i' c' a') 88 (0, 0))) (hs : W.heap.size = w.heap.size) (hos : W.os = w.os) (ht : W.tape = w.tape) (hou : W.output = w.output) (ho : ∀ g, g ≠ b → W.heap[g]? = w.heap[g]?)
 (hi : i' ≤ L.length) (hst : (r'.code = 0 ∧ c' = 0 ∧ r'.l = L ∧ i' = r'.next) ∨ (r'.code ≠ 0 ∧ c' = r'.code ∧ a' = r'.at_ ∧ r'.l = [])) : RdBy w W b r' :=
 ⟨⟨L, lv, i', c', a', hW, h.tok.keep (by omega) (fun g hg _ => ho g (by omega)), h.okl, h.txt, hi, hst⟩, ⟨hos, ht, hou, by omega, fun g _ hne => ho g (fun e => hne (by rw [e]))⟩⟩
theorem RpAt.setI {w : World} {b : Nat} {L : List Ex.Tok} {r : Rd} {lv : Value} {i : Nat} {c a : Int} (h : RpAt w b L r lv i c a) (hc : r.code = 0) (hi : i < L.length) :
 RdBy w (w.setCell ⟨b, 1, none⟩ (.int .i64 ((i : Int) + 1))) b r.adv := by
 have hst := h.st
 rcases hst with ⟨h1, h2, h3, h4⟩ | ⟨h1, _⟩
 · refine h.turn (i' := i + 1) (c' := c) (a' := a) ?_ (by simp [World.setCell]) rfl rfl rfl (fun g hg => rset_heap _ _ _ _ _ hg) (by omega) (.inl ⟨h1, h2, h3, by simp [Rd.adv, h4]⟩)
   rw [setObj_heap h.blk (by simp [rpCells])]; simp [rpCells]
 · exact absurd hc h1
theorem RpAt.setTo {w : World} {b : Nat} {L : List Ex.Tok} {r : Rd} {lv : Value} {i : Nat} {c a : Int} (h : RpAt w b L r lv i c a) (hc : r.code = 0) {n : Nat} (hi : n ≤ L.length) :
 RdBy w (w.setCell ⟨b, 1, none⟩ (.int .i64 (n : Int))) b (Pg.Rd.to n r) := by
 have hst := h.st
 rcases hst with ⟨h1, h2, h3, h4⟩ | ⟨h1, _⟩
 · refine h.turn (i' := n) (c' := c) (a' := a) ?_ (by simp [World.setCell]) rfl rfl rfl (fun g hg => rset_heap _ _ _ _ _ hg) hi (.inl ⟨h1, h2, h3, rfl⟩)
   rw [setObj_heap h.blk (by simp [rpCells])]; simp [rpCells]
 · exact absurd hc h1
theorem RpAt.setF {w : World} {b : Nat} {L : List Ex.Tok} {r : Rd} {lv : Value} {i : Nat} {c a : Int} (h : RpAt w b L r lv i c a) (hc : r.code = 0) (e x : Int) (he : e ≠ 0) :
 RdBy w ((w.setCell ⟨b, 2, none⟩ (.int .i64 e)).setCell ⟨b, 3, none⟩ (.int .i64 x)) b (Pg.Rd.stop e x r) := by
 have k1 := setObj_heap (v := .int .i64 e) h.blk (k := 2) (by simp [rpCells])
 have k2 := setObj_heap (v := .int .i64 x) k1 (k := 3) (by simp [rpCells])
 have hf : Pg.Rd.stop e x r = ⟨[], r.next, r.begun, e, x⟩ := by unfold Pg.Rd.stop; rw [if_pos hc]
 rw [hf]
 refine h.turn (i' := i) (c' := e) (a' := x) ?_ (by simp [World.setCell]) rfl rfl rfl (fun g hg => by rw [rset_heap _ _ _ _ _ hg, rset_heap _ _ _ _ _ hg]) h.ile (.inr ⟨he, rfl, rfl, rfl⟩)
 rw [k2]; simp [rpCells]
theorem RdIn.fine {w : World} {b : Nat} {r : Rd} (h : RdIn w b r) : r.fine := fun hc => by
 obtain ⟨L, lv, i, c, a, h⟩ := h
 rcases h.st with ⟨h1, _⟩ | ⟨_, _, _, h4⟩
 · exact absurd h1 hc
 · exact h4
theorem RdIn.dead {w : World} {b : Nat} {r r' : Rd} (h : RdIn w b r) (h0 : r.code ≠ 0) (hc : r'.code = r.code) (ha : r'.at_ = r.at_) (hl : r'.l = []) : RdIn w b r' := by
 obtain ⟨L, lv, i, c, a, h⟩ := h
 refine ⟨L, lv, i, c, a, h.blk, h.tok, h.okl, h.txt, h.ile, ?_⟩
 rcases h.st with ⟨h1, _⟩ | ⟨_, h2, h3, _⟩
 · exact absurd h1 h0
 · exact .inr ⟨by rw [hc]; exact h0, by rw [hc]; exact h2, by rw [ha]; exact h3, hl⟩
theorem RpAt.below {w w' : World} {b : Nat} {L : List Ex.Tok} {r : Rd} {lv : Value} {i : Nat} {c a : Int} (h : RpAt w b L r lv i c a) (hb : Below w.heap.size w w') : RpAt w' b L r lv i c a :=
 h.keep hb.size (fun g _ hg => hb.block g hg) (hb.block b (lt_of_block h.blk))
theorem RdIn.drew {w : World} {b : Nat} {r : Rd} (h : RdIn w b r) : RdIn w.drew b r := h.keep (Nat.le_refl _) (fun _ _ _ => rfl) rfl
end Go.Proofs.YtdebhngpgabglaaGreat.Rp
